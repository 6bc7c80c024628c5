import Derived.Test.YtldifaahmpecfaaGreatDoorV38
import Derived.Test.YtldifaahmpecfaaGreatDoorV41
import Derived.Test.YtldifaahmpecfaaGreatDoorV30
import Derived.Test.YtldifaahmpecfaaGreatDoorV28
import Derived.Handy
namespace Go.Proofs.YtldifaahmpecfaaGreatDoor
set_option maxRecDepth 1000000
set_option maxHeartbeats 4000000
set_option linter.all false
section
open Go.RowKit
section
variable {B : Nat} {W w w' : World}
theorem splitM (hG : Glo B W) (t : ByteArray) (hv : validB t.data.toList = true) (w : World) (hb : Below B W w) (hs : B ≤ w.heap.size) :
  Calls Tryz.prog 40 #[.string t] w fun e w' => ∃ n v ws, e = .returned (.slice (some v) n n) ∧ Kp w w' (fun _ => False) ∧ TokAt (Blk w') (.slice (some v) n n) ws ∧ texts ws = Lib.fields t.data.toList ∧ (∀ x ∈ ws, okW x) ∧ ws.length ≤ 1000 := by
 have hsz : t.size ≤ 400 := by unfold validB at hv; rw [Bool.and_eq_true] at hv; exact of_decide_eq_true hv.1
 have HCl := hide (Tryz.stringslite_Clone t)
 have HC := hide (Tryz.strings_Fields t)
 have HG := hide hG
 have HV := hide hv
 clear hG hv
 go_enter Tryz.func40, Tryz.ntmps40
 go_wp2_with (first
  | (go_at_call 54; go_in)
  | (go_at_call 71; refine (HCl.out _ (by omega)).mono ?_; rintro e w1 ⟨rfl, hk1⟩; have HK1 := hide hk1; clear hk1)
  | (go_at_call 53; refine (HC.out _ (by omega) (ascii_of HV.out) (by exact (HG.out.asc.on (hb.trans (HK1.out.mono hs))).here)).mono ?_; rintro e w2 ⟨rfl, rfl⟩))
 go_ret
 have hlen : (Lib.fields t.data.toList).length ≤ 401 := by
  have h1 := fields_len t.data.toList []
  have h3 : t.data.toList.length = t.size := rfl
  have : (Lib.fields t.data.toList).length ≤ t.data.toList.length + 1 := h1
  omega
 refine ⟨_, _, (Lib.fields t.data.toList).map fun l => ⟨l.toArray⟩, rfl, (Kp.ofBelow HK1.out).alloc _, .inr ⟨_, 0, _, _, by rw [List.length_map], Blk.new _ _ _, by rw [List.length_map]; exact Nat.le_refl _, by unfold maxLen; omega, by simp, fun i hi => ?_⟩, ?_, fun x hx => ?_, by rw [List.length_map]; omega⟩
 ·simp at hi
  simp [hi]
 ·unfold texts; rw [List.map_map]; exact List.map_id _
 ·obtain ⟨l, hl, rfl⟩ := List.mem_map.1 hx
  have h1 := fields_ne _ _ _ hl
  have h2 := fields_size _ _ _ hl
  have h3 : t.data.toList.length = t.size := rfl
  refine ⟨by rw [ByteArray.toList_eq]; exact h1, ?_⟩
  show l.toArray.size ≤ 1000
  simp at h2 h3 ⊢; omega
theorem lineM_bad (w : World) (xb : Nat) (t : ByteArray) (hv : validB t.data.toList = false) :
  Calls Tryz.prog 15 #[pt xb, .string t] w fun e w' => e = .returned (.tuple #[.string ⟨#[]⟩, .int .i64 2]) ∧ w' = w := by
 go_enter Tryz.func15, Tryz.ntmps15
 go_wp2_with fail
 refine (validM _ _).mono ?_
 rintro e w' ⟨rfl, hw⟩
 rw [hw, hv]; clear hw
 go_wp2
 go_ret2
 exact ⟨rfl, rfl⟩
abbrev runCells (xb : Nat) : Array Value := #[pt xb, .slice none 0 0, .int .i64 0, .int .i64 0]
theorem lineW (hG : Glo B W) (w : World) (xb bk : Nat) (sv : Value) (mem : Nat → Int) (t : ByteArray) (hv : validB t.data.toList = true) (hb : Below B W w) (hs : B ≤ w.heap.size) (hX : Blk w xb 80 (marr bk sv mem)) (e0 : Int) (R : MS → World → Prop)
  (hrun : ∀ w1 n v ws, Kp w w1 (fun _ => False) → Blk w1 w.heap.size 100 (runCells xb) → TokAt (Blk w1) (.slice (some v) n n) ws → texts ws = Lib.fields t.data.toList → (∀ x ∈ ws, okW x) → ws.length ≤ 1000 → Calls Tryz.prog 39 #[pt bk, pt w.heap.size, .slice (some v) n n] w1 fun e w' => ∃ m' ns, e = .returned (.int .i64 e0) ∧ m'.bk = bk ∧ MInv w' xb w.heap.size m' ns ∧ R m' w') :
  Calls Tryz.prog 15 #[pt xb, .string t] w fun e w' => ∃ m' w3, R m' w3 ∧ e = .returned (.tuple #[.string m'.out, .int .i64 e0]) ∧ w' = if e0 = 0 then w3 else w3.setCell ⟨xb, 0, none⟩ (.slice none 0 0) := by
 have HR := hide hrun
 have c17 : w.cell? ⟨xb, 17, none⟩ = some (pt bk) := hX.cell rfl
 have hxl := hX.lt
 have hk0 := (Kp.refl w (fun _ => False)).alloc (.cells (runCells xb) 100)
 have HB0 := hide (Blk.new w (runCells xb) 100)
 have hX0 := hk0.blk hX (by simp)
 have HX0 := hide hX0
 have HSP := hide (fun w0 hk => splitM hG t hv w0 (hb.trans (Kp.below (S := fun _ => False) hk hs (fun _ _ e => e))) (Nat.le_trans hs (Kp.size (S := fun _ => False) hk)))
 have c18 : (w.alloc (.cells (runCells xb) 100)).cell? ⟨xb, 17, none⟩ = some (pt bk) := hX0.cell rfl
 clear hrun hG
 go_enter Tryz.func15, Tryz.ntmps15
 go_wp2_with fail
 refine (validM _ _).mono ?_
 rintro e w' ⟨rfl, hw⟩
 rw [hw, hv]; clear hw
 go_wp2_with (go_at_call 38; go_in)
 generalize w.alloc (.cells (runCells xb) 100) = w0 at *
 go_region_held3 (fun w' => w'.cell? ⟨xb, 17, none⟩ = some (pt bk)) (go_keep) (first
  | (go_at_call 40; refine (HSP.out _ hk0.drew).mono ?_; rintro e w1 ⟨n, v, ws, rfl, hk1, q1, q2, q3, q4⟩; have HK1 := hide hk1; have HQ1 := hide q1; have HQ2 := hide q2; have HQ3 := hide q3; have HQ4 := hide q4; have u0 : w1.cell? ⟨xb, 17, none⟩ = some (pt bk) := (hk1.blk HX0.out.drew (by simp)).cell rfl; clear hk1 q1 q2 q3 q4)
  | (go_at_call 39; refine (HR.out w1 n v ws (hk0.drew.trans HK1.out) (HK1.out.blk HB0.out.drew (by simp)) HQ1.out HQ2.out HQ3.out HQ4.out).mono ?_; rintro e w3 ⟨m', ns, rfl, hbk, hi3, hr3⟩; have HR3 := hide hr3; have HI3 := hide hi3; have u1 : w3.cell? ⟨xb, 17, none⟩ = some (.pointer (some ⟨m'.bk, 0, none⟩)) := hi3.xblk.cell rfl; rw [hbk] at u1; clear hr3 hi3 hbk))
 by_cases he : e0 = 0
 ·have he' : (e0 != 0) = false := by simp [he]
  have HE := hide he
  clear he
  go_wp2_with fail
  refine (printedM _ _ _ _ _ HI3.out).mono ?_
  rintro e w' ⟨rfl, hw⟩
  rw [hw]; clear hw
  go_wp2
  go_ret2
  first
   | exact ⟨m', w3, HR3.out, rfl, by rw [if_pos HE.out]⟩
   | exact ⟨m', HR3.out, rfl⟩
 ·have he' : (e0 != 0) = true := by simp [he]
  have HE := hide he
  have hi3 := HI3.out
  have k0 : w3.cell? ⟨xb, 0, none⟩ = some m'.sv := hi3.xblk.cell rfl
  have f0 := hi3.xblk.free 0
  obtain ⟨ao, cap, hvv⟩ := form_of hi3.srow
  rw [hvv] at k0
  have hi5 : MInv (w3.setCell ⟨xb, 0, none⟩ (.slice none 0 0)) xb w.heap.size { m' with sv := .slice none 0 0 } [] :=
   ⟨hi3.xblk.set 0 _, hi3.rblk.setOther hi3.ne.symm _, World.ownsRow_nil _ _ _ _, ownsRow_setCell_other hi3.orow (own_ne hi3.orow hi3.xblk (by decide)) _, by simp⟩
  have H5 := hide hi5
  clear he hvv hi5 hi3
  go_wp2_with (go_at_call 41; go_in)
  refine (printedM _ _ _ _ _ H5.out).mono ?_
  rintro e w' ⟨rfl, hw⟩
  rw [hw]; clear hw
  go_wp2
  go_ret2
  first
   | exact ⟨m', w3, HR3.out, rfl, by rw [if_neg HE.out]⟩
   | exact ⟨m', w3, HR3.out, rfl, rfl⟩
end
end
section
open Go.RowKit
theorem do_tot {N : Nat} (H : TotN N) (G : Nat) (s : St) (f : Fr) (lp : List Int) (n m : Int) (l : List It) (hw : WFs s) (he : s.e = 0) (hr : rem s ≤ N + 1) (hl : wb (knows s) G true l) (hf : wbF s f) (hlI : ∀ n ∈ lp, In n) (hnI : In n) (hmI : In m) : Tot (jDo f lp n m l) s := by
 obtain ⟨sw, sk, sr⟩ := step_next hw he hr
 by_cases hnm : n < m
 ·by_cases e1 : s.step.e = 0
  ·obtain ⟨srr, s20⟩ := sr e1
   obtain ⟨g1, s1, left1, h1, w1, kk1⟩ := H.body G s.step f (n :: lp) l true sw e1 srr (wb_known sk _ _ _ hl) (hf.mono sk) (fun _ => by simp) (by intro q hq; rcases List.mem_cons.1 hq with h | h; rw [h]; exact hnI; exact hlI q h)
   by_cases e2 : left1 = true
   ·exact tot_of (g := g1 + 1) (by rw [x_do, if_pos hnm, if_neg (by simp [e1]), h1]; dsimp only; rw [if_pos e2]) w1 (fun t ht => kk1 t (sk t ht))
   have e2' : left1 = false := by simpa using e2
   subst e2'
   have he1 := xBody_e _ _ _ _ _ _ e1 h1
   have kt : ∀ t, knows s t → knows s1 t := fun t ht => kk1 t (sk t ht)
   obtain ⟨g2, s2, left2, h2, w2, kk2⟩ := H.do_ G s1 f lp (n + 1) m l w1 he1 (Nat.le_trans (rem_le h1) srr) (wb_known kt _ _ _ hl) (hf.mono kt) hlI (by unfold In at hnI hmI ⊢; omega) hmI
   have h1' := xRun_mono (g' := g1 + g2) (by omega) h1
   have h2' := xRun_mono (g' := g1 + g2) (by omega) h2
   exact tot_of (g := g1 + g2 + 1) (by rw [x_do, if_pos hnm, if_neg (by simp [e1]), h1']; dsimp only; rw [if_neg (by simp)]; exact h2') w2 (fun t ht => kk2 t (kt t ht))
  ·exact tot_of (g := 1) (by rw [x_do, if_pos hnm, if_pos e1]) sw sk
 ·exact tot_of (g := 1) (by rw [x_do, if_neg hnm]) hw (fun _ h => h)
theorem count_e' {g : Nat} {s s' : St} {k : Nat} (h : s.count g k = some s') : s'.e = s.e := by
 unfold St.count at h
 repeat' split at h
 all_goals first
  | (cases h; done)
  | (injection h with h; subst h; rfl)
theorem come_tot {s : St} (hw : WFs s) (f : Fr) : ∃ g s1, xCome g f s = some s1 ∧ WFs s1 ∧ (∀ t, knows s t → knows s1 t) ∧ s1.e = s.e ∧ s1.steps = s.steps ∧ s1.depth = s.depth := by
 cases hf : s.find f.name with
 | none => exact ⟨0, s, by unfold xCome; rw [hf], hw, fun _ h => h, rfl, rfl, rfl⟩
 | some k =>
  have hk : k < s.defs.length := (List.findIdx?_eq_some_iff_getElem.1 hf).1
  by_cases hid : s.defs[k].id = f.id
  ·obtain ⟨g, s1, h1, w1, k1⟩ := count_total hw hk
   exact ⟨g, s1, by unfold xCome; rw [hf]; dsimp only; rw [List.getElem?_eq_getElem hk]; dsimp only; rw [if_pos hid]; exact h1, w1, fun t ht => (k1 t).2 ht, count_e' h1, (St.count_keep h1).2, (St.count_keep h1).1⟩
  ·exact ⟨0, s, by unfold xCome; rw [hf]; dsimp only; rw [List.getElem?_eq_getElem hk]; dsimp only; rw [if_neg hid], hw, fun _ h => h, rfl, rfl, rfl⟩
theorem xCome_le {g g' : Nat} (hg : g ≤ g') {f : Fr} {s s' : St} (h : xCome g f s = some s') : xCome g' f s = some s' := by
 induction hg with
 | refl => exact h
 | step _ ih => exact xCome_mono ih
theorem enter_tot {N : Nat} (H : TotN N) (s : St) (f : Fr) (hw : WFs s) (he : s.e = 0) (hr : rem s ≤ N + 1) (hf : wbF s f) : Tot (jEnter f) s := by
 by_cases hd : 20 ≤ s.depth
 ·have hn := hw.same (s' := s.err 8) (hw.g.err (by decide)) rfl
  exact tot_of (g := 1) (by rw [x_enter, if_pos hd]) hn.1 hn.2
 obtain ⟨g1, s1, h1, w1, kk1, e1, st1, dp1⟩ := come_tot hw f
 have hn := w1.same (s' := { s1 with depth := s1.depth + 1 }) (w1.g.dep (by have := w1.g.d0; omega) (by omega)) rfl
 have kt : ∀ t, knows s t → knows { s1 with depth := s1.depth + 1 } t := fun t ht => hn.2 t (kk1 t ht)
 obtain ⟨Gf, hGf⟩ := hf
 obtain ⟨g2, s2, left2, h2, w2, kk2⟩ := body_tot H Gf { s1 with depth := s1.depth + 1 } f [] f.body false hn.1 (by show s1.e = 0; rw [e1]; exact he) (by show rem s1 ≤ N + 1; unfold rem at hr ⊢; rw [st1]; exact hr) (wb_known kt _ _ _ hGf) ⟨Gf, wb_known kt _ _ _ hGf⟩ (fun h => by cases h) (fun q hq => by cases hq)
 have hdp := (xRun_keep _ _ _ _ _ h2).1
 dsimp only at hdp
 have hn2 := w2.same (s' := { s2 with depth := s2.depth - 1 }) (w2.g.dep (by have := w1.g.d0; omega) (by have := w2.g.d1; omega)) rfl
 exact tot_of (g := g1 + g2 + 1) (by rw [x_enter, if_neg hd, xCome_le (by omega) h1]; dsimp only; rw [xRun_mono (by omega) h2]) hn2.1 (fun t ht => hn2.2 t (kk2 t (kt t ht)))
theorem call_tot {N : Nat} (H : TotN N) (s : St) (t : Tok) (hw : WFs s) (he : s.e = 0) (hr : rem s ≤ N + 1) (hk : knows s t) : Tot (jCall t) s := by
 have hin := known_in hk
 unfold inDefs at hin
 cases hf : s.defs.find? (fun d => d.name == t) with
 | none => rw [hf] at hin; cases hin
 | some d =>
  obtain ⟨g, s', left, h, w1, kk⟩ := enter_tot H s ⟨d.id, d.name, d.body⟩ hw he hr (hw.d d (List.mem_of_find?_eq_some hf))
  exact tot_of (g := g + 1) (by rw [x_call, hf]; exact h) w1 kk
theorem pDef_le {g g' : Nat} (hg : g ≤ g') {s : St} {r : List Tok} {res : DRes} (h : pDef g s r = some res) : pDef g' s r = some res := by
 induction hg with
 | refl => exact h
 | step _ ih => exact pDef_mono ih
theorem tok_tot {N : Nat} (H : TotN N) (s : St) (t : Tok) (hw : WFs s) (he : s.e = 0) (hr : rem s ≤ N + 1) : ∃ g s', xTok g t s = some s' ∧ WFs s' ∧ (∀ t, knows s t → knows s' t) ∧ (s'.e = 0 → rem s' ≤ N) := by
 obtain ⟨sw, sk, sr⟩ := step_next hw he hr
 by_cases e1 : s.step.e = 0
 ·obtain ⟨srr, s20⟩ := sr e1
  cases hn : numP t with
  | some n =>
   have hn2 := sw.same (s' := s.step.put n) (sw.g.put (numP_range hn)) (put_defs _ _)
   exact ⟨0, _, by unfold xTok; rw [hn]; dsimp only; rw [if_neg (by simp [e1])], hn2.1, fun t ht => hn2.2 t (sk t ht), fun _ => by unfold rem at srr ⊢; rw [St.put_steps]; exact srr⟩
  | none =>
   cases hp : plainL.findIdx? (· == t) with
   | some k =>
    have hn2 := sw.same (s' := s.step.word k) (sw.g.word e1 k) rfl
    exact ⟨0, _, by unfold xTok; rw [hn]; dsimp only; rw [hp]; dsimp only; rw [if_neg (by simp [e1])], hn2.1, fun t ht => hn2.2 t (sk t ht), fun _ => srr⟩
   | none =>
    by_cases q1 : (keptL.any (· == t) || t == kSemi || t == kOpen || t == kClose) = true
    ·have hn2 := hw.same (s' := s.err 4) (hw.g.err (by decide)) rfl
     exact ⟨0, _, by unfold xTok; rw [hn]; dsimp only; rw [hp]; dsimp only; rw [if_pos q1], hn2.1, hn2.2, fun h => by cases h⟩
    by_cases q2 : s.known t = false
    ·have hn2 := hw.same (s' := s.err 3) (hw.g.err (by decide)) rfl
     exact ⟨0, _, by unfold xTok; rw [hn]; dsimp only; rw [hp]; dsimp only; rw [if_neg q1, if_pos q2], hn2.1, hn2.2, fun h => by cases h⟩
    ·obtain ⟨g, s2, l2, hx2, w2, kk2⟩ := H.call s.step t sw e1 srr (sk _ (by unfold knows; simpa using q2))
     exact ⟨g, s2, by unfold xTok; rw [hn]; dsimp only; rw [hp]; dsimp only; rw [if_neg q1, if_neg q2, if_neg (by simp [e1]), hx2], w2, fun t ht => kk2 t (sk t ht), fun _ => Nat.le_trans (rem_le hx2) srr⟩
 ·cases hn : numP t with
  | some n => exact ⟨0, _, by unfold xTok; rw [hn]; dsimp only; rw [if_pos e1], sw, sk, fun h => absurd h e1⟩
  | none =>
   cases hp : plainL.findIdx? (· == t) with
   | some k => exact ⟨0, _, by unfold xTok; rw [hn]; dsimp only; rw [hp]; dsimp only; rw [if_pos e1], sw, sk, fun h => absurd h e1⟩
   | none =>
    by_cases q1 : (keptL.any (· == t) || t == kSemi || t == kOpen || t == kClose) = true
    ·have hn2 := hw.same (s' := s.err 4) (hw.g.err (by decide)) rfl
     exact ⟨0, _, by unfold xTok; rw [hn]; dsimp only; rw [hp]; dsimp only; rw [if_pos q1], hn2.1, hn2.2, fun h => by cases h⟩
    by_cases q2 : s.known t = false
    ·have hn2 := hw.same (s' := s.err 3) (hw.g.err (by decide)) rfl
     exact ⟨0, _, by unfold xTok; rw [hn]; dsimp only; rw [hp]; dsimp only; rw [if_neg q1, if_pos q2], hn2.1, hn2.2, fun h => by cases h⟩
    ·exact ⟨0, _, by unfold xTok; rw [hn]; dsimp only; rw [hp]; dsimp only; rw [if_neg q1, if_neg q2, if_pos e1], sw, sk, fun h => absurd h e1⟩
theorem xTok_le {g g' : Nat} (hg : g ≤ g') {t : Tok} {s s' : St} (h : xTok g t s = some s') : xTok g' t s = some s' := by
 induction hg with
 | refl => exact h
 | step _ ih => exact xTok_mono (fun j s r h => xRun_mono1 _ j s r h) ih
theorem pDef_len {g : Nat} {s : St} {r : List Tok} {nm : Tok} {b : List It} {r1 : List Tok} (h : pDef g s r = some (.ok (nm, b, r1))) : r1.length ≤ r.length := by
 cases r with
 | nil => cases h
 | cons t r =>
  unfold pDef at h
  dsimp only at h
  split at h
  ·cases h
  split at h
  ·cases h
  split at h
  ·cases h
  ·cases h
  ·rename_i b' t' r' hr
   injection h with h; injection h with h; injection h with e1 e2; injection e2 with e2 e3
   subst e3
   obtain ⟨_, _, _, hl⟩ := pRead_calls _ _ _ _ _ _ _ hr
   simp; omega
theorem toks_tot {N : Nat} (H : TotN N) (s : St) (ts : List Tok) (hw : WFs s) (hr : s.e = 0 → rem s ≤ N + 1) (hlt : ts.length ≤ 1000) : Tot (jToks ts) s := by
 by_cases he : s.e = 0
 ·have hr := hr he
  cases ts with
  | nil => exact tot_of (x_tnil 0 s) hw (fun _ h => h)
  | cons t r =>
   have hlr : r.length ≤ 1000 := by simp at hlt; omega
   by_cases ht : t = kColon
   ·subst ht
    obtain ⟨sw, sk, sr⟩ := step_next hw he hr
    obtain ⟨g1, res, hp⟩ := pDef_total s r
    cases res with
    | error e =>
     have hg := hw.g
     have hn := hw.same (s' := s.err e) ⟨hg.g, hg.s0, hg.s1, fun _ => hw.st he, hg.d0, hg.d1, hg.b0, hg.b1, hg.cb⟩ rfl
     exact tot_of (g := g1 + 1) (by rw [x_def _ _ _ he, hp]) hn.1 hn.2
    | ok q =>
     obtain ⟨nm, b, r1⟩ := q
     by_cases e1 : s.step.e = 0
     ·obtain ⟨srr, s20⟩ := sr e1
      obtain ⟨G, hG⟩ := pDef_wb hlr hp
      have hcb := (pDefD_ok hlr (by rw [← pDef_eq]; exact hp)).1
      have hl1 := pDef_len hp
      have w2 := sw.set (nm := nm) (b := b) (wb_known sk _ _ _ hG) hcb
      obtain ⟨g2, s2, l2, h2, w3, kk3⟩ := H.toks (s.step.set nm b) r1 w2 (fun _ => srr) (by omega)
      exact tot_of (g := g1 + g2 + 1) (by rw [x_def _ _ _ he, pDef_le (by omega) hp]; dsimp only; rw [if_neg (by simp [e1])]; exact xRun_mono (by omega) h2) w3 (fun t ht => kk3 t (set_knows (sk t ht)))
     ·exact tot_of (g := g1 + 1) (by rw [x_def _ _ _ he, hp]; dsimp only; rw [if_pos e1]) sw sk
   ·obtain ⟨g1, s1, h1, w1, kk1, r1⟩ := tok_tot H s t hw he hr
    obtain ⟨g2, s2, l2, h2, w2, kk2⟩ := H.toks s1 r w1 r1 hlr
    exact tot_of (g := g1 + g2 + 1) (by rw [x_tok _ _ _ _ he ht, xTok_le (by omega) h1]; exact xRun_mono (by omega) h2) w2 (fun t ht => kk2 t (kk1 t ht))
 ·exact tot_of (x_terr 0 s ts he) hw (fun _ h => h)
theorem totN : ∀ N, TotN N
 | 0 => TotN.zero
 | N + 1 => ⟨fun G s f lp l lo => body_tot (totN N) G s f lp l lo, fun G s f lp x lo => item_tot (totN N) G (body_tot (totN N) G) s f lp x lo, fun G s f lp n m l => do_tot (totN N) G s f lp n m l, fun s f => enter_tot (totN N) s f, fun s t => call_tot (totN N) s t, fun s ts => toks_tot (totN N) s ts⟩
theorem line_total (s : St) (hw : WFs s) (text : List UInt8) (hlt : (Lib.fields text).length ≤ 1000) : ∃ g s1 left, xRun g (jToks (Lib.fields text)) { s with e := 0, steps := 0, depth := 0, out := ⟨#[]⟩ } = some (s1, left) ∧ WFs (if s1.e = 0 then s1 else { s1 with rs := [] }) := by
 have hg := hw.g
 have hn := hw.same (s' := { s with e := 0, steps := 0, depth := 0, out := ⟨#[]⟩ }) ⟨⟨hg.g.ins, hg.g.mems, hg.g.len, by show (0 : Nat) ≤ 300; decide⟩, by show (0 : Int) ≤ 0; decide, by show (0 : Int) ≤ 2001; decide, fun _ => by show (0 : Int) ≤ 2000; decide, by show (0 : Int) ≤ 0; decide, by show (0 : Int) ≤ 20; decide, hg.b0, hg.b1, hg.cb⟩ rfl
 obtain ⟨g, s1, left, h, w1, _⟩ := (totN 2001).toks _ (Lib.fields text) hn.1 (fun _ => by unfold rem; simp) hlt
 refine ⟨g, s1, left, h, ?_⟩
 split
 ·exact w1
 ·exact (w1.same (s' := { s1 with rs := [] }) (w1.g.tail (fun x hx => by cases hx) (by simp)) rfl).1
end
section
open Go.RowKit
variable {K : Nat → Prop}
theorem Keeps.out {w w' : World} {S : Nat → Prop} (hk : Kp w w' S) (hS : ∀ b, b < w.heap.size → S b → K b) : Keeps (nK K) (nK K) w w' := fun b _ _ hb hbl _ => ⟨hk.blk hbl (fun h => hb (hS b hbl.lt h)), hb⟩
theorem Ses.frame {w w' : World} {S : Nat → Prop} {yb : Nat} {rs : RS} {s : St} (h : Ses K w yb rs s) (hk : Kp w w' S) (hS : ∀ b, b < w.heap.size → S b → K b) (h1 : ¬ S yb) (h2 : ∀ b, own rs.nv b → ¬ S b) (h3 : ∀ b, own rs.d.dv b → ¬ S b) : Ses K w' yb rs s := by
 have hi := h.inv
 have hi' : RInv w' yb rs s.rs.reverse := ⟨hk.blk hi.blk h1, hk.row hi.row h2, hi.len⟩
 have hr := h.rel
 have hd : DRel K w' rs.d.dv s.defs := hr.dr.keep (Keeps.out hk hS) (fun b hb => by
  obtain ⟨xs, hrow, _⟩ := hr.dr.ex
  exact hk.block b (own_lt hrow hb) (h3 b hb)) hk.size
 exact ⟨⟨⟨_, hi', fun _ => rfl⟩, hr.e, hr.st, hr.mem, hr.out, hr.ids, hr.hot, hr.blt, hr.dp, hd, hr.good⟩, hi'⟩
theorem Ses.move {w w1 : World} {S : Nat → Prop} {yb : Nat} {rs : RS} {s : St} {K' : Nat → Prop} (h : Ses K w yb rs s) (hk : Kp w w1 S) (hS : ∀ b, b < w.heap.size → S b → K b) (q1 : ¬ S yb) (q2 : ∀ b, own rs.nv b → ¬ S b) (q3 : ∀ b, own rs.d.dv b → ¬ S b) (h1 : ∀ b, K' b → K b ∨ w.heap.size ≤ b) (h2 : ∀ b, K' b → b < w1.heap.size) : Ses K' w1 yb rs s := by
 have hi := h.inv
 have hi' : RInv w1 yb rs s.rs.reverse := ⟨hk.blk hi.blk q1, hk.row hi.row q2, hi.len⟩
 have hr := h.rel
 have hkeep : Keeps (nK K) (nK K') w w1 := fun b _ _ hb hbl _ => ⟨hk.blk hbl (fun h => hb (hS b hbl.lt h)), fun hK => by
  rcases h1 b hK with h | h
  ·exact hb h
  ·have := hbl.lt; omega⟩
 obtain ⟨xs, hrow, hx⟩ := hr.dr.ex
 have hdefs : ∀ (l : List Def) (xs : List Value), defsIn K w l xs → defsIn K' w1 l xs := by
  intro l
  induction l with
  | nil => intro xs h; exact h
  | cons d l ih =>
   rintro xs ⟨nm, vb, vt, rest, h1, h2, h3, h4, h5⟩
   exact ⟨nm, vb, vt, rest, h1, h2, h3.keep hkeep, toksIn_keep hkeep h4, ih rest h5⟩
 exact ⟨⟨⟨_, hi', fun _ => rfl⟩, hr.e, hr.st, hr.mem, hr.out, hr.ids, hr.hot, hr.blt, hr.dp, ⟨⟨xs, hk.row hrow q3, hdefs _ _ hx⟩, hr.dr.len, h2⟩, hr.good⟩, hi'⟩
theorem Ses.bar {w w1 : World} {yb : Nat} {rs : RS} {s : St} {K' : Nat → Prop} (h : Ses K w yb rs s) (hk : Kp w w1 (fun _ => False)) (h1 : ∀ b, K' b → K b ∨ w.heap.size ≤ b) (h2 : ∀ b, K' b → b < w1.heap.size) : Ses K' w1 yb rs s :=
 h.move hk (fun _ _ h => h.elim) (fun h => h) (fun _ _ h => h) (fun _ _ h => h) h1 h2
theorem Ses.less {w : World} {yb : Nat} {rs : RS} {s : St} {K' : Nat → Prop} (h : Ses K w yb rs s) (h1 : ∀ b, K' b → K b) : Ses K' w yb rs s :=
 h.bar (Kp.refl _ _) (fun b hb => .inl (h1 b hb)) (fun b hb => h.rel.dr.old b (h1 b hb))
def rs0 : RS := ⟨.slice none 0 0, fun _ => 0, 0, 0, ⟨#[]⟩, ⟨.slice none 0 0, 0, 5, 1, 0⟩⟩
theorem SGood.first : SGood st0 :=
 ⟨⟨(by intro x hx; cases hx), (fun i => by show In 0; unfold In; decide), by show (0 : Nat) ≤ 32; decide, by show (0 : Nat) ≤ 300; decide⟩, by show (0 : Int) ≤ 0; decide, by show (0 : Int) ≤ 2001; decide, fun _ => by show (0 : Int) ≤ 2000; decide, by show (0 : Int) ≤ 0; decide, by show (0 : Int) ≤ 20; decide, by show (0 : Int) ≤ 1; decide, by show (1 : Int) ≤ 3; decide, (by intro d hd; cases hd)⟩
theorem Ses.first (w : World) (hK : ∀ b, K b → b < (w.alloc (.cells rs0.arr 65)).heap.size) : Ses K (w.alloc (.cells rs0.arr 65)) w.heap.size rs0 st0 := by
 have hi : RInv (w.alloc (.cells rs0.arr 65)) w.heap.size rs0 [] := ⟨Blk.new _ _ _, World.ownsRow_nil _ _ _ _, by simp⟩
 exact ⟨⟨⟨[], hi, fun _ => rfl⟩, rfl, rfl, rfl, rfl, rfl, rfl, rfl, rfl, ⟨⟨[], World.ownsRow_nil _ _ _ _, rfl⟩, by decide, hK⟩, SGood.first⟩, hi⟩
theorem WFs.first : WFs st0 := ⟨SGood.first, (fun d hd => by cases hd), fun _ => by show (0 : Int) ≤ 2000; decide⟩
theorem freshX (w : World) : Calls Tryz.prog 24 #[] w fun e w' => e = .returned (.pointer (some ⟨w.heap.size, 0, none⟩)) ∧ w' = w.alloc (.cells rs0.arr 65) := by
 go_enter Tryz.func24, Tryz.ntmps24
 go_wp2
 go_ret
 exact ⟨rfl, rfl⟩
end
section
open Go.RowKit
def insN (x : Tok) : List Tok → List Tok
 | [] => [x]
 | b :: r => if Op.bytesLess x b = true then b :: insN x r else x :: b :: r
def rsortN (l : List Tok) : List Tok := l.foldl (fun rp x => insN x rp) []
def sortN (l : List Tok) : List Tok := (rsortN l).reverse
def sink : Nat → List Tok → List Tok
 | 0, l => l
 | k + 1, l => match l[k + 1]?, l[k]? with
  | some a, some b => if Op.bytesLess a b = true then sink k ((l.set (k + 1) b).set k a) else l
  | _, _ => l
theorem sink_eq (x : Tok) : ∀ (rp post : List Tok), sink rp.length (rp.reverse ++ x :: post) = (insN x rp).reverse ++ post
 | [], post => by simp [sink, insN]
 | b :: r, post => by
  have e1 : ((b :: r).reverse ++ x :: post)[r.length + 1]? = some x := by
   rw [List.getElem?_append_right (by simp)]; simp
  have e2 : ((b :: r).reverse ++ x :: post)[r.length]? = some b := by
   rw [List.reverse_cons, List.append_assoc, List.getElem?_append_right (by simp)]; simp
  have e3 : ((((b :: r).reverse ++ x :: post).set (r.length + 1) b).set r.length x) = r.reverse ++ x :: (b :: post) := by
   rw [List.reverse_cons, List.append_assoc]
   rw [List.set_append_right _ _ (by simp), List.set_append_right _ _ (by simp)]
   simp
  show sink (r.length + 1) _ = _
  rw [sink, e1, e2]
  dsimp only
  rw [insN]
  by_cases h : Op.bytesLess x b = true
  ·rw [if_pos h, if_pos h, e3, sink_eq x r (b :: post)]; simp
  ·rw [if_neg h, if_neg h]; simp
def sortTo (i : Nat) (l : List Tok) : List Tok := (rsortN (l.take i)).reverse ++ l.drop i
theorem insN_len (x : Tok) : ∀ (rp : List Tok), (insN x rp).length = rp.length + 1
 | [] => rfl
 | b :: r => by unfold insN; split <;> simp [insN_len x r]
theorem rsortN_snoc (l : List Tok) (x : Tok) : rsortN (l ++ [x]) = insN x (rsortN l) := by unfold rsortN; rw [List.foldl_append]; rfl
theorem rsortN_len : ∀ (l : List Tok), (rsortN l).length = l.length := by
 have key : ∀ (l rp : List Tok), (l.foldl (fun rp x => insN x rp) rp).length = rp.length + l.length := by
  intro l
  induction l with
  | nil => intro rp; simp
  | cons x l ih => intro rp; rw [List.foldl_cons, ih, insN_len]; simp; omega
 intro l; unfold rsortN; rw [key]; simp
theorem sortTo_succ (l : List Tok) (i : Nat) (h : i < l.length) : sink i (sortTo i l) = sortTo (i + 1) l := by
 unfold sortTo
 rw [List.drop_eq_getElem_cons h, List.take_succ_eq_append_getElem h, rsortN_snoc]
 have : (rsortN (l.take i)).length = i := by rw [rsortN_len]; simp; omega
 have h2 := sink_eq l[i] (rsortN (l.take i)) (l.drop (i + 1))
 rw [this] at h2
 exact h2
theorem sortTo_one (l : List Tok) : sortTo 1 l = l := by
 unfold sortTo
 cases l with
 | nil => rfl
 | cons x r => simp [rsortN, insN]
def wordsP (s : St) : List Tok := sortN (s.defs.map Def.name)
def cellP (s : St) (n : Int) : Int × Int := if n < 0 ∨ 16 ≤ n then (0, 10) else (s.mem n.toNat, 0)
end
section
open Go.RowKit
variable {K : Nat → Prop}
theorem cellX (w : World) (yb : Nat) (rs : RS) (s : St) (n : Int) (h : Ses K w yb rs s) (hn : In n) :
  Calls Tryz.prog 46 #[.pointer (some ⟨yb, 0, none⟩), .int .i64 n] w fun e w' => e = .returned (.tuple #[.int .i64 (cellP s n).1, .int .i64 (cellP s n).2]) ∧ Kp w w' (fun _ => False) := by
 by_cases h0 : n < 0
 ·have HP : Hid (cellP s n = (0, 10)) := by unfold Hid cellP; rw [if_pos (.inl h0)]
  go_enter Tryz.func46, Tryz.ntmps46
  go_wp2
  go_ret2
  rw [HP.out]; exact ⟨rfl, Kp.refl _ _⟩
 by_cases h1 : 16 ≤ n
 ·have HP : Hid (cellP s n = (0, 10)) := by unfold Hid cellP; rw [if_pos (.inr h1)]
  go_enter Tryz.func46, Tryz.ntmps46
  go_wp2
  go_ret2
  rw [HP.out]; exact ⟨rfl, Kp.refl _ _⟩
 ·obtain ⟨k, rfl⟩ : ∃ k : Nat, n = k := ⟨n.toNat, by omega⟩
  have hk : k < 16 := by omega
  have HP : Hid (cellP s k = (s.mem k, 0)) := by unfold Hid cellP; rw [if_neg (by omega)]; simp
  have c : w.cell? ⟨yb, 1 + k, none⟩ = some (.int .i64 (s.mem k)) := by rw [← h.rel.mem]; exact h.inv.blk.cell (RS.at _ _ hk)
  clear h0 h1
  go_enter Tryz.func46, Tryz.ntmps46
  go_wp2
  go_ret2
  rw [HP.out]; exact ⟨rfl, Kp.refl _ _⟩
structure SortAt (w wr : World) (v : Value) (n : Nat) (T : List Tok) (k : Nat) : Prop where
 ex : ∃ L : List ByteArray, L.length = n ∧ wr.ownsRow 0 9 1 v n (L.map Value.string) ∧ sink k (texts L) = T
 kp : Kp w wr (fun b => own v b)
theorem texts_set (L : List ByteArray) (i : Nat) (t : ByteArray) : texts (L.set i t) = (texts L).set i t.data.toList := by unfold texts; rw [List.map_set]
theorem texts_at (L : List ByteArray) (i : Nat) (h : i < L.length) : (texts L)[i]? = some L[i].data.toList := by unfold texts; simp [h]
theorem texts_len (L : List ByteArray) : (texts L).length = L.length := by simp [texts]
theorem sortedX (w : World) (v : Value) (ws : List ByteArray) (hr : w.ownsRow 0 9 1 v ws.length (ws.map Value.string)) (hl : ws.length ≤ 100) :
  Calls Tryz.prog 48 #[v] w fun e w' => e = .returned v ∧ (∃ L : List ByteArray, w'.ownsRow 0 9 1 v L.length (L.map Value.string) ∧ texts L = sortN (texts ws)) ∧ Kp w w' (fun b => own v b) := by
 have HO : Hid (∃ L : List ByteArray, L.length = ws.length ∧ w.ownsRow 0 9 1 v ws.length (L.map Value.string) ∧ texts L = sortTo 1 (texts ws)) := ⟨ws, rfl, hr, (sortTo_one _).symm⟩
 obtain ⟨ao, cap, rfl⟩ := row_slice hr
 clear hr
 go_enter Tryz.func48, Tryz.ntmps48
 go_wp2
 go_loopw [3] (fun i wr => ∃ k : Nat, 1 ≤ k ∧ (k ≤ ws.length ∨ k = 1) ∧ i = .int .i64 k ∧ (∃ L : List ByteArray, L.length = ws.length ∧ wr.ownsRow 0 9 1 (.slice ao ws.length cap) ws.length (L.map Value.string) ∧ texts L = sortTo k (texts ws)) ∧ Kp w wr (fun b => own (.slice ao ws.length cap) b)) (fun i _ => ws.length - (intOf i).toNat)
 case atStart => exact ⟨1, Nat.le_refl _, .inr rfl, rfl, HO.out, Kp.refl _ _⟩
 case round =>
  obtain ⟨i, h1, h2, rfl, ⟨L, hL, hrow, hT⟩, hkp⟩ := hrel
  clear HO
  by_cases hlt : i < ws.length
  ·have HS : Hid (SortAt w wr (.slice ao ws.length cap) ws.length (sortTo (i + 1) (texts ws)) i) := ⟨⟨L, hL, hrow, by rw [hT]; exact sortTo_succ _ _ (by rw [texts_len]; exact hlt)⟩, hkp⟩
   clear hrow hT hkp hL
   go_wp2
   go_loopw [4] (fun j wr2 => ∃ m : Nat, m ≤ i ∧ j = .int .i64 m ∧ SortAt w wr2 (.slice ao ws.length cap) ws.length (sortTo (i + 1) (texts ws)) m) (fun j _ => (intOf j).toNat)
   case atStart => exact ⟨i, Nat.le_refl _, rfl, HS.out⟩
   case round =>
    clear HS
    obtain ⟨m, hm, rfl, ⟨L, hL, hrow, hT⟩, hkp⟩ := hrel
    cases m with
    | zero =>
     have HN : Hid ((∃ L : List ByteArray, L.length = ws.length ∧ wr.ownsRow 0 9 1 (.slice ao ws.length cap) ws.length (L.map Value.string) ∧ texts L = sortTo (i + 1) (texts ws)) ∧ Kp w wr (fun b => own (.slice ao ws.length cap) b)) := ⟨⟨L, hL, hrow, hT⟩, hkp⟩
     clear hrow hT hL hkp
     go_wp2
     go_quiet (fail)
     go_wp2
     go_roundw
     case rel => exact ⟨i + 1, by omega, by omega, by go_num, HN.out.1, HN.out.2.drewN _⟩
     case measure => simp [intOf]; omega
    | succ m =>
     obtain ⟨g, cap', hv, hc⟩ := row_cell hrow (by omega)
     injection hv with e1 e2 e3
     subst e1
     clear e2 e3
     have hm1 : m + 1 < L.length := by omega
     have c1 := hc (m + 1) (.string L[m + 1]) (by simp [hm1])
     have c0 := hc m (.string L[m]) (by first | (simp; done) | (simp; omega))
     have hwm : IntKind.i64.wrap (((m + 1 : Nat) : Int) - 1) = (m : Int) := by
      rw [show ((m + 1 : Nat) : Int) - 1 = (m : Int) by omega, IntKind.wrap_i64]; omega
     have hwm2 : IntKind.i64.wrap ((m : Int) + 1 - 1) = (m : Int) := by
      rw [show (m : Int) + 1 - 1 = (m : Int) by omega, IntKind.wrap_i64]; omega
     clear hc
     have hTT : Hid (sink (m + 1) (texts L) = if Op.bytesLess L[m + 1].toList L[m].toList = true then sink m (texts ((L.set (m + 1) L[m]).set m L[m + 1])) else texts L) := by
      unfold Hid
      rw [sink, texts_at L (m + 1) hm1, texts_at L m (by omega), texts_set, texts_set, ByteArray.toList_eq, ByteArray.toList_eq]
     cases hb : Op.bytesLess L[m + 1].toList L[m].toList with
     | false =>
      have HN : Hid ((∃ L : List ByteArray, L.length = ws.length ∧ wr.ownsRow 0 9 1 (.slice (some ⟨g, 0, none⟩) ws.length cap) ws.length (L.map Value.string) ∧ texts L = sortTo (i + 1) (texts ws)) ∧ Kp w wr (fun b => own (.slice (some ⟨g, 0, none⟩) ws.length cap) b)) := ⟨⟨L, hL, hrow, by rw [← hT, hTT.out, if_neg (by rw [hb]; decide)]⟩, hkp⟩
      clear hrow hT hkp hTT
      go_wp2
      go_quiet (fail)
      go_wp2
      go_roundw
      case rel => exact ⟨i + 1, by omega, by omega, by go_num, HN.out.1, HN.out.2.drewN _⟩
      case measure => simp [intOf]; omega
     | true =>
      have hgo : own (.slice (some ⟨g, 0, none⟩) ws.length cap) g := rfl
      obtain ⟨cc, hcc⟩ := row_blk hrow hgo
      have f1 := hcc.free (m + 1)
      have f0 := hcc.free m
      have HROW := hide hrow
      have HT := hide hT
      have HKP := hide hkp
      clear hrow hT hkp hcc
      go_wp2
      go_quiet (fail)
      go_wp2
      have hK : Kp w (((wr.drewN nq).setCell ⟨g, m + 1, none⟩ (.string L[m])).setCell ⟨g, m, none⟩ (.string L[m + 1])) (fun b => own (.slice (some ⟨g, 0, none⟩) ws.length cap) b) := ((HKP.out.drewN nq).set (a := ⟨g, m + 1, none⟩) (fun _ => hgo) _).set (a := ⟨g, m, none⟩) (fun _ => hgo) _
      have hR := row_set (row_set (row_drewN HROW.out nq) hgo (m + 1) (.string L[m])) hgo m (.string L[m + 1])
      refine ⟨⟨m, by omega, rfl, ⟨⟨(L.set (m + 1) L[m]).set m L[m + 1], by simp; exact hL, by rw [List.map_set, List.map_set]; exact hR, ?_⟩, hK⟩⟩, by simp [intOf]⟩
      rw [← HT.out, hTT.out, if_pos hb]
  ·have HN : Hid (texts L = sortN (texts ws)) := by
    unfold Hid
    rw [hT]
    unfold sortTo sortN
    rw [List.take_of_length_le (by rw [texts_len]; omega), List.drop_of_length_le (by rw [texts_len]; omega)]
    simp
   clear hT
   go_wp2
   go_ret
   exact ⟨rfl, ⟨L, by rw [hL]; exact hrow, HN.out⟩, hkp⟩
end
end Go.Proofs.YtldifaahmpecfaaGreatDoor
