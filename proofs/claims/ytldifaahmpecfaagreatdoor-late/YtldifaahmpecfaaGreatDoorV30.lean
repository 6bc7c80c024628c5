import Derived.Test.YtldifaahmpecfaaGreatDoorV28
import Derived.Test.YtldifaahmpecfaaGreatDoorV29
namespace Go.Proofs.YtldifaahmpecfaaGreatDoor
set_option maxRecDepth 1000000
set_option maxHeartbeats 4000000
set_option linter.all false
section
open Go.RowKit
theorem SGood.step {s : St} (h : SGood s) (he : s.e = 0) : SGood s.step := by
 have h2 := h.s2 he
 have h0 := h.s0
 unfold St.step
 split
 ·exact ⟨h.g, by show 0 ≤ s.steps + 1; omega, by show s.steps + 1 ≤ 2001; omega, fun _ => by show s.steps + 1 ≤ 2000; omega, h.d0, h.d1, h.b0, h.b1, h.cb⟩
 ·exact ⟨h.g, by show 0 ≤ s.steps + 1; omega, by show s.steps + 1 ≤ 2001; omega, (fun h => by cases h), h.d0, h.d1, h.b0, h.b1, h.cb⟩
theorem SGood.put {s : St} (h : SGood s) {n : Int} (hn : In n) : SGood (s.put n) := by
 unfold St.put
 split
 ·exact ⟨⟨by simp only [List.mem_cons, forall_eq_or_imp]; exact ⟨hn, h.g.ins⟩, h.g.mems, by simp only [List.length_cons]; omega, h.g.osz⟩, h.s0, h.s1, h.s2, h.d0, h.d1, h.b0, h.b1, h.cb⟩
 ·exact ⟨h.g, h.s0, h.s1, (fun h => by cases h), h.d0, h.d1, h.b0, h.b1, h.cb⟩
theorem SGood.word {s : St} (h : SGood s) (he : s.e = 0) (k : Nat) : SGood (s.word k) := by
 have hf : Fine (plainP k s.rs s.mem s.out) := plain_fine _ h.g
 exact ⟨hf, h.s0, h.s1, fun _ => h.s2 he, h.d0, h.d1, h.b0, h.b1, h.cb⟩
theorem SGood.err {s : St} (h : SGood s) {k : Int} (hk : k ≠ 0) : SGood (s.err k) := ⟨h.g, h.s0, h.s1, (fun e => absurd e hk), h.d0, h.d1, h.b0, h.b1, h.cb⟩
theorem SGood.tail {s : St} (h : SGood s) {r : List Int} (hr : ∀ x ∈ r, x ∈ s.rs) (hl : r.length ≤ s.rs.length) : SGood { s with rs := r } :=
 ⟨⟨fun x hx => h.g.ins x (hr x hx), h.g.mems, Nat.le_trans hl h.g.len, h.g.osz⟩, h.s0, h.s1, h.s2, h.d0, h.d1, h.b0, h.b1, h.cb⟩
theorem SGood.test {s : St} (h : SGood s) (he : s.e = 0) : SGood s.test.1 := by
 have h1 := h.step he
 unfold St.test
 split
 ·split
  ·exact h1.err (by decide)
  ·rename_i a r hr
   exact h1.tail (fun x hx => by rw [hr]; simp [hx]) (by rw [hr]; simp)
 ·exact h1
theorem SGood.dep {s : St} (h : SGood s) {n : Int} (h0 : 0 ≤ n) (h1 : n ≤ 20) : SGood { s with depth := n } := ⟨h.g, h.s0, h.s1, h.s2, h0, h1, h.b0, h.b1, h.cb⟩
theorem knows_iff {s : St} {t : Tok} : knows s t ↔ ∃ d ∈ s.defs, (d.name == t) = true := by
 unfold knows St.known St.find
 rw [List.findIdx?_isSome, List.any_eq_true]
theorem set_defs_name {s : St} {nm : Tok} {b : List It} {d : Def} (hd : d ∈ s.defs) : ∃ d' ∈ (s.set nm b).defs, d'.name = d.name := by
 obtain ⟨i, hi, rfl⟩ := List.mem_iff_getElem.1 hd
 unfold St.set
 dsimp only
 cases hf : s.find nm with
 | none =>
  refine ⟨slowIf nm s.defs[i], ?_, slowIf_name _ _⟩
  exact List.mem_append_left _ (List.mem_map_of_mem (List.getElem_mem hi))
 | some k =>
  by_cases hik : i = k
  ·subst hik
   obtain ⟨h1, h2, _⟩ := List.findIdx?_eq_some_iff_getElem.1 hf
   refine ⟨⟨nm, wrap64 (s.ids + 1), b, 0, false, []⟩, ?_, by have := eq_of_beq h2; exact this.symm⟩
   rw [List.mem_iff_getElem]
   exact ⟨i, by simpa using hi, by simp⟩
  ·refine ⟨slowIf nm s.defs[i], ?_, slowIf_name _ _⟩
   rw [List.mem_iff_getElem]
   refine ⟨i, by simpa using hi, ?_⟩
   rw [List.getElem_set_ne (by omega), List.getElem_map]
   rfl
theorem set_knows {s : St} {nm : Tok} {b : List It} {t : Tok} (h : knows s t) : knows (s.set nm b) t := by
 rw [knows_iff] at h ⊢
 obtain ⟨d, hd, ht⟩ := h
 obtain ⟨d', hd', e⟩ := set_defs_name (nm := nm) (b := b) hd
 exact ⟨d', hd', by rw [e]; exact ht⟩
theorem set_body {s : St} {nm : Tok} {b : List It} {d : Def} (hd : d ∈ (s.set nm b).defs) : d.body = b ∨ ∃ d0 ∈ s.defs, d.body = d0.body := by
 have key : ∀ d ∈ s.defs.map (slowIf nm), ∃ d0 ∈ s.defs, d.body = d0.body := by
  intro d hd
  obtain ⟨d0, h0, rfl⟩ := List.mem_map.1 hd
  exact ⟨d0, h0, slowIf_body _ _⟩
 unfold St.set at hd
 dsimp only at hd
 cases hf : s.find nm with
 | none =>
  rw [hf] at hd
  rcases List.mem_append.1 hd with h | h
  ·exact .inr (key d h)
  ·simp at h; rw [h]; exact .inl rfl
 | some k =>
  rw [hf] at hd
  rcases List.mem_or_eq_of_mem_set hd with h | h
  ·exact .inr (key d h)
  ·rw [h]; exact .inl rfl
theorem WFs.set {s : St} (h : WFs s) {nm : Tok} {b : List It} {G : Nat} (hb : wb (knows s) G false b) (hcb : CBnd b) : WFs (s.set nm b) := by
 have hg := h.g
 refine ⟨⟨hg.g, hg.s0, hg.s1, hg.s2, hg.d0, hg.d1, hg.b0, hg.b1, fun d hd => by
  rcases set_body hd with e | ⟨d0, h0, e⟩
  ·rw [e]; exact hcb
  ·rw [e]; exact hg.cb d0 h0⟩, fun d hd => ?_, h.st⟩
 rcases set_body hd with e | ⟨d0, h0, e⟩
 ·exact ⟨G, by rw [e]; exact wb_known (fun t ht => set_knows ht) _ _ _ hb⟩
 ·obtain ⟨g, hg⟩ := h.d d0 h0
  exact ⟨g, by rw [e]; exact wb_known (fun t ht => set_knows ht) _ _ _ hg⟩
theorem WFs.same {s s' : St} (h : WFs s) (hg : SGood s') (hd : s'.defs = s.defs) : WFs s' ∧ ∀ t, knows s t → knows s' t := by
 refine ⟨⟨hg, fun d hm => ?_, hg.s2⟩, fun t ht => (knows_def hd).2 ht⟩
 rw [hd] at hm
 obtain ⟨g, hg⟩ := h.d d hm
 exact ⟨g, wb_known (fun t ht => (knows_def hd).2 ht) _ _ _ hg⟩
theorem step_defs (s : St) : s.step.defs = s.defs := by unfold St.step; split <;> rfl
theorem step_ok {s : St} (he : s.e = 0) (h : s.step.e = 0) : s.steps < 2000 := by
 unfold St.step at h
 split at h
 ·assumption
 ·cases h
theorem put_defs (s : St) (n : Int) : (s.put n).defs = s.defs := by unfold St.put; split <;> rfl
theorem test_defs (s : St) : s.test.1.defs = s.defs := by
 unfold St.test; split
 ·split
  ·exact step_defs s
  ·exact step_defs s
 ·exact step_defs s
theorem test_ok {s : St} (he : s.e = 0) (h : s.test.1.e = 0) : s.steps < 2000 := by
 unfold St.test at h
 split at h
 ·exact step_ok he (by assumption)
 ·exact absurd h (by assumption)
def rem (s : St) : Nat := (2001 - s.steps).toNat
def Tot (j : XJ) (s : St) : Prop := ∃ g s' left, xRun g j s = some (s', left) ∧ WFs s' ∧ ∀ t, knows s t → knows s' t
def wbF (s : St) (f : Fr) : Prop := ∃ G, wb (knows s) G false f.body
theorem wbF.mono {s s' : St} {f : Fr} (h : wbF s f) (hk : ∀ t, knows s t → knows s' t) : wbF s' f := by
 obtain ⟨G, hG⟩ := h; exact ⟨G, wb_known hk _ _ _ hG⟩
structure TotN (N : Nat) : Prop where
 body : ∀ (G : Nat) (s : St) (f : Fr) (lp : List Int) (l : List It) (lo : Bool), WFs s → s.e = 0 → rem s ≤ N → wb (knows s) G lo l → wbF s f → (lo = true → lp ≠ []) → (∀ n ∈ lp, In n) → Tot (jBody f lp l) s
 item : ∀ (G : Nat) (s : St) (f : Fr) (lp : List Int) (x : It) (lo : Bool), WFs s → s.e = 0 → rem s ≤ N → okIt (knows s) (wb (knows s) G) lo x → wbF s f → (lo = true → lp ≠ []) → (∀ n ∈ lp, In n) → Tot (jItem f lp x) s
 do_ : ∀ (G : Nat) (s : St) (f : Fr) (lp : List Int) (n m : Int) (l : List It), WFs s → s.e = 0 → rem s ≤ N → wb (knows s) G true l → wbF s f → (∀ n ∈ lp, In n) → In n → In m → Tot (jDo f lp n m l) s
 enter : ∀ (s : St) (f : Fr), WFs s → s.e = 0 → rem s ≤ N → wbF s f → Tot (jEnter f) s
 call : ∀ (s : St) (t : Tok), WFs s → s.e = 0 → rem s ≤ N → knows s t → Tot (jCall t) s
 toks : ∀ (s : St) (ts : List Tok), WFs s → (s.e = 0 → rem s ≤ N) → ts.length ≤ 1000 → Tot (jToks ts) s
theorem tot_of {j : XJ} {s : St} {g : Nat} {s' : St} {left : Bool} (h : xRun g j s = some (s', left)) (hw : WFs s') (hk : ∀ t, knows s t → knows s' t) : Tot j s := ⟨g, s', left, h, hw, hk⟩
theorem TotN.zero : TotN 0 := by
 have no : ∀ s : St, WFs s → s.e = 0 → rem s ≤ 0 → False := by
  intro s hw he hr
  have := hw.st he
  unfold rem at hr; omega
 refine ⟨fun G s f lp l lo hw he hr => (no s hw he hr).elim, fun G s f lp l lo hw he hr => (no s hw he hr).elim, fun G s f lp n m l hw he hr => (no s hw he hr).elim, fun s f hw he hr => (no s hw he hr).elim, fun s t hw he hr => (no s hw he hr).elim, fun s ts hw hr _ => ?_⟩
 by_cases he : s.e = 0
 ·exact (no s hw he (hr he)).elim
 ·exact tot_of (x_terr 0 s ts he) hw (fun _ h => h)
theorem step_next {N : Nat} {s : St} (hw : WFs s) (he : s.e = 0) (hr : rem s ≤ N + 1) : WFs s.step ∧ (∀ t, knows s t → knows s.step t) ∧ (s.step.e = 0 → rem s.step ≤ N ∧ s.step.steps ≤ 2000) := by
 have h1 := hw.same (hw.g.step he) (step_defs s)
 refine ⟨h1.1, h1.2, fun h => ?_⟩
 have := step_ok he h
 unfold rem at hr ⊢
 rw [St.step_steps]
 omega
theorem test_next {N : Nat} {s : St} (hw : WFs s) (he : s.e = 0) (hr : rem s ≤ N + 1) : WFs s.test.1 ∧ (∀ t, knows s t → knows s.test.1 t) ∧ (s.test.1.e = 0 → rem s.test.1 ≤ N) := by
 have h1 := hw.same (hw.g.test he) (test_defs s)
 refine ⟨h1.1, h1.2, fun h => ?_⟩
 have := test_ok he h
 unfold rem at hr ⊢
 rw [St.test_steps]
 omega
theorem rem_le {g : Nat} {j : XJ} {s s' : St} {left : Bool} (h : xRun g j s = some (s', left)) : rem s' ≤ rem s := by
 have := (xRun_keep _ _ _ _ _ h).2
 unfold rem; omega
theorem item_tot {N : Nat} (H : TotN N) (G : Nat) (hB : ∀ (s : St) (f : Fr) (lp : List Int) (l : List It) (lo : Bool), WFs s → s.e = 0 → rem s ≤ N + 1 → wb (knows s) G lo l → wbF s f → (lo = true → lp ≠ []) → (∀ n ∈ lp, In n) → Tot (jBody f lp l) s)
  (s : St) (f : Fr) (lp : List Int) (x : It) (lo : Bool) (hw : WFs s) (he : s.e = 0) (hr : rem s ≤ N + 1) (hx : okIt (knows s) (wb (knows s) G) lo x) (hf : wbF s f) (hlp : lo = true → lp ≠ []) (hlI : ∀ n ∈ lp, In n) : Tot (jItem f lp x) s := by
 obtain ⟨tw, tk, tr⟩ := test_next hw he hr
 obtain ⟨sw, sk, sr⟩ := step_next hw he hr
 by_cases k63 : x.kind = 63
 ·have hsub : wb (knows s) G lo x.a ∧ wb (knows s) G lo x.b := by
   rcases hx with ⟨h, h1, h2⟩ | ⟨h, h1, h2⟩ | ⟨h, h1, h2⟩
   ·rw [h1, h2]; exact ⟨wb_nil _ _ _, wb_nil _ _ _⟩
   ·exact ⟨h1, h2⟩
   ·omega
  by_cases e1 : s.test.1.e = 0
  ·by_cases e2 : s.test.2 = true
   ·obtain ⟨g, s', left, h, h1, h2⟩ := H.body G s.test.1 f lp x.a lo tw e1 (tr e1) (wb_known tk _ _ _ hsub.1) (hf.mono tk) hlp hlI
    exact tot_of (g := g + 1) (by rw [x_if _ _ _ _ _ k63, if_neg (by simp [e1]), if_pos e2]; exact h) h1 (fun t ht => h2 t (tk t ht))
   ·obtain ⟨g, s', left, h, h1, h2⟩ := H.body G s.test.1 f lp x.b lo tw e1 (tr e1) (wb_known tk _ _ _ hsub.2) (hf.mono tk) hlp hlI
    exact tot_of (g := g + 1) (by rw [x_if _ _ _ _ _ k63, if_neg (by simp [e1]), if_neg e2]; exact h) h1 (fun t ht => h2 t (tk t ht))
  ·exact tot_of (g := 1) (by rw [x_if _ _ _ _ _ k63, if_pos e1]) tw tk
 by_cases k117 : x.kind = 117
 ·have hsub : wb (knows s) G lo x.a := by
   rcases hx with ⟨h, h1, h2⟩ | ⟨h, h1, h2⟩ | ⟨h, h1, h2⟩
   ·rw [h1]; exact wb_nil _ _ _
   ·exact h1
   ·omega
  obtain ⟨g1, s1, left1, h1, w1, kk1⟩ := hB s f lp x.a lo hw he hr hsub hf hlp hlI
  by_cases e0 : left1 = true
  ·exact tot_of (g := g1 + 1) (by rw [x_until _ _ _ _ _ k117, h1]; dsimp only; rw [if_pos e0]) w1 kk1
  have e0' : left1 = false := by simpa using e0
  subst e0'
  have he1 := xBody_e _ _ _ _ _ _ he h1
  have hr1 : rem s1 ≤ N + 1 := Nat.le_trans (rem_le h1) hr
  obtain ⟨tw1, tk1, tr1⟩ := test_next w1 he1 hr1
  by_cases e1 : s1.test.1.e = 0
  ·by_cases e2 : s1.test.2 = true
   ·exact tot_of (g := g1 + 1) (by rw [x_until _ _ _ _ _ k117, h1]; dsimp only; rw [if_neg (by simp), if_neg (by simp [e1]), if_pos e2]) tw1 (fun t ht => tk1 t (kk1 t ht))
   ·obtain ⟨g2, s2, left2, h2, w2, kk2⟩ := H.item G s1.test.1 f lp x lo tw1 e1 (tr1 e1) (hx.mono (fun t ht => tk1 t (kk1 t ht)) (fun lo l => wb_known (fun t ht => tk1 t (kk1 t ht)) G lo l)) (hf.mono (fun t ht => tk1 t (kk1 t ht))) hlp hlI
    have h1' := xRun_mono (g' := g1 + g2) (by omega) h1
    have h2' := xRun_mono (g' := g1 + g2) (by omega) h2
    exact tot_of (g := g1 + g2 + 1) (by rw [x_until _ _ _ _ _ k117, h1']; dsimp only; rw [if_neg (by simp), if_neg (by simp [e1]), if_neg e2]; exact h2') w2 (fun t ht => kk2 t (tk1 t (kk1 t ht)))
  ·exact tot_of (g := g1 + 1) (by rw [x_until _ _ _ _ _ k117, h1]; dsimp only; rw [if_neg (by simp), if_pos e1]) tw1 (fun t ht => tk1 t (kk1 t ht))
 by_cases k119 : x.kind = 119
 ·have hsub : wb (knows s) G lo x.a ∧ wb (knows s) G lo x.b := by
   rcases hx with ⟨h, h1, h2⟩ | ⟨h, h1, h2⟩ | ⟨h, h1, h2⟩
   ·rw [h1, h2]; exact ⟨wb_nil _ _ _, wb_nil _ _ _⟩
   ·exact ⟨h1, h2⟩
   ·omega
  obtain ⟨g1, s1, left1, h1, w1, kk1⟩ := hB s f lp x.a lo hw he hr hsub.1 hf hlp hlI
  by_cases e0 : left1 = true
  ·exact tot_of (g := g1 + 1) (by rw [x_while _ _ _ _ _ k119, h1]; dsimp only; rw [if_pos e0]) w1 kk1
  have e0' : left1 = false := by simpa using e0
  subst e0'
  have he1 := xBody_e _ _ _ _ _ _ he h1
  have hr1 : rem s1 ≤ N + 1 := Nat.le_trans (rem_le h1) hr
  obtain ⟨tw1, tk1, tr1⟩ := test_next w1 he1 hr1
  by_cases e1 : s1.test.1.e = 0
  ·by_cases e2 : s1.test.2 = false
   ·exact tot_of (g := g1 + 1) (by rw [x_while _ _ _ _ _ k119, h1]; dsimp only; rw [if_neg (by simp), if_neg (by simp [e1]), if_pos e2]) tw1 (fun t ht => tk1 t (kk1 t ht))
   ·have kk1t : ∀ t, knows s t → knows s1.test.1 t := fun t ht => tk1 t (kk1 t ht)
    obtain ⟨g2, s2, left2, h2, w2, kk2⟩ := H.body G s1.test.1 f lp x.b lo tw1 e1 (tr1 e1) (wb_known kk1t _ _ _ hsub.2) (hf.mono kk1t) hlp hlI
    have h1' := xRun_mono (g' := g1 + g2) (by omega) h1
    have h2' := xRun_mono (g' := g1 + g2) (by omega) h2
    by_cases e3 : left2 = true
    ·exact tot_of (g := g1 + g2 + 1) (by rw [x_while _ _ _ _ _ k119, h1']; dsimp only; rw [if_neg (by simp), if_neg (by simp [e1]), if_neg e2, h2']; dsimp only; rw [if_pos e3]) w2 (fun t ht => kk2 t (kk1t t ht))
    have e3' : left2 = false := by simpa using e3
    subst e3'
    have he2 := xBody_e _ _ _ _ _ _ e1 h2
    have kk2t : ∀ t, knows s t → knows s2 t := fun t ht => kk2 t (kk1t t ht)
    obtain ⟨g3, s3, left3, h3, w3, kk3⟩ := H.item G s2 f lp x lo w2 he2 (Nat.le_trans (rem_le h2) (tr1 e1)) (hx.mono kk2t (fun lo l => wb_known kk2t G lo l)) (hf.mono kk2t) hlp hlI
    have h1'' := xRun_mono (g' := g1 + g2 + g3) (by omega) h1
    have h2'' := xRun_mono (g' := g1 + g2 + g3) (by omega) h2
    have h3'' := xRun_mono (g' := g1 + g2 + g3) (by omega) h3
    exact tot_of (g := g1 + g2 + g3 + 1) (by rw [x_while _ _ _ _ _ k119, h1'']; dsimp only; rw [if_neg (by simp), if_neg (by simp [e1]), if_neg e2, h2'']; dsimp only; rw [if_neg (by simp)]; exact h3'') w3 (fun t ht => kk3 t (kk2t t ht))
  ·exact tot_of (g := g1 + 1) (by rw [x_while _ _ _ _ _ k119, h1]; dsimp only; rw [if_neg (by simp), if_pos e1]) tw1 (fun t ht => tk1 t (kk1 t ht))
 by_cases e1 : s.step.e = 0
 ·obtain ⟨srr, s20⟩ := sr e1
  have goal : ∀ g r, xOne g f lp x s.step = some r → xRun (g + 1) (jItem f lp x) s = some r := fun g r h => by rw [x_one _ _ _ _ _ k63 k117 k119, if_neg (by simp [e1])]; exact h
  rcases hx with ⟨h, h1, h2⟩ | ⟨h, h1, h2⟩ | ⟨h, h1, h2⟩
  ·rcases h with h | h | h | h | h | h | h
   ·have hn := sw.same (s' := s.step.put x.n) (sw.g.put h.2) (put_defs _ _)
    exact tot_of (goal 0 _ (by unfold xOne; rw [if_pos h.1])) hn.1 (fun t ht => hn.2 t (sk t ht))
   ·obtain ⟨g, s2, l2, hx2, w2, kk2⟩ := H.enter s.step f sw e1 srr (hf.mono sk)
    exact tot_of (goal g _ (by unfold xOne; rw [if_neg (by omega), if_neg (by omega), if_neg (by omega), if_neg (by omega), if_pos h, hx2])) w2 (fun t ht => kk2 t (sk t ht))
   ·exact tot_of (goal 0 _ (by unfold xOne; rw [if_neg (by omega), if_neg (by omega), if_neg (by omega), if_pos h])) sw sk
   ·by_cases hd : 20 ≤ s.step.depth
    ·have hn := sw.same (s' := s.step.err 8) (sw.g.err (by decide)) rfl
     exact tot_of (goal 0 _ (by unfold xOne; rw [if_neg (by omega), if_neg (by omega), if_neg (by omega), if_neg (by omega), if_neg (by omega), if_neg (by omega), if_pos h.1, if_pos hd])) hn.1 (fun t ht => hn.2 t (sk t ht))
    ·have hn := sw.same (s' := { s.step with depth := s.step.depth + 1 }) (sw.g.dep (by have := sw.g.d0; omega) (by omega)) rfl
     obtain ⟨g, s2, l2, hx2, w2, kk2⟩ := H.toks { s.step with depth := s.step.depth + 1 } x.toks hn.1 (fun _ => srr) h.2
     have hdp := (xRun_keep _ _ _ _ _ hx2).1
     have hn2 := w2.same (s' := { s2 with depth := s2.depth - 1 }) (w2.g.dep (by have := sw.g.d0; dsimp only at hdp; omega) (by have := w2.g.d1; omega)) rfl
     exact tot_of (goal g _ (by unfold xOne; rw [if_neg (by omega), if_neg (by omega), if_neg (by omega), if_neg (by omega), if_neg (by omega), if_neg (by omega), if_pos h.1, if_neg hd, hx2])) hn2.1 (fun t ht => hn2.2 t (kk2 t (hn.2 t (sk t ht))))
   ·obtain ⟨hk, hp⟩ := h
    cases hq : plainL.findIdx? (· == x.name) with
    | none => rw [hq] at hp; cases hp
    | some k =>
     have hn := sw.same (s' := s.step.word k) (sw.g.word e1 k) rfl
     exact tot_of (goal 0 _ (by unfold xOne; rw [if_neg (by omega), if_pos hk, hq])) hn.1 (fun t ht => hn.2 t (sk t ht))
   ·obtain ⟨hk, hp⟩ := h
    obtain ⟨g, s2, l2, hx2, w2, kk2⟩ := H.call s.step x.name sw e1 srr (sk _ hp)
    exact tot_of (goal g _ (by unfold xOne; rw [if_neg (by omega), if_neg (by omega), if_neg (by omega), if_neg (by omega), if_neg (by omega), if_pos hk, hx2])) w2 (fun t ht => kk2 t (sk t ht))
   ·obtain ⟨hk, hp⟩ := h
    cases lp with
    | nil => exact absurd rfl (hlp hp)
    | cons i r =>
     have hn := sw.same (s' := s.step.put i) (sw.g.put (hlI i (by simp))) (put_defs _ _)
     exact tot_of (goal 0 _ (by unfold xOne; rw [if_neg (by omega), if_neg (by omega), if_pos hk])) hn.1 (fun t ht => hn.2 t (sk t ht))
  ·omega
  ·have hun : ∀ g, xOne g f lp x s.step = xLoop g f lp x.a s.step := fun g => by
    unfold xOne xLoop; rw [if_neg (by omega), if_neg (by omega), if_neg (by omega), if_neg (by omega), if_neg (by omega), if_neg (by omega), if_neg (by omega), if_pos h]; rfl
   cases hrs : s.step.rs with
   | nil =>
    have hn := sw.same (s' := s.step.err 6) (sw.g.err (by decide)) rfl
    exact tot_of (goal 0 _ (by rw [hun]; unfold xLoop; rw [hrs])) hn.1 (fun t ht => hn.2 t (sk t ht))
   | cons b r =>
    cases r with
    | nil =>
     have hn := sw.same (s' := s.step.err 6) (sw.g.err (by decide)) rfl
     exact tot_of (goal 0 _ (by rw [hun]; unfold xLoop; rw [hrs])) hn.1 (fun t ht => hn.2 t (sk t ht))
    | cons m r =>
     have hn := sw.same (s' := { s.step with rs := r }) (sw.g.tail (fun x hx => by rw [hrs]; simp [hx]) (by rw [hrs]; simp; omega)) rfl
     obtain ⟨g, s2, l2, hx2, w2, kk2⟩ := H.do_ G { s.step with rs := r } f lp b m x.a hn.1 e1 srr (wb_known (fun t ht => hn.2 t (sk t ht)) _ _ _ h1) (hf.mono (fun t ht => hn.2 t (sk t ht))) hlI (sw.g.g.ins b (by rw [hrs]; simp)) (sw.g.g.ins m (by rw [hrs]; simp))
     exact tot_of (goal g _ (by rw [hun]; unfold xLoop; rw [hrs]; exact hx2)) w2 (fun t ht => kk2 t (hn.2 t (sk t ht)))
 ·exact tot_of (g := 1) (by rw [x_one _ _ _ _ _ k63 k117 k119, if_pos e1]) sw sk
theorem body_tot {N : Nat} (H : TotN N) : ∀ (G : Nat) (s : St) (f : Fr) (lp : List Int) (l : List It) (lo : Bool), WFs s → s.e = 0 → rem s ≤ N + 1 → wb (knows s) G lo l → wbF s f → (lo = true → lp ≠ []) → (∀ n ∈ lp, In n) → Tot (jBody f lp l) s := by
 intro G
 induction G with
 | zero =>
  intro s f lp l lo hw he hr hl hf hlp hlI
  have hl : l = [] := hl
  subst hl
  exact tot_of (x_nil 0 f lp s) hw (fun _ h => h)
 | succ G ih =>
  intro s f lp l
  induction l generalizing s with
  | nil => intro lo hw he hr hl hf hlp hlI; exact tot_of (x_nil 0 f lp s) hw (fun _ h => h)
  | cons x l ihl =>
   intro lo hw he hr hl hf hlp hlI
   obtain ⟨g1, s1, left1, h1, w1, kk1⟩ := item_tot H G ih s f lp x lo hw he hr (hl x (by simp)) hf hlp hlI
   by_cases hc : left1 = true ∨ s1.e ≠ 0
   ·exact tot_of (g := g1 + 1) (by rw [x_cons, h1]; dsimp only; rw [if_pos hc]) w1 kk1
   ·have he1 : s1.e = 0 := by
     by_cases h : s1.e = 0
     ·exact h
     ·exact absurd (.inr h) hc
    obtain ⟨g2, s2, left2, h2, w2, kk2⟩ := ihl s1 lo w1 he1 (Nat.le_trans (rem_le h1) hr) (wb_known kk1 _ _ _ (fun y hy => hl y (by simp [hy]))) (hf.mono kk1) hlp hlI
    have h1' := xRun_mono (g' := g1 + g2) (by omega) h1
    have h2' := xRun_mono (g' := g1 + g2) (by omega) h2
    exact tot_of (g := g1 + g2 + 1) (by rw [x_cons, h1']; dsimp only; rw [if_neg hc]; exact h2') w2 (fun t ht => kk2 t (kk1 t ht))
end
section
open Go.RowKit
def WordsR (D : Nat → Prop) (w : World) (bk mb : Nat) (defs : List Def) : Prop :=
 ∃ (obs : List Nat) (DD : DataW Value), obs.length = defs.length ∧ w.ownsMap Tryz.prog 9 heldR mb defs.length DD ∧ (Maps.size DD = defs.length ∧ ∀ t : Tok, t.length ≤ maxLen → Maps.has DD (.string t) = (defs.findIdx? (fun d => d.name == t)).isSome) ∧ defs.length ≤ 30 ∧
  (∀ t : Tok, t.length ≤ maxLen → DD.atKey (.string t) (.held (.pointer none)) = .held (.pointer ((defs.findIdx? (fun d => d.name == t)).map (fun k => (⟨obs.getD k 0, 0, none⟩ : Addr))))) ∧
  ∀ k (h : k < defs.length), WordR (BD D w) bk (obs.getD k 0) defs[k].body
theorem WordsR.known {D : Nat → Prop} {w : World} {bk mb : Nat} {s : St} (h : WordsR D w bk mb s.defs) (hb : Blk w bk 106 #[.map (some mb)]) : BookK w bk mb s.known := by
 obtain ⟨obs, DD, _, hm, _, _, hl, _⟩ := h
 refine ⟨hb, _, DD, hm, fun t ht => ⟨_, hl t ht, ?_⟩⟩
 unfold St.known St.find
 cases s.defs.findIdx? (fun d => d.name == t) <;> rfl
theorem WordsR.keep {D D' : Nat → Prop} {w w' : World} {bk mb : Nat} {defs : List Def} (h : WordsR D w bk mb defs) (hk : ∀ b t c, BD D w b t c → BD D' w' b t c) (hm : w'.heap[mb]? = w.heap[mb]?) : WordsR D' w' bk mb defs := by
 obtain ⟨obs, DD, h1, h2, h3, h30, h4, h5⟩ := h
 exact ⟨obs, DD, h1, ownsMap_same h2 hm, h3, h30, h4, fun k hk' => (h5 k hk').mono hk⟩
theorem WordsR.ltm {D : Nat → Prop} {w : World} {bk mb : Nat} {defs : List Def} (h : WordsR D w bk mb defs) : mb < w.heap.size := by
 obtain ⟨_, _, _, h2, _⟩ := h; exact h2.lt
theorem WordsR.ne {D : Nat → Prop} {w : World} {bk mb : Nat} {defs : List Def} (h : WordsR D w bk mb defs) {b : Nat} {t : TypeId} {c : Array Value} (hb : Blk w b t c) : mb ≠ b := by
 obtain ⟨_, _, _, h2, _⟩ := h; exact map_ne h2 hb
structure PR (B : Nat) (W w : World) (xb rb mb : Nat) (m : MS) (D : Nat → Prop) (s : St) : Prop where
 inv : ∃ ns, MInv w xb rb m ns ∧ (s.e = 0 → ns = s.rs.reverse)
 mem : m.mem = s.mem
 out : m.out = s.out
 st0 : 0 ≤ m.st
 st1 : m.st ≤ 2000
 st : s.e = 0 → m.st = s.steps
 dp : m.dp = s.depth
 safe : Safe B W w xb rb m
 bmb : B ≤ mb
 book : Blk w m.bk 106 #[.map (some mb)]
 words : WordsR D w m.bk mb s.defs
 sep : ∀ k, D k → k < w.heap.size ∧ k ≠ xb ∧ k ≠ rb ∧ ¬ own m.sv k ∧ ¬ own m.ov k
 good : SGood s
structure PTo (xb rb mb : Nat) (w w' : World) (m m' : MS) (D D' : Nat → Prop) : Prop where
 wt : To (fun k => (k = xb ∨ k = rb) ∨ k = mb) w w' (fun k => own m.sv k ∨ own m.ov k) (fun k => own m'.sv k ∨ own m'.ov k)
 up : ∀ k, D k → D' k
 nw : ∀ k, D' k → D k ∨ w.heap.size ≤ k
 bk : m'.bk = m.bk
theorem PTo.refl (xb rb mb : Nat) (w : World) (m : MS) (D : Nat → Prop) : PTo xb rb mb w w m m D D := ⟨To.refl _ _ _, fun _ h => h, fun _ h => .inl h, rfl⟩
theorem PTo.trans {xb rb mb : Nat} {w w1 w2 : World} {m m1 m2 : MS} {D D1 D2 : Nat → Prop} (h : PTo xb rb mb w w1 m m1 D D1) (g : PTo xb rb mb w1 w2 m1 m2 D1 D2) : PTo xb rb mb w w2 m m2 D D2 := by
 refine ⟨h.wt.trans g.wt, fun k hk => g.up k (h.up k hk), fun k hk => ?_, g.bk.trans h.bk⟩
 rcases g.nw k hk with h1 | h1
 ·exact h.nw k h1
 ·exact .inr (Nat.le_trans h.wt.kp.size h1)
theorem PTo.of {xb rb mb : Nat} {w w' : World} {m m' : MS} (h : MTo xb rb w w' m m') (hb : m'.bk = m.bk) (D : Nat → Prop) : PTo xb rb mb w w' m m' D D :=
 ⟨⟨(To.kp h).mono (fun k _ hk => by rcases hk with e | e; exact .inl (.inl e); exact .inr e), To.nx h⟩, fun _ h => h, fun _ h => .inl h, hb⟩
theorem PR.keepD {B : Nat} {W w w' : World} {xb rb mb : Nat} {m m' : MS} {D D' : Nat → Prop} {s : St} (h : PR B W w xb rb mb m D s) (ht : PTo xb rb mb w w' m m' D D') : ∀ b t c, BD D w b t c → BD D' w' b t c := by
 intro b t c hb
 obtain ⟨_, h1, h2, h3, h4⟩ := h.sep b hb.1
 refine ⟨ht.up b hb.1, ht.wt.kp.blk hb.2 ?_⟩
 rintro (((e | e) | e) | (e | e))
 ·exact h1 e
 ·exact h2 e
 ·exact h.words.ne hb.2 e.symm
 ·exact h3 e
 ·exact h4 e
theorem PR.turn {B : Nat} {W w w' : World} {xb rb mb : Nat} {m m' : MS} {D : Nat → Prop} {s s' : St} (h : PR B W w xb rb mb m D s) (hto : MTo xb rb w w' m m') (hb : m'.bk = m.bk) (hi : ∃ ns, MInv w' xb rb m' ns ∧ (s'.e = 0 → ns = s'.rs.reverse))
  (hm : m'.mem = s'.mem) (ho : m'.out = s'.out) (h0 : 0 ≤ m'.st) (h1 : m'.st ≤ 2000) (hst : s'.e = 0 → m'.st = s'.steps) (hdp : m'.dp = s'.depth) (hd : s'.defs = s.defs) (hg : SGood s') : PR B W w' xb rb mb m' D s' ∧ PTo xb rb mb w w' m m' D D := by
 have hP : PTo xb rb mb w w' m m' D D := PTo.of hto hb D
 have hkp := To.kp hto
 obtain ⟨ns, hi0, _⟩ := h.inv
 have nb : ∀ b t c, Blk w b t c → t ≠ 80 → t ≠ 100 → t ≠ 2 → t ≠ 5 → ¬ ((b = xb ∨ b = rb) ∨ (own m.sv b ∨ own m.ov b)) := by
  intro b t c hbb t1 t2 t3 t4
  rintro ((e | e) | (e | e))
  ·subst e; exact t1 (hbb.inj hi0.xblk).1
  ·subst e; exact t2 (hbb.inj hi0.rblk).1
  ·exact t3 (row_type hi0.srow e hbb)
  ·exact t4 (row_type hi0.orow e hbb)
 have hnm : ¬ ((mb = xb ∨ mb = rb) ∨ (own m.sv mb ∨ own m.ov mb)) := by
  rintro ((e | e) | (e | e))
  ·exact h.words.ne hi0.xblk e
  ·exact h.words.ne hi0.rblk e
  ·obtain ⟨c, hc⟩ := row_blk hi0.srow e; exact h.words.ne hc rfl
  ·obtain ⟨c, hc⟩ := row_blk hi0.orow e; exact h.words.ne hc rfl
 refine ⟨⟨hi, hm, ho, h0, h1, hst, hdp, h.safe.to hto, h.bmb, ?_, ?_, fun k hk => ?_, hg⟩, hP⟩
 ·rw [hb]; exact hkp.blk h.book (nb _ _ _ h.book (by decide) (by decide) (by decide) (by decide))
 ·rw [hb, hd]; exact h.words.keep (h.keepD hP) (hkp.block mb h.words.ltm hnm)
 ·obtain ⟨e0, e1, e2, e3, e4⟩ := h.sep k hk
  refine ⟨Nat.lt_of_lt_of_le e0 hkp.size, e1, e2, fun e => ?_, fun e => ?_⟩
  ·rcases To.nx hto k (.inl e) with (h2 | h2) | h2
   ·exact e3 h2
   ·exact e4 h2
   ·omega
  ·rcases To.nx hto k (.inr e) with (h2 | h2) | h2
   ·exact e3 h2
   ·exact e4 h2
   ·omega
theorem PR.kp {B : Nat} {W w w' : World} {xb rb mb : Nat} {m : MS} {D : Nat → Prop} {s : St} (h : PR B W w xb rb mb m D s) (hk : Kp w w' (fun _ => False)) : PR B W w' xb rb mb m D s ∧ PTo xb rb mb w w' m m D D := by
 obtain ⟨ns, hi, hn⟩ := h.inv
 exact h.turn (MTo.kp hk) rfl ⟨ns, hi.kp hk, hn⟩ h.mem h.out h.st0 h.st1 h.st h.dp rfl h.good
end
end Go.Proofs.YtldifaahmpecfaaGreatDoor
