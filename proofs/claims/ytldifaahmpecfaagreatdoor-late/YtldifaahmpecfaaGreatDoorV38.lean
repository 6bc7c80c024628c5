import Derived.Test.YtldifaahmpecfaaGreatDoorV37
import Derived.Test.YtldifaahmpecfaaGreatDoorV6
import Derived.Laws.BytesArg
import Derived.Test.YtldifaahmpecfaaGreatDoorV29
namespace Go.Proofs.YtldifaahmpecfaaGreatDoor
set_option maxRecDepth 1000000
set_option maxHeartbeats 4000000
set_option linter.all false
section
open Go.RowKit
structure TAt (B : Nat) (W : World) (g xb rb mb : Nat) (w wr : World) (m : MS) (D : Nat → Prop) (s' : St) (left : Bool) (v : Value) (k : Int) (g' : Nat) : Prop where
 ex : ∃ m1 D1 s1 ws1 a n p, v = .slice a n p ∧ k = s1.e ∧ g' ≤ g ∧ PR B W wr xb rb mb m1 D1 s1 ∧ PTo xb rb mb w wr m m1 D D1 ∧ (s1.e ≠ 0 → s' = s1) ∧ (s1.e = 0 → n = ws1.length ∧ TokAt (Blk wr) v ws1 ∧ (∀ t ∈ ws1, okW t) ∧ ws1.length ≤ 1000 ∧ xRun g' (jToks (texts ws1)) s1 = some (s', left))
theorem runX {B : Nat} {W : World} (hE : Env B W) (g : Nat) (hW : ∀ g', g' < g → QW B W g') : QT B W g := by
 intro w xb rb mb m D s s' v ws left hr he ht ho hl hx
 obtain ⟨ao, cap, rfl⟩ := ht.form
 have h0 : Hid (TAt B W g xb rb mb w w m D s' left (.slice ao ws.length cap) 0 g) := ⟨⟨m, D, s, ws, ao, ws.length, cap, rfl, he.symm, Nat.le_refl _, hr, PTo.refl _ _ _ _ _ _, fun e => absurd he e, fun _ => ⟨rfl, ht, ho, hl, hx⟩⟩⟩
 have HW := hide hW
 have HE := hide hE
 clear hr he ht ho hx hW hE
 go_enter Tryz.func39, Tryz.ntmps39
 go_wp2
 go_loopw [2, 7] (fun v k wr => ∃ kk g', k = .int .i64 kk ∧ TAt B W g xb rb mb w wr m D s' left v kk g') (fun _ k wr => if intOf k = 0 then 1 + (2002 - stOf wr rb).toNat else 0)
 case atStart => exact ⟨0, g, rfl, h0.out⟩
 case round =>
  obtain ⟨kk, g', rfl, ⟨m1, D1, s1, ws1, a, n, p, rfl, rfl, hg, hr, hto, hbad, hgo⟩⟩ := hrel
  by_cases he : s1.e = 0
  ·obtain ⟨rfl, hT, hok, hlen, hx⟩ := hgo he
   have hso := hr.stOf he
   have hs2 := hr.good.s2 he
   cases ws1 with
   | nil =>
    have hss : s' = s1 := by
     cases g' with
     | zero => cases hx
     | succ g' => injection hx with hx; injection hx with e1 e2; exact e1.symm
    subst hss
    have HR := hide hr
    have HT := hide hto
    clear hr hto hx hbad hgo hso
    rw [he]
    go_wp2
    go_ret
    exact ⟨by rw [he]; rfl, m1, D1, HR.out, HT.out⟩
   | cons t ws1 =>
    cases g' with
    | zero => cases hx
    | succ g' =>
     have hbk := hto.bk
     have HC := hide (rfX HE.out g' (fun g2 h2 => HW.out g2 (by omega)) hr he t ws1 _ hT hok hlen s' left hx)
     rw [hbk] at HC
     have HTo := hide hto
     have H1 := hide hso
     have H2 := hide hs2
     have HE1 := hide he
     have hll : (0 : Int) < ((t :: ws1).length : Int) := by simp
     rw [he]
     generalize (t :: ws1).length = nn at *
     clear hr hto hx hbad hgo hso hs2 hT he hbk
     go_wp2_with fail
     refine HC.out.mono ?_
     rintro e w1 ⟨rv, k, rfl, s2, ws2, a2, n2, p2, rfl, rfl, hp, hst, hb2, hg2⟩
     obtain ⟨m2, D2, hr2, ht2⟩ := hp
     have HR2 := hide hr2
     have HT2 := hide (HTo.out.trans ht2)
     have HST := hide hst
     have HB2 := hide hb2
     have HG2 := hide hg2
     clear hr2 ht2 hst hb2 hg2
     go_wp2
     refine ⟨⟨s2.e, g', rfl, ⟨m2, D2, s2, ws2, a2, n2, p2, rfl, rfl, by omega, HR2.out, HT2.out, HB2.out, fun e => ?_⟩⟩, ?_⟩
     ·obtain ⟨q1, q2, q3, q4⟩ := HG2.out e
      obtain ⟨ao, cp, he3⟩ := q1.form
      injection he3 with e1 e2 e3
      exact ⟨e2, q1, q2, q3, q4⟩
     ·rw [if_pos (show intOf (.int .i64 0) = 0 from rfl), H1.out]
      by_cases e : s2.e = 0
      ·rw [if_pos (show intOf (.int .i64 s2.e) = 0 from e), HR2.out.stOf e]
       have q1 := HST.out e
       have q2 := H2.out
       omega
      ·rw [if_neg (show ¬ intOf (.int .i64 s2.e) = 0 from e)]; omega
  ·have hss := hbad he
   subst hss
   have HR := hide hr
   have HT := hide hto
   have h1 : (s'.e == 0) = false := by simpa using he
   clear hr hto hbad hgo he
   go_wp2
   go_ret
   exact ⟨rfl, m1, D1, HR.out, HT.out⟩
end
section
open Go.RowKit
theorem allX {B : Nat} {W : World} (hE : Env B W) : ∀ g, QB B W g ∧ QI B W g ∧ QW B W g ∧ QT B W g := by
 intro g
 induction g using Nat.strongRecOn with
 | ind g ih =>
  have hI : QI B W g := itemX hE g (fun g' h => (ih g' h).1) (fun g' h => (ih g' h).2.2.1) (fun g' h => (ih g' h).2.2.2)
  have hB : QB B W g := runAllX g (fun g' h => (ih g' h).2.1)
  exact ⟨hB, hI, wordRunX g hB, runX hE g (fun g' h => (ih g' h).2.2.1)⟩
end
section
open Go.RowKit
structure PSn (B : Nat) (W w : World) (xb bk mb : Nat) (sv : Value) (D : Nat → Prop) (V : Nat → Prop) (s : St) : Prop where
 xblk : Blk w xb 80 (marr bk sv s.mem)
 srow : w.ownsRow 0 2 1 sv s.rs.reverse.length (ints s.rs.reverse)
 len : s.rs.length ≤ 32
 bel : Below B W w
 bx : B ≤ xb
 bv : ∀ k, own sv k → B ≤ k
 bs : B ≤ w.heap.size
 bmb : B ≤ mb
 book : Blk w bk 106 #[.map (some mb)]
 words : WordsR D w bk mb s.defs
 sep : ∀ k, D k → k < w.heap.size ∧ k ≠ xb ∧ ¬ own sv k
 vs : ∀ k, V k ↔ k = xb ∨ k = bk ∨ k = mb ∨ own sv k ∨ D k
def PSes (B : Nat) (W w : World) (xb : Nat) (V : Nat → Prop) (s : St) : Prop := ∃ bk mb sv D, PSn B W w xb bk mb sv D V s
section
variable {B : Nat} {W w w' : World} {xb bk mb : Nat} {sv : Value} {D V : Nat → Prop} {s : St}
theorem PSn.lt (h : PSn B W w xb bk mb sv D V s) : ∀ k, V k → k < w.heap.size := by
 intro k hk
 rcases (h.vs k).1 hk with rfl | rfl | rfl | e | e
 ·exact h.xblk.lt
 ·exact h.book.lt
 ·exact h.words.ltm
 ·exact own_lt h.srow e
 ·exact (h.sep k e).1
theorem PSn.frame {S : Nat → Prop} (h : PSn B W w xb bk mb sv D V s) (hk : Kp w w' S) (hV : ∀ k, V k → ¬ S k) (hB : ∀ k, k < B → ¬ S k) : PSn B W w' xb bk mb sv D V s := by
 have hv : ∀ k, (k = xb ∨ k = bk ∨ k = mb ∨ own sv k ∨ D k) → ¬ S k := fun k e => hV k ((h.vs k).2 e)
 refine ⟨hk.blk h.xblk (hv _ (.inl rfl)), hk.row h.srow (fun k e => hv k (.inr (.inr (.inr (.inl e))))), h.len, h.bel.trans (hk.below h.bs hB), h.bx, h.bv, Nat.le_trans h.bs hk.size, h.bmb, hk.blk h.book (hv _ (.inr (.inl rfl))), h.words.keep (BD_keep hk (fun b _ e => ⟨e, hv b (.inr (.inr (.inr (.inr e))))⟩)) (hk.block mb h.words.ltm (hv _ (.inr (.inr (.inl rfl))))), fun k e => ?_, h.vs⟩
 obtain ⟨e0, e1⟩ := h.sep k e
 exact ⟨Nat.lt_of_lt_of_le e0 hk.size, e1⟩
theorem PSn.kp (h : PSn B W w xb bk mb sv D V s) (hk : Kp w w' (fun _ => False)) : PSn B W w' xb bk mb sv D V s := h.frame hk (fun _ _ e => e) (fun _ _ e => e)
theorem PSn.to (h : PSn B W w xb bk mb sv D V s) (hk : Kp w w' (fun _ => False)) : ∃ V', PSes B W w' xb V' s ∧ To (fun _ => False) w w' V V' :=
 ⟨V, ⟨bk, mb, sv, D, h.kp hk⟩, ⟨hk.mono (fun _ _ e => e.elim), fun _ e => .inl e⟩⟩
theorem cellM (w : World) (xb bk : Nat) (sv : Value) (mem : Nat → Int) (h : Blk w xb 80 (marr bk sv mem)) (n : Int) :
  Calls Tryz.prog 51 #[pt xb, .int .i64 n] w fun e w' => e = .returned (.tuple #[.int .i64 (if n < 0 ∨ 16 ≤ n then ((0 : Int), (10 : Int)) else (mem n.toNat, 0)).1, .int .i64 (if n < 0 ∨ 16 ≤ n then ((0 : Int), (10 : Int)) else (mem n.toNat, 0)).2]) ∧ Kp w w' (fun _ => False) := by
 by_cases hc : n < 0 ∨ 16 ≤ n
 ·rw [if_pos hc]
  have HI := hide (isCellM n w)
  rw [decide_eq_false (by omega)] at HI
  clear hc
  go_enter Tryz.func51, Tryz.ntmps51
  go_wp2_with fail
  refine HI.out.mono ?_
  rintro e w1 ⟨rfl, rfl⟩
  go_wp2
  go_ret2
  exact ⟨rfl, Kp.refl _ _⟩
 ·rw [if_neg hc]
  have HI := hide (isCellM n w)
  rw [decide_eq_true (by omega)] at HI
  have c1 : w.cell? ⟨xb, 1 + n.toNat, none⟩ = some (.int .i64 (mem n.toNat)) := h.cell (marr_at _ _ _ _ (by omega))
  have h0 : 0 ≤ n := by omega
  have h1 : n < 16 := by omega
  clear hc
  go_enter Tryz.func51, Tryz.ntmps51
  go_wp2_with fail
  refine HI.out.mono ?_
  rintro e w1 ⟨rfl, rfl⟩
  go_wp2
  go_ret2
  exact ⟨rfl, Kp.refl _ _⟩
end
end
section
open Go.RowKit
theorem fields_ne : ∀ (l cur : List UInt8), ∀ x ∈ Lib.fieldsGo cur l, x ≠ []
 | [], cur, x, hx => by
  unfold Lib.fieldsGo at hx
  split at hx
  ·simp at hx
  ·rename_i h; simp at hx; subst hx; simpa using h
 | b :: l, cur, x, hx => by
  unfold Lib.fieldsGo at hx
  split at hx
  ·split at hx
   ·exact fields_ne l [] x hx
   ·rename_i h
    rcases List.mem_cons.1 hx with h1 | h1
    ·subst h1; simpa using h
    ·exact fields_ne l [] x h1
  ·exact fields_ne l _ x hx
theorem fields_size : ∀ (l cur : List UInt8), ∀ x ∈ Lib.fieldsGo cur l, x.length ≤ cur.length + l.length
 | [], cur, x, hx => by
  unfold Lib.fieldsGo at hx
  split at hx
  ·simp at hx
  ·simp at hx; subst hx; omega
 | b :: l, cur, x, hx => by
  unfold Lib.fieldsGo at hx
  split at hx
  ·split at hx
   ·have := fields_size l [] x hx; simp at this ⊢; omega
   ·rcases List.mem_cons.1 hx with h1 | h1
    ·subst h1; omega
    ·have := fields_size l [] x h1; simp at this ⊢; omega
  ·have := fields_size l _ x hx; simp at this ⊢; omega
theorem validM (s : ByteArray) (w : World) :
  Calls Tryz.prog 37 #[.string s] w fun e w' => e = .returned (.bool (validB s.data.toList)) ∧ w' = w := by
 by_cases hs : s.size ≤ 400
 ·go_enter Tryz.func37, Tryz.ntmps37
  go_wp2
  go_loop [9] (fun i => ∃ k : Nat, k ≤ s.size ∧ i = .int .i64 k ∧ (s.data.toList.take k).all okB = true) (fun i => s.size - (intOf i).toNat)
  case atStart => exact ⟨0, Nat.zero_le _, rfl, rfl⟩
  case round =>
   obtain ⟨k, hk, rfl, hall⟩ := hrel
   have HA := hide hall
   clear hall
   by_cases hlt : k < s.size
   ·by_cases hok : 32 ≤ s[k].toNat ∧ s[k].toNat ≤ 126
    ·obtain ⟨ho1, ho2⟩ := hok
     go_wp2
     go_round
     case rel => exact ⟨k + 1, by omega, by go_num, all_snoc hlt HA.out ⟨ho1, ho2⟩⟩
     case measure => simp [intOf]; omega
    ·have HB := hide (validB_bad hlt hok)
     rcases (show s[k].toNat < 32 ∨ (32 ≤ s[k].toNat ∧ 126 < s[k].toNat) by omega) with h1 | ⟨h1, h2⟩
     all_goals
      clear hok
      go_wp2
      go_ret
      exact ⟨by rw [HB.out]; rfl, rfl⟩
   ·have HB : Hid (validB s.data.toList = true) := by
     have h1 := HA.out
     have : k = s.size := by omega
     rw [this] at h1; exact validB_of hs h1
    go_wp2
    go_ret
    exact ⟨by rw [HB.out]; rfl, rfl⟩
 ·have HB : Hid (validB s.data.toList = false) := by
   unfold Hid validB
   have : s.data.toList.length = s.size := rfl
   rw [this, decide_eq_false hs]; rfl
  go_enter Tryz.func37, Tryz.ntmps37
  go_wp2
  go_ret
  exact ⟨by rw [HB.out]; rfl, rfl⟩
theorem str_of (out : ByteArray) : strOfNums (out.data.toList.map fun b => (b.toNat : Int)) = out := by
 unfold strOfNums
 apply ByteArray.ext
 simp only [List.map_map]
 have : ((fun n : Int => UInt8.ofNat n.toNat) ∘ fun b : UInt8 => (b.toNat : Int)) = id := by
  funext b; simp
 rw [this]; simp
theorem conv_out {w : World} {v : Value} {out : ByteArray} (h : w.ownsRow 0 5 1 v out.size (Lib.byteCells out.data.toList)) : (convert 85 9 v).run Tryz.prog w = .ok (.string out) w := by
 rcases h.2 with ⟨rfl, h0⟩ | ⟨g, cap, cur, rfl, _, hg, hnc, _, hcs, htake⟩
 ·rw [run_convert_bytes_nil w 85 5 Tryz.underlying85 Tryz.underlying5 0 0 9 Tryz.underlying9]
  have : out = ByteArray.empty := by
   apply ByteArray.ext
   have : out.data.size = 0 := h0
   exact Array.eq_empty_of_size_eq_zero this
  rw [this]
 ·have := run_convert_bytes_arg w 85 5 Tryz.underlying85 Tryz.underlying5 g 0 out.size cap (out.data.toList.map fun b => (b.toNat : Int)) (by rw [List.length_map]; rfl) ?_ 9 Tryz.underlying9
  ·rw [this, str_of]
  ·intro i hi
   have hl : i < out.data.toList.length := hi
   have e : out.data.toList[i]? = some out.data.toList[i] := List.getElem?_eq_getElem hl
   have := h.cells (g := g) rfl i (.int .u8 ((out.data.toList[i]).toNat : Int)) (by rw [Lib.byteCells, List.getElem?_map, e]; rfl)
   rw [addr_add2] at this
   rw [Nat.zero_add, this, List.getD_eq_getElem?_getD, List.getElem?_map, e]
   rfl
theorem printedM (w : World) (xb rb : Nat) (m : MS) (ns : List Int) (h : MInv w xb rb m ns) :
  Calls Tryz.prog 42 #[.pointer (some ⟨rb, 0, none⟩)] w fun e w' => e = .returned (.string m.out) ∧ w' = w := by
 have k1 : w.cell? ⟨rb, 1, none⟩ = some m.ov := h.rblk.cell rfl
 have hc := conv_out h.orow
 obtain ⟨ao, cap, hv⟩ := form_of h.orow
 rw [hv] at k1 hc
 clear hv
 go_enter Tryz.func42, Tryz.ntmps42
 go_wp2
 go_ret
 exact ⟨rfl, rfl⟩
theorem ascii_of {l : List UInt8} (h : validB l = true) : ∀ (j : Nat) b, l[j]? = some b → b.toNat < 128 := by
 intro j b hb
 unfold validB at h
 rw [Bool.and_eq_true, List.all_eq_true] at h
 have := of_decide_eq_true (h.2 b (List.mem_of_getElem? hb))
 omega
end
section
open Go.RowKit
variable {K : Nat → Prop}
theorem loopX (g : Nat) (hB : ∀ g', g' < g → CB K g') : CL K g := by
 intro w yb fb rs s s' f lp lv x nm va vb vt left hr he hf hlp hat hx
 have HB := hide hB
 clear hB
 obtain ⟨ns, hi, hns⟩ := hr.inv
 have hg := hr.good
 have hns := hns he
 subst hns
 obtain ⟨i0, hti, hz0, hz1, hz2⟩ := info_parts Tryz.info3
 unfold xLoop at hx
 split at hx
 ·rename_i b m r hrs
  have HX := hide hx
  clear hx
  have hinb : In b := hg.g.ins b (by rw [hrs]; simp)
  have hinm : In m := hg.g.ins m (by rw [hrs]; simp)
  rw [hrs] at hi
  go_enter Tryz.func196, Tryz.ntmps196
  have hK0 : Kp w (w.alloc (.cells #[.int .u8 x.kind, .int .i64 x.n, .string nm, va, vb, vt] 212)) (fun _ => False) := (Kp.refl w _).alloc _
  have hr0 := hr.kpF hK0
  have hnk : nK K w.heap.size := fun h => Nat.lt_irrefl _ (hr.dr.old _ h)
  obtain ⟨hf0, hto0⟩ := hf.sto hr (STo.kpF (rs := rs) hK0)
  have hi0 := hi.kp hK0
  have hxb := Blk.new w #[.int .u8 x.kind, .int .i64 x.n, .string nm, va, vb, vt] 212
  have hba := hat.a.keep (Keeps.kpF hK0 (nK K))
  have hRS := hrs
  clear hr hf hi hK0 hat hrs
  go_wp2_with fail
  generalize hW0 : w.alloc (.cells #[.int .u8 x.kind, .int .i64 x.n, .string nm, va, vb, vt] 212) = w0 at hr0 hf0 hto0 hi0 hxb hba ⊢
  clear hW0
  refine (takeR2 _ _ _ _ _ _ hi0).mono ?_
  rintro e w1 ⟨gt, v', rfl, hT⟩
  have HN := hr0.turn (s' := { s with rs := r }) hT.to rfl ⟨_, hT.inv, fun _ => rfl⟩ hr0.e hr0.st hr0.mem hr0.out rfl rfl rfl rfl rfl ⟨⟨fun y hy => hg.g.ins y (by rw [hRS]; simp [hy]), hg.g.mems, by have := hg.g.len; rw [hRS] at this; simp only [List.length_cons] at this; show r.length ≤ 32; omega, hg.g.osz⟩, hg.s0, hg.s1, hg.s2, hg.d0, hg.d1, hg.b0, hg.b1, hg.cb⟩
  obtain ⟨hr1, hsto1⟩ := HN
  obtain ⟨hf1, hto1⟩ := hf0.sto hr0 hsto1
  have hgt : ¬ own lv gt := fun e => by have := own_lt hf0.row e; have := hT.new; omega
  have hkp1 : Keeps (nK K) (nK K) w0 w1 := Keeps.to hsto1 hr0.noB _
  have hxb1 := (hkp1 _ _ _ hnk hxb (.inl rfl)).1
  have HL : Hid (LoopAt K g yb fb gt w w1 rs s' f lp lv va x.a left b m b ∧ Blk w1 w.heap.size 212 #[.int .u8 x.kind, .int .i64 x.n, .string nm, va, vb, vt]) :=
   ⟨⟨⟨g, _, lv, _, Nat.le_refl _, hr1, he, hf1, hlp, hto0.trans hto1, HX.out, hT.blk, hT.apart, hgt⟩, hba.keep hkp1, hinb⟩, hxb1⟩
  have k0 := hT.blk.cell (o := 0) rfl
  clear hT hr0 hf0 hto0 hi0 hxb hba hr1 hsto1 hf1 hto1 hgt hkp1 hxb1 HX
  go_wp2
  clear k0
  go_loopw [9] (fun i wr => ∃ n : Int, i = .int .i64 n ∧ LoopAt K g yb fb gt w wr rs s' f lp lv va x.a left b m n ∧ Blk wr w.heap.size 212 #[.int .u8 x.kind, .int .i64 x.n, .string nm, va, vb, vt]) (fun i _ => (m - intOf i).toNat)
  case atStart => exact ⟨b, rfl, HL.out⟩
  case round =>
   clear HL
   obtain ⟨n, rfl, ⟨⟨g', rsk, lvk, sk, hg', hrel, hek, hfk, hlpk, hto, hx, hbt, hnv, hlv⟩, hbd, hinn⟩, hxb⟩ := hrel
   have k1 := hbt.cell (o := 1) rfl
   cases g' with
   | zero => cases hx
   | succ g' =>
    rw [x_do] at hx
    by_cases hnm : n < m
    ·rw [if_pos hnm] at hx
     go_wp2_with fail
     refine (stepS wr yb rsk sk hrel hek).mono ?_
     rintro e w2 ⟨rfl, rs2, hrel2, hsto2, -⟩
     obtain ⟨hf2, hto2⟩ := hfk.sto hrel hsto2
     obtain ⟨hbt2, hnv2, hlv2⟩ := hto2.held hrel hfk hbt hnv hlv
     have hkp2 : Keeps (nK K) (nK K) wr w2 := Keeps.to hsto2 hrel.noB _
     have hxb2 := (hkp2 _ _ _ hnk hxb (.inl rfl)).1
     have hbd2 := hbd.keep hkp2
     have hTO2 := hto.trans hto2
     clear hrel hfk hto hbt hnv hlv hbd hxb k1 hsto2 hto2 hkp2
     by_cases hse : sk.step.e = 0
     ·rw [if_neg (by simp [hse])] at hx
      rw [decide_eq_true hse]
      split at hx
      ·cases hx
      ·rename_i s3 left3 hx3
       have hstp : (lp.length : Int) + 1 ≤ sk.step.steps := by rw [St.step_steps]; omega
       have hs2k := hrel2.good.s1
       obtain ⟨al, pl, hlve⟩ := row_slice hf2.row
       subst hlve
       obtain ⟨nmf, vbf, hbf, -⟩ := hf2.blk
       have cf : w2.cell? ⟨fb, 3, none⟩ = some (.slice al lp.length pl) := hbf.cell rfl
       have hxl := hxb2.lt
       have hfl := hbf.lt
       have HRL := hide hrel2
       have HF2 := hide hf2
       have HX3 := hide hx3
       have HXX := hide hx
       have HBT2 := hide hbt2
       clear hx hx3 hbf
       go_wp2_with (first
        | (at_builtin; refine wpList_append_to _ rfl _ _ 34 rfl 3 i0 (.int .i64 0) 1 8 Tryz.underlying34 hti hz0 hz1 hz2 rfl (by decide) _ _ _ rfl (hf2.row.alloc _) ⟨w2.heap.size, 0, none⟩ 1 1 [.int .i64 n] rfl rfl ?c1 ?c2 ?c3 ?c4 ?_)
        | fail)
       case c1 => intro j u hj; match j, hj with | 0, hj => simp at hj; subst hj; simp [Addr.add]
       case c2 => intro u hu; simp at hu; subst hu; rfl
       case c3 => unfold maxLen; omega
       case c4 => omega
       intro v3 w3 hown hgrow hnx
       obtain ⟨gl, pl3, rfl⟩ : ∃ gl cap', v3 = .slice (some ⟨gl, 0, none⟩) (lp.length + 1) cap' := by
        rcases hown.2 with ⟨_, h0⟩ | ⟨g, cap', _, hv, _⟩
        ·omega
        ·exact ⟨g, cap', hv⟩
       have hnx3 : ∀ k, own (.slice (some ⟨gl, 0, none⟩) (lp.length + 1) pl3) k → own (.slice al lp.length pl) k ∨ w2.heap.size + 1 ≤ k := fun k hk => (hnx k hk).imp (fun h => h) (fun h => by simpa using h)
       obtain ⟨hk3, ⟨nm3, vb3, hb3⟩, hrel3, hf3, hto3, hkp3⟩ := HF2.out.push HRL.out hinn hown hgrow hnx3
       obtain ⟨hbt3, hnv3, hlv3⟩ := hto3.held HRL.out HF2.out HBT2.out hnv2 hlv2
       have hxb3 := (hkp3 _ _ _ hnk hxb2 (.inl rfl)).1
       have hbd3 := hbd2.keep hkp3
       have hTO3 := hTO2.trans hto3
       have hxw3 : Blk w3 w.heap.size 212 #[.int .u8 x.kind, .int .i64 x.n, .string nm, va, vb, vt] := hk3.blk hxb2 (own_ne hf2.row hxb2 (by decide))
       have hxf : ¬ w.heap.size = fb := by intro e; rw [e] at hxw3; exact absurd (hxw3.inj hb3).1 (by decide)
       have cx3 : w3.cell? ⟨w.heap.size, 3, none⟩ = some va := hxw3.cell rfl
       have cf3 : w3.cell? ⟨fb, 3, none⟩ = some (.slice al lp.length pl) := hb3.cell rfl
       have ff3 := hb3.free 3
       have HR3 := hide hrel3
       have HF3 := hide hf3
       have HTO3 := hide hTO3
       have HBT3 := hide hbt3
       have HXB3 := hide hxb3
       have HBD3 := hide hbd3
       clear hown hgrow hnx hnx3 hk3 hb3 hrel3 hf3 hto3 hkp3 hbt3 hxb3 hbd3 hTO3 hxw3 hbd2 hxb2 hTO2 hrel2 hf2 hbt2 cf HRL HF2 HBT2
       go_wp2_with fail
       refine (HB.out g' (by omega) _ yb fb _ _ s3 f (n :: lp) _ va x.a left3 HR3.out hse HF3.out (by simp only [List.length_cons]; omega) HBD3.out HX3.out).mono ?_
       rintro e w4 ⟨rfl, rs4, lv4, hrel4, hf4, hto4⟩
       obtain ⟨hbt4, hnv4, hlv4⟩ := hto4.held HR3.out HF3.out HBT3.out hnv3 hlv3
       have hkp4 : Keeps (nK K) (nK K) _ w4 := Keeps.to hto4 (HF3.out.noB HR3.out) _
       have hxb4 := (hkp4 _ _ _ hnk HXB3.out (.inl rfl)).1
       have hbd4 := HBD3.out.keep hkp4
       have hTO4 := HTO3.out.trans hto4
       obtain ⟨gl4, pl4, rfl⟩ : ∃ gl cap', lv4 = .slice (some ⟨gl, 0, none⟩) (lp.length + 1) cap' := by
        rcases hf4.row.2 with ⟨_, h0⟩ | ⟨g, cap', _, hv, _⟩
        ·simp at h0
        ·exact ⟨g, cap', hv⟩
       have hnc4 : lp.length + 1 ≤ pl4 := by
        rcases hf4.row.2 with ⟨hv, h0⟩ | ⟨g, cap', _, hv, _, _, hnc, _⟩
        ·simp at h0
        ·injection hv with e1 e2 e3; subst e3; simpa using hnc
       obtain ⟨hrel5, hf5, hto5, hkp5⟩ := hf4.popD hrel4
       obtain ⟨hbt5, hnv5, hlv5⟩ := hto5.held hrel4 hf4 hbt4 hnv4 hlv4
       have hxb5 := (hkp5 _ _ _ hnk hxb4 (.inl rfl)).1
       have hbd5 := hbd4.keep hkp5
       have hTO5 := hTO4.trans hto5
       have hst5 := (xRun_keep _ _ _ _ _ HX3.out).2
       have HE3 : Hid (left3 = false → s3.e = 0) := fun e => by have h := HX3.out; rw [e] at h; exact xBody_e _ _ _ _ _ _ hse h
       have hinn1 : In (n + 1) := by unfold In at hinn hinm ⊢; omega
       obtain ⟨nm4, vb4, hb4, -⟩ := hf4.blk
       have cf4 : w4.cell? ⟨fb, 3, none⟩ = some (.slice (some ⟨gl4, 0, none⟩) (lp.length + 1) pl4) := hb4.cell rfl
       have ff4 := hb4.free 3
       have HR5 := hide hrel5
       have HF5 := hide hf5
       have HTO5 := hide hTO5
       have HBT5 := hide hbt5
       have HXB5 := hide hxb5
       have HBD5 := hide hbd5
       clear hrel4 hf4 hto4 hkp4 hbt4 hxb4 hbd4 hTO4 hrel5 hf5 hto5 hkp5 hbt5 hxb5 hbd5 hTO5 hb4 HR3 HF3 HTO3 HBT3 HXB3 HBD3 HX3 cf3 ff3 cx3 hnv2 hlv2 hnv3 hlv3 hnv4 hlv4
       have hxx := HXX.out
       clear HXX
       by_cases hl3 : left3 = true
       ·subst hl3
        rw [if_pos rfl] at hxx
        injection hxx with hxx
        injection hxx with hx1 hx2
        subst hx1
        subst hx2
        go_wp2
        go_region
        all_goals
         go_wp2
         go_ret
         exact ⟨rfl, rs4, _, HR5.out, HF5.out, HTO5.out⟩
       ·have hl3 : left3 = false := by simpa using hl3
        subst hl3
        rw [if_neg (by simp)] at hxx
        have HXX := hide hxx
        have he3 : s3.e = 0 := HE3.out rfl
        clear hxx
        go_wp2
        go_region
        all_goals
         have hwn : wrap64 (n + 1) = n + 1 := by unfold In at hinn1; unfold wrap64; omega
         go_wp2
         go_roundw
         case rel => exact ⟨n + 1, by rw [hwn], ⟨⟨g', rs4, _, s3, by omega, HR5.out, he3, HF5.out, by omega, HTO5.out, HXX.out, HBT5.out, hnv5, hlv5⟩, HBD5.out, hinn1⟩, HXB5.out⟩
         case measure => simp [intOf, hwn]; omega
     ·rw [if_pos hse] at hx
      rw [decide_eq_false hse]
      injection hx with hx
      injection hx with hx1 hx2
      subst hx1
      subst hx2
      clear hbt2 hxb2 hbd2
      go_wp2
      go_ret
      exact ⟨rfl, rs2, lvk, hrel2, hf2, hTO2⟩
    ·rw [if_neg hnm] at hx
     injection hx with hx
     injection hx with hx1 hx2
     subst hx1
     subst hx2
     go_wp2
     go_ret
     exact ⟨rfl, rsk, lvk, hrel, hfk, hto⟩
 ·rename_i hne
  injection hx with hx
  injection hx with hx1 hx2
  subst hx1
  subst hx2
  have hlt : (s.rs.reverse.length : Int) < 2 := by
   rw [List.length_reverse]
   match hrs : s.rs with
   | [] => simp
   | [a] => simp
   | b :: m :: r => exact absurd hrs (hne b m r)
  go_enter Tryz.func196, Tryz.ntmps196
  have hK0 : Kp w (w.alloc (.cells #[.int .u8 x.kind, .int .i64 x.n, .string nm, va, vb, vt] 212)) (fun _ => False) := (Kp.refl w _).alloc _
  have hr0 := hr.kpF hK0
  have hnk : nK K w.heap.size := fun h => Nat.lt_irrefl _ (hr.dr.old _ h)
  obtain ⟨hf0, hto0⟩ := hf.sto hr (STo.kpF (rs := rs) hK0)
  have hi0 := hi.kp hK0
  clear hr hf hi hK0 hat
  go_wp2_with fail
  refine (takeR_under _ _ _ _ _ hi0 hlt).mono ?_
  rintro e w2 ⟨v, rfl, hi2, hto2⟩
  have HN := hr0.turn (s' := s.err 6) hto2 rfl ⟨_, hi2, (fun h => by cases h)⟩ rfl hr0.st hr0.mem hr0.out rfl rfl rfl rfl rfl ⟨hg.g, hg.s0, hg.s1, (fun h => by cases h), hg.d0, hg.d1, hg.b0, hg.b1, hg.cb⟩
  obtain ⟨hf2, hto3⟩ := hf0.sto hr0 HN.2
  clear hi2 hto2 hi0
  go_wp2
  go_ret
  exact ⟨rfl, _, lv, HN.1, hf2, hto0.trans hto3⟩
end
end Go.Proofs.YtldifaahmpecfaaGreatDoor
