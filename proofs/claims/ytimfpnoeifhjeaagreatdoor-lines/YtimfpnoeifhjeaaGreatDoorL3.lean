import Derived.Test.YtimfpnoeifhjeaaGreatDoorL2
namespace Go.Proofs.YtimfpnoeifhjeaaGreatDoor
open Go.RowKit

def pickV (c n : Int) : Int := if c < 0 then (-(c + 1)) % n else c % n
theorem pickV_lt (c n : Int) (hn : 1 ≤ n) : 0 ≤ pickV c n ∧ pickV c n < n := by
  unfold pickV
  split
  · exact ⟨Int.emod_nonneg _ (by omega), Int.emod_lt_of_pos _ (by omega)⟩
  · exact ⟨Int.emod_nonneg _ (by omega), Int.emod_lt_of_pos _ (by omega)⟩

set_option maxRecDepth 1000000 in
set_option maxHeartbeats 400000 in
theorem pickL (c n : Int) (w : World) (h0 : -9223372036854775808 ≤ c) (h1 : c ≤ 9223372036854775807) (hn : 1 ≤ n) (hn2 : n ≤ 4611686018427387904) :
    Calls Tryz.prog 11 #[.int .i64 c, .int .i64 n] w fun e w' => e = .returned (.int .i64 (pickV c n)) ∧ w' = w := by
  have hne : ¬ n = 0 := by omega
  by_cases hc : c < 0
  · have HV : Hid (pickV c n = -((c + 1).tmod n)) := by
      have h2 : pickV c n = (-(c + 1)) % n := if_pos hc
      unfold Hid; rw [h2, ← Int.neg_tmod, Int.tmod_eq_emod_of_nonneg (by omega)]
    go_enter Tryz.func11, Tryz.ntmps11
    go_wp2
    go_ret
    exact ⟨by rw [HV.out]; rfl, rfl⟩
  · have HV : Hid (pickV c n = c % n) := if_neg hc
    have hc0 : 0 ≤ c := by omega
    clear hc
    go_enter Tryz.func11, Tryz.ntmps11
    go_wp2
    go_ret
    exact ⟨by rw [HV.out]; rfl, rfl⟩

/-- No two pairs share anything that is written. -/
structure Dis (p q : PS) : Prop where
  x : p.xb ≠ q.xb
  y : p.yb ≠ q.yb
  xv : ∀ k, own p.xv k → ¬ own q.xv k
  yv : ∀ k, own p.yv k → ¬ own q.yv k

def ptrs (ps : List PS) : List Value := ps.map fun p => .pointer (some ⟨p.pb, 0, none⟩)

/-- The sessions that a script has made. -/
structure WInv (B : Nat) (w : World) (wb : Nat) (v : Value) (ps : List PS) : Prop where
  blk : Blk w wb 28 #[v, .int .i64 0, .slice none 0 0]
  row : w.ownsRow 0 42 1 v ps.length (ptrs ps)
  pin : ∀ i (hi : i < ps.length), PInv B w ps[i]
  dis : ∀ i j (hi : i < ps.length) (hj : j < ps.length), i ≠ j → Dis ps[i] ps[j]
  bw : B ≤ wb
  bv : ∀ k, own v k → B ≤ k

theorem PInv.keep {B : Nat} {w w' : World} {S : Nat → Prop} {p : PS} (h : PInv B w p) (hk : Kp w w' S) (h0 : ¬ S p.pb) (h1 : ¬ S p.xb) (h2 : ¬ S p.yb) (h3 : ∀ k, own p.xv k → ¬ S k) (h4 : ∀ k, own p.yv k → ¬ S k) : PInv B w' p :=
  ⟨hk.blk h.blk h0, h.x.keep hk h1 h3, h.y.keep hk h2 h4, h.bx, h.byb, h.bxv, h.byv⟩
theorem WInv.kp {B : Nat} {w w' : World} {wb : Nat} {v : Value} {ps : List PS} (h : WInv B w wb v ps) (hk : Kp w w' (fun _ => False)) : WInv B w' wb v ps :=
  ⟨hk.blk h.blk (by simp), hk.row h.row (by simp), fun i hi => (h.pin i hi).keep hk (by simp) (by simp) (by simp) (by simp) (by simp), h.dis, h.bw, h.bv⟩

/-- Behind a line of pair i. -/
theorem WInv.line {B : Nat} {w w' : World} {wb : Nat} {v : Value} {ps : List PS} (h : WInv B w wb v ps) (i : Nat) (hi : i < ps.length) (hbs : B ≤ w.heap.size) (hp : PPost B w w' ps[i]) : ∃ ps', WInv B w' wb v ps' ∧ ps'.length = ps.length ∧ Below B w w' := by
  obtain ⟨xv, yv, rs, mem, hq, hto⟩ := hp
  have hpi := h.pin i hi
  obtain ⟨yc, hyb⟩ := hpi.y.blk
  have hkp := To.kp hto
  have hnx := To.nx hto
  have nS : ∀ {b : Nat} {t : TypeId} {c : Array Value}, Blk w b t c → t ≠ 62 → t ≠ 51 → t ≠ 2 → t ≠ 3 → ¬ ((b = ps[i].xb ∨ b = ps[i].yb) ∨ (own ps[i].xv b ∨ own ps[i].yv b)) := by
    rintro b t c hb t1 t2 t3 t4 ((e | e) | (e | e))
    · subst e; exact t1 (hb.inj hpi.x.blk).1
    · subst e; exact t2 (hb.inj hyb).1
    · exact own_ne hpi.x.row hb (Ne.symm t3) e
    · exact own_ne hpi.y.row hb (Ne.symm t4) e
  refine ⟨ps.set i { ps[i] with xv := xv, yv := yv, rs := rs, mem := mem }, ⟨hkp.blk h.blk (nS h.blk (by decide) (by decide) (by decide) (by decide)), ?_, ?_, ?_, h.bw, h.bv⟩, by simp, ?_⟩
  · have e1 : ptrs (ps.set i { ps[i] with xv := xv, yv := yv, rs := rs, mem := mem }) = ptrs ps := by
      unfold ptrs
      apply List.ext_getElem?
      intro j
      rw [List.getElem?_map, List.getElem?_map, List.getElem?_set]
      split
      · rename_i e; subst e; simp [hi]
      · rfl
    rw [List.length_set, e1]
    refine hkp.row h.row ?_
    rintro k hk ((e | e) | (e | e))
    · subst e; exact own_ne h.row hpi.x.blk (by decide) hk
    · subst e; exact own_ne h.row hyb (by decide) hk
    · exact own_disj2 h.row hpi.x.row (by decide) hk e
    · exact own_disj2 h.row hpi.y.row (by decide) hk e
  · intro j hj
    rw [List.length_set] at hj
    rw [List.getElem_set]
    split
    · exact hq
    · rename_i hij
      have hpj := h.pin j hj
      obtain ⟨yc', hyb'⟩ := hpj.y.blk
      have hd := h.dis i j hi hj hij
      refine hpj.keep hkp (nS hpj.blk (by decide) (by decide) (by decide) (by decide)) ?_ ?_ ?_ ?_
      · rintro ((e | e) | (e | e))
        · exact hd.x e.symm
        · exact absurd ((e ▸ hpj.x.blk).inj hyb).1 (by decide)
        · exact own_ne hpi.x.row hpj.x.blk (by decide) e
        · exact own_ne hpi.y.row hpj.x.blk (by decide) e
      · rintro ((e | e) | (e | e))
        · exact absurd ((e ▸ hyb').inj hpi.x.blk).1 (by decide)
        · exact hd.y e.symm
        · exact own_ne hpi.x.row hyb' (by decide) e
        · exact own_ne hpi.y.row hyb' (by decide) e
      · rintro k hk ((e | e) | (e | e))
        · subst e; exact own_ne hpj.x.row hpi.x.blk (by decide) hk
        · subst e; exact own_ne hpj.x.row hyb (by decide) hk
        · exact hd.xv k e hk
        · exact own_disj2 hpj.x.row hpi.y.row (by decide) hk e
      · rintro k hk ((e | e) | (e | e))
        · subst e; exact own_ne hpj.y.row hpi.x.blk (by decide) hk
        · subst e; exact own_ne hpj.y.row hyb (by decide) hk
        · exact own_disj2 hpj.y.row hpi.x.row (by decide) hk e
        · exact hd.yv k e hk
  · have key : ∀ j (hj : j < ps.length), i ≠ j → Dis { ps[i] with xv := xv, yv := yv, rs := rs, mem := mem } ps[j] := by
      intro j hj hij
      have hpj := h.pin j hj
      have hd := h.dis i j hi hj hij
      refine ⟨hd.x, hd.y, fun k hk hk' => ?_, fun k hk hk' => ?_⟩
      · rcases hnx k (.inl hk) with (e | e) | e
        · exact hd.xv k e hk'
        · exact own_disj2 hpj.x.row hpi.y.row (by decide) hk' e
        · have := own_lt hpj.x.row hk'; omega
      · rcases hnx k (.inr hk) with (e | e) | e
        · exact own_disj2 hpj.y.row hpi.x.row (by decide) hk' e
        · exact hd.yv k e hk'
        · have := own_lt hpj.y.row hk'; omega
    intro a b ha hb hab
    rw [List.length_set] at ha hb
    rw [List.getElem_set, List.getElem_set]
    by_cases hia : i = a
    · subst hia
      rw [if_pos rfl, if_neg hab]
      exact key b hb hab
    · rw [if_neg hia]
      by_cases hib : i = b
      · subst hib
        rw [if_pos rfl]
        have hk := key a ha (fun e => hab e.symm)
        exact ⟨fun e => hk.x e.symm, fun e => hk.y e.symm, fun k h1 h2 => hk.xv k h2 h1, fun k h1 h2 => hk.yv k h2 h1⟩
      · rw [if_neg hib]; exact h.dis a b ha hb hab
  · refine hkp.below hbs ?_
    rintro k hk ((e | e) | (e | e))
    · have := hpi.bx; omega
    · have := hpi.byb; omega
    · have := hpi.bxv k e; omega
    · have := hpi.byv k e; omega
end Go.Proofs.YtimfpnoeifhjeaaGreatDoor
