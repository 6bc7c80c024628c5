import Derived.Test.YtimfpnoeifhjeaaGreatDoorM15
namespace Go.Proofs.YtimfpnoeifhjeaaGreatDoor
open Go.RowKit

def mem0 : Nat → Int := fun _ => 0

set_option maxRecDepth 1000000 in
set_option maxHeartbeats 400000 in
theorem newM (w : World) : Calls Tryz.prog 6 #[] w fun e w' => e = .returned (.pointer (some ⟨w.heap.size, 0, none⟩)) ∧ w' = w.alloc (.cells (marr (.slice none 0 0) mem0) 62) := by
  go_enter Tryz.func6, Tryz.ntmps6
  go_wp2
  go_ret
  exact ⟨rfl, rfl⟩

set_option maxRecDepth 1000000 in
set_option maxHeartbeats 400000 in
theorem freshR (w : World) : Calls Tryz.prog 10 #[] w fun e w' => e = .returned (.pointer (some ⟨w.heap.size, 0, none⟩)) ∧ w' = w.alloc (.cells (RS.arr ⟨.slice none 0 0, mem0, 0, 0, ⟨#[]⟩⟩) 51) := by
  go_enter Tryz.func10, Tryz.ntmps10
  go_wp2
  go_ret
  exact ⟨rfl, rfl⟩

/-- A pair of sessions: the program's and the document's. -/
structure PS where
  pb : Nat
  xb : Nat
  yb : Nat
  xv : Value
  yv : Value
  rs : List Int
  mem : Nat → Int

structure PInv (B : Nat) (w : World) (p : PS) : Prop where
  blk : Blk w p.pb 44 #[.pointer (some ⟨p.xb, 0, none⟩), .pointer (some ⟨p.yb, 0, none⟩)]
  x : XSess w p.xb p.xv p.rs p.mem
  y : RSess w p.yb p.yv p.rs p.mem
  bx : B ≤ p.xb
  byb : B ≤ p.yb
  bxv : ∀ k, own p.xv k → B ≤ k
  byv : ∀ k, own p.yv k → B ≤ k

abbrev PTo (w w' : World) (p p' : PS) : Prop := To (fun k => k = p.xb ∨ k = p.yb) w w' (fun k => own p.xv k ∨ own p.yv k) (fun k => own p'.xv k ∨ own p'.yv k)

theorem RSess.blk {w : World} {yb : Nat} {nv : Value} {rs : List Int} {mem : Nat → Int} (h : RSess w yb nv rs mem) : ∃ c, Blk w yb 51 c := by
  obtain ⟨s, hi, _⟩ := h.ex; exact ⟨_, hi.blk⟩
theorem RSess.row {w : World} {yb : Nat} {nv : Value} {rs : List Int} {mem : Nat → Int} (h : RSess w yb nv rs mem) : w.ownsRow 0 3 1 nv rs.reverse.length (ints rs.reverse) := by
  obtain ⟨s, hi, _, hnv⟩ := h.ex; rw [← hnv]; exact hi.row
/-- What does not touch a session leaves it. -/
theorem RSess.keep {w w' : World} {S : Nat → Prop} {yb : Nat} {nv : Value} {rs : List Int} {mem : Nat → Int} (h : RSess w yb nv rs mem) (hk : Kp w w' S) (h1 : ¬ S yb) (h2 : ∀ k, own nv k → ¬ S k) : RSess w' yb nv rs mem := by
  obtain ⟨⟨s, hi, hm, hnv⟩, hg⟩ := h
  exact ⟨⟨s, ⟨hk.blk hi.blk h1, hk.row hi.row (by rw [hnv]; exact h2), hi.len⟩, hm, hnv⟩, hg⟩
theorem XSess.keep {w w' : World} {S : Nat → Prop} {xb : Nat} {sv : Value} {rs : List Int} {mem : Nat → Int} (h : XSess w xb sv rs mem) (hk : Kp w w' S) (h1 : ¬ S xb) (h2 : ∀ k, own sv k → ¬ S k) : XSess w' xb sv rs mem :=
  ⟨hk.blk h.blk h1, hk.row h.row h2, h.good⟩

theorem no58 {t : ByteArray} (h : (58 : UInt8) ∉ t.data.toList) : ∀ l ∈ Lib.fields t.data.toList, (l == [58]) = false := by
  intro l hl
  rw [beq_eq_false_iff_ne]
  intro e
  rcases fields_mem _ _ _ hl 58 (by rw [e]; simp) with h1 | h1
  · cases h1
  · exact h h1

/-- Both sessions behind a line. -/
def PPost (B : Nat) (w w' : World) (p : PS) : Prop := ∃ xv yv rs mem, PInv B w' { p with xv := xv, yv := yv, rs := rs, mem := mem } ∧ PTo w w' p { p with xv := xv, yv := yv, rs := rs, mem := mem }

set_option maxRecDepth 1000000 in
set_option maxHeartbeats 1000000 in
theorem lineL_bad (B : Nat) (w : World) (p : PS) (t : ByteArray) (h : PInv B w p) (hv : validB t.data.toList = false) :
    Calls Tryz.prog 12 #[.pointer (some ⟨p.pb, 0, none⟩), .string t] w fun e w' => e = .returned (.bool true) ∧ PPost B w w' p := by
  have k0 : w.cell? ⟨p.pb, 0, none⟩ = some (.pointer (some ⟨p.xb, 0, none⟩)) := h.blk.cell rfl
  have k1 : w.cell? ⟨p.pb, 1, none⟩ = some (.pointer (some ⟨p.yb, 0, none⟩)) := h.blk.cell rfl
  go_enter Tryz.func12, Tryz.ntmps12
  go_wp2_with fail
  refine (lineM_bad _ _ _ hv).mono ?_
  rintro e w' ⟨rfl, hw⟩
  rw [hw]; clear hw
  go_wp2_with fail
  refine (lineR_bad _ _ _ hv).mono ?_
  rintro e w2 ⟨rfl, hk⟩
  go_wp2_with fail
  refine (numL _ _).mono ?_
  rintro e w' ⟨rfl, hw⟩
  rw [hw]; clear hw
  go_wp2
  go_ret
  refine ⟨rfl, p.xv, p.yv, p.rs, p.mem, ⟨hk.blk h.blk (by simp), h.x.keep hk (by simp) (by simp), h.y.keep hk (by simp) (by simp), h.bx, h.byb, h.bxv, h.byv⟩, ⟨hk.mono (fun _ _ h => h.elim), fun k hk => .inl hk⟩⟩

set_option maxRecDepth 1000000 in
set_option maxHeartbeats 1000000 in
theorem lineL_ok (B : Nat) (W w : World) (p : PS) (t : ByteArray) (h : PInv B w p) (hbel : Below B W w) (hbs : B ≤ w.heap.size) (hG : Glo B W) (hP : Spl B W) (hv : validB t.data.toList = true) (hcol : (58 : UInt8) ∉ t.data.toList) :
    Calls Tryz.prog 12 #[.pointer (some ⟨p.pb, 0, none⟩), .string t] w fun e w' => e = .returned (.bool true) ∧ PPost B w w' p := by
  obtain ⟨R, hR⟩ : ∃ R, R = runToks (Lib.fields t.data.toList) p.rs p.mem ⟨#[]⟩ := ⟨_, rfl⟩
  have k0 : w.cell? ⟨p.pb, 0, none⟩ = some (.pointer (some ⟨p.xb, 0, none⟩)) := h.blk.cell rfl
  have HX := hide (lineM_ok B W w p.xb p.xv p.rs p.mem t h.x ⟨hbel, h.bx, h.bxv, hbs⟩ hG hP hv hcol R hR)
  have HC := hide (no58 hcol)
  have HR := hide hR
  clear hR hcol
  go_enter Tryz.func12, Tryz.ntmps12
  go_wp2_with fail
  refine HX.out.mono ?_
  rintro e w1 ⟨rfl, xv', hx1, hto1⟩
  obtain ⟨yc, hyb⟩ := h.y.blk
  have hy1 : RSess w1 p.yb p.yv p.rs p.mem := by
    refine h.y.keep hto1.kp ?_ ?_
    · rintro (e | e)
      · exact absurd ((e ▸ hyb).inj h.x.blk).1 (by decide)
      · exact own_ne h.x.row hyb (by decide) e
    · rintro k hk (e | e)
      · subst e; exact own_ne h.y.row h.x.blk (by decide) hk
      · exact own_disj2 h.y.row h.x.row (by decide) hk e
  have hp1 : Blk w1 p.pb 44 #[.pointer (some ⟨p.xb, 0, none⟩), .pointer (some ⟨p.yb, 0, none⟩)] := hto1.blk h.blk (fun e => absurd ((e ▸ h.blk).inj h.x.blk).1 (by decide)) (own_ne h.x.row h.blk (by decide))
  have k1 : w1.cell? ⟨p.pb, 1, none⟩ = some (.pointer (some ⟨p.yb, 0, none⟩)) := hp1.cell rfl
  have HY := hide (lineR_ok w1 p.yb p.yv p.rs p.mem t hy1 hv HC.out R HR.out)
  go_wp2_with fail
  refine HY.out.mono ?_
  rintro e w2 ⟨rfl, yv', hy2, hto2⟩
  go_wp2_with fail
  refine (numL _ _).mono ?_
  rintro e w' ⟨rfl, hw⟩
  rw [hw]; clear hw
  have HFIN : Hid (PPost B w w2 p) := by
    obtain ⟨yc1, hyb1⟩ := hy1.blk
    have hx2 : XSess w2 p.xb xv' (leftL R) R.mem := by
      refine hx1.keep hto2.kp ?_ ?_
      · rintro (e | e)
        · exact absurd ((e ▸ hx1.blk).inj hyb1).1 (by decide)
        · exact own_ne hy1.row hx1.blk (by decide) e
      · rintro k hk (e | e)
        · subst e; exact own_ne hx1.row hyb1 (by decide) hk
        · exact own_disj2 hx1.row hy1.row (by decide) hk e
    have hp2 := hto2.blk hp1 (fun e => absurd ((e ▸ hp1).inj hyb1).1 (by decide)) (own_ne hy1.row hp1 (by decide))
    have hsz := hto1.kp.size
    refine ⟨xv', yv', leftL R, R.mem, ⟨hp2, hx2, hy2, h.bx, h.byb, ?_, ?_⟩, ?_⟩
    · intro k hk
      rcases hto1.nx k hk with h1 | h1
      · exact h.bxv k h1
      · omega
    · intro k hk
      rcases hto2.nx k hk with h1 | h1
      · exact h.byv k h1
      · omega
    · refine ⟨⟨hto2.kp.os.trans hto1.kp.os, hto2.kp.tape.trans hto1.kp.tape, hto2.kp.output.trans hto1.kp.output, Nat.le_trans hto1.kp.size hto2.kp.size, fun k hk hn => ?_⟩, fun k hk => ?_⟩
      · have e1 := hto1.kp.block k hk (by rintro (e | e); exact hn (.inl (.inl e)); exact hn (.inr (.inl e)))
        have e2 := hto2.kp.block k (by omega) (by rintro (e | e); exact hn (.inl (.inr e)); exact hn (.inr (.inr e)))
        exact e2.trans e1
      · rcases hk with hk | hk
        · rcases hto1.nx k hk with h1 | h1
          · exact .inl (.inl h1)
          · exact .inr h1
        · rcases hto2.nx k hk with h1 | h1
          · exact .inl (.inr h1)
          · right; omega
  clear hx1 hto1 hy1 hp1 hy2 hto2 hyb
  go_wp2
  go_ret
  exact ⟨rfl, HFIN.out⟩
end Go.Proofs.YtimfpnoeifhjeaaGreatDoor
