import Derived.Test.YtimfpnoeifhjeaaGreatDoorL4
namespace Go.Proofs.YtimfpnoeifhjeaaGreatDoor
open Go.RowKit

theorem Kp.drewN {w w' : World} {S : Nat → Prop} (h : Kp w w' S) (n : Nat) : Kp w (w'.drewN n) S := ⟨h.os, h.tape, h.output, h.size, h.block⟩

theorem SInv.same {B : Nat} {w w' : World} {wb : Nat} {v : Value} {ps : List PS} (h : WInv B w wb v ps) (hbs : B ≤ w.heap.size) (hk : Kp w w' (fun _ => False)) : SInv B w w' wb ps.length :=
  ⟨v, ps, h.kp hk, by omega, hk.below hbs (by simp)⟩

set_option maxRecDepth 1000000 in
set_option maxHeartbeats 1000000 in
theorem stepL_none (B : Nat) (w : World) (wb : Nat) (v : Value) (K A N M : Int) (S : ByteArray) (h : WInv B w wb v []) (hbs : B ≤ w.heap.size) (hK : (K == 1) = false) :
    Calls Tryz.prog 5 #[.pointer (some ⟨wb, 0, none⟩), .agg #[.int .i64 K, .int .i64 A, .int .i64 N, .int .i64 M, .string S]] w fun e w' => e = .returned (.bool true) ∧ SInv B w w' wb 0 := by
  obtain ⟨ao, cap, hv⟩ := form_of h.row
  have c0 : w.cell? ⟨wb, 0, none⟩ = some v := h.blk.cell rfl
  rw [hv] at c0
  have hwl := h.blk.lt
  clear hv
  simp only [List.length_nil] at c0
  go_enter Tryz.func5, Tryz.ntmps5
  go_wp2
  go_ret
  exact ⟨rfl, SInv.same h hbs ((Kp.refl _ _).alloc _)⟩

set_option maxRecDepth 1000000 in
set_option maxHeartbeats 1000000 in
theorem stepL_other (B : Nat) (w : World) (wb : Nat) (v : Value) (ps : List PS) (K A N M : Int) (S : ByteArray) (h : WInv B w wb v ps) (hbs : B ≤ w.heap.size) (hK : K ≤ 0) (h0 : -9223372036854775808 ≤ A) (h1 : A ≤ 9223372036854775807) (hn : 1 ≤ ps.length) (hn2 : ps.length ≤ 4398046511104) :
    Calls Tryz.prog 5 #[.pointer (some ⟨wb, 0, none⟩), .agg #[.int .i64 K, .int .i64 A, .int .i64 N, .int .i64 M, .string S]] w fun e w' => e = .returned (.bool true) ∧ SInv B w w' wb ps.length := by
  obtain ⟨g, cap, hv⟩ := Joins.ownsRow_form h.row (by omega)
  have c0 : w.cell? ⟨wb, 0, none⟩ = some v := h.blk.cell rfl
  have hwl := h.blk.lt
  obtain ⟨hj0, hj1⟩ := pickV_lt A ps.length (by omega)
  obtain ⟨j, hj⟩ : ∃ j : Nat, pickV A ps.length = j := ⟨(pickV A ps.length).toNat, by omega⟩
  have hjl : j < ps.length := by omega
  have hgl : g < w.heap.size := (h.row.lt g (by rw [hv]; rfl)).2
  have cj : w.cell? ⟨g, j, none⟩ = some (.pointer (some ⟨ps[j].pb, 0, none⟩)) := by
    have := h.row.cells (g := g) (by rw [hv]; rfl) j (.pointer (some ⟨ps[j].pb, 0, none⟩)) (by simp [ptrs, hjl])
    rw [addr_add2] at this; exact this
  rw [hv] at c0
  have HJ := hide hj
  have hpk : ∀ w, Calls Tryz.prog 11 #[.int .i64 A, .int .i64 (ps.length : Int)] w fun e w' => e = .returned (.int .i64 (j : Int)) ∧ w' = w := by
    intro w; have := pickL A ps.length w h0 h1 (by omega) (by omega); rw [hj] at this; exact this
  have HPK := hide hpk
  have hne : ((ps.length : Int) == 0) = false := by rw [beq_eq_false_iff_ne]; omega
  clear hv hj hj0 hj1 hpk h0 h1
  go_enter Tryz.func5, Tryz.ntmps5
  go_wp2
  go_quiet ((go_at_call 11; exact Calls.quiet_of_same (HPK.out _)))
  go_wp2
  go_ret
  exact ⟨rfl, SInv.same h hbs (((Kp.refl _ _).alloc _).drewN _)⟩

theorem PPost.drop {B : Nat} {w w1 w' : World} {p : PS} (hk : Kp w w1 (fun _ => False)) (h : PPost B w1 w' p) : PPost B w w' p := by
  obtain ⟨xv, yv, rs, mem, hq, hto⟩ := h
  refine ⟨xv, yv, rs, mem, hq, ⟨(hk.mono (fun _ _ h => h.elim)).trans (To.kp hto), ?_⟩⟩
  intro k hk'
  rcases To.nx hto k hk' with h1 | h1
  · exact .inl h1
  · right; have := hk.size; omega

set_option maxRecDepth 1000000 in
set_option maxHeartbeats 1000000 in
theorem stepL_line (B : Nat) (W w : World) (wb : Nat) (v : Value) (ps : List PS) (A N M : Int) (S : ByteArray) (h : WInv B w wb v ps) (hbs : B ≤ w.heap.size) (hbel : Below B W w) (hG : Glo B W) (hP : Spl B W) (hcol : (58 : UInt8) ∉ S.data.toList) (h0 : -9223372036854775808 ≤ A) (h1 : A ≤ 9223372036854775807) (hn : 1 ≤ ps.length) (hn2 : ps.length ≤ 4398046511104) :
    Calls Tryz.prog 5 #[.pointer (some ⟨wb, 0, none⟩), .agg #[.int .i64 2, .int .i64 A, .int .i64 N, .int .i64 M, .string S]] w fun e w' => e = .returned (.bool true) ∧ SInv B w w' wb ps.length := by
  obtain ⟨g, cap, hv⟩ := Joins.ownsRow_form h.row (by omega)
  have c0 : w.cell? ⟨wb, 0, none⟩ = some v := h.blk.cell rfl
  have hwl := h.blk.lt
  obtain ⟨hj0, hj1⟩ := pickV_lt A ps.length (by omega)
  obtain ⟨j, hj⟩ : ∃ j : Nat, pickV A ps.length = j := ⟨(pickV A ps.length).toNat, by omega⟩
  have hjl : j < ps.length := by omega
  have hgl : g < w.heap.size := (h.row.lt g (by rw [hv]; rfl)).2
  have cj : w.cell? ⟨g, j, none⟩ = some (.pointer (some ⟨ps[j].pb, 0, none⟩)) := by
    have := h.row.cells (g := g) (by rw [hv]; rfl) j (.pointer (some ⟨ps[j].pb, 0, none⟩)) (by simp [ptrs, hjl])
    rw [addr_add2] at this; exact this
  rw [hv] at c0
  have HJ := hide hj
  have hpk : ∀ w, Calls Tryz.prog 11 #[.int .i64 A, .int .i64 (ps.length : Int)] w fun e w' => e = .returned (.int .i64 (j : Int)) ∧ w' = w := by
    intro w; have := pickL A ps.length w h0 h1 (by omega) (by omega); rw [hj] at this; exact this
  have HPK := hide hpk
  have hne : ((ps.length : Int) == 0) = false := by rw [beq_eq_false_iff_ne]; omega
  clear hv hj hj0 hj1 hpk h0 h1
  have HLINE : Hid (∀ w1, Kp w w1 (fun _ => False) → Calls Tryz.prog 12 #[.pointer (some ⟨ps[j].pb, 0, none⟩), .string S] w1 fun e w' => e = .returned (.bool true) ∧ PPost B w1 w' ps[j]) := by
    intro w1 hk
    have hp := (h.pin j hjl).keep hk (by simp) (by simp) (by simp) (by simp) (by simp)
    cases hvv : validB S.data.toList
    · exact lineL_bad B w1 _ S hp hvv
    · exact lineL_ok B W w1 _ S hp (hbel.trans (hk.below hbs (by simp))) (Nat.le_trans hbs hk.size) hG hP hvv hcol
  clear hcol
  go_enter Tryz.func5, Tryz.ntmps5
  go_wp2_with fail
  go_quiet ((go_at_call 11; exact Calls.quiet_of_same (HPK.out _)))
  go_wp2_with fail
  refine (HLINE.out _ (((Kp.refl _ _).alloc _).drewN _)).mono ?_
  rintro e w2 ⟨rfl, hp⟩
  have HF : Hid (SInv B w w2 wb ps.length) := by
    obtain ⟨ps', h1, h2, h3⟩ := h.line j hjl hbs (PPost.drop (((Kp.refl _ _).alloc _).drewN _) hp)
    exact ⟨v, ps', h1, by omega, h3⟩
  clear hp
  go_wp2
  go_ret
  exact ⟨rfl, HF.out⟩
end Go.Proofs.YtimfpnoeifhjeaaGreatDoor
