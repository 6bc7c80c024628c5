import Derived.Test.YtimfpnoeifhjeaaGreatDoorProg
import Derived.WalkKit
import Derived.WalkSpells
import Derived.WalkLawsBesides
namespace Go.Proofs.YtimfpnoeifhjeaaGreatDoor
open Go.RowKit

/-- The quotient as both programs reckon it. -/
def fdiv (a b : Int) : Int :=
  if (a.tmod b != 0) = true ∧ (!decide (a < 0) == decide (b < 0)) = true then wrap64 (wrap64 (a.tdiv b) - 1) else wrap64 (a.tdiv b)

theorem fdiv_pos {a b : Int} (h1 : (a.tmod b != 0) = true) (h2 : (!decide (a < 0) == decide (b < 0)) = true) : fdiv a b = wrap64 (wrap64 (a.tdiv b) - 1) := by
  unfold fdiv; rw [if_pos ⟨h1, h2⟩]
theorem fdiv_neg {a b : Int} (h : (a.tmod b != 0) = false ∨ (!decide (a < 0) == decide (b < 0)) = false) : fdiv a b = wrap64 (a.tdiv b) := by
  unfold fdiv; rw [if_neg]; rintro ⟨h1, h2⟩; rcases h with h | h <;> simp_all

def sonum (b : Bool) : Int := if b then -1 else 0
theorem ret_int {k : IntKind} {a b : Int} (h : a = b) : Ending.returned (.int k a) = .returned (.int k b) := by rw [h]

set_option maxHeartbeats 400000 in
theorem quotR (a b : Int) (w : World) (hb : ¬ b = 0) :
    Calls Tryz.prog 63 #[.int .i64 a, .int .i64 b] w fun e w' => e = .returned (.int .i64 (fdiv a b)) ∧ w' = w := by
  go_enter Tryz.func63, Tryz.ntmps63
  go_wp2
  · go_ret
    exact ⟨ret_int (fdiv_neg (.inl (by simp [*]))).symm, rfl⟩
  · go_ret
    exact ⟨ret_int (fdiv_pos (by simp_all) (by simp_all)).symm, rfl⟩
  · go_ret
    exact ⟨ret_int (fdiv_neg (by assumption)).symm, rfl⟩

set_option maxHeartbeats 400000 in
theorem quotM (a b : Int) (w : World) (hb : ¬ b = 0) :
    Calls Tryz.prog 76 #[.int .i64 a, .int .i64 b] w fun e w' => e = .returned (.int .i64 (fdiv a b)) ∧ w' = w := by
  go_enter Tryz.func76, Tryz.ntmps76
  go_wp2
  · go_ret
    exact ⟨ret_int (fdiv_neg (.inl (by simp [*]))).symm, rfl⟩
  · go_ret
    exact ⟨ret_int (fdiv_pos (by simp_all) (by simp_all)).symm, rfl⟩
  · go_ret
    exact ⟨ret_int (fdiv_neg (by assumption)).symm, rfl⟩

set_option maxHeartbeats 400000 in
theorem remM (a b : Int) (w : World) (hb : ¬ b = 0) :
    Calls Tryz.prog 77 #[.int .i64 a, .int .i64 b] w fun e w' => e = .returned (.int .i64 (wrap64 (a - wrap64 (b * fdiv a b)))) ∧ w' = w := by
  go_enter Tryz.func77, Tryz.ntmps77
  go_wp2_with (go_at_call 76; refine (quotM _ _ _ hb).mono ?_; rintro e w' ⟨rfl, rfl⟩)
  go_ret
  exact ⟨rfl, rfl⟩

set_option maxHeartbeats 400000 in
theorem soR (a : Bool) (w : World) :
    Calls Tryz.prog 64 #[.bool a] w fun e w' => e = .returned (.int .i64 (sonum a)) ∧ w' = w := by
  go_enter Tryz.func64, Tryz.ntmps64
  go_wp2
  all_goals go_ret
  all_goals simp [sonum, *]

set_option maxHeartbeats 400000 in
theorem truthM (a : Bool) (w : World) :
    Calls Tryz.prog 79 #[.bool a] w fun e w' => e = .returned (.int .i64 (sonum a)) ∧ w' = w := by
  go_enter Tryz.func79, Tryz.ntmps79
  go_wp2
  all_goals go_ret
  all_goals simp [sonum, *]

set_option maxHeartbeats 400000 in
theorem numL (a : Int) (w : World) :
    Calls Tryz.prog 20 #[.int .i64 a] w fun e w' => e = .returned (.int .i64 a) ∧ w' = w := by
  go_enter Tryz.func20, Tryz.ntmps20
  go_wp2
  go_ret
  exact ⟨rfl, rfl⟩

set_option maxHeartbeats 400000 in
theorem isCellM (a : Int) (w : World) :
    Calls Tryz.prog 103 #[.int .i64 a] w fun e w' => e = .returned (.bool (decide (0 ≤ a ∧ a < 16))) ∧ w' = w := by
  go_enter Tryz.func103, Tryz.ntmps103
  go_wp2
  all_goals go_ret
  all_goals (simp [*] <;> omega)

set_option maxHeartbeats 400000 in
theorem addM (a b : Int) (w : World) :
    Calls Tryz.prog 72 #[.int .i64 a, .int .i64 b] w fun e w' => e = .returned (.int .i64 (wrap64 (a + b))) ∧ w' = w := by
  go_enter Tryz.func72, Tryz.ntmps72
  go_wp2
  go_ret
  exact ⟨rfl, rfl⟩
set_option maxHeartbeats 400000 in
theorem subM (a b : Int) (w : World) :
    Calls Tryz.prog 73 #[.int .i64 a, .int .i64 b] w fun e w' => e = .returned (.int .i64 (wrap64 (a - b))) ∧ w' = w := by
  go_enter Tryz.func73, Tryz.ntmps73
  go_wp2
  go_ret
  exact ⟨rfl, rfl⟩
set_option maxHeartbeats 400000 in
theorem mulM (a b : Int) (w : World) :
    Calls Tryz.prog 74 #[.int .i64 a, .int .i64 b] w fun e w' => e = .returned (.int .i64 (wrap64 (a * b))) ∧ w' = w := by
  go_enter Tryz.func74, Tryz.ntmps74
  go_wp2
  go_ret
  exact ⟨rfl, rfl⟩
set_option maxHeartbeats 400000 in
theorem eqM (a b : Int) (w : World) :
    Calls Tryz.prog 78 #[.int .i64 a, .int .i64 b] w fun e w' => e = .returned (.int .i64 (sonum (a == b))) ∧ w' = w := by
  go_enter Tryz.func78, Tryz.ntmps78
  go_wp2_with (go_at_call 79; refine (truthM _ _).mono ?_; rintro e w' ⟨rfl, rfl⟩)
  go_ret
  exact ⟨rfl, rfl⟩
set_option maxHeartbeats 400000 in
theorem ltM (a b : Int) (w : World) :
    Calls Tryz.prog 80 #[.int .i64 a, .int .i64 b] w fun e w' => e = .returned (.int .i64 (sonum (decide (a < b)))) ∧ w' = w := by
  go_enter Tryz.func80, Tryz.ntmps80
  go_wp2_with (go_at_call 79; refine (truthM _ _).mono ?_; rintro e w' ⟨rfl, rfl⟩)
  go_ret
  exact ⟨rfl, rfl⟩

set_option maxHeartbeats 400000 in
theorem kindPlain (a : Int) (w : World) :
    Calls Tryz.prog 53 #[.int .i64 a] w fun e w' => e = .returned (.bool (decide (2 ≤ a ∧ a ≤ 17))) ∧ w' = w := by
  go_enter Tryz.func53, Tryz.ntmps53
  go_wp2
  all_goals go_ret
  all_goals (simp [*] <;> omega)
end Go.Proofs.YtimfpnoeifhjeaaGreatDoor
