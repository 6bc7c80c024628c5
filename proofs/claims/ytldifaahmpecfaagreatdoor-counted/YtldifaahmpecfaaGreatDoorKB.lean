import Derived.Test.YtldifaahmpecfaaGreatDoorKA
import Derived.Handy
namespace Go.Proofs.YtldifaahmpecfaaGreatDoor
set_option maxRecDepth 1000000
set_option maxHeartbeats 8000000
set_option linter.all false
section
open Go.RowKit
theorem l2_0 : (List.range 30).all (fun n => okL2 n 0) = true := by decide +kernel
theorem l2_1 : (List.range 30).all (fun n => okL2 n 1) = true := by decide +kernel
theorem l2_2 : (List.range 30).all (fun n => okL2 n 2) = true := by decide +kernel
theorem l2_3 : (List.range 30).all (fun n => okL2 n 3) = true := by decide +kernel
theorem l2_4 : (List.range 30).all (fun n => okL2 n 4) = true := by decide +kernel
theorem l2_all (n m : Nat) (hn : n < 30) (hm : m < 5) : okL2 n m = true := by
  rcases (show m = 0 ∨ m = 1 ∨ m = 2 ∨ m = 3 ∨ m = 4 by omega) with rfl | rfl | rfl | rfl | rfl
  · exact List.all_eq_true.1 l2_0 n (List.mem_range.2 hn)
  · exact List.all_eq_true.1 l2_1 n (List.mem_range.2 hn)
  · exact List.all_eq_true.1 l2_2 n (List.mem_range.2 hn)
  · exact List.all_eq_true.1 l2_3 n (List.mem_range.2 hn)
  · exact List.all_eq_true.1 l2_4 n (List.mem_range.2 hn)
theorem line_2 (n m : Nat) (hn : n < 30) (hm : m < 5) : validB (l2 n m) = true ∧ ∃ s1 left, xRun 300 (jToks (Lib.fields (l2 n m))) (freshL fsC) = some (s1, left) ∧ s1.e = 0 ∧ s1.out = ⟨#[]⟩ ∧ s1.rs = [(n : Int), (n : Int) + 1, (n : Int) * m] := by
  have h := l2_all n m hn hm
  unfold okL2 at h
  rw [Bool.and_eq_true] at h
  refine ⟨h.1, ?_⟩
  have h2 := h.2
  cases ha : after 300 fsC (l2 n m) with
  | none => rw [ha] at h2; cases h2
  | some s1 =>
    rw [ha] at h2
    obtain ⟨left, hr⟩ := after_run ha
    simp only [Bool.and_eq_true, decide_eq_true_eq, beq_iff_eq] at h2
    refine ⟨s1, left, hr, h2.1.1, ByteArray.ext (Array.ext' ?_), h2.2⟩
    rw [h2.1.2]
end
end Go.Proofs.YtldifaahmpecfaaGreatDoor
