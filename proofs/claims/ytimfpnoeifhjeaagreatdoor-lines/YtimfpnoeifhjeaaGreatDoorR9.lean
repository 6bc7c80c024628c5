import Derived.Test.YtimfpnoeifhjeaaGreatDoorR8
namespace Go.Proofs.YtimfpnoeifhjeaaGreatDoor
open Go.RowKit

set_option maxRecDepth 1000000 in
set_option maxHeartbeats 1000000 in
theorem numberR_empty (s : ByteArray) (w : World) (h0 : s.size = 0) (HB' : Hid (numV s.toList = .tuple #[.int .i64 0, .bool false])) :
    Calls Tryz.prog 39 #[.string s] w fun e w' => e = .returned (numV s.toList) ∧ w' = w := by
  go_enter Tryz.func39, Tryz.ntmps39
  go_wp2
  go_ret2
  exact ⟨by rw [HB'.out]; rfl, rfl⟩

set_option maxRecDepth 1000000 in
set_option maxHeartbeats 1000000 in
theorem numberR_long (s : ByteArray) (w : World) (h0 : 0 < s.size) (hc : ((s[0].toNat : Int) == 45) = false) (h18 : 18 < s.size) (HB' : Hid (numV s.toList = .tuple #[.int .i64 0, .bool false])) :
    Calls Tryz.prog 39 #[.string s] w fun e w' => e = .returned (numV s.toList) ∧ w' = w := by
  go_enter Tryz.func39, Tryz.ntmps39
  go_wp2
  go_ret2
  exact ⟨by rw [HB'.out]; rfl, rfl⟩

set_option maxRecDepth 1000000 in
set_option maxHeartbeats 1000000 in
theorem numberR_minus_no (s t : ByteArray) (w : World) (h0 : 0 < s.size) (hc : ((s[0].toNat : Int) == 45) = true) (ht : s.extract 1 s.size = t) (h18 : t.size < 1 ∨ (1 ≤ t.size ∧ 18 < t.size)) (HB' : Hid (numV s.toList = .tuple #[.int .i64 0, .bool false])) :
    Calls Tryz.prog 39 #[.string s] w fun e w' => e = .returned (numV s.toList) ∧ w' = w := by
  rcases h18 with h | ⟨h, h'⟩
  all_goals
    go_enter Tryz.func39, Tryz.ntmps39
    go_wp2
    go_ret2
    exact ⟨by rw [HB'.out]; rfl, rfl⟩

theorem numberR (s : ByteArray) (w : World) :
    Calls Tryz.prog 39 #[.string s] w fun e w' => e = .returned (numV s.toList) ∧ w' = w := by
  by_cases h0 : 0 < s.size
  · have hl := toList_of_size h0
    by_cases h45 : s[0] = 45
    · have hsz : (s.extract 1 s.size).toList.length = (s.extract 1 s.size).size := by rw [ByteArray.toList_eq]; rfl
      by_cases ht : 1 ≤ (s.extract 1 s.size).size ∧ (s.extract 1 s.size).size ≤ 18
      · exact numberR_minus s _ w h0 h45 rfl ht.1 ht.2
      · refine numberR_minus_no s _ w h0 (by rw [h45]; rfl) rfl (by omega) (numV_none ?_)
        rw [hl, h45, numP_minus, if_neg]
        unfold digitsB; rw [hsz, decide_eq_false (by omega)]; simp
    · have hc : ((s[0].toNat : Int) == 45) = false := by
        simp only [beq_eq_false_iff_ne, ne_eq]; intro h; exact h45 (by apply UInt8.toNat_inj.1; simpa using (by omega : s[0].toNat = 45))
      by_cases h18 : s.size ≤ 18
      · exact numberR_plain s w h0 h45 h18
      · refine numberR_long s w h0 hc (by omega) (numV_none ?_)
        have hsz : s.toList.length = s.size := by rw [ByteArray.toList_eq]; rfl
        have hp : numP s.toList = if digitsB s.toList = true then some (valD s.toList : Int) else none := by rw [hl]; exact numP_other _ _ h45
        rw [hp, if_neg]
        unfold digitsB; rw [hsz, decide_eq_false (by omega)]; simp
  · refine numberR_empty s w (by omega) (numV_none ?_)
    have : s.toList = [] := by
      rw [ByteArray.toList_eq]; apply List.eq_nil_of_length_eq_zero; show s.data.size = 0; have : s.data.size = s.size := rfl; omega
    rw [this]; rfl
end Go.Proofs.YtimfpnoeifhjeaaGreatDoor
