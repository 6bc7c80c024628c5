import Derived.Test.YtimfpnoeifhjeaaGreatDoorR7
import Derived.Lib.IndexBytes
namespace Go.Proofs.YtimfpnoeifhjeaaGreatDoor
open Go.RowKit

theorem toList_of_size {s : ByteArray} (h : 0 < s.size) : s.toList = s[0] :: (s.extract 1 s.size).toList := by
  rw [ByteArray.toList_eq, ByteArray.toList_eq, Lib.extract_to_end]
  obtain ⟨⟨l⟩⟩ := s
  cases l with
  | nil => exact absurd h (by decide)
  | cons c r => rfl

def numV (l : List UInt8) : Value := .tuple #[.int .i64 ((numP l).getD 0), .bool (numP l).isSome]
theorem numV_none {l : List UInt8} (h : numP l = none) : numV l = .tuple #[.int .i64 0, .bool false] := by unfold numV; rw [h]; rfl
theorem numV_some {l : List UInt8} {n : Int} (h : numP l = some n) : numV l = .tuple #[.int .i64 n, .bool true] := by unfold numV; rw [h]; rfl

theorem numP_minus (r : List UInt8) : numP (45 :: r) = if digitsB r = true then some (-(valD r : Int)) else none := by simp [numP]
theorem numP_other (c : UInt8) (r : List UInt8) (h : ¬ c = 45) : numP (c :: r) = if digitsB (c :: r) = true then some (valD (c :: r) : Int) else none := by simp [numP, h]

theorem digitsB_bad {l : List UInt8} {k : Nat} (hk : k < l.length) (hb : digB l[k] = false) : digitsB l = false := by
  simp only [digitsB, Bool.and_eq_false_iff]
  right
  rw [List.all_eq_false]
  exact ⟨l[k], List.getElem_mem hk, by rw [hb]; decide⟩

set_option maxRecDepth 1000000 in
set_option maxHeartbeats 1000000 in
theorem numberR_plain (s : ByteArray) (w : World) (h0 : 0 < s.size) (h45 : ¬ s[0] = 45) (h18 : s.size ≤ 18) :
    Calls Tryz.prog 39 #[.string s] w fun e w' => e = .returned (numV s.toList) ∧ w' = w := by
  have hc : ((s[0].toNat : Int) == 45) = false := by
    simp only [beq_eq_false_iff_ne, ne_eq]; intro h; exact h45 (by apply UInt8.toNat_inj.1; simpa using (by omega : s[0].toNat = 45))
  have HN : Hid (numP s.toList = if digitsB s.toList = true then some (valD s.toList : Int) else none) := by
    have := toList_of_size h0; unfold Hid; rw [this]; exact numP_other _ _ h45
  have H45 : Hid (¬ s[0] = 45) := h45
  clear h45
  go_enter Tryz.func39, Tryz.ntmps39
  go_wp2
  go_loop [5, 6] (fun n i => ∃ k : Nat, k ≤ s.size ∧ i = .int .i64 k ∧ n = .int .i64 (valD (s.data.toList.take k)) ∧ (s.data.toList.take k).all digB = true) (fun _ i => s.size - (intOf i).toNat)
  case atStart => exact ⟨0, Nat.zero_le _, rfl, rfl, rfl⟩
  case round =>
    obtain ⟨k, hk, rfl, rfl, hall⟩ := hrel
    have HA : Hid ((s.data.toList.take k).all digB = true) := hall
    clear hall
    by_cases hlt : k < s.size
    · obtain ⟨v, hv⟩ : ∃ v : Nat, v = valD (s.data.toList.take k) := ⟨_, rfl⟩
      rw [← hv]
      have hvb : v ≤ 99999999999999999 := by
        have h1 := valD_lt _ HA.out
        have h2 : (s.data.toList.take k).length ≤ 17 := by have := List.length_take_le k s.data.toList; omega
        have h3 := pow_le17 h2
        omega
      have HV : Hid (v = valD (s.data.toList.take k)) := hv
      clear hv
      by_cases hd : 48 ≤ s[k].toNat ∧ s[k].toNat ≤ 57
      · obtain ⟨hd1, hd2⟩ := hd
        go_wp2
        go_round
        case rel =>
          refine ⟨k + 1, by omega, by go_num, ?_, ?_⟩
          · rw [take_snoc s k hlt, valD_snoc, ← HV.out]; go_num
          · rw [take_snoc s k hlt, List.all_append, HA.out]; simp [digB, hd1, hd2]
        case measure => simp [intOf]; omega
      · have hbad : numP s.toList = none := by
          rw [HN.out, if_neg]
          rw [digitsB_bad (l := s.toList) (k := k) (by rw [ByteArray.toList_eq]; exact hlt) (by simp only [ByteArray.toList_eq]; exact decide_eq_false hd)]; decide
        have HB := numV_none hbad
        clear hbad
        have HB' : Hid (numV s.toList = .tuple #[.int .i64 0, .bool false]) := HB
        clear HB
        rcases (show s[k].toNat < 48 ∨ (48 ≤ s[k].toNat ∧ 57 < s[k].toNat) by omega) with h1 | ⟨h1, h2⟩
        all_goals
          go_wp2
          go_ret2
          exact ⟨by rw [HB'.out]; rfl, rfl⟩
    · have hfull : s.data.toList.take k = s.toList := by rw [ByteArray.toList_eq]; exact List.take_of_length_le (by show s.data.size ≤ k; simpa using hlt)
      have hok : numP s.toList = some (valD (s.data.toList.take k) : Int) := by
        rw [HN.out, if_pos, hfull]
        unfold digitsB; rw [← hfull, HA.out]; simp; omega
      have HB : Hid (numV s.toList = .tuple #[.int .i64 (valD (s.data.toList.take k)), .bool true]) := numV_some hok
      clear hok hfull
      go_wp2
      go_ret2
      exact ⟨by rw [HB.out]; rfl, rfl⟩

set_option maxRecDepth 1000000 in
set_option maxHeartbeats 1000000 in
theorem numberR_minus (s t : ByteArray) (w : World) (h0 : 0 < s.size) (h45 : s[0] = 45) (ht : s.extract 1 s.size = t) (h1 : 1 ≤ t.size) (h18 : t.size ≤ 18) :
    Calls Tryz.prog 39 #[.string s] w fun e w' => e = .returned (numV s.toList) ∧ w' = w := by
  have hc : ((s[0].toNat : Int) == 45) = true := by rw [h45]; rfl
  have HN : Hid (numP s.toList = if digitsB t.toList = true then some (-(valD t.toList : Int)) else none) := by
    have := toList_of_size h0; unfold Hid; rw [this, h45, ht]; exact numP_minus _
  have hsz : t.size < s.size := by rw [← ht]; simp; omega
  have H45 : Hid (s[0] = 45) := h45
  clear h45
  go_enter Tryz.func39, Tryz.ntmps39
  go_wp2
  go_loop [5, 6] (fun n i => ∃ k : Nat, k ≤ t.size ∧ i = .int .i64 k ∧ n = .int .i64 (valD (t.data.toList.take k)) ∧ (t.data.toList.take k).all digB = true) (fun _ i => t.size - (intOf i).toNat)
  case atStart => exact ⟨0, Nat.zero_le _, rfl, rfl, rfl⟩
  case round =>
    obtain ⟨k, hk, rfl, rfl, hall⟩ := hrel
    have HA : Hid ((t.data.toList.take k).all digB = true) := hall
    clear hall
    by_cases hlt : k < t.size
    · obtain ⟨v, hv⟩ : ∃ v : Nat, v = valD (t.data.toList.take k) := ⟨_, rfl⟩
      rw [← hv]
      have hvb : v ≤ 99999999999999999 := by
        have h1 := valD_lt _ HA.out
        have h2 : (t.data.toList.take k).length ≤ 17 := by have := List.length_take_le k t.data.toList; omega
        have h3 := pow_le17 h2
        omega
      have HV : Hid (v = valD (t.data.toList.take k)) := hv
      clear hv
      by_cases hd : 48 ≤ t[k].toNat ∧ t[k].toNat ≤ 57
      · obtain ⟨hd1, hd2⟩ := hd
        go_wp2
        go_round
        case rel =>
          refine ⟨k + 1, by omega, by go_num, ?_, ?_⟩
          · rw [take_snoc t k hlt, valD_snoc, ← HV.out]; go_num
          · rw [take_snoc t k hlt, List.all_append, HA.out]; simp [digB, hd1, hd2]
        case measure => simp [intOf]; omega
      · have hbad : numP s.toList = none := by
          rw [HN.out, if_neg]
          rw [digitsB_bad (l := t.toList) (k := k) (by rw [ByteArray.toList_eq]; exact hlt) (by simp only [ByteArray.toList_eq]; exact decide_eq_false hd)]; decide
        have HB := numV_none hbad
        clear hbad
        have HB' : Hid (numV s.toList = .tuple #[.int .i64 0, .bool false]) := HB
        clear HB
        rcases (show t[k].toNat < 48 ∨ (48 ≤ t[k].toNat ∧ 57 < t[k].toNat) by omega) with h1 | ⟨h1, h2⟩
        all_goals
          go_wp2
          go_ret2
          exact ⟨by rw [HB'.out]; rfl, rfl⟩
    · have hfull : t.data.toList.take k = t.toList := by rw [ByteArray.toList_eq]; exact List.take_of_length_le (by show t.data.size ≤ k; simpa using hlt)
      have hvb : valD (t.data.toList.take k) ≤ 999999999999999999 := by
        have h1 := valD_lt _ HA.out
        have h2 : (t.data.toList.take k).length ≤ 18 := by have := List.length_take_le k t.data.toList; omega
        have h3 := pow_le18 h2
        omega
      have hok : numP s.toList = some (-(valD (t.data.toList.take k) : Int)) := by
        rw [HN.out, if_pos, hfull]
        unfold digitsB; rw [← hfull, HA.out]; simp; omega
      have HB : Hid (numV s.toList = .tuple #[.int .i64 (-(valD (t.data.toList.take k) : Int)), .bool true]) := numV_some hok
      clear hok hfull
      go_wp2
      go_ret2
      exact ⟨by rw [HB.out]; rfl, rfl⟩
end Go.Proofs.YtimfpnoeifhjeaaGreatDoor
