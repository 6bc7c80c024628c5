import Derived.Test.YtimfpnoeifhjeaaGreatDoorM9
import Derived.Test.YtimfpnoeifhjeaaGreatDoorR9
import Derived.Lib.ParseIntBCases
namespace Go.Proofs.YtimfpnoeifhjeaaGreatDoor
open Go.RowKit

theorem parseU (M : Nat) (hM : 1000000000000000000 ≤ M) : ∀ (l : List UInt8) (acc : Nat), l.all digB = true → (acc + 1) * 10 ^ l.length ≤ 1000000000000000000 → Lib.parseUintM M acc l = .ok (l.foldl (fun n c => 10 * n + (c.toNat - 48)) acc)
  | [], acc, _, _ => rfl
  | c :: r, acc, h, hb => by
    simp only [List.all_cons, Bool.and_eq_true] at h
    have hd := of_decide_eq_true h.1
    have hp : 1 ≤ 10 ^ r.length := Nat.one_le_pow _ _ (by decide)
    rw [List.length_cons, Nat.pow_succ] at hb
    have h10 : (acc + 1) * 10 * 10 ^ r.length ≤ 1000000000000000000 := by rw [Nat.mul_assoc, Nat.mul_comm 10]; exact hb
    have hle : (acc + 1) * 10 ≤ (acc + 1) * 10 * 10 ^ r.length := Nat.le_mul_of_pos_right _ hp
    have hnext : (acc * 10 + (c.toNat - 48) + 1) * 10 ^ r.length ≤ 1000000000000000000 := Nat.le_trans (Nat.mul_le_mul_right _ (by omega)) h10
    rw [Lib.parseUintM, if_pos hd, if_neg (by omega), if_neg (by omega), parseU M hM r _ h.2 hnext, List.foldl_cons, Nat.mul_comm 10 acc]

theorem parse_digits {r : List UInt8} (h : digitsB r = true) : Lib.parseUintB 64 r = .ok (valD r) := by
  simp only [digitsB, Bool.and_eq_true, decide_eq_true_eq] at h
  unfold Lib.parseUintB
  rw [if_neg (by intro e; subst e; simp at h), parseU _ (by decide) r 0 h.2 (by have := pow_le18 h.1.2; omega)]
  rfl
theorem valD_small {r : List UInt8} (h : digitsB r = true) : valD r < 1000000000000000000 := by
  simp only [digitsB, Bool.and_eq_true, decide_eq_true_eq] at h
  have h1 := valD_lt r h.2
  have h2 := pow_le18 h.1.2
  omega
theorem parse_num {l : List UInt8} {n : Int} (h : numP l = some n) : Lib.parseIntB 64 l = .ok n := by
  cases l with
  | nil => simp [numP] at h
  | cons c r =>
    simp only [numP] at h
    split at h
    · rename_i hc
      split at h
      · rename_i hd
        injection h with h
        have := valD_small hd
        rw [hc, Lib.parseIntB_minus, parse_digits hd, Lib.signedC, if_neg (by simp; omega), h]
      · cases h
    · rename_i hc
      split at h
      · rename_i hd
        injection h with h
        have hs := valD_small hd
        have h1 : digB c = true := by
          simp only [digitsB, Bool.and_eq_true, List.all_cons] at hd; exact hd.2.1
        have h2 := of_decide_eq_true h1
        rw [Lib.parseIntB_plain 64 c r (by omega) (by omega), parse_digits hd, Lib.signlessC, if_neg (by simp; omega), h]
      · cases h

theorem kp_bytes (w : World) (t : ByteArray) : Kp w (Lib.bytesWorld w 5 t) (fun _ => False) := by
  unfold Lib.bytesWorld World.freeze
  rw [if_neg (by decide)]
  refine ⟨rfl, rfl, rfl, ?_, fun k hk _ => ?_⟩
  · simp
  · show (Array.modify _ _ _)[k]? = _
    rw [Array.getElem?_modify, if_neg (by simp; omega)]
    exact Below.heap_alloc w.drew _ k hk

set_option maxRecDepth 1000000 in
set_option maxHeartbeats 400000 in
theorem valueM (s : ByteArray) (n : Int) (w : World) (h : numP s.toList = some n) (hs : s.size ≤ 1000) :
    Calls Tryz.prog 52 #[.string s] w fun e w' => e = .returned (.int .i64 n) ∧ Kp w w' (fun _ => False) := by
  have hP := Tryz.strconv_ParseInt_10_at64_ok s (by omega) n (parse_num (by rw [← ByteArray.toList_eq]; exact h)) w
  have HP := hide hP
  clear hP h
  go_enter Tryz.func52, Tryz.ntmps52
  go_wp2_with fail
  refine HP.out.mono ?_
  rintro e w1 ⟨rfl, hw⟩
  have hk : Kp w w1 (fun _ => False) := by
    rcases hw with hw | ⟨t, hw⟩
    · subst hw; exact Kp.refl _ _
    · subst hw; exact kp_bytes w t
  clear hw
  go_wp2
  go_ret
  exact ⟨rfl, hk⟩

theorem trim_cons (c : UInt8) (r : List UInt8) : Lib.trimPrefix (c :: r) [45] = if c = 45 then r else c :: r := by
  by_cases hc : c = 45
  · subst hc; rw [if_pos rfl]; simp [Lib.trimPrefix, Lib.hasPrefix]
  · rw [if_neg hc]
    have h : Lib.hasPrefix (c :: r) [45] = false := by
      show List.isPrefixOf [45] (c :: r) = false
      simp [List.isPrefixOf, Ne.symm hc]
    unfold Lib.trimPrefix
    rw [h]; rfl
theorem num_trim (l : List UInt8) : (numP l).isSome = digitsB (Lib.trimPrefix l [45]) := by
  cases l with
  | nil => rfl
  | cons c r =>
    rw [trim_cons]
    simp only [numP]
    by_cases hc : c = 45
    · rw [if_pos hc, if_pos hc]
      cases digitsB r <;> rfl
    · rw [if_neg hc, if_neg hc]
      cases digitsB (c :: r) <;> rfl

set_option maxRecDepth 1000000 in
set_option maxHeartbeats 1000000 in
theorem isNumM (s : ByteArray) (w : World) (hs : s.size ≤ 1000) :
    Calls Tryz.prog 67 #[.string s] w fun e w' => e = .returned (.bool (numP s.toList).isSome) ∧ w' = w := by
  rw [ByteArray.toList_eq, num_trim]
  obtain ⟨d, hd⟩ : ∃ d : ByteArray, d = ⟨(Lib.trimPrefix s.data.toList [45]).toArray⟩ := ⟨_, rfl⟩
  have hdl : Lib.trimPrefix s.data.toList [45] = d.data.toList := by rw [hd]
  rw [hdl]
  have hdz : d.size ≤ 1000 := by
    have h1 : (Lib.trimPrefix s.data.toList [45]).length ≤ s.data.toList.length := by unfold Lib.trimPrefix; split <;> simp
    have h2 : d.data.toList.length = d.size := rfl
    have h3 : s.data.toList.length = s.size := rfl
    rw [hdl] at h1; omega
  have hC := Tryz.strings_TrimPrefix s ⟨#[45]⟩ w
  have HC : Hid (Calls Tryz.prog 93 #[.string s, .string ⟨#[45]⟩] w fun e w' => e = .returned (.string d) ∧ w' = w) := by rw [hd]; exact hC
  clear hC hd hdl
  go_enter Tryz.func67, Tryz.ntmps67
  go_wp2_with fail
  refine HC.out.mono ?_
  rintro e w' ⟨rfl, hw⟩
  rw [hw]; clear hw
  by_cases hsz : 1 ≤ d.size ∧ d.size ≤ 18
  · obtain ⟨hz1, hz2⟩ := hsz
    go_wp2
    go_loop [17] (fun i => ∃ k : Nat, k ≤ d.size ∧ i = .int .i64 k ∧ (d.data.toList.take k).all digB = true) (fun i => d.size - (intOf i).toNat)
    case atStart => exact ⟨0, Nat.zero_le _, rfl, rfl⟩
    case round =>
      obtain ⟨k, hk, rfl, hall⟩ := hrel
      have HA := hide hall
      clear hall
      by_cases hlt : k < d.size
      · by_cases hok : 48 ≤ d[k].toNat ∧ d[k].toNat ≤ 57
        · obtain ⟨ho1, ho2⟩ := hok
          go_wp2
          go_round
          case rel => exact ⟨k + 1, by omega, by go_num, by rw [take_snoc d k hlt, List.all_append, HA.out]; simp [digB, ho1, ho2]⟩
          case measure => simp [intOf]; omega
        · have HB : Hid (digitsB d.data.toList = false) := digitsB_bad (l := d.data.toList) (k := k) hlt (decide_eq_false hok)
          rcases (show d[k].toNat < 48 ∨ (48 ≤ d[k].toNat ∧ 57 < d[k].toNat) by omega) with h1 | ⟨h1, h2⟩
          all_goals
            clear hok
            go_wp2
            go_ret
            exact ⟨by rw [HB.out]; rfl, rfl⟩
      · have HB : Hid (digitsB d.data.toList = true) := by
          have h1 := HA.out
          rw [List.take_of_length_le (by show d.data.size ≤ k; exact Nat.le_of_not_lt hlt)] at h1
          unfold Hid digitsB
          have h2 : d.data.toList.length = d.size := rfl
          rw [h1, h2]; simp [hz1, hz2]
        go_wp2
        go_ret
        exact ⟨by rw [HB.out]; rfl, rfl⟩
  · have HB : Hid (digitsB d.data.toList = false) := by
      have h2 : d.data.toList.length = d.size := rfl
      unfold Hid digitsB
      rw [h2, decide_eq_false hsz]; rfl
    rcases (show d.size < 1 ∨ (1 ≤ d.size ∧ 18 < d.size) by omega) with h1 | ⟨h1, h2⟩
    all_goals
      clear hsz
      go_wp2
      go_ret
      exact ⟨by rw [HB.out]; rfl, rfl⟩
end Go.Proofs.YtimfpnoeifhjeaaGreatDoor
