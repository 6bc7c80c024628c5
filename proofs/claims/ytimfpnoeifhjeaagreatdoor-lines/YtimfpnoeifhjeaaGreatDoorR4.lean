import Derived.Test.YtimfpnoeifhjeaaGreatDoorR1
import Derived.Lib.ItoaNum
import Derived.Laws.BytesArg
namespace Go.Proofs.YtimfpnoeifhjeaaGreatDoor
open Go.RowKit

theorem nDigits_le : ∀ (k u : Nat), u < 10 ^ (k + 1) → Lib.nDigits u ≤ k + 1
  | 0, u, h => by rw [Lib.nDigits_small (by simpa using h)]; omega
  | k + 1, u, h => by
    by_cases hu : u < 10
    · rw [Lib.nDigits_small hu]; omega
    · rw [Lib.nDigits_big hu]
      have := nDigits_le k (u / 10) (by rw [Nat.pow_succ] at h; omega)
      omega

theorem conv1 (w : World) (x : Int) : (convert 89 9 (.slice (some ⟨w.heap.size, 0, none⟩) 1 1)).run Tryz.prog (w.alloc (.cells #[.int .u8 x] 5)) = .ok (.string ⟨#[UInt8.ofNat x.toNat]⟩) (w.alloc (.cells #[.int .u8 x] 5)) := by
  refine run_convert_bytes_arg _ 89 5 Tryz.underlying89 Tryz.underlying5 w.heap.size 0 1 1 [x] rfl ?_ 9 Tryz.underlying9
  intro i hi
  have : i = 0 := by omega
  subst this
  simp

/-- The digits that a loop has laid: n is what is left, l what is written. -/
def laid (m : Nat) : List UInt8 := if m < 10 then [] else Lib.decDigits (m / 10)

theorem laid_start (m : Nat) : Lib.decDigits m = laid m ++ [UInt8.ofNat (48 + m % 10)] := by
  unfold laid
  by_cases h : m < 10
  · rw [if_pos h, Lib.decDigits_one h, Nat.mod_eq_of_lt h]; rfl
  · rw [if_neg h]; rw [Lib.decDigits]; rw [dif_neg h]
theorem laid_step (m : Nat) (h : 10 ≤ m) : laid m = laid (m / 10) ++ [UInt8.ofNat (48 + m / 10 % 10)] := by
  rw [← laid_start]; unfold laid; rw [if_neg (by omega)]

theorem toNat_dig (m : Nat) : ((48 : Int) + (m : Int) % 10).toNat = 48 + m % 10 := by omega

theorem ba_app (a b : Array UInt8) : (⟨a⟩ ++ ⟨b⟩ : ByteArray) = ⟨a ++ b⟩ := by
  apply ByteArray.ext; rw [ByteArray.data_append]

theorem itoa_least : Lib.itoa (-9223372036854775808) = [45, 57, 50, 50, 51, 51, 55, 50, 48, 51, 54, 56, 53, 52, 55, 55, 53, 56, 48, 56] := by
  unfold Lib.itoa
  rw [if_pos (by decide)]
  have : (-9223372036854775808 : Int).natAbs = 9223372036854775808 := by decide
  rw [this]
  simp [Lib.decDigits]
theorem neg_least (n : Int) (h0 : -9223372036854775808 ≤ n) (hn : n < 0) (h : (n == wrap64 (-n)) = true) : n = -9223372036854775808 := by
  have h' : n = wrap64 (-n) := by simpa using h
  unfold wrap64 at h'
  omega
theorem neg_other (n : Int) (h0 : -9223372036854775808 ≤ n) (hn : n < 0) (h : (n == wrap64 (-n)) = false) : wrap64 (-n) = (n.natAbs : Int) ∧ n.natAbs ≤ 9223372036854775807 := by
  have h' : ¬ n = wrap64 (-n) := by simpa using h
  unfold wrap64 at h' ⊢
  omega
theorem itoa_neg (n : Int) (hn : n < 0) : Lib.itoa n = 45 :: Lib.decDigits n.natAbs := by unfold Lib.itoa; rw [if_pos hn]

theorem ofNat48 (k : Nat) : UInt8.ofNat (48 + k) = 48 + UInt8.ofNat k := by rw [UInt8.ofNat_add]; rfl

set_option maxRecDepth 1000000 in
set_option maxHeartbeats 400000 in
theorem digR_pos (n : Nat) (w : World) (hn : n ≤ 9223372036854775807) :
    Calls Tryz.prog 90 #[.int .i64 n] w fun e w' => e = .returned (.string ⟨(Lib.decDigits n).toArray⟩) ∧ Kp w w' (fun _ => False) := by
  have hcv := conv1
  have hd : (Lib.decDigits n).length ≤ 20 := by rw [Lib.decDigits_length]; exact nDigits_le 19 n (by omega)
  go_enter Tryz.func90, Tryz.ntmps90
  go_wp2
  go_loopw [0, 3] (fun i s wr => ∃ (m : Nat) (l : List UInt8), m ≤ n ∧ i = .int .i64 m ∧ s = .string ⟨l.toArray⟩ ∧ Lib.decDigits n = laid m ++ l ∧ Kp w wr (fun _ => False))
    (fun i _ _ => (intOf i).toNat)
  case atStart =>
    refine ⟨n, [UInt8.ofNat (48 + n % 10)], Nat.le_refl _, rfl, ?_, laid_start n, (Kp.refl _ _).alloc _⟩
    rw [ofNat48]
  case round =>
    obtain ⟨m, l, hm, rfl, rfl, hl, hkp⟩ := hrel
    have hll : l.length ≤ 20 := by rw [hl] at hd; simp at hd; omega
    have HL : Hid (Lib.decDigits n = laid m ++ l) := hl
    clear hl
    have hsz : (ByteArray.mk l.toArray).size = l.length := rfl
    by_cases h10 : 10 ≤ m
    · go_wp2
      go_roundw
      case rel =>
        refine ⟨m / 10, UInt8.ofNat (48 + m / 10 % 10) :: l, by omega, by go_num, ?_, ?_, ?_⟩
        · rw [ofNat48, ba_app]; simp
        · rw [HL.out, laid_step m h10]; simp
        · exact hkp.alloc _
      case measure => simp [intOf]; omega
    · go_wp2
      go_ret
      refine ⟨?_, hkp⟩
      rw [HL.out]; unfold laid; rw [if_pos (by omega)]; rfl

set_option maxRecDepth 1000000 in
set_option maxHeartbeats 400000 in
theorem digR (n : Int) (w : World) (h0 : -9223372036854775808 ≤ n) (h1 : n ≤ 9223372036854775807) :
    Calls Tryz.prog 90 #[.int .i64 n] w fun e w' => e = .returned (.string ⟨(Lib.itoa n).toArray⟩) ∧ Kp w w' (fun _ => False) := by
  by_cases hp : 0 ≤ n
  · obtain ⟨m, rfl⟩ : ∃ m : Nat, n = m := ⟨n.toNat, by omega⟩
    have : Lib.itoa (m : Int) = Lib.decDigits m := by unfold Lib.itoa; rw [if_neg (by omega)]; simp
    rw [this]
    exact digR_pos m w (by omega)
  · have hn : n < 0 := by omega
    have H0 : Hid (-9223372036854775808 ≤ n) := h0
    clear hp h0 h1
    go_enter Tryz.func90, Tryz.ntmps90
    go_wp2_with fail
    · have hl : n = -9223372036854775808 := neg_least n H0.out hn (by assumption)
      have hit : Lib.itoa n = [45, 57, 50, 50, 51, 51, 55, 50, 48, 51, 54, 56, 53, 52, 55, 55, 53, 56, 48, 56] := by rw [hl, itoa_least]
      clear hl
      go_ret
      refine ⟨?_, Kp.refl _ _⟩
      rw [hit]; rfl
    · have hl := neg_other n H0.out hn (by assumption)
      rw [hl.1]
      refine (digR_pos _ _ hl.2).mono ?_
      rintro e w' ⟨rfl, hk⟩
      have hsz : (ByteArray.mk (Lib.decDigits n.natAbs).toArray).size = (Lib.decDigits n.natAbs).length := rfl
      have hll : (Lib.decDigits n.natAbs).length ≤ 20 := by rw [Lib.decDigits_length]; exact nDigits_le 19 _ (by have := hl.2; omega)
      clear hl
      go_wp2
      go_ret
      refine ⟨?_, hk⟩
      rw [ba_app, itoa_neg n hn]; simp
end Go.Proofs.YtimfpnoeifhjeaaGreatDoor
