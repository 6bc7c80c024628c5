import Derived.WalkKit
import Derived.Lib.ItoaNum
namespace Go.Proofs.YtimfpnoeifhjeaaGreatDoor
open Go.RowKit

/-! The document's tokens, as plain functions on bytes. -/
def plainL : List (List UInt8) := [[43], [45], [42], [47], [109, 111, 100], [61], [60], [100, 117, 112], [100, 114, 111, 112], [115, 119, 97, 112], [111, 118, 101, 114], [114, 111, 116], [46], [101, 109, 105, 116], [64], [33]]
def keptL : List (List UInt8) := [[105, 102], [101, 108, 115, 101], [116, 104, 101, 110], [98, 101, 103, 105, 110], [117, 110, 116, 105, 108], [119, 104, 105, 108, 101], [114, 101, 112, 101, 97, 116], [100, 111], [108, 111, 111, 112], [105], [114, 101, 99, 117, 114, 115, 101], [101, 120, 105, 116]]

def digB (c : UInt8) : Bool := decide (48 ≤ c.toNat ∧ c.toNat ≤ 57)
def valD (l : List UInt8) : Nat := l.foldl (fun n c => 10 * n + (c.toNat - 48)) 0
def digitsB (r : List UInt8) : Bool := decide (1 ≤ r.length ∧ r.length ≤ 18) && r.all digB
def numP : List UInt8 → Option Int
  | [] => none
  | c :: r => if c = 45 then (if digitsB r = true then some (-(valD r : Int)) else none) else (if digitsB (c :: r) = true then some (valD (c :: r) : Int) else none)

theorem valD_snoc (l : List UInt8) (c : UInt8) : valD (l ++ [c]) = 10 * valD l + (c.toNat - 48) := by simp [valD, List.foldl_append]
theorem valD_lt : ∀ (l : List UInt8), l.all digB = true → valD l < 10 ^ l.length := by
  intro l
  generalize hn : l.length = n
  induction n generalizing l with
  | zero => intro _; have : l = [] := List.eq_nil_of_length_eq_zero hn; subst this; decide
  | succ n ih =>
    intro h
    rcases List.eq_nil_or_concat l with rfl | ⟨l', c, hlc⟩
    · simp at hn
    · rw [List.concat_eq_append] at hlc
      subst hlc
      simp only [List.length_append, List.length_cons, List.length_nil] at hn
      simp only [List.all_append, List.all_cons, List.all_nil, Bool.and_true, Bool.and_eq_true] at h
      have h1 := ih l' (by omega) h.1
      have h2 := of_decide_eq_true h.2
      rw [valD_snoc, Nat.pow_succ]
      omega
theorem pow_le18 {k : Nat} (h : k ≤ 18) : (10 : Nat) ^ k ≤ 1000000000000000000 := by
  have := Nat.pow_le_pow_right (show 0 < 10 by decide) h
  simpa using this
theorem pow_le17 {k : Nat} (h : k ≤ 17) : (10 : Nat) ^ k ≤ 100000000000000000 := by
  have := Nat.pow_le_pow_right (show 0 < 10 by decide) h
  simpa using this

theorem take_snoc (s : ByteArray) (k : Nat) (h : k < s.size) : s.data.toList.take (k + 1) = s.data.toList.take k ++ [s[k]] := by
  rw [List.take_succ_eq_append_getElem (by simpa using h)]; rfl
theorem numP_range {l : List UInt8} {n : Int} (h : numP l = some n) : -9223372036854775808 ≤ n ∧ n ≤ 9223372036854775807 := by
  have key : ∀ r, digitsB r = true → (valD r : Int) < 1000000000000000000 := by
    intro r hr
    simp only [digitsB, Bool.and_eq_true, decide_eq_true_eq] at hr
    have h1 := valD_lt r hr.2
    have h2 := pow_le18 hr.1.2
    omega
  cases l with
  | nil => simp [numP] at h
  | cons c r =>
    simp only [numP] at h
    split at h
    · split at h
      · rename_i hd; injection h with h; have := key _ hd; omega
      · cases h
    · split at h
      · rename_i hd; injection h with h; have := key _ hd; omega
      · cases h
end Go.Proofs.YtimfpnoeifhjeaaGreatDoor
