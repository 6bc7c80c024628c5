import Derived.Test.YtimfpnoeifhjeaaGreatDoorL5
import Derived.Deep.LoopGhost
namespace Go.Proofs.YtimfpnoeifhjeaaGreatDoor
open Go.RowKit

theorem stepL (B : Nat) (W w : World) (wb : Nat) (v : Value) (ps : List PS) (K A N M : Int) (S : ByteArray) (h : WInv B w wb v ps) (hbs : B ≤ w.heap.size) (hbel : Below B W w) (hG : Glo B W) (hP : Spl B W) (hK : K ≤ 2) (hcol : (58 : UInt8) ∉ S.data.toList) (h0 : -9223372036854775808 ≤ A) (h1 : A ≤ 9223372036854775807) (hn2 : ps.length ≤ 4398046511104) :
    Calls Tryz.prog 5 #[.pointer (some ⟨wb, 0, none⟩), .agg #[.int .i64 K, .int .i64 A, .int .i64 N, .int .i64 M, .string S]] w fun e w' => e = .returned (.bool true) ∧ SInv B w w' wb ps.length := by
  by_cases hk1 : K = 1
  · subst hk1; exact stepL_new B w wb v ps A N M S h hbs hn2
  · by_cases hz : ps.length = 0
    · have : ps = [] := List.eq_nil_of_length_eq_zero hz
      subst this
      exact stepL_none B w wb v K A N M S h hbs (by simpa using hk1)
    · by_cases hk2 : K = 2
      · subst hk2; exact stepL_line B W w wb v ps A N M S h hbs hbel hG hP hcol h0 h1 (by omega) hn2
      · exact stepL_other B w wb v ps K A N M S h hbs (by omega) h0 h1 (by omega) hn2

/-- A byte that no line without definitions holds. -/
def nbB (c : UInt8) : Bool := decide (c.toNat ≠ 58 ∧ c.toNat ≠ 123)
def smp (K : Int) (S : ByteArray) (k : Nat) : Bool := decide (K ≤ 2) && (S.data.toList.take k).all nbB

theorem smp_zero (K : Int) (S : ByteArray) : smp K S 0 = decide (K ≤ 2) := by simp [smp]
theorem smp_succ (K : Int) (S : ByteArray) (k : Nat) (h : k < S.size) : smp K S (k + 1) = (smp K S k && nbB S[k]) := by
  unfold smp; rw [take_snoc S k h, List.all_append]; simp [Bool.and_assoc]
theorem smp_full {K : Int} {S : ByteArray} (h : smp K S S.size = true) : K ≤ 2 ∧ (58 : UInt8) ∉ S.data.toList := by
  unfold smp at h
  rw [Bool.and_eq_true, decide_eq_true_eq] at h
  refine ⟨h.1, fun hm => ?_⟩
  have h2 := h.2
  rw [List.take_of_length_le (by show S.data.size ≤ S.size; exact Nat.le_refl _), List.all_eq_true] at h2
  have := of_decide_eq_true (h2 58 hm)
  exact this.1 rfl

/-- What the script holds at place i. -/
structure Scr (W : World) (b off : Nat) (i : Nat) (K A N M : Int) (S : ByteArray) : Prop where
  c0 : W.cell? ⟨b, off + i * 5, none⟩ = some (.int .i64 K)
  c1 : W.cell? ⟨b, off + i * 5 + 1, none⟩ = some (.int .i64 A)
  c2 : W.cell? ⟨b, off + i * 5 + 2, none⟩ = some (.int .i64 N)
  c3 : W.cell? ⟨b, off + i * 5 + 3, none⟩ = some (.int .i64 M)
  c4 : W.cell? ⟨b, off + i * 5 + 4, none⟩ = some (.string S)
  a0 : -9223372036854775808 ≤ A
  a1 : A ≤ 9223372036854775807
  sz : S.size ≤ 9223372036854775807

def LRel (B : Nat) (W wr : World) (wb k : Nat) : Prop := ∃ v ps, WInv B wr wb v ps ∧ ps.length ≤ k ∧ Below B W wr

set_option maxRecDepth 1000000 in
set_option maxHeartbeats 2000000 in
theorem linesL (W : World) (b off len cap : Nat) (hb : b < W.heap.size) (hlen : len ≤ 4398046511104) (hS : ∀ i, i < len → ∃ K A N M S, Scr W b off i K A N M S) (hG : Glo W.heap.size W) (hP : Spl W.heap.size W) :
    Calls Tryz.prog 3 #[.slice (some ⟨b, off, none⟩) len cap] W fun e w' => e = .returned (.bool true) ∧ Below W.heap.size W w' := by
  have HS := hide hS
  clear hS
  go_enter Tryz.func3, Tryz.ntmps3
  go_wp2_with fail
  refine (headsL W.heap.size W W (Below.refl _ _) (Nat.le_refl _) hG hP).mono ?_
  rintro e w1 ⟨rfl, hk1⟩
  have hsz1 := hk1.size
  have HW0 : Hid (LRel W.heap.size W (w1.alloc (.cells #[.slice none 0 0, .int .i64 0, .slice none 0 0] 28)) w1.heap.size 0) := by
    refine ⟨.slice none 0 0, [], ⟨Blk.new w1 _ _, World.ownsRow_nil _ _ _ _, fun i hi => by simp at hi, fun i j hi => by simp at hi, hsz1, fun k hk => by simp [own, Value.ownBlock] at hk⟩, by simp, ?_⟩
    exact (hk1.below (Nat.le_refl _) (by simp)).alloc hsz1 _
  clear hk1
  go_wp2
  go_loopw [3, 5] (fun o i wr => ∃ k : Nat, k ≤ len ∧ i = .int .i64 k ∧ o = .bool true ∧ LRel W.heap.size W wr w1.heap.size k) (fun _ i _ => len - (intOf i).toNat)
  case atStart => exact ⟨0, Nat.zero_le _, rfl, rfl, HW0.out⟩
  case round =>
    obtain ⟨k, hk, rfl, rfl, v, ps, hw, hpl, hbel⟩ := hrel
    by_cases hlt : k < len
    · obtain ⟨K, A, N, M, S, hs⟩ := HS.out k hlt
      have d0 : wr.cell? ⟨b, off + k * 5, none⟩ = some (.int .i64 K) := (hbel.cell (p := ⟨b, off + k * 5, none⟩) hb).trans hs.c0
      have d1 : wr.cell? ⟨b, off + k * 5 + 1, none⟩ = some (.int .i64 A) := (hbel.cell (p := ⟨b, off + k * 5 + 1, none⟩) hb).trans hs.c1
      have d2 : wr.cell? ⟨b, off + k * 5 + 2, none⟩ = some (.int .i64 N) := (hbel.cell (p := ⟨b, off + k * 5 + 2, none⟩) hb).trans hs.c2
      have d3 : wr.cell? ⟨b, off + k * 5 + 3, none⟩ = some (.int .i64 M) := (hbel.cell (p := ⟨b, off + k * 5 + 3, none⟩) hb).trans hs.c3
      have d4 : wr.cell? ⟨b, off + k * 5 + 4, none⟩ = some (.string S) := (hbel.cell (p := ⟨b, off + k * 5 + 4, none⟩) hb).trans hs.c4
      have hSz := hs.sz
      go_wp2
      go_loop [7, 8] (fun s i => ∃ q : Nat, q ≤ S.size ∧ i = .int .i64 q ∧ s = .bool (smp K S q)) (fun _ i => S.size - (intOf i).toNat)
      case atStart => exact ⟨0, Nat.zero_le _, rfl, by rw [smp_zero]⟩
      case round =>
        obtain ⟨q, hq, rfl, rfl⟩ := hrel
        by_cases hqs : q < S.size
        · have HSU := hide (smp_succ K S q hqs)
          cases hsm : smp K S q
          · go_wp2
            go_round
            case rel => exact ⟨q + 1, by omega, by go_num, by rw [HSU.out, hsm]; rfl⟩
            case measure => simp [intOf]; omega
          · by_cases h58 : S[q].toNat = 58
            · have HN : Hid (nbB S[q] = false) := decide_eq_false (by omega)
              go_wp2
              go_round
              case rel => exact ⟨q + 1, by omega, by go_num, by rw [HSU.out, hsm, HN.out]; rfl⟩
              case measure => simp [intOf]; omega
            · by_cases h123 : S[q].toNat = 123
              · have HN : Hid (nbB S[q] = false) := decide_eq_false (by omega)
                go_wp2
                go_round
                case rel => exact ⟨q + 1, by omega, by go_num, by rw [HSU.out, hsm, HN.out]; rfl⟩
                case measure => simp [intOf]; omega
              · have HN : Hid (nbB S[q] = true) := decide_eq_true ⟨h58, h123⟩
                have e1 : ((S[q].toNat : Int) != 58) = true := by rw [bne_iff_ne]; omega
                have e2 : ((S[q].toNat : Int) != 123) = true := by rw [bne_iff_ne]; omega
                go_wp2
                go_round
                case rel => exact ⟨q + 1, by omega, by go_num, by rw [HSU.out, hsm, HN.out]; rfl⟩
                case measure => simp [intOf]; omega
        · have hqe : q = S.size := by omega
          subst hqe
          cases hsm : smp K S S.size
          · go_wp2
            go_roundw
            case rel => exact ⟨k + 1, by omega, by go_num, rfl, v, ps, hw, by omega, hbel⟩
            case measure => simp [intOf]; omega
          · obtain ⟨hK2, hno⟩ := smp_full hsm
            have HST := hide (stepL W.heap.size W wr w1.heap.size v ps K A N M S hw (Nat.le_trans hsz1 (Nat.le_of_lt hw.blk.lt)) hbel hG hP hK2 hno hs.a0 hs.a1 (by omega))
            clear hno
            go_wp2_with fail
            refine HST.out.mono ?_
            rintro e w2 ⟨rfl, v2, ps2, hw2, hpl2, hbel2⟩
            have HR : Hid (LRel W.heap.size W w2 w1.heap.size (k + 1)) := ⟨v2, ps2, hw2, by omega, hbel.trans hbel2⟩
            clear hw2 hbel2
            go_wp2
            go_roundw
            case rel => exact ⟨k + 1, by omega, by go_num, rfl, HR.out⟩
            case measure => simp [intOf]; omega
    · go_wp2
      go_ret
      exact ⟨rfl, hbel⟩

set_option maxRecDepth 1000000 in
set_option maxHeartbeats 1000000 in
theorem linesL_empty (W : World) (ao : Option Addr) (cap : Nat) (hG : Glo W.heap.size W) (hP : Spl W.heap.size W) :
    Calls Tryz.prog 3 #[.slice ao 0 cap] W fun e w' => e = .returned (.bool true) ∧ Below W.heap.size W w' := by
  go_enter Tryz.func3, Tryz.ntmps3
  go_wp2_with fail
  refine (headsL W.heap.size W W (Below.refl _ _) (Nat.le_refl _) hG hP).mono ?_
  rintro e w1 ⟨rfl, hk1⟩
  have hsz1 := hk1.size
  have HB := hide ((hk1.below (Nat.le_refl _) (by simp)).alloc hsz1 (.cells #[.slice none 0 0, .int .i64 0, .slice none 0 0] 28))
  clear hk1
  go_wp2
  refine wp_loop_rounds 1 ?_
  rw [rounds_succ]
  go_wp2
  go_ret
  exact ⟨rfl, HB.out⟩
end Go.Proofs.YtimfpnoeifhjeaaGreatDoor
