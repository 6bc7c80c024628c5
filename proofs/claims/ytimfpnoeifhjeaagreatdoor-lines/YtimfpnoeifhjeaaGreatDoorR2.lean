import Derived.Test.YtimfpnoeifhjeaaGreatDoorR1
import Derived.BigRegion
namespace Go.Proofs.YtimfpnoeifhjeaaGreatDoor
open Go.RowKit

def tk (ns : List Int) (n j : Nat) : Int := if j < n then ns.getD (ns.length - 1 - j) 0 else 0
def tkArr (ns : List Int) (n : Nat) : Array Value := #[.int .i64 (tk ns n 0), .int .i64 (tk ns n 1), .int .i64 (tk ns n 2)]

theorem row_at {cur : Array Value} {ns : List Int} (h : cur.toList.take (ns.length * 1) = ints ns) (j : Nat) (hj : j < ns.length) : cur[j]? = some (.int .i64 (ns.getD j 0)) := by
  have h1 : (cur.toList.take (ns.length * 1))[j]? = (ints ns)[j]? := by rw [h]
  rw [List.getElem?_take, if_pos (by omega)] at h1
  simpa [ints, hj] using h1

theorem tkArr_size (ns : List Int) (k : Nat) : (tkArr ns k).size = 3 := rfl
theorem tkArr_succ (ns : List Int) (k : Nat) (hk : k < 3) : (tkArr ns k).setIfInBounds k (.int .i64 (ns.getD (ns.length - 1 - k) 0)) = tkArr ns (k + 1) := by
  have : k = 0 ∨ k = 1 ∨ k = 2 := by omega
  rcases this with h | h | h <;> subst h <;> rfl

theorem row_of {w : World} {g cap : Nat} {cur : Array Value} {ns : List Int} (hb : Blk w g 3 cur) (hc : ns.length ≤ cap) (hm : cap ≤ maxLen) (hs : cur.size = cap * 1) (ht : cur.toList.take (ns.length * 1) = ints ns) (m : Nat) (hm' : m ≤ ns.length) :
    w.ownsRow 0 3 1 (.slice (some ⟨g, 0, none⟩) m cap) (ns.take m).length (ints (ns.take m)) := by
  have hl : (ns.take m).length = m := by simp; omega
  rw [hl]
  refine ⟨by simp [ints]; omega, .inr ⟨g, cap, cur, rfl, Nat.zero_le _, hb, by omega, hm, hs, ?_⟩⟩
  have : (cur.toList.take (ns.length * 1)).take m = (ints ns).take m := by rw [ht]
  rw [List.take_take, Nat.min_eq_left (by omega)] at this
  simpa [ints, List.map_take] using this

set_option maxRecDepth 1000000 in
set_option maxHeartbeats 1000000 in
theorem takeR (w : World) (yb : Nat) (s : RS) (ns : List Int) (n : Nat) (h : RInv w yb s ns) (h1 : 1 ≤ n) (h3 : n ≤ 3) (hle : n ≤ ns.length) :
    Calls Tryz.prog 62 #[.pointer (some ⟨yb, 0, none⟩), .int .i64 n] w fun e w' => ∃ g v', e = .returned (.tuple #[.slice (some ⟨g, 0, none⟩) 3 3, .bool true]) ∧
      Blk w' g 3 (tkArr ns n) ∧ w.heap.size ≤ g ∧ RInv w' yb { s with nv := v' } (ns.take (ns.length - n)) ∧ RTo yb w w' s { s with nv := v' } ∧ ¬ own v' g := by
  have hlen := h.len
  have c0 : w.cell? ⟨yb, 0, none⟩ = some s.nv := h.blk.cell rfl
  obtain ⟨g0, cap, cur, hv, -, hg0, hnc, hcm, hcs, htake⟩ : ∃ g cap cur, s.nv = .slice (some ⟨g, 0, none⟩) ns.length cap ∧ 0 ≤ g ∧ w.heap[g]? = some (.cells cur 3 (0, 0)) ∧ ns.length ≤ cap ∧ cap ≤ maxLen ∧ cur.size = cap * 1 ∧ cur.toList.take (ns.length * 1) = ints ns := by
    rcases h.row.2 with ⟨_, h0⟩ | h0
    · omega
    · exact h0
  rw [hv] at c0
  have hb0 : Blk w g0 3 cur := hg0
  have hyg : yb ≠ g0 := by rintro rfl; exact absurd (hb0.inj h.blk).1 (by decide)
  have hylt := h.blk.lt
  have hglt := hb0.lt
  have hmk : ∀ w, (Instr.makeSlice 36 (.int .i64 3) (.int .i64 3)).run Tryz.prog w = .ok (.slice (some ⟨w.heap.size, 0, none⟩) 3 3) (w.alloc (.cells #[.int .i64 0, .int .i64 0, .int .i64 0] 3)) := fun _ => by kernel_rfl
  have HV : Hid (s.nv = .slice (some ⟨g0, 0, none⟩) ns.length cap) := hv
  clear hv
  have HT : Hid (cur.toList.take (ns.length * 1) = ints ns) := htake
  have HC : Hid (cur.size = cap * 1) := hcs
  clear htake hcs
  unfold maxLen at hcm
  go_enter Tryz.func62, Tryz.ntmps62
  go_wp2
  go_loopw [7] (fun i wr => ∃ k : Nat, k ≤ n ∧ i = .int .i64 k ∧ Blk wr yb 51 { s with nv := .slice (some ⟨g0, 0, none⟩) (ns.length - k) cap }.arr ∧ Blk wr g0 3 cur ∧ Blk wr w.heap.size 3 (tkArr ns k) ∧ Kp w wr (fun b => b = yb))
    (fun i _ => n - (intOf i).toNat)
  case atStart => 
    refine ⟨0, by omega, rfl, ?_, hb0.alloc _, ?_, (Kp.refl _ _).alloc _⟩
    · have := h.blk.alloc (.cells #[.int .i64 0, .int .i64 0, .int .i64 0] 3); rw [RS.arr, HV.out] at this; exact this
    · exact Blk.new w _ _
  case round =>
    obtain ⟨k, hk, rfl, hbs, hbg, hbo, hkp⟩ := hrel
    by_cases hlt : k < n
    · have d0 : wr.cell? ⟨yb, 0, none⟩ = some (.slice (some ⟨g0, 0, none⟩) (ns.length - k) cap) := hbs.cell rfl
      have d1 := hbs.free 0
      have d2 : wr.cell? ⟨g0, ns.length - k - 1, none⟩ = some (.int .i64 (ns.getD (ns.length - 1 - k) 0)) := by
        have := hbg.cell (row_at HT.out (ns.length - 1 - k) (by omega))
        rw [show ns.length - k - 1 = ns.length - 1 - k from by omega]; exact this
      obtain ⟨u, d3⟩ : ∃ u, wr.cell? ⟨w.heap.size, k, none⟩ = some u := ⟨_, hbo.cell (Array.getElem?_eq_getElem (by rw [tkArr_size]; omega))⟩
      have d4 := hbo.free k
      obtain ⟨x, hx⟩ : ∃ x, x = ns.getD (ns.length - 1 - k) 0 := ⟨_, rfl⟩
      rw [← hx] at d2
      have HX : Hid (x = ns.getD (ns.length - 1 - k) 0) := hx
      clear hx
      go_wp2
      go_region
      go_wp2
      go_region
      go_wp2
      go_roundw
      case rel =>
        refine ⟨k + 1, by omega, by go_num, ?_, ?_, ?_, ?_⟩
        · exact (((hbs.setOther (a := ⟨w.heap.size, k, none⟩) (by simp; omega) _).set 0 _).drew).drew
        · exact (((hbg.setOther (a := ⟨w.heap.size, k, none⟩) (by simp; omega) _).setOther (a := ⟨yb, 0, none⟩) (by simp; omega) _).drew).drew
        · have := (((hbo.set k (.int .i64 x)).setOther (a := ⟨yb, 0, none⟩) (by simp; omega) (.slice (some ⟨g0, 0, none⟩) (ns.length - k - 1) cap)).drew).drew
          rw [HX.out, tkArr_succ _ _ (by omega), ← HX.out] at this
          exact this
        · exact (((hkp.set (a := ⟨w.heap.size, k, none⟩) (by simp) _).set (a := ⟨yb, 0, none⟩) (fun _ => rfl) _).drew).drew
      case measure => simp [intOf]; omega
    · have hkn : k = n := by omega
      subst hkn
      go_wp2
      go_ret2
      refine ⟨_, _, rfl, hbo, Nat.le_refl _, ⟨hbs, row_of hbg hnc hcm HC.out HT.out _ (by omega), by simp; omega⟩, ⟨hkp.mono (fun _ _ => .inl), fun b hb => .inl ?_⟩, ?_⟩
      · rw [HV.out]; exact hb
      · simp [own, Value.ownBlock]; omega
end Go.Proofs.YtimfpnoeifhjeaaGreatDoor
