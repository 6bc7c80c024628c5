import Derived.Test.YtimfpnoeifhjeaaGreatDoorM1
import Derived.Laws.CopyOwn
import Derived.BigRegion
namespace Go.Proofs.YtimfpnoeifhjeaaGreatDoor
open Go.RowKit

set_option maxRecDepth 1000000 in
set_option maxHeartbeats 1000000 in
theorem takeM_under (w : World) (xb rb : Nat) (m : MS) (ns : List Int) (n : Int) (h : MInv w xb rb m ns) (hlt : (ns.length : Int) < n) (hn : n ≤ 10) :
    Calls Tryz.prog 97 #[.pointer (some ⟨rb, 0, none⟩), .int .i64 n] w fun e w' => e = .returned (.tuple #[.agg #[.int .i64 0, .int .i64 0, .int .i64 0], .int .i64 6]) ∧ Kp w w' (fun _ => False) := by
  obtain ⟨bo, c0, hv⟩ := form_of h.srow
  have k0 : w.cell? ⟨rb, 0, none⟩ = some (.pointer (some ⟨xb, 0, none⟩)) := h.rblk.cell rfl
  have k1 : w.cell? ⟨xb, 0, none⟩ = some m.sv := h.xblk.cell rfl
  rw [hv] at k1
  have hlen := h.len
  have hl1 := h.xblk.lt
  have hl2 := h.rblk.lt
  clear hv
  go_enter Tryz.func97, Tryz.ntmps97
  go_wp2
  refine bodyPost_ret (v := .tuple #[.agg #[.int .i64 0, .int .i64 0, .int .i64 0], .int .i64 6]) (by simp [results, Tryz.results97, go_sem]) rfl ⟨rfl, ?_⟩
  exact ((Kp.refl _ _).alloc _).alloc _

def z3 : List Value := [.int .i64 0, .int .i64 0, .int .i64 0]
theorem splice_z3 (xs : List Int) (h : xs.length ≤ 3) : splice z3 0 (ints xs) = [.int .i64 (xs.getD 0 0), .int .i64 (xs.getD 1 0), .int .i64 (xs.getD 2 0)] := by
  match xs, h with
  | [], _ => rfl
  | [a], _ => rfl
  | [a, b], _ => rfl
  | [a, b, c], _ => rfl
  | a :: b :: c :: d :: r, h => simp at h
theorem Tryz.size2 : (Tryz.prog.info? 2).map (·.size) = some 1 := by kernel_rfl

theorem row_at2 {cur : Array Value} {ns : List Int} (h : cur.toList.take (ns.length * 1) = ints ns) (j : Nat) (hj : j < ns.length) : cur[j]? = some (.int .i64 (ns.getD j 0)) := by
  have h1 : (cur.toList.take (ns.length * 1))[j]? = (ints ns)[j]? := by rw [h]
  rw [List.getElem?_take, if_pos (by omega)] at h1
  simpa [ints, hj] using h1

theorem row_cut {w : World} {g cap : Nat} {cur : Array Value} {r xs : List Int} (hb : Blk w g 2 cur) (hc : (r ++ xs).length ≤ cap) (hm : cap ≤ maxLen) (hs : cur.size = cap * 1) (ht : cur.toList.take ((r ++ xs).length * 1) = ints (r ++ xs)) :
    w.ownsRow 0 2 1 (.slice (some ⟨g, 0, none⟩) r.length cap) r.length (ints r) := by
  simp only [List.length_append] at hc ht
  refine ⟨by simp [ints], .inr ⟨g, cap, cur, rfl, Nat.zero_le _, hb, by omega, hm, hs, ?_⟩⟩
  have : (cur.toList.take ((r.length + xs.length) * 1)).take r.length = (ints (r ++ xs)).take r.length := by rw [ht]
  rw [List.take_take, Nat.min_eq_left (by omega)] at this
  simpa [ints] using this

set_option maxRecDepth 1000000 in
set_option maxHeartbeats 1000000 in
theorem takeM (w : World) (xb rb : Nat) (m : MS) (r xs : List Int) (h : MInv w xb rb m (r ++ xs)) (h1 : 1 ≤ xs.length) (h3 : xs.length ≤ 3) :
    Calls Tryz.prog 97 #[.pointer (some ⟨rb, 0, none⟩), .int .i64 xs.length] w fun e w' => ∃ v', e = .returned (.tuple #[.agg #[.int .i64 (xs.getD 0 0), .int .i64 (xs.getD 1 0), .int .i64 (xs.getD 2 0)], .int .i64 0]) ∧
      MInv w' xb rb { m with sv := v' } r ∧ MTo xb rb w w' m { m with sv := v' } := by
  have hlen := h.len
  have k0 : w.cell? ⟨rb, 0, none⟩ = some (.pointer (some ⟨xb, 0, none⟩)) := h.rblk.cell rfl
  have k1 : w.cell? ⟨xb, 0, none⟩ = some m.sv := h.xblk.cell rfl
  have f1 := h.xblk.free 0
  have hl1 := h.xblk.lt
  have hl2 := h.rblk.lt
  obtain ⟨g0, cap, cur, hv, -, hg0, hnc, hcm, hcs, htake⟩ : ∃ g cap cur, m.sv = .slice (some ⟨g, 0, none⟩) (r ++ xs).length cap ∧ 0 ≤ g ∧ w.heap[g]? = some (.cells cur 2 (0, 0)) ∧ (r ++ xs).length ≤ cap ∧ cap ≤ maxLen ∧ cur.size = cap * 1 ∧ cur.toList.take ((r ++ xs).length * 1) = ints (r ++ xs) := by
    rcases h.srow.2 with ⟨_, h0⟩ | h0
    · simp only [List.length_append] at h0; omega
    · exact h0
  rw [hv] at k1
  have hx0 : Blk w xb 62 (marr (.slice (some ⟨g0, 0, none⟩) (r.length + xs.length) cap) m.mem) := by have := h.xblk; rw [hv, List.length_append] at this; exact this
  have HX0 : Hid (Blk w xb 62 (marr (.slice (some ⟨g0, 0, none⟩) (r.length + xs.length) cap) m.mem)) := hx0
  clear hx0
  have hb0 : Blk w g0 2 cur := hg0
  have hxg : xb ≠ g0 := by rintro rfl; exact absurd (hb0.inj h.xblk).1 (by decide)
  have hrg : rb ≠ g0 := by rintro rfl; exact absurd (hb0.inj h.rblk).1 (by decide)
  have hglt := hb0.lt
  have HV : Hid (m.sv = .slice (some ⟨g0, 0, none⟩) (r ++ xs).length cap) := hv
  have HT : Hid (cur.toList.take ((r ++ xs).length * 1) = ints (r ++ xs)) := htake
  have HC : Hid (cur.size = cap * 1) := hcs
  have HB : Hid (Blk w g0 2 cur) := hb0
  clear htake hcs hv hg0 hb0
  have HM : Hid (cap ≤ maxLen) := hcm
  unfold maxLen at hcm
  simp only [List.length_append] at hlen hnc k1
  obtain ⟨W, hW⟩ : ∃ W, W = ((w.alloc (.cells #[.int .i64 0, .int .i64 0, .int .i64 0] 151)).alloc (.cells #[.int .i64 0, .int .i64 0, .int .i64 0] 151)) := ⟨_, rfl⟩
  have HW : Hid (W = ((w.alloc (.cells #[.int .i64 0, .int .i64 0, .int .i64 0] 151)).alloc (.cells #[.int .i64 0, .int .i64 0, .int .i64 0] 151))) := hW
  have hsrc : ∀ j v, (ints xs)[j]? = some v → W.cell? ((⟨g0, r.length, none⟩ : Addr).add j) = some v := by
    intro j v hj
    have hjl : j < xs.length := by have := (List.getElem?_eq_some_iff.1 hj).1; simpa [ints] using this
    have e : (⟨g0, r.length, none⟩ : Addr).add j = ⟨g0, r.length + j, none⟩ := by unfold Addr.add; split <;> simp_all
    have hc := ((HB.out.alloc (.cells #[.int .i64 0, .int .i64 0, .int .i64 0] 151)).alloc (.cells #[.int .i64 0, .int .i64 0, .int .i64 0] 151)).cell (row_at2 HT.out (r.length + j) (by simp; omega))
    rw [e, hW, hc]
    simp [ints, hjl] at hj
    rw [← hj]
    simp [List.getD, hjl]
  have hcut : Blk W (w.heap.size + 1) 151 z3.toArray := by rw [hW]; have := Blk.new (w.alloc (.cells #[.int .i64 0, .int .i64 0, .int .i64 0] 151)) #[.int .i64 0, .int .i64 0, .int .i64 0] 151; rw [World.size_alloc] at this; exact this
  have HCU : Hid (Blk W (w.heap.size + 1) 151 z3.toArray) := hcut
  have HSR : Hid (∀ j v, (ints xs)[j]? = some v → W.cell? ((⟨g0, r.length, none⟩ : Addr).add j) = some v) := hsrc
  have h1c : Hid (∀ u ∈ ints xs, u.oneCell' = true) := by intro u hu; simp only [ints, List.mem_map] at hu; obtain ⟨a, _, rfl⟩ := hu; rfl
  clear hW hcut hsrc
  have b1 : (r.length : Int) ≤ (r.length : Int) + (xs.length : Int) := by omega
  have b2 : ¬ cap = r.length := by omega
  go_enter Tryz.func97, Tryz.ntmps97
  go_wp2
  rw [← HW.out]
  have j0 : W.cell? ⟨rb, 0, none⟩ = some (.pointer (some ⟨xb, 0, none⟩)) := by rw [HW.out]; exact ((h.rblk.alloc _).alloc _).cell rfl
  have j1 : W.cell? ⟨xb, 0, none⟩ = some (.slice (some ⟨g0, 0, none⟩) (r.length + xs.length) cap) := by rw [HW.out]; exact ((HX0.out.alloc _).alloc _).cell rfl
  go_region_law (refine step_copy_splice rfl (.tmp 21) (.tmp 30) 57 57 rfl 2 Tryz.underlying57 Tryz.size2 _ _ 3 3 xs.length _ rfl rfl (w.heap.size + 1) 0 z3 151 HCU.out (ints xs) (by show (ints xs).length = min xs.length 3; simp [ints]; omega) (fun _ => ⟨rfl, _, rfl, HSR.out⟩) (by simp [ints, z3]; omega) h1c.out (w.heap.size + 1) W (Below.refl _ _).drew (Nat.le_refl _) ?_; intro w4 hg4 hb4)
  have hb5 : Below (w.heap.size + 1) W w4 := hb4
  have hA : Blk w4 (w.heap.size + 1) 151 #[.int .i64 (xs.getD 0 0), .int .i64 (xs.getD 1 0), .int .i64 (xs.getD 2 0)] := by have := hg4.out; rw [splice_z3 xs h3] at this; exact this
  have hZ : Blk w4 w.heap.size 151 #[.int .i64 0, .int .i64 0, .int .i64 0] := by
    refine Blk.same (w := W) ?_ (hb5.block _ (by omega))
    rw [HW.out]; exact (Blk.new w _ _).alloc _
  have hX : Blk w4 xb 62 (marr (.slice (some ⟨g0, 0, none⟩) (r.length + xs.length) cap) m.mem) := by
    refine Blk.same (w := W) ?_ (hb5.block _ (by omega))
    rw [HW.out]; exact (HX0.out.alloc _).alloc _
  have hRb : Blk w4 rb 92 (rarr xb m.ov m.st) := by
    refine Blk.same (w := W) ?_ (hb5.block _ (by omega))
    rw [HW.out]; exact (h.rblk.alloc _).alloc _
  have hG : Blk w4 g0 2 cur := by
    refine Blk.same (w := W) ?_ (hb5.block _ (by omega))
    rw [HW.out]; exact (HB.out.alloc _).alloc _
  have hO : w4.ownsRow 0 5 1 m.ov m.out.size (Lib.byteCells m.out.data.toList) := by
    have hk : Kp w w4 (fun _ => False) := by
      refine Kp.ofBelow ?_
      have : Below w.heap.size w W := by rw [HW.out]; exact ((Below.refl _ _).alloc (Nat.le_refl _) _).alloc (by simp) _
      exact this.trans (hb5.mono (by omega))
    exact hk.row h.orow (by simp)
  have hK : Kp w w4 (fun _ => False) := by
    refine Kp.ofBelow ?_
    have : Below w.heap.size w W := by rw [HW.out]; exact ((Below.refl _ _).alloc (Nat.le_refl _) _).alloc (by simp) _
    exact this.trans (hb5.mono (by omega))
  have p0 : w4.cell? ⟨rb, 0, none⟩ = some (.pointer (some ⟨xb, 0, none⟩)) := hRb.cell rfl
  have p1 : w4.cell? ⟨xb, 0, none⟩ = some (.slice (some ⟨g0, 0, none⟩) (r.length + xs.length) cap) := hX.cell rfl
  have p2 := hX.free 0
  have a0 : w4.cell? ⟨w.heap.size + 1, 0, none⟩ = some (.int .i64 (xs.getD 0 0)) := hA.cell rfl
  have a1 : w4.cell? ⟨w.heap.size + 1, 1, none⟩ = some (.int .i64 (xs.getD 1 0)) := hA.cell rfl
  have a2 : w4.cell? ⟨w.heap.size + 1, 2, none⟩ = some (.int .i64 (xs.getD 2 0)) := hA.cell rfl
  obtain ⟨x0, hx0⟩ : ∃ x, x = xs.getD 0 0 := ⟨_, rfl⟩
  obtain ⟨x1, hx1⟩ : ∃ x, x = xs.getD 1 0 := ⟨_, rfl⟩
  obtain ⟨x2, hx2⟩ : ∃ x, x = xs.getD 2 0 := ⟨_, rfl⟩
  rw [← hx0] at a0
  rw [← hx1] at a1
  rw [← hx2] at a2
  have z0 : w4.cell? ⟨w.heap.size, 0, none⟩ = some (.int .i64 0) := hZ.cell rfl
  have z1 : w4.cell? ⟨w.heap.size, 1, none⟩ = some (.int .i64 0) := hZ.cell rfl
  have z2 : w4.cell? ⟨w.heap.size, 2, none⟩ = some (.int .i64 0) := hZ.cell rfl
  have y0 := hZ.free 0
  have y1 := hZ.free 1
  have y2 := hZ.free 2
  have H0 : Hid (x0 = xs.getD 0 0) := hx0
  have H1 : Hid (x1 = xs.getD 1 0) := hx1
  have H2 : Hid (x2 = xs.getD 2 0) := hx2
  clear hx0 hx1 hx2 hg4 hb4 j0 j1 k0 k1 f1
  go_wp2
  go_region
  all_goals go_wp2
  have hZ5 : Blk (((((w4.setCell ⟨xb, 0, none⟩ (.slice (some ⟨g0, 0, none⟩) r.length cap)).setCell ⟨w.heap.size, 0, none⟩ (.int .i64 x0)).setCell ⟨w.heap.size, 1, none⟩ (.int .i64 x1)).setCell ⟨w.heap.size, 2, none⟩ (.int .i64 x2)).drew) w.heap.size 151 #[.int .i64 x0, .int .i64 x1, .int .i64 x2] :=
    ((((hZ.setOther (a := ⟨xb, 0, none⟩) (by show w.heap.size ≠ xb; omega) _).set 0 _).set 1 _).set 2 _)
  have e0 := hZ5.cell (o := 0) (v := .int .i64 x0) rfl
  have e1 := hZ5.cell (o := 1) (v := .int .i64 x1) rfl
  have e2 := hZ5.cell (o := 2) (v := .int .i64 x2) rfl
  have hX5 := (((hX.set 0 (.slice (some ⟨g0, 0, none⟩) r.length cap)).setOther (a := ⟨w.heap.size, 0, none⟩) (by show xb ≠ w.heap.size; omega) (.int .i64 x0)).setOther (a := ⟨w.heap.size, 1, none⟩) (by show xb ≠ w.heap.size; omega) (.int .i64 x1)).setOther (a := ⟨w.heap.size, 2, none⟩) (by show xb ≠ w.heap.size; omega) (.int .i64 x2)
  have hR5 := (((hRb.setOther (a := ⟨xb, 0, none⟩) h.ne.symm (.slice (some ⟨g0, 0, none⟩) r.length cap)).setOther (a := ⟨w.heap.size, 0, none⟩) (by show rb ≠ w.heap.size; omega) (.int .i64 x0)).setOther (a := ⟨w.heap.size, 1, none⟩) (by show rb ≠ w.heap.size; omega) (.int .i64 x1)).setOther (a := ⟨w.heap.size, 2, none⟩) (by show rb ≠ w.heap.size; omega) (.int .i64 x2)
  have hG5 := (((hG.setOther (a := ⟨xb, 0, none⟩) hxg.symm (.slice (some ⟨g0, 0, none⟩) r.length cap)).setOther (a := ⟨w.heap.size, 0, none⟩) (by show g0 ≠ w.heap.size; omega) (.int .i64 x0)).setOther (a := ⟨w.heap.size, 1, none⟩) (by show g0 ≠ w.heap.size; omega) (.int .i64 x1)).setOther (a := ⟨w.heap.size, 2, none⟩) (by show g0 ≠ w.heap.size; omega) (.int .i64 x2)
  have hK5 : Kp w ((((w4.setCell ⟨xb, 0, none⟩ (.slice (some ⟨g0, 0, none⟩) r.length cap)).setCell ⟨w.heap.size, 0, none⟩ (.int .i64 x0)).setCell ⟨w.heap.size, 1, none⟩ (.int .i64 x1)).setCell ⟨w.heap.size, 2, none⟩ (.int .i64 x2)) (fun k => k = xb) :=
    ((((hK.mono (T := fun k => k = xb) (fun _ _ h => h.elim)).set (a := ⟨xb, 0, none⟩) (fun _ => rfl) _).set (a := ⟨w.heap.size, 0, none⟩) (fun hh => absurd hh (Nat.lt_irrefl _)) _).set (a := ⟨w.heap.size, 1, none⟩) (fun hh => absurd hh (Nat.lt_irrefl _)) _).set (a := ⟨w.heap.size, 2, none⟩) (fun hh => absurd hh (Nat.lt_irrefl _)) _
  have hO5 := hK5.row h.orow (fun k hk e => own_ne h.orow h.xblk (by decide) (by rw [← e]; exact hk))
  have hrow := row_cut hG5 (by simpa using hnc) HM.out HC.out HT.out
  have hlen5 : r.length ≤ 32 := by omega
  clear hA hZ hX hRb hG hO hK p0 p1 p2 a0 a1 a2 z0 z1 z2 y0 y1 y2 hZ5
  refine bodyPost_ret (v := .tuple #[.agg #[.int .i64 x0, .int .i64 x1, .int .i64 x2], .int .i64 0]) (by simp [results, Tryz.results97, go_sem, e0, e1, e2]) rfl ?_
  refine ⟨.slice (some ⟨g0, 0, none⟩) r.length cap, by rw [H0.out, H1.out, H2.out], ⟨hX5, hR5, hrow, hO5, hlen5⟩, ⟨(hK5.drew).mono (fun k _ e => .inl (.inl e)), ?_⟩⟩
  rintro k (hk | hk)
  · left; left; rw [HV.out]; exact hk
  · exact .inl (.inr hk)
end Go.Proofs.YtimfpnoeifhjeaaGreatDoor
