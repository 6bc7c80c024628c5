import Derived.Test.YtimfpnoeifhjeaaGreatDoorP0
import Derived.SizedLaws
import Derived.Deep.Slices
namespace Go.Proofs.YtimfpnoeifhjeaaGreatDoor
open Go.ChangeShapes Go.WideShapes Go.ChangeAt Go.RowKit

theorem Tryz.own : ownKnob Tryz.prog.godebug = none := by kernel_rfl
theorem Tryz.laidOut : laidOutB Tryz.prog = true := by kernel_rfl
theorem Tryz.cells30 : Tryz.prog.cellsOf 30 = 5 := by kernel_rfl
theorem Tryz.cells3 : Tryz.prog.cellsOf 3 = 1 := by kernel_rfl
theorem Tryz.cells9 : Tryz.prog.cellsOf 9 = 1 := by kernel_rfl
theorem Tryz.bytes30 : Tryz.prog.bytesOf 30 = 48 := by kernel_rfl

set_option maxRecDepth 100000 in
/-- One step of the script, read as data, lies in five cells. -/
theorem scr_of {H : Type} {enc : TypeId × Value → H} {W : World} {base : Nat} {sp : Nat → Bool} {held : Bool} {n b off i : Nat} {cs : List Value} {x : DataW H × List MemPlace}
    (h1 : W.cells? base ((⟨b, off, none⟩ : Addr).add (i * 5)) 5 = some cs) (h2 : DataW.trod enc Tryz.prog W base sp held n 30 cs = some x) : ∃ K A N M S, Scr W b off i K A N M S := by
  obtain ⟨_, hlen, hc⟩ := World.cells?_some h1
  obtain ⟨xs, m, _, _, _, hxl, hf⟩ := DataW.trod_struct Tryz.underlying30 h2
  have hxl' : xs.length = 5 := hxl
  match cs, hlen with
  | [c0, c1, c2, c3, c4], _ =>
    have f0 : DataW.trod enc Tryz.prog W base sp held m 3 (([c0, c1, c2, c3, c4].drop 0).take (Tryz.prog.cellsOf 3)) = xs[0]? := hf 0 { name := "Kind", type := 3, offset := 0, embedded := false, tag := "", pkgPath := "", byteOffset := 0 } rfl
    have f1 : DataW.trod enc Tryz.prog W base sp held m 3 (([c0, c1, c2, c3, c4].drop 1).take (Tryz.prog.cellsOf 3)) = xs[1]? := hf 1 { name := "A", type := 3, offset := 1, embedded := false, tag := "", pkgPath := "", byteOffset := 8 } rfl
    have f2 : DataW.trod enc Tryz.prog W base sp held m 3 (([c0, c1, c2, c3, c4].drop 2).take (Tryz.prog.cellsOf 3)) = xs[2]? := hf 2 { name := "N", type := 3, offset := 2, embedded := false, tag := "", pkgPath := "", byteOffset := 16 } rfl
    have f3 : DataW.trod enc Tryz.prog W base sp held m 3 (([c0, c1, c2, c3, c4].drop 3).take (Tryz.prog.cellsOf 3)) = xs[3]? := hf 3 { name := "M", type := 3, offset := 3, embedded := false, tag := "", pkgPath := "", byteOffset := 24 } rfl
    have f4 : DataW.trod enc Tryz.prog W base sp held m 9 (([c0, c1, c2, c3, c4].drop 4).take (Tryz.prog.cellsOf 9)) = xs[4]? := hf 4 { name := "S", type := 9, offset := 4, embedded := false, tag := "", pkgPath := "", byteOffset := 32 } rfl
    rw [Tryz.cells3] at f0 f1 f2 f3
    rw [Tryz.cells9] at f4
    rw [List.getElem?_eq_getElem (by omega)] at f0 f1 f2 f3 f4
    simp only [List.drop_zero, List.drop_succ_cons, List.take_succ_cons, List.take_zero] at f0 f1 f2 f3 f4
    obtain ⟨K, e0, _, w0⟩ := DataW.trod_int Tryz.underlying3 f0
    obtain ⟨A, e1, _, w1⟩ := DataW.trod_int Tryz.underlying3 f1
    obtain ⟨N, e2, _, w2⟩ := DataW.trod_int Tryz.underlying3 f2
    obtain ⟨M, e3, _, w3⟩ := DataW.trod_int Tryz.underlying3 f3
    obtain ⟨S, e4, _, w4⟩ := DataW.trod_string Tryz.underlying9 f4
    simp only [List.cons.injEq, and_true] at e0 e1 e2 e3 e4
    subst e0 e1 e2 e3 e4
    have hadd : ∀ j, ((⟨b, off, none⟩ : Addr).add (i * 5)).add j = ⟨b, off + i * 5 + j, none⟩ := by
      intro j
      have h1 : (⟨b, off, none⟩ : Addr).add (i * 5) = ⟨b, off + i * 5, none⟩ := by unfold Addr.add; split <;> simp_all
      have h2 : (⟨b, off + i * 5, none⟩ : Addr).add j = ⟨b, off + i * 5 + j, none⟩ := by unfold Addr.add; split <;> simp_all
      rw [h1, h2]
    have g0 := hc 0 (by omega)
    have g1 := hc 1 (by omega)
    have g2 := hc 2 (by omega)
    have g3 := hc 3 (by omega)
    have g4 := hc 4 (by omega)
    rw [hadd] at g0 g1 g2 g3 g4
    have bA := bounds_i64 w1
    exact ⟨K, A, N, M, S, g0, g1, g2, g3, g4, bA.1, bA.2, by unfold maxLen at w4; exact w4⟩

set_option maxRecDepth 100000 in
/-- The walk, for whatever script can be read. -/
theorem lines_walk {H : Type} {enc : TypeId × Value → H} {W : World} {base : Nat} {v0 : Value} {d0 : DataW H} {p : List MemPlace} (hv : Value.okWide Tryz.prog W .any base 22 v0) (h0 : DataW.Trod enc Tryz.prog W 0 (fun _ => true) true 22 v0 d0 p)
    (hsz : (DataW.weightsEach Tryz.prog [22] [d0]).all (· ≤ reachBytes) = true) (hG : Glo W.heap.size W) (hP : Spl W.heap.size W) :
    Calls Tryz.prog 3 #[v0] W fun e w' => e = .returned (.bool true) ∧ Below W.heap.size W w' := by
  obtain ⟨a0, len, cap, rfl⟩ := okWide_slice Tryz.underlying22 hv
  obtain ⟨fuel, hf⟩ := h0
  rcases Go.Deep.open_slice Tryz.underlying22 hf with ⟨hcs, _⟩ | ⟨a, len', cap', m, n, D, Pl, hcs, _, hl, hm, hmm, hx, hel⟩
  · simp [Value.cells] at hcs
    obtain ⟨rfl, rfl, rfl⟩ := hcs
    exact linesL_empty W _ _ hG hP
  · simp [Value.cells] at hcs
    obtain ⟨rfl, rfl, rfl⟩ := hcs
    rw [Tryz.cells30] at hel
    simp only [if_true] at hmm
    subst hmm
    by_cases hz : len = 0
    · subst hz; exact linesL_empty W _ _ hG hP
    · obtain ⟨cs0, hc0, _⟩ := hel 0 (by omega)
      have hfirst := (World.cells?_some hc0).2.2 0 (by omega)
      have hl0 := (World.cells?_some hc0).2.1
      rw [List.getElem?_eq_getElem (by omega)] at hfirst
      obtain ⟨b, off, spot⟩ := a
      cases spot with
      | some sp =>
        exfalso
        unfold World.cell? at hfirst
        split at hfirst
        · simp [Addr.add] at hfirst
        · cases hfirst
      | none =>
        have hb : b < W.heap.size := by
          have := World.block_lt_of_cell? W _ hfirst
          simpa [Addr.add] using this
        simp only [Prod.mk.injEq] at hx
        have hs := sized_slice hsz (j := 0) (t := 22) (e := 30) rfl (by rw [hx.1]; rfl) Tryz.underlying22
        rw [Tryz.bytes30] at hs
        simp only [List.length_map, List.length_range, reachBytes] at hs
        refine linesL W b off _ _ hb (by omega) (fun i hi => ?_) hG hP
        obtain ⟨cs, h1, h2⟩ := hel i (by omega)
        exact scr_of h1 h2
end Go.Proofs.YtimfpnoeifhjeaaGreatDoor
