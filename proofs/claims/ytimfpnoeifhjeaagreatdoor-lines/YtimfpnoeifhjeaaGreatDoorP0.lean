import Derived.Test.YtimfpnoeifhjeaaGreatDoorRows
import Derived.Test.YtimfpnoeifhjeaaGreatDoorL6
import Derived.ProofKit
import Derived.LaidMore
import Derived.OpenShut
import Derived.Stop.Joined
import Derived.Lib.LaidTab
namespace Go.Proofs.YtimfpnoeifhjeaaGreatDoor
open Go.ChangeShapes Go.WideShapes Go.ChangeAt Go.RowKit

theorem gPow : Tryz.prog.globalNamed "internal/strconv.uint64pow10" = some 5 := by kernel_rfl
theorem gAsc : Tryz.prog.globalNamed "strings.asciiSpace" = some 0 := by kernel_rfl
theorem gSpl : Tryz.prog.globalNamed "anvil/token.spellings" = some 1 := by kernel_rfl
theorem tPow : (Tryz.prog.globals[5]?).map (·.type) = some 199 := by kernel_rfl
theorem tAsc : (Tryz.prog.globals[0]?).map (·.type) = some 110 := by kernel_rfl
theorem tSpl : (Tryz.prog.globals[1]?).map (·.type) = some 127 := by kernel_rfl
theorem dPow : (Rows.laid_internal_strconv_uint64pow10 : DataW Unit) = Lib.tabData .u64 Lib.pow10Tab := by rfl
set_option maxRecDepth 100000 in
theorem dAsc : (Rows.laid_strings_asciiSpace : DataW Unit) = Lib.tabData .u8 Lib.asciiSpaceTab := by rfl
theorem dSpl : (Rows.laid_anvil_token_spellings : DataW Unit) = .agg (spellW.map fun s => .lit (.string s.data.toList)) := by rfl

/-- An array of texts that reads as these holds these. -/
theorem cells_of_texts {H : Type} {enc : TypeId × Value → H} {P : Program} {w : World} {base : Nat} {sp : Nat → Bool} {held : Bool} {fuel : Nat} {t e : TypeId} {n : Nat} {cs : List Value} {zs : List ByteArray} {p : List MemPlace}
    (ht : P.underlying t = some (.array n e)) (he : P.underlying e = some .string) (hce : P.cellsOf e = 1) (hct : P.cellsOf t = n)
    (h : DataW.trod enc P w base sp held fuel t cs = some (.agg (zs.map fun s => .lit (.string s.data.toList)), p)) : cs = zs.map Value.string := by
  obtain ⟨xs, m, _, hx, hlen, hxl, hel⟩ := DataW.trod_array ht h
  simp only [Prod.mk.injEq, DataW.agg.injEq] at hx
  have hzl : zs.length = n := by have := congrArg List.length hx.1; simp at this; omega
  apply List.ext_getElem?
  intro i
  by_cases hi : i < n
  · have h1 := hel i hi
    rw [hce, Nat.mul_one, List.getElem?_eq_getElem (by omega)] at h1
    obtain ⟨s, e1, e2, _⟩ := DataW.trod_string he h1
    have h2 : (xs.map (·.1))[i]? = some (.lit (.string s.data.toList)) := by rw [List.getElem?_map, List.getElem?_eq_getElem (by omega), Option.map_some, e2]
    rw [← hx.1, List.getElem?_map, List.getElem?_eq_getElem (by omega)] at h2
    simp only [Option.map_some, Option.some.injEq, DataW.lit.injEq, Lit.string.injEq] at h2
    have h3 : zs[i]'(by omega) = s := by apply ByteArray.ext; exact Array.toList_inj.1 h2
    have h4 : cs[i]? = some (.string s) := by
      have := congrArg (·[0]?) e1
      simpa [List.getElem?_take, List.getElem?_drop] using this
    rw [h4, List.getElem?_map, List.getElem?_eq_getElem (by omega), h3]; rfl
  · rw [List.getElem?_eq_none (by omega), List.getElem?_eq_none (by simp; omega)]

theorem of_laid {W : World} (h : laidMetH Tryz.prog Rows.linesRow.laid W) : Glo W.heap.size W ∧ Spl W.heap.size W := by
  rw [MakeChecks.laidMetH_plain _ _ _ (by kernel_rfl)] at h
  obtain ⟨ps, h, _⟩ := h
  simp only [Rows.linesRow] at h
  obtain ⟨_, _, _, _, _, _, _, _, _, _, h, _⟩ := h
  obtain ⟨_, _, _, _, _, _, _, _, _, _, h, _⟩ := h
  obtain ⟨g2, t2, cs2, f2, p2, q2, hg2, ht2, hv2, hd2, h, _⟩ := h
  obtain ⟨_, _, _, _, _, _, _, _, _, _, h, _⟩ := h
  obtain ⟨_, _, _, _, _, _, _, _, _, _, h, _⟩ := h
  obtain ⟨_, _, _, _, _, _, _, _, _, _, h, _⟩ := h
  obtain ⟨g6, t6, cs6, f6, p6, q6, hg6, ht6, hv6, hd6, h, _⟩ := h
  obtain ⟨g7, t7, cs7, f7, p7, q7, hg7, ht7, hv7, hd7, h, _⟩ := h
  obtain rfl := Option.some.inj (gPow.symm.trans hg2)
  obtain rfl := Option.some.inj (gAsc.symm.trans hg6)
  obtain rfl := Option.some.inj (gSpl.symm.trans hg7)
  obtain rfl := Option.some.inj (tPow.symm.trans ht2)
  obtain rfl := Option.some.inj (tAsc.symm.trans ht6)
  obtain rfl := Option.some.inj (tSpl.symm.trans ht7)
  rw [dPow] at hd2
  rw [dAsc] at hd6
  rw [dSpl] at hd7
  have e2 := Lib.cells_of_tab Tryz.underlying199 Tryz.underlying172 (by kernel_rfl) (by kernel_rfl) hd2
  have e6 := Lib.cells_of_tab Tryz.underlying110 Tryz.underlying5 (by kernel_rfl) (by kernel_rfl) hd6
  have e7 := cells_of_texts Tryz.underlying127 Tryz.underlying9 (by kernel_rfl) (by kernel_rfl) hd7
  have hPow : Lib.TabIs Tryz.prog W "internal/strconv.uint64pow10" .u64 Lib.pow10Tab := by unfold Lib.TabIs; rw [hv2, ← e2]
  have hAsc : Lib.TabIs Tryz.prog W "strings.asciiSpace" .u8 Lib.asciiSpaceTab := by unfold Lib.TabIs; rw [hv6, ← e6]
  have hSp : ∃ tt fr, W.heap[1]? = some (.cells spellA tt fr) := by
    unfold World.var? at hv7
    rw [gSpl] at hv7
    simp only [Option.bind_some] at hv7
    split at hv7
    · rename_i c tt fr hh
      injection hv7 with hv7
      refine ⟨tt, fr, ?_⟩
      rw [hh]
      have : c = spellA := by
        rw [hv7]
        apply Array.toList_inj.1
        rw [e7]; rfl
      rw [this]
    · cases hv7
  refine ⟨⟨Lib.tabBelow_of_tabIs hPow, Lib.tabBelow_of_tabIs hAsc, Nat.le_refl _⟩, ⟨hSp, ?_⟩⟩
  obtain ⟨tt, fr, hh⟩ := hSp
  exact lt_of_block hh
end Go.Proofs.YtimfpnoeifhjeaaGreatDoor
