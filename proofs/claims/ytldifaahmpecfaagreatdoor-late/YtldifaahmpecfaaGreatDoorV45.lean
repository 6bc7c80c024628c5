import Derived.Test.YtldifaahmpecfaaGreatDoorRows
import Derived.Test.YtldifaahmpecfaaGreatDoorV44
import Derived.ProofKit
import Derived.LaidMore
import Derived.OpenShut
import Derived.Stop.Joined
import Derived.Lib.LaidTab
import Derived.Test.YtldifaahmpecfaaGreatDoorV43
import Derived.Handy
namespace Go.Proofs.YtldifaahmpecfaaGreatDoor
set_option maxRecDepth 1000000
set_option maxHeartbeats 4000000
set_option linter.all false
section
open Go.ChangeShapes Go.WideShapes Go.ChangeAt Go.RowKit
theorem gPow : Tryz.prog.globalNamed "internal/strconv.uint64pow10" = some 5 := by kernel_rfl
theorem gAsc : Tryz.prog.globalNamed "strings.asciiSpace" = some 0 := by kernel_rfl
theorem gSpl : Tryz.prog.globalNamed "anvil/token.spellings" = some 1 := by kernel_rfl
theorem tPow : (Tryz.prog.globals[5]?).map (·.type) = some 283 := by kernel_rfl
theorem tAsc : (Tryz.prog.globals[0]?).map (·.type) = some 126 := by kernel_rfl
theorem tSpl : (Tryz.prog.globals[1]?).map (·.type) = some 136 := by kernel_rfl
theorem dPow : (Rows.laid_internal_strconv_uint64pow10 : DataW Unit) = Lib.tabData .u64 Lib.pow10Tab := by rfl
theorem dAsc : (Rows.laid_strings_asciiSpace : DataW Unit) = Lib.tabData .u8 Lib.asciiSpaceTab := by rfl
theorem dSpl : (Rows.laid_anvil_token_spellings : DataW Unit) = .agg (spellW.map fun s => .lit (.string s.data.toList)) := by rfl
theorem cells_of_texts {H : Type} {enc : TypeId × Value → H} {P : Program} {w : World} {base : Nat} {sp : Nat → Bool} {held : Bool} {fuel : Nat} {t e : TypeId} {n : Nat} {cs : List Value} {zs : List ByteArray} {p : List MemPlace}
  (ht : P.underlying t = some (.array n e)) (he : P.underlying e = some .string) (hce : P.cellsOf e = 1) (hct : P.cellsOf t = n)
  (h : DataW.trod enc P w base sp held fuel t cs = some (.agg (zs.map fun s => .lit (.string s.data.toList)), p)) : cs = zs.map Value.string := by
 obtain ⟨xs, m, _, hx, hlen, hxl, hel⟩ := DataW.trod_array ht h
 simp only [Prod.mk.injEq, DataW.agg.injEq] at hx
 have hzl : zs.length = n := by have := congrArg List.length hx.1; simp at this; omega
 apply List.ext_getElem?
 intro i
 by_cases hi : i < n
 ·have h1 := hel i hi
  rw [hce, Nat.mul_one, List.getElem?_eq_getElem (by omega)] at h1
  obtain ⟨s, e1, e2, _⟩ := DataW.trod_string he h1
  have h2 : (xs.map (·.1))[i]? = some (.lit (.string s.data.toList)) := by rw [List.getElem?_map, List.getElem?_eq_getElem (by omega), Option.map_some, e2]
  rw [← hx.1, List.getElem?_map, List.getElem?_eq_getElem (by omega)] at h2
  simp only [Option.map_some, Option.some.injEq, DataW.lit.injEq, Lit.string.injEq] at h2
  have h3 : zs[i]'(by omega) = s := by apply ByteArray.ext; exact Array.toList_inj.1 h2
  have h4 : cs[i]? = some (.string s) := by
   have := congrArg (·[0]?) e1
   simpa [List.getElem?_take, List.getElem?_drop] using this
  rw [h4, List.getElem?_map, List.getElem?_eq_getElem (by omega), h3]; rfl
 ·rw [List.getElem?_eq_none (by omega), List.getElem?_eq_none (by simp; omega)]
theorem Tryz.own : ownKnob Tryz.prog.godebug = none := by kernel_rfl
theorem Tryz.laidOut : laidOutB Tryz.prog = true := by kernel_rfl
theorem Tryz.cells3 : Tryz.prog.cellsOf 3 = 1 := by kernel_rfl
theorem Tryz.cells9 : Tryz.prog.cellsOf 9 = 1 := by kernel_rfl
theorem of_laid {W : World} (h : laidMetH Tryz.prog Rows.runsUptoRow.laid W) : Env W.heap.size W := by
 rw [MakeChecks.laidMetH_plain _ _ _ (by kernel_rfl)] at h
 obtain ⟨ps, h, _⟩ := h
 simp only [Rows.runsUptoRow] at h
 obtain ⟨_, _, _, _, _, _, _, _, _, _, h, _⟩ := h
 obtain ⟨_, _, _, _, _, _, _, _, _, _, h, _⟩ := h
 obtain ⟨g2, t2, cs2, f2, p2, q2, hg2, ht2, hv2, hd2, h, _⟩ := h
 obtain ⟨_, _, _, _, _, _, _, _, _, _, h, _⟩ := h
 obtain ⟨_, _, _, _, _, _, _, _, _, _, h, _⟩ := h
 obtain ⟨_, _, _, _, _, _, _, _, _, _, h, _⟩ := h
 obtain ⟨g6, t6, cs6, f6, p6, q6, hg6, ht6, hv6, hd6, h, _⟩ := h
 obtain ⟨g7, t7, cs7, f7, p7, q7, hg7, ht7, hv7, hd7, h, _⟩ := h
 obtain rfl := Option.some.inj (gPow.symm.trans hg2)
 obtain rfl := Option.some.inj (gAsc.symm.trans hg6)
 obtain rfl := Option.some.inj (gSpl.symm.trans hg7)
 obtain rfl := Option.some.inj (tPow.symm.trans ht2)
 obtain rfl := Option.some.inj (tAsc.symm.trans ht6)
 obtain rfl := Option.some.inj (tSpl.symm.trans ht7)
 rw [dPow] at hd2
 rw [dAsc] at hd6
 rw [dSpl] at hd7
 have e2 := Lib.cells_of_tab Tryz.underlying283 Tryz.underlying225 (by kernel_rfl) (by kernel_rfl) hd2
 have e6 := Lib.cells_of_tab Tryz.underlying126 Tryz.underlying5 (by kernel_rfl) (by kernel_rfl) hd6
 have e7 := cells_of_texts Tryz.underlying136 Tryz.underlying9 (by kernel_rfl) (by kernel_rfl) hd7
 have hPow : Lib.TabIs Tryz.prog W "internal/strconv.uint64pow10" .u64 Lib.pow10Tab := by unfold Lib.TabIs; rw [hv2, ← e2]
 have hAsc : Lib.TabIs Tryz.prog W "strings.asciiSpace" .u8 Lib.asciiSpaceTab := by unfold Lib.TabIs; rw [hv6, ← e6]
 have hSp : ∃ tt fr, W.heap[1]? = some (.cells spellA tt fr) := by
  unfold World.var? at hv7
  rw [gSpl] at hv7
  simp only [Option.bind_some] at hv7
  split at hv7
  ·rename_i c tt fr hh
   injection hv7 with hv7
   refine ⟨tt, fr, ?_⟩
   rw [hh]
   have : c = spellA := by
    rw [hv7]
    apply Array.toList_inj.1
    rw [e7]; rfl
   rw [this]
  ·cases hv7
 obtain ⟨tt, fr, hh⟩ := hSp
 exact ⟨⟨Lib.tabBelow_of_tabIs hPow, Lib.tabBelow_of_tabIs hAsc, Nat.le_refl _⟩, ⟨tt, fr, hh⟩, lt_of_block hh⟩
end
section
open Go.RowKit
theorem run_inj {g g' : Nat} {j : XJ} {s : St} {r r' : St × Bool} (h : xRun g j s = some r) (h' : xRun g' j s = some r') : r = r' := by
 have h1 := xRun_mono (g' := g + g') (by omega) h
 have h2 := xRun_mono (g' := g + g') (by omega) h'
 rw [h1] at h2; injection h2
theorem valid_fields {t : List UInt8} (hv : validB t = true) : (Lib.fields t).length ≤ 1000 := by
 have h1 := fields_len t []
 have h3 : t.length ≤ 400 := by unfold validB at hv; rw [Bool.and_eq_true] at hv; exact of_decide_eq_true hv.1
 have : (Lib.fields t).length ≤ t.length + 1 := h1
 omega
theorem run_wf {g : Nat} {s s1 : St} {left : Bool} {t : List UInt8} (hw : WFs s) (hv : validB t = true) (h : xRun g (jToks (Lib.fields t)) (freshL s) = some (s1, left)) : WFs (endL s1) := by
 obtain ⟨g', s2, l2, h2, hwf⟩ := line_total s hw t (valid_fields hv)
 have := run_inj h h2
 injection this with e1 e2
 subst e1
 exact hwf
def after (g : Nat) (s : St) (t : List UInt8) : Option St := (xRun g (jToks (Lib.fields t)) (freshL s)).map (fun p => p.1)
theorem after_run {g : Nat} {s s1 : St} {t : List UInt8} (h : after g s t = some s1) : ∃ left, xRun g (jToks (Lib.fields t)) (freshL s) = some (s1, left) := by
 unfold after at h
 cases hx : xRun g (jToks (Lib.fields t)) (freshL s) with
 | none => rw [hx] at h; cases h
 | some p => rw [hx] at h; injection h with h; subst h; exact ⟨p.2, rfl⟩
theorem some_getD {α : Type} {o : Option α} {d : α} (h : o.isSome = true) : o = some (o.getD d) := by cases o with | none => cases h | some x => rfl
end
end Go.Proofs.YtldifaahmpecfaaGreatDoor
