import Derived.Test.YtldifaahmpecfaaGreatDoorV45
import Derived.Test.YtldifaahmpecfaaGreatDoorKI
import Derived.Test.YtldifaahmpecfaaGreatDoorKG
import Derived.Deep.DeepWitnessRowRef
import Derived.SizedLaws
import Derived.Deep.Slices
import Derived.Test.YtldifaahmpecfaaGreatDoorCards
import Derived.Test.YtldifaahmpecfaaGreatDoorTie
import Derived.SevenTiedAt
import Derived.Handy
namespace Go.Proofs.YtldifaahmpecfaaGreatDoor
set_option maxRecDepth 1000000
set_option maxHeartbeats 8000000
set_option linter.all false
section
open Go.ChangeShapes Go.WideShapes Go.ChangeAt Go.RowKit
theorem late_met (os : Os) (args : Array Value) : laidMetH Tryz.prog Rows.lateRow.laid ((World.doorLaid Tryz.prog 400 os).forCall (fun _ _ => 0) ⟨#[], args, []⟩).memory :=
  laidMetH_of_parts3 (fuel := 8) (laidMet_of_run' 8 (by kernel_rfl) (by kernel_rfl)) (by kernel_rfl) (by kernel_rfl)
theorem int_inW {H : Type} {enc : TypeId × Value → H} {W : World} {b0 base : Nat} {sp : Nat → Bool} {held : Bool} {v : Value} {d : DataW H} {p : List MemPlace} (hv : Value.okWide Tryz.prog W .any b0 3 v) (h : DataW.Trod enc Tryz.prog W base sp held 3 v d p) : ∃ n : Int, v = .int .i64 n ∧ In n := by
  obtain ⟨n, e, _, _, hw⟩ := open_int Tryz.underlying3 hv h
  exact ⟨n, e, bounds_i64 hw⟩
theorem raw_inW {H : Type} {enc : TypeId × Value → H} {W : World} {base : Nat} {v0 : Value} {d0 : DataW H} {p : List MemPlace} (hv : Value.okWide Tryz.prog W .any base 34 v0) (h0 : DataW.Trod enc Tryz.prog W 0 (fun _ => true) true 34 v0 d0 p) :
    ∃ ra len cap, v0 = .slice ra len cap ∧ ∀ i, i < len → ∃ rb off c, ra = some ⟨rb, off, none⟩ ∧ W.cell? ⟨rb, off + i, none⟩ = some (.int .i64 c) ∧ In c := by
  obtain ⟨a0, len, cap, rfl⟩ := okWide_slice Tryz.underlying34 hv
  refine ⟨a0, len, cap, rfl, ?_⟩
  obtain ⟨fuel, hf⟩ := h0
  rcases Go.Deep.open_slice Tryz.underlying34 hf with ⟨hcs, _⟩ | ⟨a, len', cap', m, n, D, Pl, hcs, _, hl, hm, hmm, hx, hel⟩
  · simp [Value.cells] at hcs
    obtain ⟨rfl, rfl, rfl⟩ := hcs
    intro i hi; omega
  · simp [Value.cells] at hcs
    obtain ⟨rfl, rfl, rfl⟩ := hcs
    rw [Tryz.cells3] at hel
    simp only [if_true] at hmm
    subst hmm
    intro i hi
    obtain ⟨cs, h1, h2⟩ := hel i (by omega)
    obtain ⟨_, hlen, hc⟩ := World.cells?_some h1
    have g0 := hc 0 (by omega)
    obtain ⟨c, e, _, hw⟩ := DataW.trod_int Tryz.underlying3 h2
    subst e
    obtain ⟨b, off, spot⟩ := a
    cases spot with
    | some sp =>
      exfalso
      obtain ⟨cs0, hc0, _⟩ := hel 0 (by omega)
      have hfirst := (World.cells?_some hc0).2.2 0 (by omega)
      have hl0 := (World.cells?_some hc0).2.1
      rw [List.getElem?_eq_getElem (by omega)] at hfirst
      unfold World.cell? at hfirst
      split at hfirst
      · simp [Addr.add] at hfirst
      · cases hfirst
    | none =>
      have e1 : ((⟨b, off, none⟩ : Addr).add (i * 1)).add 0 = ⟨b, off + i, none⟩ := by
        unfold Addr.add; simp
      rw [e1] at g0
      exact ⟨b, off, c, rfl, g0, bounds_i64 hw⟩
theorem late_lifted (os : Os) (started : os.Started) (H : Type) (enc : TypeId × Value → H) :
    ReturnsInHanded {} Tryz.checked os 9 .any (fun w args => (Rows.lateSpec.pre enc Tryz.prog Tryz.f9 [] false w args ∧ laidMetH Tryz.prog Rows.lateRow.laid w) ∧ sizedMet enc Tryz.prog Tryz.f9 (OpenSpec.ofChange Rows.lateSpec) false w args)
      (Rows.lateSpec.post enc Tryz.prog Tryz.f9 false true false false) := by
  refine returnsInHanded_of_change_and (C := Tryz.checked) (X := fun w _ => laidMetH Tryz.prog Rows.lateRow.laid w) (fun _ _ _ hh h => h.of_heap hh) Tryz.own started (by kernel_rfl) Tryz.func9
    (ChangeSpec.witness_shaped (enc := enc) (C := Tryz.checked) (os := os) (X := fun w _ => laidMetH Tryz.prog Rows.lateRow.laid w) false (World.doorLaid Tryz.prog 400 os) #[.slice none 0 0, .int .i64 0, .int .i64 0] 8 rfl (World.shaped_of_RefB (by kernel_rfl) (by kernel_rfl)) (by kernel_rfl) (by kernel_rfl) (by kernel_rfl) (late_met os _)) ?_
  intro W base args ds gs before hval0 hW _ hsz0 hL _
  have hval : ∀ (j : Nat) t v, Tryz.f9.params[j]? = some t → args[j]? = some v → Value.okWide Tryz.prog W .any base t v := hval0
  have hW' := hW
  obtain ⟨p, q, hA0, hV, rfl, hfz, hnd⟩ := hW
  have hA : DataW.TrodAll enc Tryz.prog W 0 (fun _ => true) true Tryz.f9.params.toList args.toList ds p := hA0
  rw [Tryz.params9] at hA hval
  obtain ⟨v0, v1, v2, d0, d1, d2, p0, p1, p2, rfl, rfl, rfl, t0, t1, t2⟩ := trodAll_three hA
  obtain ⟨rfl, rfl⟩ := trodVars_none hV
  have hE : Env W.heap.size W := of_laid hL
  clear hA0 hval0
  simp only [List.append_nil] at hW'
  have hlt : ∀ x ∈ p0 ++ (p1 ++ p2), x.block < W.heap.size := fun x hx => by simpa using hW'.lt x (by simpa using hx)
  obtain ⟨ra, len, cap, rfl, hraw⟩ := raw_inW (hval 0 34 v0 rfl rfl) t0
  obtain ⟨n1, rfl, b1⟩ := int_inW (hval 1 3 v1 rfl rfl) t1
  obtain ⟨n2, rfl, b2⟩ := int_inW (hval 2 3 v2 rfl rfl) t2
  have walk := lateL W (conP hE) (tuneP _ _) ra len cap n1 n2 b1 b2 hraw
  refine walk.mono fun e W' ⟨he, hB⟩ => ?_
  subst he
  refine ⟨_, rfl, _, _, _, [], p0 ++ p1 ++ p2, [], hW', ?_, ?_, rfl, hB.frame _, fun h => by cases h⟩
  · exact trodAll_mk1 (shut_bool Tryz.underlying4 _)
  · rw [List.append_assoc]; exact trodAll_mk3 (Below.trod Tryz.laidOut (by kernel_rfl) (of_decide_eq_true (by kernel_rfl)) t0 hB (fun x hx => hlt x (by simp [hx]))) (Below.trod Tryz.laidOut (by kernel_rfl) (of_decide_eq_true (by kernel_rfl)) t1 hB (fun x hx => hlt x (by simp [hx]))) (Below.trod Tryz.laidOut (by kernel_rfl) (of_decide_eq_true (by kernel_rfl)) t2 hB (fun x hx => hlt x (by simp [hx])))
end
section
open Go
theorem late_said : Rows.LateSaid :=
  OpenClaim.holds_of_wide 9 Tryz.f9 rfl rfl rfl rfl rfl rfl rfl ⟨rfl, rfl, rfl, rfl, rfl⟩ rfl rfl rfl rfl rfl (by kernel_rfl) Tryz.func9 (by kernel_rfl)
    (of_decide_eq_true (by kernel_rfl)) (by unfold Func.isWrapper; first | (rw [if_pos (by decide +kernel)]; kernel_rfl) | (rw [if_neg (by decide +kernel)]; exact ⟨rfl, rfl⟩))
    (fun os started H enc _ => late_lifted os started H enc)
theorem late_plain (f : FuncId) (fn : Func) (hf : Tryz.pinned.checked.prog.funcNamed "anvil/anvilkeep.Late" = some f) (hfn : Tryz.pinned.checked.prog.funcs[f]? = some fn) :
    true = Tryz.pinned.checked.prog.looks [] ∧ ∀ (j : Nat) t, fn.params[j]? = some t → Tryz.pinned.checked.prog.wantsStandIn t = false := by
  obtain rfl : f = 9 := Option.some.inj ((show Tryz.prog.funcNamed "anvil/anvilkeep.Late" = some 9 by kernel_rfl).symm.trans hf) |>.symm
  obtain rfl : fn = Tryz.f9 := (Option.some.inj (Tryz.func9.symm.trans hfn)).symm
  refine ⟨by kernel_rfl, fun j t ht => ?_⟩
  rw [Tryz.params9] at ht
  have hm : t = 34 ∨ t = 3 := by simpa using Array.mem_of_getElem? ht
  rcases hm with rfl | rfl
  · exact (show Tryz.prog.wantsStandIn 34 = false by kernel_rfl)
  · exact (show Tryz.prog.wantsStandIn 3 = false by kernel_rfl)
theorem late_card : Rows.LateCardSaid :=
  Claim7.holds_tied_plain_at .later [] _ _ _ _ late_said (fun _ h => by cases h) (by kernel_rfl) (fun _ h => by cases h) late_row_tie rfl ⟨rfl, rfl⟩ (by kernel_rfl) rfl late_plain (by kernel_rfl)
end
#print axioms late_card
end Go.Proofs.YtldifaahmpecfaaGreatDoor
