import Derived.Test.YtldifaahmpecfaaGreatDoorV45
import Derived.Test.YtldifaahmpecfaaGreatDoorKF
import Derived.Test.YtldifaahmpecfaaGreatDoorKG
import Derived.Deep.DeepWitnessRowRef
import Derived.SizedLaws
import Derived.Deep.Slices
import Derived.Test.YtldifaahmpecfaaGreatDoorCards
import Derived.Test.YtldifaahmpecfaaGreatDoorTie
import Derived.SevenTiedAt
import Derived.Handy
namespace Go.Proofs.YtldifaahmpecfaaGreatDoor
set_option maxRecDepth 1000000
set_option maxHeartbeats 8000000
set_option linter.all false
section
open Go.ChangeShapes Go.WideShapes Go.ChangeAt Go.RowKit
theorem untuned_met (os : Os) (args : Array Value) : laidMetH Tryz.prog Rows.untunedRow.laid ((World.doorLaid Tryz.prog 400 os).forCall (fun _ _ => 0) ⟨#[], args, []⟩).memory :=
  laidMetH_of_parts3 (fuel := 8) (laidMet_of_run' 8 (by kernel_rfl) (by kernel_rfl)) (by kernel_rfl) (by kernel_rfl)
theorem Tryz.bytes3 : Tryz.prog.bytesOf 3 = 8 := by kernel_rfl
theorem Tryz.bytes9 : Tryz.prog.bytesOf 9 = 16 := by kernel_rfl
theorem nums_in {H : Type} {enc : TypeId × Value → H} {W : World} {base : Nat} {v0 : Value} {d0 : DataW H} {p : List MemPlace} (hv : Value.okWide Tryz.prog W .any base 34 v0) (h0 : DataW.Trod enc Tryz.prog W 0 (fun _ => true) true 34 v0 d0 p) :
    ∃ ra len cap, v0 = .slice ra len cap ∧ (∀ (ts : List TypeId) (ds : List (DataW H)) (j : Nat), (DataW.weightsEach Tryz.prog ts ds).all (· ≤ reachBytes) = true → ts[j]? = some 34 → ds[j]? = some d0 → len * 8 ≤ reachBytes) ∧ ∀ i, i < len → ∃ rb off c, ra = some ⟨rb, off, none⟩ ∧ W.cell? ⟨rb, off + i, none⟩ = some (.int .i64 c) ∧ In c := by
  obtain ⟨a0, len, cap, rfl⟩ := okWide_slice Tryz.underlying34 hv
  refine ⟨a0, len, cap, rfl, ?_⟩
  obtain ⟨fuel, hf⟩ := h0
  rcases Go.Deep.open_slice Tryz.underlying34 hf with ⟨hcs, _⟩ | ⟨a, len', cap', m, n, D, Pl, hcs, _, hl, hm, hmm, hx, hel⟩
  · simp [Value.cells] at hcs
    obtain ⟨rfl, rfl, rfl⟩ := hcs
    exact ⟨fun _ _ _ _ _ _ => by simp, fun i hi => by omega⟩
  · simp [Value.cells] at hcs
    obtain ⟨rfl, rfl, rfl⟩ := hcs
    rw [Tryz.cells3] at hel
    simp only [if_true] at hmm
    subst hmm
    simp only [Prod.mk.injEq] at hx
    refine ⟨fun ts ds j hsz ht hd => ?_, ?_⟩
    · have hs := sized_slice hsz (j := j) (t := 34) (e := 3) ht (by rw [hd, hx.1]) Tryz.underlying34
      rw [Tryz.bytes3] at hs
      simp only [List.length_map, List.length_range, reachBytes] at hs ⊢
      omega
    intro i hi
    obtain ⟨cs, h1, h2⟩ := hel i (by omega)
    obtain ⟨_, hlen, hc⟩ := World.cells?_some h1
    have g0 := hc 0 (by omega)
    obtain ⟨c, e, _, hw⟩ := DataW.trod_int Tryz.underlying3 h2
    subst e
    obtain ⟨b, off, spot⟩ := a
    cases spot with
    | some sp =>
      exfalso
      obtain ⟨cs0, hc0, _⟩ := hel 0 (by omega)
      have hfirst := (World.cells?_some hc0).2.2 0 (by omega)
      have hl0 := (World.cells?_some hc0).2.1
      rw [List.getElem?_eq_getElem (by omega)] at hfirst
      unfold World.cell? at hfirst
      split at hfirst
      · simp [Addr.add] at hfirst
      · cases hfirst
    | none =>
      have e1 : ((⟨b, off, none⟩ : Addr).add (i * 1)).add 0 = ⟨b, off + i, none⟩ := by
        unfold Addr.add; simp
      rw [e1] at g0
      exact ⟨b, off, c, rfl, g0, bounds_i64 hw⟩
theorem texts_in {H : Type} {enc : TypeId × Value → H} {W : World} {base : Nat} {v0 : Value} {d0 : DataW H} {p : List MemPlace} (hv : Value.okWide Tryz.prog W .any base 47 v0) (h0 : DataW.Trod enc Tryz.prog W 0 (fun _ => true) true 47 v0 d0 p) :
    ∃ ra len cap, v0 = .slice ra len cap ∧ (∀ (ts : List TypeId) (ds : List (DataW H)) (j : Nat), (DataW.weightsEach Tryz.prog ts ds).all (· ≤ reachBytes) = true → ts[j]? = some 47 → ds[j]? = some d0 → len * 16 ≤ reachBytes) ∧ ∀ i, i < len → ∃ rb off t, ra = some ⟨rb, off, none⟩ ∧ W.cell? ⟨rb, off + i, none⟩ = some (.string t) := by
  obtain ⟨a0, len, cap, rfl⟩ := okWide_slice Tryz.underlying47 hv
  refine ⟨a0, len, cap, rfl, ?_⟩
  obtain ⟨fuel, hf⟩ := h0
  rcases Go.Deep.open_slice Tryz.underlying47 hf with ⟨hcs, _⟩ | ⟨a, len', cap', m, n, D, Pl, hcs, _, hl, hm, hmm, hx, hel⟩
  · simp [Value.cells] at hcs
    obtain ⟨rfl, rfl, rfl⟩ := hcs
    exact ⟨fun _ _ _ _ _ _ => by simp, fun i hi => by omega⟩
  · simp [Value.cells] at hcs
    obtain ⟨rfl, rfl, rfl⟩ := hcs
    rw [Tryz.cells9] at hel
    simp only [if_true] at hmm
    subst hmm
    simp only [Prod.mk.injEq] at hx
    refine ⟨fun ts ds j hsz ht hd => ?_, ?_⟩
    · have hs := sized_slice hsz (j := j) (t := 47) (e := 9) ht (by rw [hd, hx.1]) Tryz.underlying47
      rw [Tryz.bytes9] at hs
      simp only [List.length_map, List.length_range, reachBytes] at hs ⊢
      omega
    intro i hi
    obtain ⟨cs, h1, h2⟩ := hel i (by omega)
    obtain ⟨_, hlen, hc⟩ := World.cells?_some h1
    have g0 := hc 0 (by omega)
    obtain ⟨c, e, _, hw⟩ := DataW.trod_string Tryz.underlying9 h2
    subst e
    obtain ⟨b, off, spot⟩ := a
    cases spot with
    | some sp =>
      exfalso
      obtain ⟨cs0, hc0, _⟩ := hel 0 (by omega)
      have hfirst := (World.cells?_some hc0).2.2 0 (by omega)
      have hl0 := (World.cells?_some hc0).2.1
      rw [List.getElem?_eq_getElem (by omega)] at hfirst
      unfold World.cell? at hfirst
      split at hfirst
      · simp [Addr.add] at hfirst
      · cases hfirst
    | none =>
      have e1 : ((⟨b, off, none⟩ : Addr).add (i * 1)).add 0 = ⟨b, off + i, none⟩ := by
        unfold Addr.add; simp
      rw [e1] at g0
      exact ⟨b, off, c, rfl, g0⟩
theorem untuned_lifted (os : Os) (started : os.Started) (H : Type) (enc : TypeId × Value → H) :
    ReturnsInHanded {} Tryz.checked os 7 .any (fun w args => (Rows.untunedSpec.pre enc Tryz.prog Tryz.f7 [] false w args ∧ laidMetH Tryz.prog Rows.untunedRow.laid w) ∧ sizedMet enc Tryz.prog Tryz.f7 (OpenSpec.ofChange Rows.untunedSpec) false w args)
      (Rows.untunedSpec.post enc Tryz.prog Tryz.f7 false true false false) := by
  refine returnsInHanded_of_change_and (C := Tryz.checked) (X := fun w _ => laidMetH Tryz.prog Rows.untunedRow.laid w) (fun _ _ _ hh h => h.of_heap hh) Tryz.own started (by kernel_rfl) Tryz.func7
    (ChangeSpec.witness_shaped (enc := enc) (C := Tryz.checked) (os := os) (X := fun w _ => laidMetH Tryz.prog Rows.untunedRow.laid w) false (World.doorLaid Tryz.prog 400 os) #[.slice none 0 0, .slice none 0 0] 8 rfl (World.shaped_of_RefB (by kernel_rfl) (by kernel_rfl)) (by kernel_rfl) (by kernel_rfl) (by kernel_rfl) (untuned_met os _)) ?_
  intro W base args ds gs before hval0 hW _ hsz0 hL _
  have hval : ∀ (j : Nat) t v, Tryz.f7.params[j]? = some t → args[j]? = some v → Value.okWide Tryz.prog W .any base t v := hval0
  have hsz : (DataW.weightsEach Tryz.prog (Tryz.f7.params.toList ++ Rows.untunedSpec.plain.varTypes Tryz.prog) (ds ++ gs)).all (· ≤ reachBytes) = true := hsz0
  have hW' := hW
  obtain ⟨p, q, hA0, hV, rfl, hfz, hnd⟩ := hW
  have hA : DataW.TrodAll enc Tryz.prog W 0 (fun _ => true) true Tryz.f7.params.toList args.toList ds p := hA0
  rw [Tryz.params7] at hA hval hsz
  obtain ⟨v0, v1, d0, d1, p0, p1, rfl, rfl, rfl, t0, t1⟩ := trodAll_two hA
  obtain ⟨rfl, rfl⟩ := trodVars_none hV
  have hE : Env W.heap.size W := of_laid hL
  clear hA0 hval0
  simp only [List.append_nil] at hW'
  have hlt : ∀ x ∈ p0 ++ p1, x.block < W.heap.size := fun x hx => by simpa using hW'.lt x (by simpa using hx)
  obtain ⟨la, len, cap, rfl, hs1, hlines⟩ := texts_in (hval 0 47 v0 rfl rfl) t0
  obtain ⟨ra, lt, cap2, rfl, hs2, hraw⟩ := nums_in (hval 1 34 v1 rfl rfl) t1
  have e1 := hs1 _ _ 0 hsz rfl rfl
  have e2 := hs2 _ _ 1 hsz rfl rfl
  simp only [reachBytes] at e1 e2
  have walk := untunedL W (conP hE) (tuneP _ _) la len cap ra lt cap2 (by omega) (by omega) hlines hraw
  refine walk.mono fun e W' ⟨he, hB⟩ => ?_
  subst he
  refine ⟨_, rfl, _, _, _, [], p0 ++ p1, [], hW', ?_, ?_, rfl, hB.frame _, fun h => by cases h⟩
  · exact trodAll_mk1 (shut_bool Tryz.underlying4 _)
  · exact trodAll_mk2 (Below.trod Tryz.laidOut (by kernel_rfl) (of_decide_eq_true (by kernel_rfl)) t0 hB (fun x hx => hlt x (by simp [hx]))) (Below.trod Tryz.laidOut (by kernel_rfl) (of_decide_eq_true (by kernel_rfl)) t1 hB (fun x hx => hlt x (by simp [hx])))
end
section
open Go
theorem untuned_said : Rows.UntunedSaid :=
  OpenClaim.holds_of_wide 7 Tryz.f7 rfl rfl rfl rfl rfl rfl rfl ⟨rfl, rfl, rfl, rfl, rfl⟩ rfl rfl rfl rfl rfl (by kernel_rfl) Tryz.func7 (by kernel_rfl)
    (of_decide_eq_true (by kernel_rfl)) (by unfold Func.isWrapper; first | (rw [if_pos (by decide +kernel)]; kernel_rfl) | (rw [if_neg (by decide +kernel)]; exact ⟨rfl, rfl⟩))
    (fun os started H enc _ => untuned_lifted os started H enc)
theorem untuned_plain (f : FuncId) (fn : Func) (hf : Tryz.pinned.checked.prog.funcNamed "anvil/anvilkeep.Untuned" = some f) (hfn : Tryz.pinned.checked.prog.funcs[f]? = some fn) :
    true = Tryz.pinned.checked.prog.looks [] ∧ ∀ (j : Nat) t, fn.params[j]? = some t → Tryz.pinned.checked.prog.wantsStandIn t = false := by
  obtain rfl : f = 7 := Option.some.inj ((show Tryz.prog.funcNamed "anvil/anvilkeep.Untuned" = some 7 by kernel_rfl).symm.trans hf) |>.symm
  obtain rfl : fn = Tryz.f7 := (Option.some.inj (Tryz.func7.symm.trans hfn)).symm
  refine ⟨by kernel_rfl, fun j t ht => ?_⟩
  rw [Tryz.params7] at ht
  have hm : t = 47 ∨ t = 34 := by simpa using Array.mem_of_getElem? ht
  rcases hm with rfl | rfl
  · exact (show Tryz.prog.wantsStandIn 47 = false by kernel_rfl)
  · exact (show Tryz.prog.wantsStandIn 34 = false by kernel_rfl)
theorem untuned_card : Rows.UntunedCardSaid :=
  Claim7.holds_tied_plain_at .later [] _ _ _ _ untuned_said (fun _ h => by cases h) (by kernel_rfl) (fun _ h => by cases h) untuned_row_tie rfl ⟨rfl, rfl⟩ (by kernel_rfl) rfl untuned_plain (by kernel_rfl)
end
#print axioms untuned_card
end Go.Proofs.YtldifaahmpecfaaGreatDoor
