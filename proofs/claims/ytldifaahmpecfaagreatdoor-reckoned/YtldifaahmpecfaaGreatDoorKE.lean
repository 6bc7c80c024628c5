import Derived.Test.YtldifaahmpecfaaGreatDoorKD
import Derived.Test.YtldifaahmpecfaaGreatDoorV45
import Derived.Deep.DeepWitnessRowRef
import Derived.SizedLaws
import Derived.Deep.Slices
import Derived.Test.YtldifaahmpecfaaGreatDoorCards
import Derived.Test.YtldifaahmpecfaaGreatDoorTie
import Derived.SevenTiedAt
import Derived.Handy
namespace Go.Proofs.YtldifaahmpecfaaGreatDoor
set_option maxRecDepth 1000000
set_option maxHeartbeats 8000000
set_option linter.all false
section
open Go.RowKit
def wB (ts : List Tok) : ByteArray := ⟨#[58, 32, 119, 32]⟩ ++ textB ts ++ ⟨#[32, 59, 32, 119]⟩
theorem wB_list (ts : List Tok) : (wB ts).data.toList = textOf [kColon, kW] ++ (textOf ts ++ 32 :: (textOf [kSemi] ++ kW)) := by
  unfold wB textB
  rw [ba_app, ba_app]
  simp [textOf, kColon, kW, kSemi]
theorem wB_fields {ts : List Tok} (h : ∀ t ∈ ts, GoodT t) : Lib.fields (wB ts).data.toList = kColon :: kW :: (ts ++ [kSemi, kW]) := by
  rw [wB_list, fields_texts [kColon, kW] _ (by intro t ht; simp only [List.mem_cons, List.not_mem_nil, or_false] at ht; rcases ht with rfl | rfl <;> exact ⟨by decide, by decide⟩),
    fields_texts ts _ (good_tok h), fields_sp, fields_texts [kSemi] _ (by intro t ht; simp only [List.mem_cons, List.not_mem_nil, or_false] at ht; subst ht; exact ⟨by decide, by decide⟩), fields_end kW (by decide) (by decide)]
  rfl
theorem wB_valid {ts : List Tok} (h : ∀ t ∈ ts, GoodT t) (hl : (textOf ts).length ≤ 380) : validB (wB ts).data.toList = true := by
  have h1 : (wB ts).data.toList.length ≤ 400 := by
    rw [wB_list]
    simp only [List.length_append, List.length_cons]
    have e1 : (textOf [kColon, kW]).length = 4 := by decide
    have e2 : (textOf [kSemi]).length = 2 := by decide
    have e3 : kW.length = 1 := by decide
    omega
  unfold validB
  rw [decide_eq_true h1, wB_list, List.all_append, List.all_append, List.all_cons, texts_okB ts (good_tok h)]
  decide
theorem tB_valid {ts : List Tok} (h : ∀ t ∈ ts, GoodT t) (hl : (textOf ts).length ≤ 380) : validB (textB ts).data.toList = true := by
  have e : (textB ts).data.toList = textOf ts := by unfold textB; simp
  rw [e]
  unfold validB
  rw [decide_eq_true (by omega), texts_okB ts (good_tok h)]
  rfl
section
variable {PS : World → Nat → (Nat → Prop) → St → Prop} {B : Nat} {W0 : World} (P : PCon B W0 PS)
include P
theorem lineT (w : World) (xb : Nat) (V : Nat → Prop) (ts : List Tok) (rs : List Int) (inw : Bool) (hA : ArInv ts rs 40) (hl : (textOf ts).length ≤ 380) (hx : PS w xb V fsC) (hw : WFs fsC) :
    Calls Tryz.prog 15 #[.pointer (some ⟨xb, 0, none⟩), .string (if inw = true then wB ts else textB ts)] w fun e w' => e = .returned (.tuple #[.string ⟨#[]⟩, .int .i64 0]) ∧ ∃ V' s1, PS w' xb V' s1 ∧ WFs s1 ∧ s1.rs = rs ∧ To (fun _ => False) w w' V V' := by
  have key : ∀ (t : ByteArray) (s1 : St), validB t.data.toList = true → XR (jToks (Lib.fields t.data.toList)) (freshL fsC) s1 → s1.e = 0 → s1.out = ⟨#[]⟩ → s1.rs = rs →
      Calls Tryz.prog 15 #[.pointer (some ⟨xb, 0, none⟩), .string t] w fun e w' => e = .returned (.tuple #[.string ⟨#[]⟩, .int .i64 0]) ∧ ∃ V' s1, PS w' xb V' s1 ∧ WFs s1 ∧ s1.rs = rs ∧ To (fun _ => False) w w' V V' := by
    intro t s1 hv ⟨g, hr⟩ he ho hrs
    refine (P.line w xb V fsC s1 false g t hx hw hw.g hv hr).mono ?_
    rintro e w1 ⟨rfl, V', hx1, hto⟩
    have q : endL s1 = s1 := if_pos he
    have hwf := run_wf hw hv hr
    rw [q] at hwf hx1
    exact ⟨by rw [ho, he], V', s1, hx1, hwf, hrs, hto⟩
  cases inw with
  | true =>
    obtain ⟨s1, hr, he, ho, hrs⟩ := reck_word fsC fsC_ok hA
    rw [← wB_fields hA.good] at hr
    exact key (wB ts) s1 (wB_valid hA.good hl) hr he ho hrs
  | false =>
    obtain ⟨s1, hr, he, ho, hrs⟩ := reck_line fsC fsC_ok hA
    have e : (textB ts).data.toList = textOf ts := by unfold textB; simp
    rw [← e] at hr
    exact key (textB ts) s1 (tB_valid hA.good hl) hr he ho hrs
end
section
variable {PS : World → Nat → (Nat → Prop) → St → Prop}
theorem reckonedL (W : World) (P : PCon W.heap.size W PS) (ra : Option Addr) (len cap : Nat) (inw : Bool) (hraw : ∀ i, i < len → ∃ rb off c, ra = some ⟨rb, off, none⟩ ∧ W.cell? ⟨rb, off + i, none⟩ = some (.int .i64 c) ∧ In c) :
    Calls Tryz.prog 5 #[.slice ra len cap, .bool inw] W fun e w' => e = .returned (.bool true) ∧ Below W.heap.size W w' := by
  have HF := hide (freshK P W (Below.refl _ _) (Nat.le_refl _))
  have HR := hide hraw
  clear hraw
  go_enter Tryz.func5, Tryz.ntmps5
  go_wp2_with fail
  refine HF.out.mono ?_
  rintro e w1 ⟨xb, rfl, V, hx, hw, hk, hV⟩
  have hlt := P.lt _ _ _ _ hx
  have hAK := arithK w1 ra len cap (fun i hi => by
    obtain ⟨rb, off, c, e, hc, hin⟩ := HR.out i hi
    exact ⟨rb, off, c, e, cell_kpK hk (fun h => h) hc, hin⟩)
  have HX := hide hx
  have HW := hide hw
  have HK := hide hk
  have HAK := hide hAK
  have HLT := hide hlt
  have HV := hide hV
  clear hx hw hk hV hAK hlt HF HR
  go_wp2_with fail
  refine HAK.out.mono ?_
  rintro e w2 ⟨ts, rs, v, rfl, hA⟩
  obtain ⟨ao, cp, hv⟩ := row_slice hA.row
  subst hv
  have hts : (textB ts).size ≤ 1600 := by rw [textB_size]; have := hA.inv.tx; omega
  have hrl := hA.inv.rl
  by_cases h380 : 380 < (textB ts).size
  · have HB : Hid (Below W.heap.size W w2) := (HK.out.trans hA.kp).below (Nat.le_refl _) (fun _ _ h => h)
    clear hA HX HW HK HAK HLT HV
    go_wp2
    go_ret
    exact ⟨rfl, HB.out⟩
  · have hx2 := P.frame _ _ _ _ _ _ HX.out hA.kp (fun _ _ h => h) (fun _ _ h => h) (Nat.le_trans (Nat.le_refl _) HK.out.size)
    have hL := lineT P w2 xb V ts rs inw hA.inv (by rw [← textB_size]; omega) hx2 HW.out
    have HL := hide hL
    have HA := hide hA
    clear hx2 hL hA HX HW HAK
    have key : Hid (∀ w3 V' s1, PS w3 xb V' s1 → WFs s1 → s1.rs = rs → To (fun _ => False) w2 w3 V V' →
        Calls Tryz.prog 16 #[.pointer (some ⟨xb, 0, none⟩)] w3 fun e w4 => ∃ al cl, e = .returned (.slice al rs.length cl) ∧ Below W.heap.size W w4 ∧ ∀ i (hi : i < rs.length), ∃ g g2, al = some ⟨g, 0, none⟩ ∧ ao = some ⟨g2, 0, none⟩ ∧ g < w4.heap.size ∧ g2 < w4.heap.size ∧ w4.cell? ⟨g, i, none⟩ = some (.int .i64 (rs.reverse[i]'(by simpa using hi))) ∧ w4.cell? ⟨g2, i, none⟩ = some (.int .i64 (rs.reverse[i]'(by simpa using hi)))) := by
      unfold Hid
      intro w3 V' s1 hx3 hwf hrs hto
      refine (P.stack w3 xb V' s1 hx3 hwf.g).mono ?_
      rintro e w4 ⟨vl, rfl, hrow, V'', hx4, hto2, _⟩
      rw [hrs, ← List.length_reverse] at hrow
      obtain ⟨al, cl, rfl, hc⟩ := row_ints hrow
      have hq : ∀ q, own (Value.slice ao rs.length cp) q → w1.heap.size ≤ q ∧ q < w2.heap.size := fun q hq => ⟨HA.out.new q hq, own_lt HA.out.row hq⟩
      have hnV : ∀ q, own (Value.slice ao rs.length cp) q → ¬ V q := fun q h1 h2 => by have := (hq q h1).1; have := HLT.out q h2; omega
      have hnV' : ∀ q, own (Value.slice ao rs.length cp) q → ¬ V' q := fun q h1 h2 => by
        rcases hto.nx q h2 with h3 | h3
        · exact hnV q h1 h3
        · have := (hq q h1).2; omega
      have r3 := hto.kp.row HA.out.row (fun q h1 h2 => by rcases h2 with h2 | h2; exact h2; exact hnV q h1 h2)
      have r4 := hto2.kp.row r3 (fun q h1 h2 => by rcases h2 with h2 | h2; exact h2; exact hnV' q h1 h2)
      have r4' : w4.ownsRow 0 3 1 (.slice ao rs.length cp) rs.reverse.length (ints rs.reverse) := by rw [List.length_reverse]; exact r4
      obtain ⟨ao', cp', e1, hc2⟩ := row_ints r4'
      injection e1 with e1 _ _
      subst e1
      refine ⟨al, cl, by rw [List.length_reverse], ?_, fun i hi => ?_⟩
      · have K3 := Kp.two (HK.out.trans HA.out.kp) HV.out hto
        exact (Kp.two K3.1 K3.2 hto2).1.below (Nat.le_refl _) (fun _ _ h => h)
      · obtain ⟨g, e1, h1, h2⟩ := hc i (by simpa using hi)
        obtain ⟨g2, e3, h3, h4⟩ := hc2 i (by simpa using hi)
        exact ⟨g, g2, e1, e3, h1, h3, h2, h4⟩
    cases inw with
    | true =>
      simp only [if_true, wB] at HL
      go_wp2_with fail
      refine HL.out.mono ?_
      rintro e w3 ⟨rfl, V', s1, hx3, hwf, hrs, hto⟩
      have HS := hide (key.out w3 V' s1 hx3 hwf hrs hto)
      clear hx3 hwf hrs hto key HL HA HK HLT HV
      go_wp2_with fail
      refine HS.out.mono ?_
      rintro e w4 ⟨al, cl, rfl, hB4, hc⟩
      have HC := hide hc
      have HB4 := hide hB4
      clear hB4 hc HS
      go_wp2
      go_loopw [11] (fun i wr => ∃ k : Nat, k ≤ rs.length ∧ i = .int .i64 k ∧ Kp w4 wr (fun _ => False)) (fun i _ => rs.length - (intOf i).toNat)
      case atStart => exact ⟨0, Nat.zero_le _, rfl, Kp.refl _ _⟩
      case round =>
        obtain ⟨k, hk, rfl, hkp⟩ := hrel
        by_cases hlt : k < rs.length
        · obtain ⟨g, g2, rfl, rfl, hg, hg2, c1, c2⟩ := HC.out k hlt
          have d1 := cell_kpK hkp (fun h => h) c1
          have d2 := cell_kpK hkp (fun h => h) c2
          have hsz := hkp.size
          have hg' : g < wr.heap.size := by omega
          have hg2' : g2 < wr.heap.size := by omega
          have HKP := hide hkp
          clear hkp c1 c2 HC
          go_wp2
          go_quiet (fail)
          go_wp2
          go_roundw
          case rel => exact ⟨k + 1, by omega, by go_num, HKP.out.drewN _⟩
          case measure => simp [intOf]; omega
        · have HB5 : Hid (Below W.heap.size W wr) := HB4.out.trans (hkp.below HB4.out.size (fun _ _ h => h))
          clear hkp
          go_wp2
          go_ret
          exact ⟨rfl, HB5.out⟩
    | false =>
      simp only [Bool.false_eq_true, if_false] at HL
      go_wp2_with fail
      refine HL.out.mono ?_
      rintro e w3 ⟨rfl, V', s1, hx3, hwf, hrs, hto⟩
      have HS := hide (key.out w3 V' s1 hx3 hwf hrs hto)
      clear hx3 hwf hrs hto key HL HA HK HLT HV
      go_wp2_with fail
      refine HS.out.mono ?_
      rintro e w4 ⟨al, cl, rfl, hB4, hc⟩
      have HC := hide hc
      have HB4 := hide hB4
      clear hB4 hc HS
      go_wp2
      go_loopw [11] (fun i wr => ∃ k : Nat, k ≤ rs.length ∧ i = .int .i64 k ∧ Kp w4 wr (fun _ => False)) (fun i _ => rs.length - (intOf i).toNat)
      case atStart => exact ⟨0, Nat.zero_le _, rfl, Kp.refl _ _⟩
      case round =>
        obtain ⟨k, hk, rfl, hkp⟩ := hrel
        by_cases hlt : k < rs.length
        · obtain ⟨g, g2, rfl, rfl, hg, hg2, c1, c2⟩ := HC.out k hlt
          have d1 := cell_kpK hkp (fun h => h) c1
          have d2 := cell_kpK hkp (fun h => h) c2
          have hsz := hkp.size
          have hg' : g < wr.heap.size := by omega
          have hg2' : g2 < wr.heap.size := by omega
          have HKP := hide hkp
          clear hkp c1 c2 HC
          go_wp2
          go_quiet (fail)
          go_wp2
          go_roundw
          case rel => exact ⟨k + 1, by omega, by go_num, HKP.out.drewN _⟩
          case measure => simp [intOf]; omega
        · have HB5 : Hid (Below W.heap.size W wr) := HB4.out.trans (hkp.below HB4.out.size (fun _ _ h => h))
          clear hkp
          go_wp2
          go_ret
          exact ⟨rfl, HB5.out⟩
end
end
section
open Go.ChangeShapes Go.WideShapes Go.ChangeAt Go.RowKit
theorem reckoned_met (os : Os) (args : Array Value) : laidMetH Tryz.prog Rows.reckonedRow.laid ((World.doorLaid Tryz.prog 400 os).forCall (fun _ _ => 0) ⟨#[], args, []⟩).memory :=
  laidMetH_of_parts3 (fuel := 8) (laidMet_of_run' 8 (by kernel_rfl) (by kernel_rfl)) (by kernel_rfl) (by kernel_rfl)
theorem bool_in {W : World} {base : Nat} {v : Value} (h : Value.okWide Tryz.prog W .any base 4 v) : ∃ b : Bool, v = .bool b := okWide_bool Tryz.underlying4 h
theorem raw_in {H : Type} {enc : TypeId × Value → H} {W : World} {base : Nat} {v0 : Value} {d0 : DataW H} {p : List MemPlace} (hv : Value.okWide Tryz.prog W .any base 34 v0) (h0 : DataW.Trod enc Tryz.prog W 0 (fun _ => true) true 34 v0 d0 p) :
    ∃ ra len cap, v0 = .slice ra len cap ∧ ∀ i, i < len → ∃ rb off c, ra = some ⟨rb, off, none⟩ ∧ W.cell? ⟨rb, off + i, none⟩ = some (.int .i64 c) ∧ In c := by
  obtain ⟨a0, len, cap, rfl⟩ := okWide_slice Tryz.underlying34 hv
  refine ⟨a0, len, cap, rfl, ?_⟩
  obtain ⟨fuel, hf⟩ := h0
  rcases Go.Deep.open_slice Tryz.underlying34 hf with ⟨hcs, _⟩ | ⟨a, len', cap', m, n, D, Pl, hcs, _, hl, hm, hmm, hx, hel⟩
  · simp [Value.cells] at hcs
    obtain ⟨rfl, rfl, rfl⟩ := hcs
    intro i hi; omega
  · simp [Value.cells] at hcs
    obtain ⟨rfl, rfl, rfl⟩ := hcs
    rw [Tryz.cells3] at hel
    simp only [if_true] at hmm
    subst hmm
    intro i hi
    obtain ⟨cs, h1, h2⟩ := hel i (by omega)
    obtain ⟨_, hlen, hc⟩ := World.cells?_some h1
    have g0 := hc 0 (by omega)
    obtain ⟨c, e, _, hw⟩ := DataW.trod_int Tryz.underlying3 h2
    subst e
    obtain ⟨b, off, spot⟩ := a
    cases spot with
    | some sp =>
      exfalso
      obtain ⟨cs0, hc0, _⟩ := hel 0 (by omega)
      have hfirst := (World.cells?_some hc0).2.2 0 (by omega)
      have hl0 := (World.cells?_some hc0).2.1
      rw [List.getElem?_eq_getElem (by omega)] at hfirst
      unfold World.cell? at hfirst
      split at hfirst
      · simp [Addr.add] at hfirst
      · cases hfirst
    | none =>
      have e1 : ((⟨b, off, none⟩ : Addr).add (i * 1)).add 0 = ⟨b, off + i, none⟩ := by
        unfold Addr.add; simp
      rw [e1] at g0
      exact ⟨b, off, c, rfl, g0, bounds_i64 hw⟩
theorem reckoned_lifted (os : Os) (started : os.Started) (H : Type) (enc : TypeId × Value → H) :
    ReturnsInHanded {} Tryz.checked os 5 .any (fun w args => (Rows.reckonedSpec.pre enc Tryz.prog Tryz.f5 [] false w args ∧ laidMetH Tryz.prog Rows.reckonedRow.laid w) ∧ sizedMet enc Tryz.prog Tryz.f5 (OpenSpec.ofChange Rows.reckonedSpec) false w args)
      (Rows.reckonedSpec.post enc Tryz.prog Tryz.f5 false true false false) := by
  refine returnsInHanded_of_change_and (C := Tryz.checked) (X := fun w _ => laidMetH Tryz.prog Rows.reckonedRow.laid w) (fun _ _ _ hh h => h.of_heap hh) Tryz.own started (by kernel_rfl) Tryz.func5
    (ChangeSpec.witness_shaped (enc := enc) (C := Tryz.checked) (os := os) (X := fun w _ => laidMetH Tryz.prog Rows.reckonedRow.laid w) false (World.doorLaid Tryz.prog 400 os) #[.slice none 0 0, .bool false] 8 rfl (World.shaped_of_RefB (by kernel_rfl) (by kernel_rfl)) (by kernel_rfl) (by kernel_rfl) (by kernel_rfl) (reckoned_met os _)) ?_
  intro W base args ds gs before hval0 hW _ hsz0 hL _
  have hval : ∀ (j : Nat) t v, Tryz.f5.params[j]? = some t → args[j]? = some v → Value.okWide Tryz.prog W .any base t v := hval0
  have hW' := hW
  obtain ⟨p, q, hA0, hV, rfl, hfz, hnd⟩ := hW
  have hA : DataW.TrodAll enc Tryz.prog W 0 (fun _ => true) true Tryz.f5.params.toList args.toList ds p := hA0
  rw [Tryz.params5] at hA hval
  obtain ⟨v0, v1, d0, d1, p0, p1, rfl, rfl, rfl, t0, t1⟩ := trodAll_two hA
  obtain ⟨rfl, rfl⟩ := trodVars_none hV
  have hE : Env W.heap.size W := of_laid hL
  clear hA0 hval0
  simp only [List.append_nil] at hW'
  have hlt : ∀ x ∈ p0 ++ p1, x.block < W.heap.size := fun x hx => by simpa using hW'.lt x (by simpa using hx)
  obtain ⟨inw, rfl⟩ := bool_in (hval 1 4 v1 rfl rfl)
  obtain ⟨ra, len, cap, rfl, hraw⟩ := raw_in (hval 0 34 v0 rfl rfl) t0
  have walk := reckonedL W (conP hE) ra len cap inw hraw
  refine walk.mono fun e W' ⟨he, hB⟩ => ?_
  subst he
  refine ⟨_, rfl, _, _, _, [], p0 ++ p1, [], hW', ?_, ?_, rfl, hB.frame _, fun h => by cases h⟩
  · exact trodAll_mk1 (shut_bool Tryz.underlying4 _)
  · exact trodAll_mk2 (Below.trod Tryz.laidOut (by kernel_rfl) (of_decide_eq_true (by kernel_rfl)) t0 hB (fun x hx => hlt x (by simp [hx]))) (Below.trod Tryz.laidOut (by kernel_rfl) (of_decide_eq_true (by kernel_rfl)) t1 hB (fun x hx => hlt x (by simp [hx])))
end
section
open Go
theorem reckoned_said : Rows.ReckonedSaid :=
  OpenClaim.holds_of_wide 5 Tryz.f5 rfl rfl rfl rfl rfl rfl rfl ⟨rfl, rfl, rfl, rfl, rfl⟩ rfl rfl rfl rfl rfl (by kernel_rfl) Tryz.func5 (by kernel_rfl)
    (of_decide_eq_true (by kernel_rfl)) (by unfold Func.isWrapper; first | (rw [if_pos (by decide +kernel)]; kernel_rfl) | (rw [if_neg (by decide +kernel)]; exact ⟨rfl, rfl⟩))
    (fun os started H enc _ => reckoned_lifted os started H enc)
theorem reckoned_plain (f : FuncId) (fn : Func) (hf : Tryz.pinned.checked.prog.funcNamed "anvil/anvilkeep.Reckoned" = some f) (hfn : Tryz.pinned.checked.prog.funcs[f]? = some fn) :
    true = Tryz.pinned.checked.prog.looks [] ∧ ∀ (j : Nat) t, fn.params[j]? = some t → Tryz.pinned.checked.prog.wantsStandIn t = false := by
  obtain rfl : f = 5 := Option.some.inj ((show Tryz.prog.funcNamed "anvil/anvilkeep.Reckoned" = some 5 by kernel_rfl).symm.trans hf) |>.symm
  obtain rfl : fn = Tryz.f5 := (Option.some.inj (Tryz.func5.symm.trans hfn)).symm
  refine ⟨by kernel_rfl, fun j t ht => ?_⟩
  rw [Tryz.params5] at ht
  have hm : t = 34 ∨ t = 4 := by simpa using Array.mem_of_getElem? ht
  rcases hm with rfl | rfl
  · exact (show Tryz.prog.wantsStandIn 34 = false by kernel_rfl)
  · exact (show Tryz.prog.wantsStandIn 4 = false by kernel_rfl)
theorem reckoned_card : Rows.ReckonedCardSaid :=
  Claim7.holds_tied_plain_at .later [] _ _ _ _ reckoned_said (fun _ h => by cases h) (by kernel_rfl) (fun _ h => by cases h) reckoned_row_tie rfl ⟨rfl, rfl⟩ (by kernel_rfl) rfl reckoned_plain (by kernel_rfl)
end
#print axioms reckoned_card
end Go.Proofs.YtldifaahmpecfaaGreatDoor
