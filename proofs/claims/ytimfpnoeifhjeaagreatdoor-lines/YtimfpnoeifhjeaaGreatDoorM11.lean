import Derived.Test.YtimfpnoeifhjeaaGreatDoorM10
namespace Go.Proofs.YtimfpnoeifhjeaaGreatDoor
open Go.RowKit

def spellW : List ByteArray := [⟨#[]⟩, ⟨#[]⟩, ⟨#[43]⟩, ⟨#[45]⟩, ⟨#[42]⟩, ⟨#[47]⟩, ⟨#[109, 111, 100]⟩, ⟨#[61]⟩, ⟨#[60]⟩, ⟨#[100, 117, 112]⟩, ⟨#[100, 114, 111, 112]⟩, ⟨#[115, 119, 97, 112]⟩, ⟨#[111, 118, 101, 114]⟩, ⟨#[114, 111, 116]⟩, ⟨#[46]⟩, ⟨#[101, 109, 105, 116]⟩, ⟨#[64]⟩, ⟨#[33]⟩, ⟨#[58]⟩, ⟨#[59]⟩, ⟨#[123]⟩, ⟨#[125]⟩, ⟨#[105, 102]⟩, ⟨#[101, 108, 115, 101]⟩, ⟨#[116, 104, 101, 110]⟩, ⟨#[98, 101, 103, 105, 110]⟩, ⟨#[117, 110, 116, 105, 108]⟩, ⟨#[119, 104, 105, 108, 101]⟩, ⟨#[114, 101, 112, 101, 97, 116]⟩, ⟨#[100, 111]⟩, ⟨#[108, 111, 111, 112]⟩, ⟨#[105]⟩, ⟨#[114, 101, 99, 117, 114, 115, 101]⟩, ⟨#[101, 120, 105, 116]⟩]
def spellL : List (List UInt8) := [[], []] ++ (plainL ++ ([[58], [59], [123], [125]] ++ keptL))
def spellA : Array Value := #[.string ⟨#[]⟩, .string ⟨#[]⟩, .string ⟨#[43]⟩, .string ⟨#[45]⟩, .string ⟨#[42]⟩, .string ⟨#[47]⟩, .string ⟨#[109, 111, 100]⟩, .string ⟨#[61]⟩, .string ⟨#[60]⟩, .string ⟨#[100, 117, 112]⟩, .string ⟨#[100, 114, 111, 112]⟩, .string ⟨#[115, 119, 97, 112]⟩, .string ⟨#[111, 118, 101, 114]⟩, .string ⟨#[114, 111, 116]⟩, .string ⟨#[46]⟩, .string ⟨#[101, 109, 105, 116]⟩, .string ⟨#[64]⟩, .string ⟨#[33]⟩, .string ⟨#[58]⟩, .string ⟨#[59]⟩, .string ⟨#[123]⟩, .string ⟨#[125]⟩, .string ⟨#[105, 102]⟩, .string ⟨#[101, 108, 115, 101]⟩, .string ⟨#[116, 104, 101, 110]⟩, .string ⟨#[98, 101, 103, 105, 110]⟩, .string ⟨#[117, 110, 116, 105, 108]⟩, .string ⟨#[119, 104, 105, 108, 101]⟩, .string ⟨#[114, 101, 112, 101, 97, 116]⟩, .string ⟨#[100, 111]⟩, .string ⟨#[108, 111, 111, 112]⟩, .string ⟨#[105]⟩, .string ⟨#[114, 101, 99, 117, 114, 115, 101]⟩, .string ⟨#[101, 120, 105, 116]⟩]
theorem spellW_len : spellW.length = 34 := rfl
theorem sp_0 (w : World) : (Instr.index 127 (.agg spellA) (.int .i64 0)).run Tryz.prog w = .ok (.string ⟨#[]⟩) w := by kernel_rfl
theorem sp_1 (w : World) : (Instr.index 127 (.agg spellA) (.int .i64 1)).run Tryz.prog w = .ok (.string ⟨#[]⟩) w := by kernel_rfl
theorem sp_2 (w : World) : (Instr.index 127 (.agg spellA) (.int .i64 2)).run Tryz.prog w = .ok (.string ⟨#[43]⟩) w := by kernel_rfl
theorem sp_3 (w : World) : (Instr.index 127 (.agg spellA) (.int .i64 3)).run Tryz.prog w = .ok (.string ⟨#[45]⟩) w := by kernel_rfl
theorem sp_4 (w : World) : (Instr.index 127 (.agg spellA) (.int .i64 4)).run Tryz.prog w = .ok (.string ⟨#[42]⟩) w := by kernel_rfl
theorem sp_5 (w : World) : (Instr.index 127 (.agg spellA) (.int .i64 5)).run Tryz.prog w = .ok (.string ⟨#[47]⟩) w := by kernel_rfl
theorem sp_6 (w : World) : (Instr.index 127 (.agg spellA) (.int .i64 6)).run Tryz.prog w = .ok (.string ⟨#[109, 111, 100]⟩) w := by kernel_rfl
theorem sp_7 (w : World) : (Instr.index 127 (.agg spellA) (.int .i64 7)).run Tryz.prog w = .ok (.string ⟨#[61]⟩) w := by kernel_rfl
theorem sp_8 (w : World) : (Instr.index 127 (.agg spellA) (.int .i64 8)).run Tryz.prog w = .ok (.string ⟨#[60]⟩) w := by kernel_rfl
theorem sp_9 (w : World) : (Instr.index 127 (.agg spellA) (.int .i64 9)).run Tryz.prog w = .ok (.string ⟨#[100, 117, 112]⟩) w := by kernel_rfl
theorem sp_10 (w : World) : (Instr.index 127 (.agg spellA) (.int .i64 10)).run Tryz.prog w = .ok (.string ⟨#[100, 114, 111, 112]⟩) w := by kernel_rfl
theorem sp_11 (w : World) : (Instr.index 127 (.agg spellA) (.int .i64 11)).run Tryz.prog w = .ok (.string ⟨#[115, 119, 97, 112]⟩) w := by kernel_rfl
theorem sp_12 (w : World) : (Instr.index 127 (.agg spellA) (.int .i64 12)).run Tryz.prog w = .ok (.string ⟨#[111, 118, 101, 114]⟩) w := by kernel_rfl
theorem sp_13 (w : World) : (Instr.index 127 (.agg spellA) (.int .i64 13)).run Tryz.prog w = .ok (.string ⟨#[114, 111, 116]⟩) w := by kernel_rfl
theorem sp_14 (w : World) : (Instr.index 127 (.agg spellA) (.int .i64 14)).run Tryz.prog w = .ok (.string ⟨#[46]⟩) w := by kernel_rfl
theorem sp_15 (w : World) : (Instr.index 127 (.agg spellA) (.int .i64 15)).run Tryz.prog w = .ok (.string ⟨#[101, 109, 105, 116]⟩) w := by kernel_rfl
theorem sp_16 (w : World) : (Instr.index 127 (.agg spellA) (.int .i64 16)).run Tryz.prog w = .ok (.string ⟨#[64]⟩) w := by kernel_rfl
theorem sp_17 (w : World) : (Instr.index 127 (.agg spellA) (.int .i64 17)).run Tryz.prog w = .ok (.string ⟨#[33]⟩) w := by kernel_rfl
theorem sp_18 (w : World) : (Instr.index 127 (.agg spellA) (.int .i64 18)).run Tryz.prog w = .ok (.string ⟨#[58]⟩) w := by kernel_rfl
theorem sp_19 (w : World) : (Instr.index 127 (.agg spellA) (.int .i64 19)).run Tryz.prog w = .ok (.string ⟨#[59]⟩) w := by kernel_rfl
theorem sp_20 (w : World) : (Instr.index 127 (.agg spellA) (.int .i64 20)).run Tryz.prog w = .ok (.string ⟨#[123]⟩) w := by kernel_rfl
theorem sp_21 (w : World) : (Instr.index 127 (.agg spellA) (.int .i64 21)).run Tryz.prog w = .ok (.string ⟨#[125]⟩) w := by kernel_rfl
theorem sp_22 (w : World) : (Instr.index 127 (.agg spellA) (.int .i64 22)).run Tryz.prog w = .ok (.string ⟨#[105, 102]⟩) w := by kernel_rfl
theorem sp_23 (w : World) : (Instr.index 127 (.agg spellA) (.int .i64 23)).run Tryz.prog w = .ok (.string ⟨#[101, 108, 115, 101]⟩) w := by kernel_rfl
theorem sp_24 (w : World) : (Instr.index 127 (.agg spellA) (.int .i64 24)).run Tryz.prog w = .ok (.string ⟨#[116, 104, 101, 110]⟩) w := by kernel_rfl
theorem sp_25 (w : World) : (Instr.index 127 (.agg spellA) (.int .i64 25)).run Tryz.prog w = .ok (.string ⟨#[98, 101, 103, 105, 110]⟩) w := by kernel_rfl
theorem sp_26 (w : World) : (Instr.index 127 (.agg spellA) (.int .i64 26)).run Tryz.prog w = .ok (.string ⟨#[117, 110, 116, 105, 108]⟩) w := by kernel_rfl
theorem sp_27 (w : World) : (Instr.index 127 (.agg spellA) (.int .i64 27)).run Tryz.prog w = .ok (.string ⟨#[119, 104, 105, 108, 101]⟩) w := by kernel_rfl
theorem sp_28 (w : World) : (Instr.index 127 (.agg spellA) (.int .i64 28)).run Tryz.prog w = .ok (.string ⟨#[114, 101, 112, 101, 97, 116]⟩) w := by kernel_rfl
theorem sp_29 (w : World) : (Instr.index 127 (.agg spellA) (.int .i64 29)).run Tryz.prog w = .ok (.string ⟨#[100, 111]⟩) w := by kernel_rfl
theorem sp_30 (w : World) : (Instr.index 127 (.agg spellA) (.int .i64 30)).run Tryz.prog w = .ok (.string ⟨#[108, 111, 111, 112]⟩) w := by kernel_rfl
theorem sp_31 (w : World) : (Instr.index 127 (.agg spellA) (.int .i64 31)).run Tryz.prog w = .ok (.string ⟨#[105]⟩) w := by kernel_rfl
theorem sp_32 (w : World) : (Instr.index 127 (.agg spellA) (.int .i64 32)).run Tryz.prog w = .ok (.string ⟨#[114, 101, 99, 117, 114, 115, 101]⟩) w := by kernel_rfl
theorem sp_33 (w : World) : (Instr.index 127 (.agg spellA) (.int .i64 33)).run Tryz.prog w = .ok (.string ⟨#[101, 120, 105, 116]⟩) w := by kernel_rfl
theorem spellA_at (k : Nat) (hk : k < 34) (w : World) : (Instr.index 127 (.agg spellA) (.int .i64 (k : Int))).run Tryz.prog w = .ok (.string (spellW.getD k ⟨#[]⟩)) w := by
  have : k = 0 ∨ k = 1 ∨ k = 2 ∨ k = 3 ∨ k = 4 ∨ k = 5 ∨ k = 6 ∨ k = 7 ∨ k = 8 ∨ k = 9 ∨ k = 10 ∨ k = 11 ∨ k = 12 ∨ k = 13 ∨ k = 14 ∨ k = 15 ∨ k = 16 ∨ k = 17 ∨ k = 18 ∨ k = 19 ∨ k = 20 ∨ k = 21 ∨ k = 22 ∨ k = 23 ∨ k = 24 ∨ k = 25 ∨ k = 26 ∨ k = 27 ∨ k = 28 ∨ k = 29 ∨ k = 30 ∨ k = 31 ∨ k = 32 ∨ k = 33 := by omega
  rcases this with rfl | rfl | rfl | rfl | rfl | rfl | rfl | rfl | rfl | rfl | rfl | rfl | rfl | rfl | rfl | rfl | rfl | rfl | rfl | rfl | rfl | rfl | rfl | rfl | rfl | rfl | rfl | rfl | rfl | rfl | rfl | rfl | rfl | rfl
  · exact sp_0 w
  · exact sp_1 w
  · exact sp_2 w
  · exact sp_3 w
  · exact sp_4 w
  · exact sp_5 w
  · exact sp_6 w
  · exact sp_7 w
  · exact sp_8 w
  · exact sp_9 w
  · exact sp_10 w
  · exact sp_11 w
  · exact sp_12 w
  · exact sp_13 w
  · exact sp_14 w
  · exact sp_15 w
  · exact sp_16 w
  · exact sp_17 w
  · exact sp_18 w
  · exact sp_19 w
  · exact sp_20 w
  · exact sp_21 w
  · exact sp_22 w
  · exact sp_23 w
  · exact sp_24 w
  · exact sp_25 w
  · exact sp_26 w
  · exact sp_27 w
  · exact sp_28 w
  · exact sp_29 w
  · exact sp_30 w
  · exact sp_31 w
  · exact sp_32 w
  · exact sp_33 w
theorem spellW_L : spellW.map (fun t => t.toList) = spellL := by simp [spellW, spellL, plainL, keptL, ByteArray.toList_eq]

/-- The kind of a token that is no number. -/
def kindN (l : List UInt8) : Nat := (spellL.findIdx? (· == l)).getD 0

theorem find_snoc {p : List UInt8 → Bool} {L : List (List UInt8)} {k : Nat} (h : ∀ x ∈ L.take k, p x = false) (hk : k < L.length) (hp : p L[k] = true) : L.findIdx? p = some k := by
  rw [List.findIdx?_eq_some_iff_getElem]
  refine ⟨hk, hp, fun j hj => ?_⟩
  have := h L[j] (by rw [List.mem_take_iff_getElem]; exact ⟨j, by omega, rfl⟩)
  rw [this]; decide

set_option maxRecDepth 1000000 in
set_option maxHeartbeats 1000000 in
theorem kindM (s : ByteArray) (w : World) (tt : TypeId) (fr : Nat × Nat) (hs : s.size ≤ 1000) (hg : w.heap[1]? = some (.cells spellA tt fr)) (R : Int) (hR : R = if (numP s.toList).isSome then 1 else (kindN s.toList : Int)) :
    Calls Tryz.prog 49 #[.string s] w fun e w' => e = .returned (.int .i64 R) ∧ w' = w := by
  have HR := hide hR
  have HG := hide hg
  clear hR hg
  go_enter Tryz.func49, Tryz.ntmps49
  go_wp2_with fail
  refine (isNumM _ _ hs).mono ?_
  rintro e w' ⟨rfl, hw⟩
  rw [hw]; clear hw
  cases hn : (numP s.toList).isSome
  · have HR2 : Hid (R = (kindN s.toList : Int)) := by have := HR.out; rw [hn] at this; exact this
    go_wp2_with (refine wpList_load_row rfl 127 _ rfl 1 rfl tt _ fr _ HG.out Tryz.underlying127 rfl (by kernel_rfl) ?_)
    go_loop [8] (fun i => ∃ k : Nat, k ≤ 34 ∧ i = .int .i64 k ∧ ∀ x ∈ spellL.take k, (x == s.toList) = false) (fun i => 34 - (intOf i).toNat)
    case atStart => exact ⟨0, by omega, rfl, by simp⟩
    case round =>
      obtain ⟨k, hk, rfl, hno⟩ := hrel
      have HN := hide hno
      clear hno
      by_cases hlt : k < 34
      · have hidx := spellA_at k hlt
        obtain ⟨t, ht⟩ : ∃ t, t = spellW.getD k ⟨#[]⟩ := ⟨_, rfl⟩
        rw [← ht] at hidx
        have hkl : k < spellL.length := hlt
        have HT : Hid (spellL[k] = t.toList) := by
          unfold Hid
          have : spellL[k]? = some t.toList := by
            rw [← spellW_L, ht]
            have hw : k < spellW.length := hlt
            simp [List.getD, hw]
          rw [List.getElem?_eq_getElem hkl] at this; exact Option.some.inj this
        clear ht
        cases hc : (s.toList == t.toList)
        · go_wp2
          go_round
          case rel =>
            refine ⟨k + 1, by omega, by go_num, ?_⟩
            rw [List.take_succ_eq_append_getElem hkl]
            intro x hx
            rcases List.mem_append.1 hx with h1 | h1
            · exact HN.out x h1
            · have : x = spellL[k] := by simpa using h1
              rw [this, HT.out]
              rw [beq_eq_false_iff_ne] at hc ⊢
              exact fun e => hc e.symm
          case measure => simp [intOf]; omega
        · have HF : Hid (R = (k : Int)) := by
            unfold Hid; rw [HR2.out]; unfold kindN
            rw [find_snoc HN.out hkl (by rw [HT.out]; rw [beq_iff_eq] at hc ⊢; exact hc.symm)]
            rfl
          go_wp2
          go_ret
          exact ⟨by rw [HF.out]; rfl, rfl⟩
      · have HF : Hid (R = 0) := by
          unfold Hid; rw [HR2.out]; unfold kindN
          have : spellL.findIdx? (· == s.toList) = none := by
            rw [List.findIdx?_eq_none_iff]
            intro x hx
            exact HN.out x (by rw [List.take_of_length_le (by show 34 ≤ k; omega)]; exact hx)
          rw [this]; rfl
        go_wp2
        go_ret
        exact ⟨by rw [HF.out]; rfl, rfl⟩
  · have HR2 : Hid (R = 1) := by have := HR.out; rw [hn] at this; exact this
    go_wp2
    go_ret
    exact ⟨by rw [HR2.out]; rfl, rfl⟩
end Go.Proofs.YtimfpnoeifhjeaaGreatDoor
