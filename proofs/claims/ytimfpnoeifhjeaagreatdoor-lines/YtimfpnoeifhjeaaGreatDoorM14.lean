import Derived.Test.YtimfpnoeifhjeaaGreatDoorM13
namespace Go.Proofs.YtimfpnoeifhjeaaGreatDoor
open Go.RowKit

theorem fields_ne : ∀ (l cur : List UInt8), ∀ x ∈ Lib.fieldsGo cur l, x ≠ []
  | [], cur, x, hx => by
    unfold Lib.fieldsGo at hx
    split at hx
    · simp at hx
    · rename_i h; simp at hx; subst hx; simpa using h
  | b :: l, cur, x, hx => by
    unfold Lib.fieldsGo at hx
    split at hx
    · split at hx
      · exact fields_ne l [] x hx
      · rename_i h
        rcases List.mem_cons.1 hx with h1 | h1
        · subst h1; simpa using h
        · exact fields_ne l [] x h1
    · exact fields_ne l _ x hx
theorem fields_mem : ∀ (l cur : List UInt8), ∀ x ∈ Lib.fieldsGo cur l, ∀ c ∈ x, c ∈ cur ∨ c ∈ l
  | [], cur, x, hx, c, hc => by
    unfold Lib.fieldsGo at hx
    split at hx
    · simp at hx
    · simp at hx; subst hx; exact .inl hc
  | b :: l, cur, x, hx, c, hc => by
    unfold Lib.fieldsGo at hx
    split at hx
    · split at hx
      · rcases fields_mem l [] x hx c hc with h | h
        · cases h
        · exact .inr (List.mem_cons_of_mem _ h)
      · rcases List.mem_cons.1 hx with h1 | h1
        · subst h1; exact .inl hc
        · rcases fields_mem l [] x h1 c hc with h | h
          · cases h
          · exact .inr (List.mem_cons_of_mem _ h)
    · rcases fields_mem l _ x hx c hc with h | h
      · rcases List.mem_append.1 h with h | h
        · exact .inl h
        · simp at h; subst h; exact .inr (by simp)
      · exact .inr (List.mem_cons_of_mem _ h)
theorem fields_size : ∀ (l cur : List UInt8), ∀ x ∈ Lib.fieldsGo cur l, x.length ≤ cur.length + l.length
  | [], cur, x, hx => by
    unfold Lib.fieldsGo at hx
    split at hx
    · simp at hx
    · simp at hx; subst hx; omega
  | b :: l, cur, x, hx => by
    unfold Lib.fieldsGo at hx
    split at hx
    · split at hx
      · have := fields_size l [] x hx; simp at this ⊢; omega
      · rcases List.mem_cons.1 hx with h1 | h1
        · subst h1; omega
        · have := fields_size l [] x h1; simp at this ⊢; omega
    · have := fields_size l _ x hx; simp at this ⊢; omega

set_option maxRecDepth 1000000 in
set_option maxHeartbeats 1000000 in
theorem validM (s : ByteArray) (w : World) :
    Calls Tryz.prog 29 #[.string s] w fun e w' => e = .returned (.bool (validB s.data.toList)) ∧ w' = w := by
  by_cases hs : s.size ≤ 400
  · go_enter Tryz.func29, Tryz.ntmps29
    go_wp2
    go_loop [9] (fun i => ∃ k : Nat, k ≤ s.size ∧ i = .int .i64 k ∧ (s.data.toList.take k).all okB = true) (fun i => s.size - (intOf i).toNat)
    case atStart => exact ⟨0, Nat.zero_le _, rfl, rfl⟩
    case round =>
      obtain ⟨k, hk, rfl, hall⟩ := hrel
      have HA := hide hall
      clear hall
      by_cases hlt : k < s.size
      · by_cases hok : 32 ≤ s[k].toNat ∧ s[k].toNat ≤ 126
        · obtain ⟨ho1, ho2⟩ := hok
          go_wp2
          go_round
          case rel => exact ⟨k + 1, by omega, by go_num, all_snoc hlt HA.out ⟨ho1, ho2⟩⟩
          case measure => simp [intOf]; omega
        · have HB := hide (validB_bad hlt hok)
          rcases (show s[k].toNat < 32 ∨ (32 ≤ s[k].toNat ∧ 126 < s[k].toNat) by omega) with h1 | ⟨h1, h2⟩
          all_goals
            clear hok
            go_wp2
            go_ret
            exact ⟨by rw [HB.out]; rfl, rfl⟩
      · have HB : Hid (validB s.data.toList = true) := by
          have h1 := HA.out
          have : k = s.size := by omega
          rw [this] at h1; exact validB_of hs h1
        go_wp2
        go_ret
        exact ⟨by rw [HB.out]; rfl, rfl⟩
  · have HB : Hid (validB s.data.toList = false) := by
      unfold Hid validB
      have : s.data.toList.length = s.size := rfl
      rw [this, decide_eq_false hs]; rfl
    go_enter Tryz.func29, Tryz.ntmps29
    go_wp2
    go_ret
    exact ⟨by rw [HB.out]; rfl, rfl⟩

theorem str_of (out : ByteArray) : strOfNums (out.data.toList.map fun b => (b.toNat : Int)) = out := by
  unfold strOfNums
  apply ByteArray.ext
  simp only [List.map_map]
  have : ((fun n : Int => UInt8.ofNat n.toNat) ∘ fun b : UInt8 => (b.toNat : Int)) = id := by
    funext b; simp
  rw [this]; simp

theorem conv_out {w : World} {v : Value} {out : ByteArray} (h : w.ownsRow 0 5 1 v out.size (Lib.byteCells out.data.toList)) : (convert 89 9 v).run Tryz.prog w = .ok (.string out) w := by
  rcases h.2 with ⟨rfl, h0⟩ | ⟨g, cap, cur, rfl, _, hg, hnc, _, hcs, htake⟩
  · rw [run_convert_bytes_nil w 89 5 Tryz.underlying89 Tryz.underlying5 0 0 9 Tryz.underlying9]
    have : out = ByteArray.empty := by
      apply ByteArray.ext
      have : out.data.size = 0 := h0
      exact Array.eq_empty_of_size_eq_zero this
    rw [this]
  · have := run_convert_bytes_arg w 89 5 Tryz.underlying89 Tryz.underlying5 g 0 out.size cap (out.data.toList.map fun b => (b.toNat : Int)) (by rw [List.length_map]; rfl) ?_ 9 Tryz.underlying9
    · rw [this, str_of]
    · intro i hi
      have hl : i < out.data.toList.length := hi
      have e : out.data.toList[i]? = some out.data.toList[i] := List.getElem?_eq_getElem hl
      have := h.cells (g := g) rfl i (.int .u8 ((out.data.toList[i]).toNat : Int)) (by rw [Lib.byteCells, List.getElem?_map, e]; rfl)
      rw [addr_add2] at this
      rw [Nat.zero_add, this, List.getD_eq_getElem?_getD, List.getElem?_map, e]
      rfl

set_option maxRecDepth 1000000 in
set_option maxHeartbeats 400000 in
theorem printedM (w : World) (xb rb : Nat) (m : MS) (ns : List Int) (h : MInv w xb rb m ns) :
    Calls Tryz.prog 34 #[.pointer (some ⟨rb, 0, none⟩)] w fun e w' => e = .returned (.string m.out) ∧ w' = w := by
  have k1 : w.cell? ⟨rb, 1, none⟩ = some m.ov := h.rblk.cell rfl
  have hc := conv_out h.orow
  obtain ⟨ao, cap, hv⟩ := form_of h.orow
  rw [hv] at k1 hc
  clear hv
  go_enter Tryz.func34, Tryz.ntmps34
  go_wp2
  go_ret
  exact ⟨rfl, rfl⟩
end Go.Proofs.YtimfpnoeifhjeaaGreatDoor
