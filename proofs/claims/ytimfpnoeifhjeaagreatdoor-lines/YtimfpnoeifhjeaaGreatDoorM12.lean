import Derived.Test.YtimfpnoeifhjeaaGreatDoorM11
import Derived.Test.YtimfpnoeifhjeaaGreatDoorR11
namespace Go.Proofs.YtimfpnoeifhjeaaGreatDoor
open Go.RowKit

theorem acAll (B : Nat) (W : World) (j : Nat) (hj : j < 16) (K : Int) (hK : K = (j : Int) + 2) (w : World) (xb rb : Nat) (m : MS) (rs : List Int) (h : MInv w xb rb m rs.reverse) (h0 : 0 ≤ m.st) (h1 : m.st < 2000) (ho : m.out.size ≤ 300) (hin : ∀ a ∈ rs, In a) (hS : Safe B W w xb rb m) (hG : Glo B W) :
    Calls Tryz.prog 54 #[.int .i64 K] w fun e w1 => ∃ act, e = .returned act ∧ Calls Tryz.prog 50 #[.pointer (some ⟨rb, 0, none⟩), act] w1 fun e w2 => e = .returned (.int .i64 (plainP j rs m.mem m.out).e) ∧ SPost w w2 xb rb m (plainP j rs m.mem m.out) := by
  have : j = 0 ∨ j = 1 ∨ j = 2 ∨ j = 3 ∨ j = 4 ∨ j = 5 ∨ j = 6 ∨ j = 7 ∨ j = 8 ∨ j = 9 ∨ j = 10 ∨ j = 11 ∨ j = 12 ∨ j = 13 ∨ j = 14 ∨ j = 15 := by omega
  rcases this with rfl | rfl | rfl | rfl | rfl | rfl | rfl | rfl | rfl | rfl | rfl | rfl | rfl | rfl | rfl | rfl
  · have e : K = 2 := by rw [hK]; rfl
    rw [e]; exact ac_add w xb rb m rs h h0 h1 ho hin
  · have e : K = 3 := by rw [hK]; rfl
    rw [e]; exact ac_sub w xb rb m rs h h0 h1 ho hin
  · have e : K = 4 := by rw [hK]; rfl
    rw [e]; exact ac_mul w xb rb m rs h h0 h1 ho hin
  · have e : K = 5 := by rw [hK]; rfl
    rw [e]; exact ac_quo w xb rb m rs h h0 h1 ho hin
  · have e : K = 6 := by rw [hK]; rfl
    rw [e]; exact ac_mod w xb rb m rs h h0 h1 ho hin
  · have e : K = 7 := by rw [hK]; rfl
    rw [e]; exact ac_eq w xb rb m rs h h0 h1 ho hin
  · have e : K = 8 := by rw [hK]; rfl
    rw [e]; exact ac_lt w xb rb m rs h h0 h1 ho hin
  · have e : K = 9 := by rw [hK]; rfl
    rw [e]; exact ac_dup w xb rb m rs h h0 h1 ho hin
  · have e : K = 10 := by rw [hK]; rfl
    rw [e]; exact ac_drop w xb rb m rs h h0 h1 ho hin
  · have e : K = 11 := by rw [hK]; rfl
    rw [e]; exact ac_swap w xb rb m rs h h0 h1 ho hin
  · have e : K = 12 := by rw [hK]; rfl
    rw [e]; exact ac_over w xb rb m rs h h0 h1 ho hin
  · have e : K = 13 := by rw [hK]; rfl
    rw [e]; exact ac_rot w xb rb m rs h h0 h1 ho hin
  · have e : K = 14 := by rw [hK]; rfl
    rw [e]; exact ac_dot B W w xb rb m rs h h0 h1 ho hin hS hG
  · have e : K = 15 := by rw [hK]; rfl
    rw [e]; exact ac_emit w xb rb m rs h h0 h1 ho hin
  · have e : K = 16 := by rw [hK]; rfl
    rw [e]; exact ac_fetch w xb rb m rs h h0 h1 ho hin
  · have e : K = 17 := by rw [hK]; rfl
    rw [e]; exact ac_store w xb rb m rs h h0 h1 ho hin

theorem kind_plain {l : List UInt8} {j : Nat} (hl : l ≠ []) (h : plainL.findIdx? (· == l) = some j) : kindN l = j + 2 ∧ j < 16 := by
  have h2 : ([[], []] : List (List UInt8)).findIdx? (· == l) = none := by
    rw [List.findIdx?_eq_none_iff]; intro x hx; simp at hx; subst hx; rw [beq_eq_false_iff_ne]; exact fun e => hl e.symm
  constructor
  · unfold kindN spellL
    rw [List.findIdx?_append, h2, List.findIdx?_append, h]
    rfl
  · obtain ⟨hlt, _⟩ := List.findIdx?_eq_some_iff_getElem.1 h; exact hlt
theorem kind_rest {l : List UInt8} (hl : l ≠ []) (h : plainL.findIdx? (· == l) = none) : kindN l = (((([[58], [59], [123], [125]] : List (List UInt8)) ++ keptL).findIdx? (· == l)).map (· + 18)).getD 0 := by
  have h2 : ([[], []] : List (List UInt8)).findIdx? (· == l) = none := by
    rw [List.findIdx?_eq_none_iff]; intro x hx; simp at hx; subst hx; rw [beq_eq_false_iff_ne]; exact fun e => hl e.symm
  unfold kindN spellL
  rw [List.findIdx?_append, h2, List.findIdx?_append, h]
  cases (([[58], [59], [123], [125]] : List (List UInt8)) ++ keptL).findIdx? (· == l) with
  | none => rfl
  | some i => simp [plainL]
theorem kind_form {l : List UInt8} (hl : l ≠ []) (h : plainL.findIdx? (· == l) = none) (hf : formB l = true) : 18 ≤ kindN l := by
  rw [kind_rest hl h]
  cases hx : (([[58], [59], [123], [125]] : List (List UInt8)) ++ keptL).findIdx? (· == l) with
  | none =>
    exfalso
    rw [List.findIdx?_eq_none_iff] at hx
    simp only [formB, Bool.or_eq_true] at hf
    rcases hf with ((hf | hf) | hf) | hf
    · obtain ⟨x, hm, hx'⟩ := List.any_eq_true.1 hf
      have := hx x (by simp [hm]); rw [hx'] at this; cases this
    · have := hx [59] (by simp); rw [beq_iff_eq] at hf; subst hf; simp at this
    · have := hx [123] (by simp); rw [beq_iff_eq] at hf; subst hf; simp at this
    · have := hx [125] (by simp); rw [beq_iff_eq] at hf; subst hf; simp at this
  | some i => simp
theorem kind_word {l : List UInt8} (hl : l ≠ []) (h : plainL.findIdx? (· == l) = none) (hf : formB l = false) (h58 : (l == [58]) = false) : kindN l = 0 := by
  rw [kind_rest hl h]
  have : (([[58], [59], [123], [125]] : List (List UInt8)) ++ keptL).findIdx? (· == l) = none := by
    rw [List.findIdx?_eq_none_iff]
    intro x hx
    simp only [formB, Bool.or_eq_false_iff] at hf
    obtain ⟨⟨⟨h1, h2⟩, h3⟩, h4⟩ := hf
    rw [List.any_eq_false] at h1
    simp only [beq_eq_false_iff_ne, ne_eq] at h2 h3 h4 h58 ⊢
    rcases List.mem_append.1 hx with hx | hx
    · simp at hx
      rcases hx with rfl | rfl | rfl | rfl
      · exact fun e => h58 e.symm
      · exact fun e => h2 e.symm
      · exact fun e => h3 e.symm
      · exact fun e => h4 e.symm
    · have := h1 x hx; simpa using this
  rw [this]; rfl

/-- One token, as the program runs it. -/
def TPost (w w' : World) (xb rb : Nat) (m : MS) (R : Res) : Prop :=
  ∃ m' ns, MInv w' xb rb m' ns ∧ MTo xb rb w w' m m' ∧ m'.mem = R.mem ∧ m'.out = R.out ∧ m.st ≤ m'.st ∧ m'.st ≤ m.st + 1 ∧ (R.e = 0 → ns = R.rs.reverse)
theorem TPost.of {w w' : World} {xb rb : Nat} {m : MS} {R : Res} (h : SPost w w' xb rb m R) : TPost w w' xb rb m R := by
  obtain ⟨m', ns, h1, h2, h4, h5, h6, h7⟩ := h
  exact ⟨m', ns, h1, h2, h4, h5, by omega, by omega, h7⟩
theorem TPost.kp {w w1 w2 : World} {xb rb : Nat} {m : MS} {R : Res} (hk : Kp w w1 (fun _ => False)) (h : SPost w1 w2 xb rb m R) : TPost w w2 xb rb m R := TPost.of (SPost.kp hk h)

set_option maxRecDepth 1000000 in
set_option maxHeartbeats 1000000 in
theorem tokM (B : Nat) (W : World) (w : World) (xb rb : Nat) (m : MS) (rs : List Int) (t : ByteArray) (tt : TypeId) (fr : Nat × Nat) (hg : w.heap[1]? = some (.cells spellA tt fr)) (h : MInv w xb rb m rs.reverse) (h0 : 0 ≤ m.st) (h1 : m.st < 2000) (hgood : Good rs m.mem m.out) (hS : Safe B W w xb rb m) (hG : Glo B W)
    (hs : t.size ≤ 1000) (hne : t.toList ≠ []) (h58 : (t.toList == [58]) = false) (R : Res) (hR : R = runTok t.toList rs m.mem m.out) :
    Calls Tryz.prog 37 #[.pointer (some ⟨rb, 0, none⟩), .string t] w fun e w' => e = .returned (.int .i64 R.e) ∧ TPost w w' xb rb m R := by
  have hmf := mkFunc
  have HR := hide hR
  clear hR
  rcases hnum : numP t.toList with _ | n
  · rcases hpl : plainL.findIdx? (· == t.toList) with _ | j
    · cases hf : formB t.toList
      · have HK : Hid ((0 : Int) = if (numP t.toList).isSome then 1 else (kindN t.toList : Int)) := by unfold Hid; rw [hnum, kind_word hne hpl hf h58]; rfl
        have HR2 : Hid (R = ⟨3, [], m.mem, m.out⟩) := by unfold Hid; rw [HR.out]; exact runTok_word hnum hpl hf _ _ _
        clear hnum hpl hf hne h58
        go_enter Tryz.func37, Tryz.ntmps37
        go_wp2_with fail
        refine (kindM _ _ tt fr hs hg 0 HK.out).mono ?_
        rintro e w' ⟨rfl, hw⟩
        rw [hw]; clear hw
        go_wp2_with fail
        refine (kindPlain _ _).mono ?_
        rintro e w' ⟨rfl, hw⟩
        rw [hw]; clear hw
        go_wp2
        go_ret
        rw [HR2.out]
        exact ⟨rfl, m, _, h, To.refl _ _ _, rfl, rfl, Int.le_refl _, by omega, fun h => by cases h⟩
      · have hk18 := kind_form hne hpl hf
        obtain ⟨K, hK⟩ : ∃ K : Int, K = (kindN t.toList : Int) := ⟨_, rfl⟩
        have hK1 : 18 ≤ K := by omega
        have HK : Hid (K = if (numP t.toList).isSome then 1 else (kindN t.toList : Int)) := by unfold Hid; rw [hnum, hK]; rfl
        have HR2 : Hid (R = ⟨4, [], m.mem, m.out⟩) := by unfold Hid; rw [HR.out]; exact runTok_form hnum hpl hf _ _ _
        clear hnum hpl hf hne h58 hK hk18
        go_enter Tryz.func37, Tryz.ntmps37
        go_wp2_with fail
        refine (kindM _ _ tt fr hs hg K HK.out).mono ?_
        rintro e w' ⟨rfl, hw⟩
        rw [hw]; clear hw
        go_wp2_with fail
        refine (kindPlain _ _).mono ?_
        rintro e w' ⟨rfl, hw⟩
        rw [hw]; clear hw
        have hb : decide (2 ≤ K ∧ K ≤ 17) = false := decide_eq_false (by omega)
        rw [hb]
        go_wp2
        go_ret
        rw [HR2.out]
        exact ⟨rfl, m, _, h, To.refl _ _ _, rfl, rfl, Int.le_refl _, by omega, fun h => by cases h⟩
    · obtain ⟨hkj, hj⟩ := kind_plain hne hpl
      obtain ⟨K, hK⟩ : ∃ K : Int, K = (j : Int) + 2 := ⟨_, rfl⟩
      have hK1 : 2 ≤ K ∧ K ≤ 17 := by omega
      have HK : Hid (K = if (numP t.toList).isSome then 1 else (kindN t.toList : Int)) := by unfold Hid; rw [hnum, hK, hkj]; rfl
      have HR2 : Hid (R = plainP j rs m.mem m.out) := by unfold Hid; rw [HR.out]; exact runTok_plain hnum hpl _ _ _
      have HA := hide (acAll B W j hj K hK w xb rb m rs h h0 h1 hgood.osz hgood.ins hS hG)
      clear hnum hpl hne h58 hK hkj hj
      obtain ⟨hKa, hKb⟩ := hK1
      go_enter Tryz.func37, Tryz.ntmps37
      go_wp2_with fail
      refine (kindM _ _ tt fr hs hg K HK.out).mono ?_
      rintro e w' ⟨rfl, hw⟩
      rw [hw]; clear hw
      go_wp2_with fail
      refine (kindPlain _ _).mono ?_
      rintro e w' ⟨rfl, hw⟩
      rw [hw]; clear hw
      have hb : decide (2 ≤ K ∧ K ≤ 17) = true := decide_eq_true ⟨hKa, hKb⟩
      rw [hb]
      go_wp2_with fail
      refine HA.out.mono ?_
      rintro e w1 ⟨act, rfl, hcall⟩
      have HC := hide hcall
      clear hcall
      go_wp2_with fail
      refine HC.out.mono ?_
      rintro e w2 ⟨rfl, hp⟩
      have HPp := hide hp
      clear hp
      go_wp2
      go_ret
      rw [HR2.out]
      exact ⟨rfl, TPost.of HPp.out⟩
  · have HK : Hid ((1 : Int) = if (numP t.toList).isSome then 1 else (kindN t.toList : Int)) := by unfold Hid; rw [hnum]; rfl
    have HR2 : Hid (R = if rs.length < 32 then ⟨0, n :: rs, m.mem, m.out⟩ else ⟨7, [], m.mem, m.out⟩) := by unfold Hid; rw [HR.out]; exact runTok_num hnum _ _ _
    have HV := hide (valueM t n w hnum hs)
    clear hnum hne h58
    go_enter Tryz.func37, Tryz.ntmps37
    go_wp2_with fail
    refine (kindM _ _ tt fr hs hg 1 HK.out).mono ?_
    rintro e w' ⟨rfl, hw⟩
    rw [hw]; clear hw
    go_wp2_with fail
    refine HV.out.mono ?_
    rintro e w1 ⟨rfl, hk1⟩
    have hi1 := h.kp hk1
    have hrl := hi1.rblk.lt
    go_wp2_with (go_at_call 51; go_in)
    go_wp2_with fail
    have HL : Hid (Calls Tryz.prog 50 #[.pointer (some ⟨rb, 0, none⟩), .func (.func 68) #[] #[.pointer (some ⟨w1.heap.size, 0, none⟩)]] (w1.alloc (.cells #[.int .i64 n] 2)) fun e w' => e = .returned (.int .i64 R.e) ∧ SPost (w1.alloc (.cells #[.int .i64 n] 2)) w' xb rb m R) := by
      refine stM_68 _ xb rb m rs.reverse _ R (hi1.alloc _) h0 h1 (fun w2 e2 => ?_)
      have hn : w2.cell? ⟨w1.heap.size, 0, none⟩ = some (.int .i64 n) := ((Blk.new w1 #[.int .i64 n] 2).step (by omega) e2).cell rfl
      have hi2 := (hi1.alloc _).step e2
      have h2 := HR2.out
      by_cases h32 : rs.length < 32
      · rw [if_pos h32] at h2; rw [h2]; exact ly_ok w2 xb rb _ _ n rs hi2 hn h32
      · rw [if_neg h32] at h2; rw [h2]; exact ly_full w2 xb rb _ _ n rs hi2 hn h32
    refine HL.out.mono ?_
    rintro e w2 ⟨rfl, hp⟩
    have HPp := hide hp
    clear hp
    go_wp2
    go_ret
    exact ⟨rfl, TPost.kp (hk1.alloc _) HPp.out⟩
end Go.Proofs.YtimfpnoeifhjeaaGreatDoor
