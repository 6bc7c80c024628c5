import Derived.Test.YtimfpnoeifhjeaaGreatDoorR9
import Derived.Lib.Fields
namespace Go.Proofs.YtimfpnoeifhjeaaGreatDoor
open Go.RowKit

def okB (c : UInt8) : Bool := decide (32 ≤ c.toNat ∧ c.toNat ≤ 126)
def validB (l : List UInt8) : Bool := decide (l.length ≤ 400) && l.all okB

theorem isSp_ok {c : UInt8} (h : 32 ≤ c.toNat ∧ c.toNat ≤ 126) : Lib.isSp c = decide (c.toNat = 32) := by
  have key : ∀ i : Fin 256, 32 ≤ i.val → i.val ≤ 126 → Lib.isSp (UInt8.ofNat i.val) = decide (i.val = 32) := by decide +kernel
  have := key ⟨c.toNat, c.toNat_lt⟩ h.1 h.2
  simpa using this

theorem drop_cons (s : ByteArray) (k : Nat) (h : k < s.size) : s.data.toList.drop k = s[k] :: s.data.toList.drop (k + 1) := by
  rw [List.drop_eq_getElem_cons (by simpa using h)]; rfl

theorem Tryz.info9 : (Tryz.prog.info? 9).map (fun i => (i.zero, i.size, i.bytes)) = some (some (.string ByteArray.empty), 1, 16) := by kernel_rfl

/-- What the loop holds: the words that are whole, the one that is being read. -/
structure TkInv (w wr : World) (s : ByteArray) (k : Nat) (v : Value) (wd : ByteArray) (ts : List ByteArray) : Prop where
  row : wr.ownsRow w.heap.size 9 1 v ts.length (ts.map Value.string)
  all : (s.data.toList.take k).all okB = true
  flds : Lib.fields s.data.toList = ts.map (fun t => t.data.toList) ++ Lib.fieldsGo wd.data.toList (s.data.toList.drop k)
  kp : Kp w wr (fun _ => False)
  wl : wd.size ≤ k
  tl : ts.length ≤ k

theorem all_snoc {s : ByteArray} {k : Nat} (hlt : k < s.size) (h : (s.data.toList.take k).all okB = true) (ho : 32 ≤ s[k].toNat ∧ s[k].toNat ≤ 126) : (s.data.toList.take (k + 1)).all okB = true := by
  rw [take_snoc s k hlt, List.all_append, h]; simp [okB, ho]
theorem data_one (s : ByteArray) (k : Nat) (hlt : k < s.size) (wd : ByteArray) : (wd ++ s.extract k (k + 1)).data.toList = wd.data.toList ++ [s[k]] := by
  rw [ByteArray.data_append, Array.toList_append, Lib.extract_data, drop_cons s k hlt]
  simp
theorem size_one (s : ByteArray) (k : Nat) (hlt : k < s.size) (wd : ByteArray) : (wd ++ s.extract k (k + 1)).size = wd.size + 1 := by
  have := congrArg List.length (data_one s k hlt wd)
  simp only [List.length_append, List.length_cons, List.length_nil] at this
  exact this
theorem empty_toList {wd : ByteArray} (h : wd.toList.isEmpty = true) : wd.data.toList = [] := by
  rw [ByteArray.toList_eq] at h; exact List.isEmpty_iff.1 h
theorem full_toList {wd : ByteArray} (h : wd.toList.isEmpty = false) : wd.data.toList ≠ [] := by
  rw [ByteArray.toList_eq] at h; intro h'; rw [h'] at h; cases h

theorem TkInv.more {w wr : World} {s : ByteArray} {k : Nat} {v : Value} {wd : ByteArray} {ts : List ByteArray} (H : TkInv w wr s k v wd ts) (hlt : k < s.size) (ho : 32 ≤ s[k].toNat ∧ s[k].toNat ≤ 126) (h32 : ¬ s[k].toNat = 32) :
    TkInv w wr s (k + 1) v (wd ++ s.extract k (k + 1)) ts := by
  refine ⟨H.row, all_snoc hlt H.all ho, ?_, H.kp, by rw [size_one s k hlt]; have := H.wl; omega, by have := H.tl; omega⟩
  rw [H.flds, drop_cons s k hlt, Lib.fieldsGo_more _ _ _ (by rw [isSp_ok ho]; exact decide_eq_false h32), data_one s k hlt]
theorem TkInv.skip {w wr : World} {s : ByteArray} {k : Nat} {v : Value} {wd : ByteArray} {ts : List ByteArray} (H : TkInv w wr s k v wd ts) (hlt : k < s.size) (h32 : s[k].toNat = 32) (hw : wd.toList.isEmpty = true) :
    TkInv w wr s (k + 1) v ⟨#[]⟩ ts := by
  have ho : 32 ≤ s[k].toNat ∧ s[k].toNat ≤ 126 := by omega
  refine ⟨H.row, all_snoc hlt H.all ho, ?_, H.kp, Nat.zero_le _, by have := H.tl; omega⟩
  rw [H.flds, drop_cons s k hlt, empty_toList hw, Lib.fieldsGo_sp _ _ (by rw [isSp_ok ho]; exact decide_eq_true h32)]
theorem TkInv.cut {w wr w1 : World} {s : ByteArray} {k : Nat} {v v' : Value} {wd : ByteArray} {ts : List ByteArray} {o : Obj} (H : TkInv w wr s k v wd ts) (hlt : k < s.size) (h32 : s[k].toNat = 32) (hw : wd.toList.isEmpty = false)
    (hown : w1.ownsRow w.heap.size 9 1 v' (ts.length + 1) (List.map Value.string ts ++ [Value.string wd])) (hg : (wr.alloc o).grownBy w1 v.ownBlock) : TkInv w w1 s (k + 1) v' ⟨#[]⟩ (ts ++ [wd]) := by
  have ho : 32 ≤ s[k].toNat ∧ s[k].toNat ≤ 126 := by omega
  refine ⟨by simpa using hown, all_snoc hlt H.all ho, ?_, (H.kp.alloc o).grown hg (fun b hb e => ?_), Nat.zero_le _, by have := H.tl; simp; omega⟩
  · rw [H.flds, drop_cons s k hlt, Lib.fieldsGo_end _ _ _ (by rw [isSp_ok ho]; exact decide_eq_true h32) (full_toList hw)]; simp
  · have := (H.row.lt b e).1; omega

theorem validB_of {s : ByteArray} (hs : s.size ≤ 400) (h : (s.data.toList.take s.size).all okB = true) : validB s.data.toList = true := by
  have hl : s.data.toList.length = s.size := rfl
  rw [List.take_of_length_le (by omega)] at h
  unfold validB; rw [h, hl]; simpa using hs
theorem validB_bad {s : ByteArray} {k : Nat} (hlt : k < s.size) (h : ¬ (32 ≤ s[k].toNat ∧ s[k].toNat ≤ 126)) : validB s.data.toList = false := by
  unfold validB
  rw [Bool.and_eq_false_iff]; right
  rw [List.all_eq_false]
  refine ⟨s[k], ?_, by simp [okB]; omega⟩
  have : s.data.toList[k]'hlt = s[k] := rfl
  rw [← this]; exact List.getElem_mem _

set_option maxRecDepth 1000000 in
set_option maxHeartbeats 1000000 in
theorem tokensR_try (s : ByteArray) (w : World) (hs : s.size ≤ 400) :
    Calls Tryz.prog 35 #[.string s] w fun e w' => ∃ v, Kp w w' (fun _ => False) ∧ 
      ((validB s.data.toList = true ∧ e = .returned (.tuple #[v, .bool true]) ∧ ∃ ts : List ByteArray, w'.ownsRow w.heap.size 9 1 v ts.length (ts.map Value.string) ∧ ts.map (fun t => t.data.toList) = Lib.fields s.data.toList) ∨
       (validB s.data.toList = false ∧ e = .returned (.tuple #[v, .bool false]))) := by
  obtain ⟨i0, hi, hz0, hz1, hz2⟩ := info_parts Tryz.info9
  go_enter Tryz.func35, Tryz.ntmps35
  go_wp2
  go_loopw [4, 5, 6] (fun v x i wr => ∃ (k : Nat) (wd : ByteArray) (ts : List ByteArray), k ≤ s.size ∧ i = .int .i64 k ∧ x = .string wd ∧ TkInv w wr s k v wd ts) (fun _ _ i _ => s.size - (intOf i).toNat)
  case atStart => exact ⟨0, ⟨#[]⟩, [], Nat.zero_le _, rfl, rfl, ⟨World.ownsRow_nil _ _ _ _, rfl, rfl, Kp.refl _ _, Nat.le_refl _, Nat.le_refl _⟩⟩
  case round =>
    obtain ⟨k, wd, ts, hk, rfl, rfl, H⟩ := hrel
    have hwl := H.wl
    have htl := H.tl
    have hown := H.row
    have hbw := H.kp.size
    by_cases hlt : k < s.size
    · by_cases hok : 32 ≤ s[k].toNat ∧ s[k].toNat ≤ 126
      · obtain ⟨ho1, ho2⟩ := hok
        by_cases h32 : s[k].toNat = 32
        · cases hwe : wd.toList.isEmpty
          · go_wp2_with (first
              | (at_builtin; refine wpList_append_own _ rfl _ _ 38 rfl w.heap.size 9 i0 (.string ByteArray.empty) 1 16 Tryz.underlying38 hi hz0 hz1 hz2 rfl (by decide) _ _ _ rfl (hown.alloc _) ⟨wr.heap.size, 0, none⟩ 1 1 [.string wd] rfl rfl ?c1 ?c2 ?c3 ?c4 ?c5 ?_)
              | go_in)
            case c1 => intro j u hj; match j, hj with | 0, hj => simp at hj; subst hj; simp [Addr.add]
            case c2 => intro u hu; simp at hu; subst hu; rfl
            case c3 => unfold maxLen; omega
            case c4 => omega
            case c5 => simp; omega
            intro v' w1 hown' hgrow _
            have H2 := H.cut hlt h32 hwe hown' hgrow
            clear hown' hgrow hown H
            go_wp2
            go_roundw
            case rel => exact ⟨k + 1, _, _, by omega, by go_num, rfl, H2⟩
            case measure => simp [intOf]; omega
          · go_wp2
            go_roundw
            case rel => exact ⟨k + 1, _, _, by omega, by go_num, rfl, H.skip hlt h32 hwe⟩
            case measure => simp [intOf]; omega
        · go_wp2
          go_roundw
          case rel => exact ⟨k + 1, _, _, by omega, by go_num, rfl, H.more hlt ⟨ho1, ho2⟩ h32⟩
          case measure => simp [intOf]; omega
      · have hbad := validB_bad hlt hok
        have HB : Hid (validB s.data.toList = false) := hbad
        clear hbad
        rcases (show s[k].toNat < 32 ∨ (32 ≤ s[k].toNat ∧ 126 < s[k].toNat) by omega) with h1 | ⟨h1, h2⟩
        all_goals
          clear hok
          go_wp2
          go_ret2
          first | exact ⟨_, H.kp, .inr ⟨HB.out, rfl⟩⟩ | exact ⟨H.kp, _, .inr ⟨HB.out, rfl⟩⟩
    · have hks : k = s.size := by omega
      have HV : Hid (validB s.data.toList = true) := by have := H.all; rw [hks] at this; exact validB_of hs this
      have HF : Hid (Lib.fields s.data.toList = ts.map (fun t => t.data.toList) ++ Lib.fieldsGo wd.data.toList []) := by
        have := H.flds; rw [List.drop_of_length_le (by show s.data.size ≤ k; exact Nat.le_of_eq hks.symm)] at this; exact this
      clear hks
      cases hwe : wd.toList.isEmpty
      · go_wp2_with (first
          | (at_builtin; refine wpList_append_own _ rfl _ _ 38 rfl w.heap.size 9 i0 (.string ByteArray.empty) 1 16 Tryz.underlying38 hi hz0 hz1 hz2 rfl (by decide) _ _ _ rfl (hown.alloc _) ⟨wr.heap.size, 0, none⟩ 1 1 [.string wd] rfl rfl ?d1 ?d2 ?d3 ?d4 ?d5 ?_)
          | go_in)
        case d1 => intro j u hj; match j, hj with | 0, hj => simp at hj; subst hj; simp [Addr.add]
        case d2 => intro u hu; simp at hu; subst hu; rfl
        case d3 => unfold maxLen; omega
        case d4 => omega
        case d5 => simp; omega
        intro v' w1 hown' hgrow _
        have hne := full_toList hwe
        have hk1 : Kp w w1 (fun _ => False) := (H.kp.alloc _).grown hgrow (fun b hb e => by have := (H.row.lt b e).1; omega)
        have HO : Hid (w1.ownsRow w.heap.size 9 1 v' (ts.length + 1) (List.map Value.string ts ++ [Value.string wd])) := hown'
        have HF2 : Hid (Lib.fields s.data.toList = (ts ++ [wd]).map (fun t => t.data.toList)) := by
          have := HF.out; unfold Hid; rw [this]; unfold Lib.fieldsGo
          rw [if_neg (by simpa using hne)]; simp
        clear hown' hgrow hne hown
        go_wp2
        go_ret2
        exact ⟨_, hk1, .inl ⟨HV.out, rfl, ts ++ [wd], by simpa using HO.out, HF2.out.symm⟩⟩
      · have HF2 : Hid (Lib.fields s.data.toList = ts.map (fun t => t.data.toList)) := by
          have := HF.out; unfold Hid; rw [this, empty_toList hwe]; simp [Lib.fieldsGo]
        go_wp2
        go_ret2
        exact ⟨_, H.kp, .inl ⟨HV.out, rfl, ts, H.row, HF2.out.symm⟩⟩

set_option maxRecDepth 1000000 in
set_option maxHeartbeats 1000000 in
theorem tokensR_long (s : ByteArray) (w : World) (hs : 400 < s.size) :
    Calls Tryz.prog 35 #[.string s] w fun e w' => e = .returned (.tuple #[.slice none 0 0, .bool false]) ∧ w' = w := by
  go_enter Tryz.func35, Tryz.ntmps35
  go_wp2
  go_ret2
  exact ⟨rfl, rfl⟩

theorem tokensR_valid (s : ByteArray) (w : World) (hv : validB s.data.toList = true) :
    Calls Tryz.prog 35 #[.string s] w fun e w' => ∃ v, Kp w w' (fun _ => False) ∧ e = .returned (.tuple #[v, .bool true]) ∧ ∃ ts : List ByteArray, w'.ownsRow w.heap.size 9 1 v ts.length (ts.map Value.string) ∧ ts.map (fun t => t.data.toList) = Lib.fields s.data.toList := by
  have hs : s.size ≤ 400 := by
    unfold validB at hv; rw [Bool.and_eq_true] at hv; exact of_decide_eq_true hv.1
  refine (tokensR_try s w hs).mono ?_
  rintro e w' ⟨v, hk, ⟨_, he, h⟩ | ⟨h, _⟩⟩
  · exact ⟨v, hk, he, h⟩
  · rw [hv] at h; cases h
theorem tokensR_bad (s : ByteArray) (w : World) (hv : validB s.data.toList = false) :
    Calls Tryz.prog 35 #[.string s] w fun e w' => ∃ v, Kp w w' (fun _ => False) ∧ e = .returned (.tuple #[v, .bool false]) := by
  by_cases hs : s.size ≤ 400
  · refine (tokensR_try s w hs).mono ?_
    rintro e w' ⟨v, hk, ⟨h, _⟩ | ⟨_, he⟩⟩
    · rw [hv] at h; cases h
    · exact ⟨v, hk, he⟩
  · refine (tokensR_long s w (by omega)).mono ?_
    rintro e w' ⟨he, rfl⟩
    exact ⟨_, Kp.refl _ _, he⟩
end Go.Proofs.YtimfpnoeifhjeaaGreatDoor
