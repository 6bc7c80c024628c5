import Derived.Test.YtimfpnoeifhjeaaGreatDoorM14
namespace Go.Proofs.YtimfpnoeifhjeaaGreatDoor
open Go.RowKit

/-- What a session of the program holds between two lines. -/
structure XSess (w : World) (xb : Nat) (sv : Value) (rs : List Int) (mem : Nat → Int) : Prop where
  blk : Blk w xb 62 (marr sv mem)
  row : w.ownsRow 0 2 1 sv rs.reverse.length (ints rs.reverse)
  good : Good rs mem ⟨#[]⟩

/-- It lies from block B on; the tables below it. -/
structure XSafe (B : Nat) (W w : World) (xb : Nat) (sv : Value) : Prop where
  bel : Below B W w
  bx : B ≤ xb
  bv : ∀ k, own sv k → B ≤ k
  bs : B ≤ w.heap.size

theorem toX {w w1 w2 : World} {xb rb : Nat} {m m' : MS} (hk : Kp w w1 (fun _ => False)) (ht : MTo xb rb w1 w2 m m') (hr : w.heap.size ≤ rb) (ho : ∀ k, own m.ov k → w.heap.size ≤ k) : To (fun k => k = xb) w w2 (own m.sv) (own m'.sv) := by
  have hkp := To.kp ht
  refine ⟨⟨hkp.os.trans hk.os, hkp.tape.trans hk.tape, hkp.output.trans hk.output, Nat.le_trans hk.size hkp.size, fun k hlt hn => ?_⟩, fun k hk' => ?_⟩
  · refine (hkp.block k (Nat.lt_of_lt_of_le hlt hk.size) ?_).trans (hk.block k hlt (by simp))
    rintro ((h | h) | (h | h))
    · exact hn (.inl h)
    · omega
    · exact hn (.inr h)
    · have := ho k h; omega
  · rcases To.nx ht k (.inl hk') with (h | h) | h
    · exact .inl h
    · exact .inr (ho k h)
    · right; have := hk.size; omega

set_option maxRecDepth 1000000 in
set_option maxHeartbeats 1000000 in
theorem lineM_bad (w : World) (xb : Nat) (t : ByteArray) (hv : validB t.data.toList = false) :
    Calls Tryz.prog 22 #[.pointer (some ⟨xb, 0, none⟩), .string t] w fun e w' => e = .returned (.tuple #[.string ⟨#[]⟩, .int .i64 2]) ∧ w' = w := by
  go_enter Tryz.func22, Tryz.ntmps22
  go_wp2_with fail
  refine (validM _ _).mono ?_
  rintro e w' ⟨rfl, hw⟩
  rw [hw, hv]; clear hw
  go_wp2
  go_ret2
  exact ⟨rfl, rfl⟩

theorem ascii_of {l : List UInt8} (h : validB l = true) : ∀ (j : Nat) b, l[j]? = some b → b.toNat < 128 := by
  intro j b hb
  unfold validB at h
  rw [Bool.and_eq_true, List.all_eq_true] at h
  have := of_decide_eq_true (h.2 b (List.mem_of_getElem? hb))
  omega

set_option maxRecDepth 1000000 in
set_option maxHeartbeats 1000000 in
theorem lineM_ok (B : Nat) (W : World) (w : World) (xb : Nat) (sv : Value) (rs : List Int) (mem : Nat → Int) (t : ByteArray) (hX : XSess w xb sv rs mem) (hS : XSafe B W w xb sv) (hG : Glo B W) (hP : Spl B W) (hv : validB t.data.toList = true) (hcol : (58 : UInt8) ∉ t.data.toList)
    (R : Res) (hR : R = runToks (Lib.fields t.data.toList) rs mem ⟨#[]⟩) :
    Calls Tryz.prog 22 #[.pointer (some ⟨xb, 0, none⟩), .string t] w fun e w' => e = .returned (.tuple #[.string R.out, .int .i64 R.e]) ∧ ∃ sv', XSess w' xb sv' (leftL R) R.mem ∧ To (fun k => k = xb) w w' (own sv) (own sv') := by
  have hsz : t.size ≤ 400 := by unfold validB at hv; rw [Bool.and_eq_true] at hv; exact of_decide_eq_true hv.1
  have hF : Fine R := by rw [hR]; exact toks_fine _ hX.good
  obtain ⟨ts, hts⟩ : ∃ ts : List ByteArray, ts = (Lib.fields t.data.toList).map fun l => ⟨l.toArray⟩ := ⟨_, rfl⟩
  have htl : ts.map (fun x => x.data.toList) = Lib.fields t.data.toList := by rw [hts, List.map_map]; exact List.map_id _
  have htv : (Lib.fields t.data.toList).map (fun l => Value.string ⟨l.toArray⟩) = ts.map Value.string := by rw [hts]; simp
  have hlen : (Lib.fields t.data.toList).length = ts.length := by rw [hts]; simp
  have hle : ts.length ≤ 401 := by
    have h1 := fields_len t.data.toList []
    have h3 : t.data.toList.length = t.size := rfl
    have : (Lib.fields t.data.toList).length ≤ t.data.toList.length + 1 := h1
    omega
  have hts3 : ∀ x ∈ ts, (x.toList == [58]) = false ∧ x.toList ≠ [] ∧ x.size ≤ 1000 := by
    intro x hx
    have hm : x.data.toList ∈ Lib.fields t.data.toList := by rw [← htl]; exact List.mem_map_of_mem hx
    rw [ByteArray.toList_eq]
    refine ⟨?_, fields_ne _ _ _ hm, ?_⟩
    · rw [beq_eq_false_iff_ne]
      intro e
      rcases fields_mem _ _ _ hm 58 (by rw [e]; simp) with h1 | h1
      · cases h1
      · exact hcol h1
    · have := fields_size _ _ _ hm
      have h3 : t.data.toList.length = t.size := rfl
      have h4 : x.data.toList.length = x.size := rfl
      simp at this; simp at h3 h4; omega
  have hl1 := hX.blk.lt
  have HC := hide (Tryz.strings_Fields t)
  have HR := hide hR
  have HTL := hide htl
  have HTV := hide htv
  have HLEN := hide hlen
  have HT3 := hide hts3
  clear hR hts htl htv hlen hcol hts3
  go_enter Tryz.func22, Tryz.ntmps22
  go_wp2_with fail
  refine (validM _ _).mono ?_
  rintro e w' ⟨rfl, hw⟩
  rw [hw, hv]; clear hw
  go_wp2_with (first | (go_at_call 30; go_in) | (go_at_call 32; go_in))
  go_wp2_with fail
  refine (HC.out _ (by omega) (ascii_of hv) (by exact (hG.asc.on (hS.bel.alloc hS.bs _)).here)).mono ?_
  rintro e w2 ⟨rfl, hw2⟩
  have hw3 : w2 = (w.alloc (.cells #[.pointer (some ⟨xb, 0, none⟩), .slice none 0 0, .int .i64 0] 92)).alloc (.cells (ts.map Value.string).toArray 9) := by rw [hw2, HTV.out]
  clear hw2
  have hk2 : Kp w w2 (fun _ => False) := by rw [hw3]; exact ((Kp.refl _ _).alloc _).alloc _
  have hi2 : MInv w2 xb w.heap.size ⟨sv, mem, .slice none 0 0, 0, ⟨#[]⟩⟩ rs.reverse := by
    refine ⟨hk2.blk hX.blk (by simp), ?_, hk2.row hX.row (by simp), World.ownsRow_nil _ _ _ _, by rw [List.length_reverse]; exact hX.good.len⟩
    rw [hw3]; exact (Blk.new w _ _).alloc _
  have hS2 : Safe B W w2 xb w.heap.size ⟨sv, mem, .slice none 0 0, 0, ⟨#[]⟩⟩ := by
    refine ⟨?_, hS.bx, hS.bs, ?_, Nat.le_trans hS.bs hk2.size⟩
    · rw [hw3]; exact (hS.bel.alloc hS.bs _).alloc (by have := hS.bs; simp; omega) _
    · rintro k (h1 | h1)
      · exact hS.bv k h1
      · simp [own, Value.ownBlock] at h1
  have hrow : w2.ownsRow 0 9 1 (.slice (some ⟨w.heap.size + 1, 0, none⟩) ts.length ts.length) ts.length (ts.map Value.string) := by
    have hb : Blk w2 (w.heap.size + 1) 9 (ts.map Value.string).toArray := by rw [hw3]; exact Blk.new1 w _ _ _
    exact ⟨by simp, .inr ⟨_, _, _, rfl, Nat.zero_le _, hb, Nat.le_refl _, by unfold maxLen; omega, by simp, by rw [Nat.mul_one]; exact List.take_of_length_le (by simp)⟩⟩
  have HM := hide (toksM B W w2 xb w.heap.size ⟨sv, mem, .slice none 0 0, 0, ⟨#[]⟩⟩ rs _ ts _ hi2 rfl hX.good hS2 hG hP hrow HTL.out.symm hle HT3.out R HR.out)
  clear hw3 hrow hi2 hS2
  rw [HLEN.out]
  go_wp2_with fail
  refine HM.out.mono ?_
  rintro e w3 ⟨rfl, m', ns, hi3, hto3, hm3, ho3, hn3⟩
  have hto4 := toX hk2 hto3 (Nat.le_refl _) (fun k h1 => by simp [own, Value.ownBlock] at h1)
  have HD := hide (And.intro hm3 (And.intro ho3 hn3))
  have HI := hide hi3
  clear hto3 hm3 ho3 hn3 HM hk2
  by_cases he : R.e = 0
  · have he' : (R.e != 0) = false := by simp [he]
    have HE := hide he
    clear he hi3
    go_wp2_with fail
    refine (printedM _ _ _ _ _ HI.out).mono ?_
    rintro e w' ⟨rfl, hw⟩
    rw [hw]; clear hw
    go_wp2
    go_ret2
    refine ⟨by rw [HD.out.2.1]; rfl, m'.sv, ⟨?_, ?_, ?_⟩, hto4⟩
    · rw [← HD.out.1]; exact HI.out.xblk
    · unfold leftL; rw [if_pos HE.out, ← HD.out.2.2 HE.out]; exact HI.out.srow
    · unfold leftL; rw [if_pos HE.out]; exact ⟨hF.ins, hF.mems, hF.len, by decide⟩
  · have he' : (R.e != 0) = true := by simp [he]
    have HE := hide he
    have k0 : w3.cell? ⟨xb, 0, none⟩ = some m'.sv := hi3.xblk.cell rfl
    have f0 := hi3.xblk.free 0
    obtain ⟨ao, cap, hvv⟩ := form_of hi3.srow
    rw [hvv] at k0
    clear he hvv
    have hx5 : Blk (w3.setCell ⟨xb, 0, none⟩ (.slice none 0 0)) xb 62 (marr (.slice none 0 0) m'.mem) := hi3.xblk.set 0 _
    have hi5 : MInv (w3.setCell ⟨xb, 0, none⟩ (.slice none 0 0)) xb w.heap.size { m' with sv := .slice none 0 0 } [] :=
      ⟨hx5, hi3.rblk.setOther hi3.ne.symm _, World.ownsRow_nil _ _ _ _, ownsRow_setCell_other hi3.orow (own_ne hi3.orow hi3.xblk (by decide)) _, by simp⟩
    have hto5 : To (fun k => k = xb) w (w3.setCell ⟨xb, 0, none⟩ (.slice none 0 0)) (own sv) (own (.slice none 0 0)) :=
      hto4.trans ⟨(Kp.refl _ _).set (fun _ => .inl rfl) _, fun k h1 => by simp [own, Value.ownBlock] at h1⟩
    have H5 := hide hi5
    have HX5 := hide hx5
    have HT5 := hide hto5
    clear hi5 hx5 hto5 hi3 hto4
    go_wp2_with (go_at_call 33; go_in)
    go_end0
    go_wp2_with fail
    refine (printedM _ _ _ _ _ H5.out).mono ?_
    rintro e w' ⟨rfl, hw⟩
    rw [hw]; clear hw
    go_wp2
    go_ret2
    refine ⟨by rw [show R.out = m'.out from HD.out.2.1.symm]; rfl, .slice none 0 0, ⟨?_, ?_, ?_⟩, HT5.out⟩
    · rw [← HD.out.1]; exact HX5.out
    · unfold leftL; rw [if_neg HE.out]; exact World.ownsRow_nil _ _ _ _
    · unfold leftL; rw [if_neg HE.out]; exact ⟨by simp, hF.mems, by simp, by decide⟩
end Go.Proofs.YtimfpnoeifhjeaaGreatDoor
