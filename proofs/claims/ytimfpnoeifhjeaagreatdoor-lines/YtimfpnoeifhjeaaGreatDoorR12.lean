import Derived.Test.YtimfpnoeifhjeaaGreatDoorR11
import Derived.Lib.SmallJoins
namespace Go.Proofs.YtimfpnoeifhjeaaGreatDoor
open Go.RowKit

theorem RInv.setDepth {w : World} {yb : Nat} {s : RS} {ns : List Int} (h : RInv w yb s ns) : RInv (w.setCell ⟨yb, 23, none⟩ (.int .i64 0)) yb s ns :=
  ⟨h.blk.set 23 _, ownsRow_setCell_other h.row (own_ne h.row h.blk (by decide)) _, h.len⟩
theorem RInv.setNil {w : World} {yb : Nat} {s : RS} {ns : List Int} (h : RInv w yb s ns) : RInv (w.setCell ⟨yb, 0, none⟩ (.slice none 0 0)) yb { s with nv := .slice none 0 0 } [] :=
  ⟨h.blk.set 0 _, World.ownsRow_nil _ _ _ _, by simp⟩
theorem RTo.setNil {w : World} {yb : Nat} {s : RS} : RTo yb w (w.setCell ⟨yb, 0, none⟩ (.slice none 0 0)) s { s with nv := .slice none 0 0 } :=
  ⟨(Kp.refl _ _).set (fun _ => .inl rfl) _, fun k hk => by simp [own, Value.ownBlock] at hk⟩

theorem RInv.drewN {w : World} {yb : Nat} {s : RS} {ns : List Int} (h : RInv w yb s ns) (n : Nat) : RInv (w.drewN n) yb s ns := ⟨h.blk, h.row, h.len⟩
theorem To.drewN {F : Nat → Prop} {w w' : World} {V V' : Nat → Prop} (h : To F w w' V V') (n : Nat) : To F w (w'.drewN n) V V' := ⟨⟨h.kp.os, h.kp.tape, h.kp.output, h.kp.size, h.kp.block⟩, h.nx⟩

/-- What a session of the document's holds between two lines. -/
structure RSess (w : World) (yb : Nat) (nv : Value) (rs : List Int) (mem : Nat → Int) : Prop where
  ex : ∃ s, RInv w yb s rs.reverse ∧ s.mem = mem ∧ s.nv = nv
  good : Good rs mem ⟨#[]⟩

def leftL (R : Res) : List Int := if R.e = 0 then R.rs else []

theorem fields_len : ∀ (l cur : List UInt8), (Lib.fieldsGo cur l).length ≤ l.length + 1
  | [], cur => by unfold Lib.fieldsGo; split <;> simp
  | b :: l, cur => by
    unfold Lib.fieldsGo
    have h1 := fields_len l []
    have h2 := fields_len l (cur ++ [b])
    split
    · split <;> simp <;> omega
    · simp only [List.length_cons]; omega

theorem toks_fine : ∀ (ts : List (List UInt8)) {rs : List Int} {mem : Nat → Int} {out : ByteArray}, Good rs mem out → Fine (runToks ts rs mem out)
  | [], _, _, _, h => h
  | t :: ts, rs, mem, out, h => by
    unfold runToks
    have h1 := runTok_fine (l := t) h
    split
    · exact toks_fine ts h1
    · exact h1

set_option maxRecDepth 1000000 in
set_option maxHeartbeats 1000000 in
theorem lineR_bad (w : World) (yb : Nat) (t : ByteArray) (hv : validB t.data.toList = false) :
    Calls Tryz.prog 23 #[.pointer (some ⟨yb, 0, none⟩), .string t] w fun e w' => e = .returned (.tuple #[.string ⟨#[]⟩, .int .i64 2]) ∧ Kp w w' (fun _ => False) := by
  go_enter Tryz.func23, Tryz.ntmps23
  go_wp2_with fail
  refine (tokensR_bad _ _ hv).mono ?_
  rintro e w1 ⟨v, hk, rfl⟩
  go_wp2
  go_ret2
  exact ⟨rfl, hk⟩

set_option maxRecDepth 1000000 in
set_option maxHeartbeats 1000000 in
theorem lineR_ok (w : World) (yb : Nat) (nv : Value) (rs : List Int) (mem : Nat → Int) (t : ByteArray) (hS : RSess w yb nv rs mem) (hv : validB t.data.toList = true) (hcol : ∀ l ∈ Lib.fields t.data.toList, (l == [58]) = false)
    (R : Res) (hR : R = runToks (Lib.fields t.data.toList) rs mem ⟨#[]⟩) :
    Calls Tryz.prog 23 #[.pointer (some ⟨yb, 0, none⟩), .string t] w fun e w' => e = .returned (.tuple #[.string R.out, .int .i64 R.e]) ∧ ∃ nv', RSess w' yb nv' (leftL R) R.mem ∧ To (fun k => k = yb) w w' (own nv) (own nv') := by
  obtain ⟨⟨s, hi, hm, rfl⟩, hgood⟩ := hS
  subst hm
  have hF : Fine R := by rw [hR]; exact toks_fine _ hgood
  have HR : Hid (R = runToks (Lib.fields t.data.toList) rs s.mem ⟨#[]⟩) := hR
  clear hR
  go_enter Tryz.func23, Tryz.ntmps23
  go_wp2_with fail
  refine (tokensR_valid _ _ hv).mono ?_
  rintro e w1 ⟨v, hk, rfl, ts, hrow, hts⟩
  have hi1 := hi.kp hk
  have hto1 : RTo yb w w1 s s := RTo.kp hk
  have hlen : ts.length ≤ 401 := by
    have h1 := fields_len t.data.toList []
    have h2 : (ts.map (fun t => t.data.toList)).length = (Lib.fields t.data.toList).length := by rw [hts]
    have h3 : t.data.toList.length ≤ 400 := by unfold validB at hv; rw [Bool.and_eq_true] at hv; exact of_decide_eq_true hv.1
    simp only [List.length_map] at h2
    have : (Lib.fields t.data.toList).length ≤ t.data.toList.length + 1 := h1
    omega
  have c1 : w1.cell? ⟨yb, 21, none⟩ = some (.int .i64 s.e) := hi1.blk.cell rfl
  have c2 : w1.cell? ⟨yb, 22, none⟩ = some (.int .i64 s.st) := hi1.blk.cell rfl
  have c3 : w1.cell? ⟨yb, 23, none⟩ = some (.int .i64 0) := hi1.blk.cell rfl
  have c4 : w1.cell? ⟨yb, 24, none⟩ = some (.string s.out) := hi1.blk.cell rfl
  have f1 := hi1.blk.free 21
  have f2 := hi1.blk.free 22
  have f3 := hi1.blk.free 23
  have f4 := hi1.blk.free 24
  have hi2 := (((hi1.setE 0).setSt 0).setDepth).setOut ⟨#[]⟩
  have hto2 := (((hto1.trans (RTo.set (s' := s) rfl 21 (.int .i64 0))).trans (RTo.set (s' := s) rfl 22 (.int .i64 0))).trans (RTo.set (s' := s) rfl 23 (.int .i64 0))).trans (RTo.set (s' := s) rfl 24 (.string ⟨#[]⟩))
  have hrow2 := (Joins.ownsRow_le hrow (Nat.zero_le _))
  have hne := own_ne hrow2 hi1.blk (by decide)
  have hrow3 := ownsRow_setCell_other (ownsRow_setCell_other (ownsRow_setCell_other (ownsRow_setCell_other hrow2 (a := ⟨yb, 21, none⟩) hne (.int .i64 0)) (a := ⟨yb, 22, none⟩) hne (.int .i64 0)) (a := ⟨yb, 23, none⟩) hne (.int .i64 0)) (a := ⟨yb, 24, none⟩) hne (.string ⟨#[]⟩)
  have hcol' : ∀ x ∈ ts, (x.toList == [58]) = false := by
    intro x hx
    have := hcol x.data.toList (by rw [← hts]; exact List.mem_map_of_mem hx)
    rw [ByteArray.toList_eq]; exact this
  have HTS : Hid (ts.map (fun t => t.data.toList) = Lib.fields t.data.toList) := hts
  clear hts hrow hrow2 hne hi1 hto1 hk hcol
  go_wp2_with fail
  refine (toksR _ _ _ rs _ ts _ hi2 hgood rfl rfl hrow3 HTS.out.symm hlen hcol').mono ?_
  rintro e w2 ⟨rfl, s', ns, hi3, hto3, hd⟩
  rw [← HR.out] at hd
  have hto4 : RTo yb w w2 s s' := hto2.trans hto3
  clear hi2 hto2 hto3 hrow3 hcol' c1 c2 c3 c4 f1 f2 f3 f4 hv
  have k1 : w2.cell? ⟨yb, 21, none⟩ = some (.int .i64 s'.e) := hi3.blk.cell rfl
  have k4 : w2.cell? ⟨yb, 24, none⟩ = some (.string s'.out) := hi3.blk.cell rfl
  have k0 : w2.cell? ⟨yb, 0, none⟩ = some s'.nv := hi3.blk.cell rfl
  have f0 := hi3.blk.free 0
  rw [hd.e] at k1
  rw [hd.out] at k4
  by_cases he : R.e = 0
  · have he' : (R.e != 0) = false := by simp [he]
    have HE : Hid (R.e = 0) := he
    clear he
    go_wp2
    go_quiet (fail)
    go_wp2
    go_ret2
    refine ⟨rfl, s'.nv, ⟨⟨s', ?_, hd.mem, rfl⟩, ?_⟩, hto4.drewN _⟩
    · unfold leftL; rw [if_pos HE.out, ← hd.ns HE.out]; exact hi3.drewN _
    · unfold leftL; rw [if_pos HE.out]; exact ⟨hF.ins, hF.mems, hF.len, by decide⟩
  · have he' : (R.e != 0) = true := by simp [he]
    have HE : Hid (¬ R.e = 0) := he
    clear he
    go_wp2
    go_quiet (fail)
    go_wp2
    go_ret2
    refine ⟨rfl, .slice none 0 0, ⟨⟨{ s' with nv := .slice none 0 0 }, ?_, hd.mem, rfl⟩, ?_⟩, (hto4.trans RTo.setNil).drewN _⟩
    · unfold leftL; rw [if_neg HE.out]; exact hi3.setNil.drewN _
    · unfold leftL; rw [if_neg HE.out]; exact ⟨by simp, hF.mems, by simp, by decide⟩
end Go.Proofs.YtimfpnoeifhjeaaGreatDoor
