import Derived.Test.YtldifaahmpecfaaGreatDoorV39
namespace Go.Proofs.YtldifaahmpecfaaGreatDoor
set_option maxRecDepth 1000000
set_option maxHeartbeats 4000000
set_option linter.all false
section
open Go.RowKit
variable {K : Nat → Prop}
theorem runI (g : Nat) : CIk K 105 g := by
 intro w yb fb rs s s' f lp lv x nm va vb vt left hk hr he hf hlp hat hx
 cases g with
 | zero => cases hx
 | succ g =>
 rw [x_one _ _ _ _ _ (by omega) (by omega) (by omega)] at hx
 have hK0 : Kp w (w.alloc (.cells #[.int .u8 105, .int .i64 x.n, .string nm, va, vb, vt] 212)) (fun _ => False) := (Kp.refl w _).alloc _
 have hr0 := hr.kpF hK0
 have hnk : nK K w.heap.size := fun h => Nat.lt_irrefl _ (hr.dr.old _ h)
 obtain ⟨hf0, hto0⟩ := hf.sto hr (STo.kpF (rs := rs) hK0)
 have hxb := Blk.new w #[.int .u8 105, .int .i64 x.n, .string nm, va, vb, vt] 212
 have hba := hat.a.keep (Keeps.kpF hK0 (nK K))
 have hbb := hat.b.keep (Keeps.kpF hK0 (nK K))
 have hbt := toksIn_keep (Keeps.kpF hK0 (nK K)) hat.t
 have hnm := hat.nm
 have hin := hat.n
 have HX := hide hx
 clear hr hf hK0 hat hx
 rw [show itV x nm va vb vt = .agg #[.int .u8 105, .int .i64 x.n, .string nm, va, vb, vt] by unfold itV; rw [hk]; rfl]
 have HK := hide hk
 clear hk
 go_enter Tryz.func170, Tryz.ntmps170
 go_wp2_with fail
 generalize hW0 : w.alloc (.cells #[.int .u8 105, .int .i64 x.n, .string nm, va, vb, vt] 212) = w0 at hr0 hf0 hto0 hxb hba hbb hbt ⊢
 clear hW0
 refine (stepS _ yb rs s hr0 he).mono ?_
 rintro e w1 ⟨rfl, rs1, hr1, hsto1, -⟩
 obtain ⟨hf1, hto1⟩ := hf0.sto hr0 hsto1
 have hkp1 : Keeps (nK K) (nK K) w0 w1 := Keeps.to hsto1 hr0.noB _
 have hxb1 := (hkp1 _ _ _ hnk hxb (.inl rfl)).1
 have hxx := HX.out
 have cx0 := hxb1.cell (o := 0) rfl
 have hTO1 := hto0.trans hto1
 have hst1 := St.step_steps s
 have HBA := hide (hba.keep hkp1)
 have HBB := hide (hbb.keep hkp1)
 have HBT := hide (toksIn_keep hkp1 hbt)
 clear hr0 hf0 hsto1 hxb hba hbb hbt hkp1 HX hto0 hto1
 by_cases he1 : s.step.e = 0
 ·rw [if_neg (by simp [he1])] at hxx
  rw [decide_eq_true he1]
  generalize s.step = s1 at hr1 hst1 hxx he1
  rw [one_i _ _ _ _ _ HK.out] at hxx
  obtain ⟨i, lr, rfl⟩ : ∃ i lr, lp = i :: lr := by
   cases lp with
   | nil => cases hxx
   | cons i lr => exact ⟨i, lr, rfl⟩
  dsimp only at hxx
  ·have hini := hf1.ins i (by simp)
   obtain ⟨gl, pl, hlve⟩ : ∃ gl cap', lv = .slice (some ⟨gl, 0, none⟩) (lr.length + 1) cap' := by
    rcases hf1.row.2 with ⟨_, h0⟩ | ⟨g, cap', _, hv, _⟩
    ·simp at h0
    ·exact ⟨g, cap', hv⟩
   obtain ⟨nmf, vbf, hbf, -⟩ := hf1.blk
   obtain ⟨m, hm⟩ : ∃ m, m = lr.length + 1 := ⟨_, rfl⟩
   have cf : w1.cell? ⟨fb, 3, none⟩ = some (.slice (some ⟨gl, 0, none⟩) m pl) := by rw [hm, ← hlve]; exact hbf.cell rfl
   have cl : w1.cell? ⟨gl, m - 1, none⟩ = some (.int .i64 i) := by
    rw [show m - 1 = lr.length by omega]
    obtain ⟨g', cap', hv, hc⟩ := row_cell hf1.row (by simp)
    rw [hlve] at hv
    injection hv with e1 e2 e3
    injection e1 with e1
    injection e1 with e1
    subst e1
    exact hc lr.length _ (by simp [ints])
   have hll : m ≤ 3000 := by have := hr1.good.s1; simp only [List.length_cons] at hlp; omega
   have hm1 : 1 ≤ m := by omega
   have hwm : IntKind.i64.wrap ((m : Int) - 1) = ((m - 1 : Nat) : Int) := by
    rw [show (m : Int) - 1 = ((m - 1 : Nat) : Int) by omega]
    rw [IntKind.wrap_i64]; omega
   clear hbf hm
   have HPUT : Hid (∀ w2 : World, Kp w1 w2 (fun _ => False) → Calls Tryz.prog 78 #[.pointer (some ⟨yb, 0, none⟩), .int .i64 i] w2 fun e w' => e = .returned (.tuple #[]) ∧ ∃ rs2, RRel K w' yb rs2 (s1.put i) ∧ STo yb w1 w' rs1 rs2) := by
    intro w2 hK
    refine (putS w2 yb rs1 s1 i (hr1.kpF hK) he1 hini).mono ?_
    rintro e w3 ⟨rfl, rs3, hr3, hsto3⟩
    exact ⟨rfl, rs3, hr3, (STo.kpF (rs := rs1) hK).trans hsto3⟩
   injection hxx with hxx
   injection hxx with hx1 hx2
   subst hx1
   subst hx2
   go_wp2
   go_region_with (go_at_call 78; refine (HPUT.out _ ?_).mono ?_; exact (Kp.refl w1 _).drew; rintro e w2 ⟨rfl, rs2, hr2, hsto2⟩)
   all_goals
    obtain ⟨hf2, hto2⟩ := hf1.sto hr1 hsto2
    have ce : w2.cell? ⟨yb, 21, none⟩ = some (.int .i64 (s1.put i).e) := by rw [← hr2.e]; exact hr2.blk.cell rfl
    go_wp2
    go_ret
    exact ⟨by show Ending.returned (.bool ((s1.put i).e != 0)) = _; rw [ne_dec], rs2, lv, hr2, hf2, hTO1.trans hto2⟩
 ·rw [if_pos he1] at hxx
  rw [decide_eq_false he1]
  injection hxx with hxx
  injection hxx with hx1 hx2
  subst hx1
  subst hx2
  clear cx0
  go_wp2
  go_ret
  exact ⟨rfl, rs1, lv, hr1, hf1, hTO1⟩
theorem runRe (g : Nat)(hE : ∀ g', g' < g → CE K g') : CIk K 114 g := by
 intro w yb fb rs s s' f lp lv x nm va vb vt left hk hr he hf hlp hat hx
 cases g with
 | zero => cases hx
 | succ g =>
 rw [x_one _ _ _ _ _ (by omega) (by omega) (by omega)] at hx
 have hK0 : Kp w (w.alloc (.cells #[.int .u8 114, .int .i64 x.n, .string nm, va, vb, vt] 212)) (fun _ => False) := (Kp.refl w _).alloc _
 have hr0 := hr.kpF hK0
 have hnk : nK K w.heap.size := fun h => Nat.lt_irrefl _ (hr.dr.old _ h)
 obtain ⟨hf0, hto0⟩ := hf.sto hr (STo.kpF (rs := rs) hK0)
 have hxb := Blk.new w #[.int .u8 114, .int .i64 x.n, .string nm, va, vb, vt] 212
 have hba := hat.a.keep (Keeps.kpF hK0 (nK K))
 have hbb := hat.b.keep (Keeps.kpF hK0 (nK K))
 have hbt := toksIn_keep (Keeps.kpF hK0 (nK K)) hat.t
 have hnm := hat.nm
 have hin := hat.n
 have HX := hide hx
 clear hr hf hK0 hat hx
 rw [show itV x nm va vb vt = .agg #[.int .u8 114, .int .i64 x.n, .string nm, va, vb, vt] by unfold itV; rw [hk]; rfl]
 have HK := hide hk
 clear hk
 go_enter Tryz.func170, Tryz.ntmps170
 go_wp2_with fail
 generalize hW0 : w.alloc (.cells #[.int .u8 114, .int .i64 x.n, .string nm, va, vb, vt] 212) = w0 at hr0 hf0 hto0 hxb hba hbb hbt ⊢
 clear hW0
 refine (stepS _ yb rs s hr0 he).mono ?_
 rintro e w1 ⟨rfl, rs1, hr1, hsto1, -⟩
 obtain ⟨hf1, hto1⟩ := hf0.sto hr0 hsto1
 have hkp1 : Keeps (nK K) (nK K) w0 w1 := Keeps.to hsto1 hr0.noB _
 have hxb1 := (hkp1 _ _ _ hnk hxb (.inl rfl)).1
 have hxx := HX.out
 have cx0 := hxb1.cell (o := 0) rfl
 have hTO1 := hto0.trans hto1
 have hst1 := St.step_steps s
 have HBA := hide (hba.keep hkp1)
 have HBB := hide (hbb.keep hkp1)
 have HBT := hide (toksIn_keep hkp1 hbt)
 clear hr0 hf0 hsto1 hxb hba hbb hbt hkp1 HX hto0 hto1
 by_cases he1 : s.step.e = 0
 ·rw [if_neg (by simp [he1])] at hxx
  rw [decide_eq_true he1]
  generalize s.step = s1 at hr1 hst1 hxx he1
  rw [one_r _ _ _ _ _ HK.out] at hxx
  split at hxx
  ·cases hxx
  ·rename_i s2 l2 hx2
   obtain ⟨nmf, vbf, hbf, hnmf, hbdf⟩ := hf1.blk
   obtain ⟨xsf, hrf, -⟩ := hbdf.out
   obtain ⟨abf, pbf, rfl⟩ := row_slice hrf
   have cf0 : w1.cell? ⟨fb, 0, none⟩ = some (.int .i64 f.id) := hbf.cell rfl
   have cf1 : w1.cell? ⟨fb, 1, none⟩ = some (.string nmf) := hbf.cell rfl
   have cf2 : w1.cell? ⟨fb, 2, none⟩ = some (.slice abf f.body.length pbf) := hbf.cell rfl
   have HEN : Hid (∀ w2 : World, Kp w1 w2 (fun _ => False) → (fbn : Nat) → w1.heap.size ≤ fbn → Blk w2 fbn 174 #[.int .i64 f.id, .string nmf, .slice abf f.body.length pbf, .slice none 0 0] → Calls Tryz.prog 123 #[.pointer (some ⟨yb, 0, none⟩), .pointer (some ⟨fbn, 0, none⟩)] w2 fun e w' => e = .returned (.tuple #[]) ∧ ∃ rs', RRel K w' yb rs' s2 ∧ STo yb w1 w' rs1 rs') := by
    intro w2 hK fbn hfn hB
    have hF : FrAt K w2 fbn f [] (.slice none 0 0) rs1.nv := ⟨⟨nmf, _, hB, hnmf, hbdf.keep (Keeps.kpF hK _)⟩, World.ownsRow_nil _ _ _ _, by simp, fun q hq => by simp [own, Value.ownBlock] at hq⟩
    refine (hE g (by omega) _ yb _ rs1 s1 s2 _ _ l2 (hr1.kpF hK) he1 hF hx2).mono ?_
    rintro e w3 ⟨rfl, rs3, lv3, hrel3, hf3, hto3⟩
    exact ⟨rfl, rs3, hrel3, FTo.away hto3 hK hfn⟩
   have hfl := hbf.lt
   clear hbf hrf hbdf
   injection hxx with hxx
   injection hxx with hx1 hx2
   subst hx1
   subst hx2
   go_wp2
   go_region_with (go_at_call 123; refine (HEN.out _ ?_ _ ?_ ?_).mono ?_; exact ((Kp.refl w1 _).alloc _).drew; exact Nat.le_refl _; exact (Blk.new w1 _ _).drew; rintro e w2 ⟨rfl, rs2, hr2, hsto2⟩)
   all_goals
    obtain ⟨hf2, hto2⟩ := hf1.sto hr1 hsto2
    have ce : w2.cell? ⟨yb, 21, none⟩ = some (.int .i64 s2.e) := by rw [← hr2.e]; exact hr2.blk.cell rfl
    go_wp2
    go_ret
    exact ⟨by show Ending.returned (.bool (s2.e != 0)) = _; rw [ne_dec], rs2, lv, hr2, hf2, hTO1.trans hto2⟩
 ·rw [if_pos he1] at hxx
  rw [decide_eq_false he1]
  injection hxx with hxx
  injection hxx with hx1 hx2
  subst hx1
  subst hx2
  clear cx0
  go_wp2
  go_ret
  exact ⟨rfl, rs1, lv, hr1, hf1, hTO1⟩
theorem runBr (g : Nat)(hT : ∀ g', g' < g → CT K g') : CIk K 123 g := by
 intro w yb fb rs s s' f lp lv x nm va vb vt left hk hr he hf hlp hat hx
 cases g with
 | zero => cases hx
 | succ g =>
 rw [x_one _ _ _ _ _ (by omega) (by omega) (by omega)] at hx
 have hK0 : Kp w (w.alloc (.cells #[.int .u8 123, .int .i64 x.n, .string nm, va, vb, vt] 212)) (fun _ => False) := (Kp.refl w _).alloc _
 have hr0 := hr.kpF hK0
 have hnk : nK K w.heap.size := fun h => Nat.lt_irrefl _ (hr.dr.old _ h)
 obtain ⟨hf0, hto0⟩ := hf.sto hr (STo.kpF (rs := rs) hK0)
 have hxb := Blk.new w #[.int .u8 123, .int .i64 x.n, .string nm, va, vb, vt] 212
 have hba := hat.a.keep (Keeps.kpF hK0 (nK K))
 have hbb := hat.b.keep (Keeps.kpF hK0 (nK K))
 have hbt := toksIn_keep (Keeps.kpF hK0 (nK K)) hat.t
 have hnm := hat.nm
 have hin := hat.n
 have HX := hide hx
 clear hr hf hK0 hat hx
 rw [show itV x nm va vb vt = .agg #[.int .u8 123, .int .i64 x.n, .string nm, va, vb, vt] by unfold itV; rw [hk]; rfl]
 have HK := hide hk
 clear hk
 go_enter Tryz.func170, Tryz.ntmps170
 go_wp2_with fail
 generalize hW0 : w.alloc (.cells #[.int .u8 123, .int .i64 x.n, .string nm, va, vb, vt] 212) = w0 at hr0 hf0 hto0 hxb hba hbb hbt ⊢
 clear hW0
 refine (stepS _ yb rs s hr0 he).mono ?_
 rintro e w1 ⟨rfl, rs1, hr1, hsto1, -⟩
 obtain ⟨hf1, hto1⟩ := hf0.sto hr0 hsto1
 have hkp1 : Keeps (nK K) (nK K) w0 w1 := Keeps.to hsto1 hr0.noB _
 have hxb1 := (hkp1 _ _ _ hnk hxb (.inl rfl)).1
 have hxx := HX.out
 have cx0 := hxb1.cell (o := 0) rfl
 have hTO1 := hto0.trans hto1
 have hst1 := St.step_steps s
 have HBA := hide (hba.keep hkp1)
 have HBB := hide (hbb.keep hkp1)
 have HBT := hide (toksIn_keep hkp1 hbt)
 clear hr0 hf0 hsto1 hxb hba hbb hbt hkp1 HX hto0 hto1
 by_cases he1 : s.step.e = 0
 ·rw [if_neg (by simp [he1])] at hxx
  rw [decide_eq_true he1]
  generalize s.step = s1 at hr1 hst1 hxx he1
  have cx5 := hxb1.cell (o := 5) rfl
  have cd : w1.cell? ⟨yb, 23, none⟩ = some (.int .i64 s1.depth) := by rw [← hr1.dp]; exact hr1.blk.cell rfl
  have fd := hr1.blk.free 23
  have fe := hr1.blk.free 21
  have cee : w1.cell? ⟨yb, 21, none⟩ = some (.int .i64 s1.e) := by rw [← hr1.e]; exact hr1.blk.cell rfl
  have hd0 := hr1.good.d0
  have hd1 := hr1.good.d1
  rw [one_b _ _ _ _ _ HK.out] at hxx
  by_cases h20 : 20 ≤ s1.depth
  ·rw [if_pos h20] at hxx
   injection hxx with hxx
   injection hxx with hx1 hx2
   subst hx1
   subst hx2
   rw [show s1.depth = 20 by omega] at cd
   obtain ⟨hr2, hsto2⟩ := hr1.setEr 8 (by decide)
   obtain ⟨hf2, hto2⟩ := hf1.sto hr1 hsto2
   clear h20 hd0 hd1 hf1 hsto2 cx5
   go_wp2
   go_ret
   exact ⟨rfl, _, lv, hr2, hf2, hTO1.trans hto2⟩
  ·rw [if_neg h20] at hxx
   split at hxx
   ·cases hxx
   ·rename_i s2 l2 hx2
    obtain ⟨hr2, hsto2⟩ := hr1.setDp (s1.depth + 1) (by omega) (by omega)
    obtain ⟨hf2, hto2⟩ := hf1.sto hr1 hsto2
    have hyx : ¬ w.heap.size = yb := by intro e; rw [e] at hxb1; exact absurd (hxb1.inj hr1.blk).1 (by decide)
    have HTK := hide (hT g (by omega) _ yb _ _ s2 vt x.toks l2 hr2 (toksIn_keep (Keeps.to hsto2 hr1.noB (nK K)) HBT.out) hin.2 hx2)
    have hdp := (xRun_keep _ _ _ _ _ hx2).1
    dsimp only at hdp
    have HR2 := hide hr2
    have HF2 := hide hf2
    have HT2 := hide (hTO1.trans hto2)
    clear hr2 hf2 hto2 hsto2 hxb1 hx2 hr1 hf1 hTO1 cee fe
    go_wp2_with fail
    refine HTK.out.mono ?_
    rintro e w3 ⟨rfl, rs3, hr3, hsto3⟩
    obtain ⟨hf3, hto3⟩ := HF2.out.sto HR2.out hsto3
    have cd3 : w3.cell? ⟨yb, 23, none⟩ = some (.int .i64 s2.depth) := by rw [← hr3.dp]; exact hr3.blk.cell rfl
    rw [hdp] at cd3
    have fd3 := hr3.blk.free 23
    have ce3 : w3.cell? ⟨yb, 21, none⟩ = some (.int .i64 s2.e) := by rw [← hr3.e]; exact hr3.blk.cell rfl
    obtain ⟨hr4, hsto4⟩ := hr3.setDp s1.depth (by omega) (by omega)
    obtain ⟨hf4, hto4⟩ := hf3.sto hr3 hsto4
    have HTO := hide (HT2.out.trans (hto3.trans hto4))
    have HR4 := hide hr4
    have HF4 := hide hf4
    have HS2' : Hid (s2.depth - 1 = s1.depth) := by unfold Hid; omega
    injection hxx with hxx
    injection hxx with hx1 hx2
    subst hx2
    have HX1 := hide hx1
    clear hx1 hdp hr3 hsto3 hf3 hto3 hr4 hf4 hsto4 hto4 HTK HR2 HF2 HT2
    go_wp2
    go_ret
    refine ⟨by show Ending.returned (.bool (s2.e != 0)) = _; rw [ne_dec], { rs3 with d := { rs3.d with dp := s1.depth } }, lv, ?_, HF4.out, by simpa using HTO.out⟩
    rw [← HX1.out, HS2'.out]
    simpa using HR4.out
 ·rw [if_pos he1] at hxx
  rw [decide_eq_false he1]
  injection hxx with hxx
  injection hxx with hx1 hx2
  subst hx1
  subst hx2
  clear cx0
  go_wp2
  go_ret
  exact ⟨rfl, rs1, lv, hr1, hf1, hTO1⟩
theorem runDo (g : Nat)(hL : ∀ g', g' < g → CL K g') : CIk K 100 g := by
 intro w yb fb rs s s' f lp lv x nm va vb vt left hk hr he hf hlp hat hx
 cases g with
 | zero => cases hx
 | succ g =>
 rw [x_one _ _ _ _ _ (by omega) (by omega) (by omega)] at hx
 have hK0 : Kp w (w.alloc (.cells #[.int .u8 100, .int .i64 x.n, .string nm, va, vb, vt] 212)) (fun _ => False) := (Kp.refl w _).alloc _
 have hr0 := hr.kpF hK0
 have hnk : nK K w.heap.size := fun h => Nat.lt_irrefl _ (hr.dr.old _ h)
 obtain ⟨hf0, hto0⟩ := hf.sto hr (STo.kpF (rs := rs) hK0)
 have hxb := Blk.new w #[.int .u8 100, .int .i64 x.n, .string nm, va, vb, vt] 212
 have hba := hat.a.keep (Keeps.kpF hK0 (nK K))
 have hbb := hat.b.keep (Keeps.kpF hK0 (nK K))
 have hbt := toksIn_keep (Keeps.kpF hK0 (nK K)) hat.t
 have hnm := hat.nm
 have hin := hat.n
 have HX := hide hx
 clear hr hf hK0 hat hx
 rw [show itV x nm va vb vt = .agg #[.int .u8 100, .int .i64 x.n, .string nm, va, vb, vt] by unfold itV; rw [hk]; rfl]
 have HK := hide hk
 clear hk
 go_enter Tryz.func170, Tryz.ntmps170
 go_wp2_with fail
 generalize hW0 : w.alloc (.cells #[.int .u8 100, .int .i64 x.n, .string nm, va, vb, vt] 212) = w0 at hr0 hf0 hto0 hxb hba hbb hbt ⊢
 clear hW0
 refine (stepS _ yb rs s hr0 he).mono ?_
 rintro e w1 ⟨rfl, rs1, hr1, hsto1, -⟩
 obtain ⟨hf1, hto1⟩ := hf0.sto hr0 hsto1
 have hkp1 : Keeps (nK K) (nK K) w0 w1 := Keeps.to hsto1 hr0.noB _
 have hxb1 := (hkp1 _ _ _ hnk hxb (.inl rfl)).1
 have hxx := HX.out
 have cx0 := hxb1.cell (o := 0) rfl
 have hTO1 := hto0.trans hto1
 have hst1 := St.step_steps s
 have HBA := hide (hba.keep hkp1)
 have HBB := hide (hbb.keep hkp1)
 have HBT := hide (toksIn_keep hkp1 hbt)
 clear hr0 hf0 hsto1 hxb hba hbb hbt hkp1 HX hto0 hto1
 by_cases he1 : s.step.e = 0
 ·rw [if_neg (by simp [he1])] at hxx
  rw [decide_eq_true he1]
  generalize s.step = s1 at hr1 hst1 hxx he1
  have cx1 := hxb1.cell (o := 1) rfl
  have cx2 := hxb1.cell (o := 2) rfl
  have cx3 := hxb1.cell (o := 3) rfl
  have cx4 := hxb1.cell (o := 4) rfl
  have cx5 := hxb1.cell (o := 5) rfl
  rw [one_d _ _ _ _ _ HK.out] at hxx
  have HLL : Hid (Calls Tryz.prog 196 #[.pointer (some ⟨yb, 0, none⟩), .pointer (some ⟨fb, 0, none⟩), .agg #[.int .u8 100, .int .i64 x.n, .string nm, va, vb, vt]] w1 fun e w' => e = .returned (.bool left) ∧ FPost K yb fb w1 w' rs1 s' f lp lv) := by
   have := hL g (by omega) w1 yb fb rs1 s1 s' f lp lv x nm va vb vt left hr1 he1 hf1 (by omega) ⟨hnm, HBA.out, HBB.out, HBT.out, hin⟩ hxx
   rw [show itV x nm va vb vt = .agg #[.int .u8 100, .int .i64 x.n, .string nm, va, vb, vt] by unfold itV; rw [HK.out]; rfl] at this
   exact this
  clear hxb1 hxx
  go_wp2_with fail
  refine HLL.out.mono ?_
  rintro e w2 ⟨rfl, rs2, lv2, hr2, hf2, hto2⟩
  clear hr1 hf1 HLL
  go_wp2
  go_ret
  exact ⟨rfl, rs2, lv2, hr2, hf2, hTO1.trans hto2⟩
 ·rw [if_pos he1] at hxx
  rw [decide_eq_false he1]
  injection hxx with hxx
  injection hxx with hx1 hx2
  subst hx1
  subst hx2
  clear cx0
  go_wp2
  go_ret
  exact ⟨rfl, rs1, lv, hr1, hf1, hTO1⟩
end
section
open Go.RowKit
variable {K : Nat → Prop}
theorem runErr (g : Nat) (w : World) (yb fb : Nat) (rs : RS) (s s' : St) (f : Fr) (lp : List Int) (lv : Value) (x : It) (nm : ByteArray) (va vb vt : Value) (left : Bool) (h1 : ¬ x.kind = 63) (h2 : ¬ x.kind = 117) (h3 : ¬ x.kind = 119) (hr : RRel K w yb rs s) (he : s.e = 0) (hf : FrAt K w fb f lp lv rs.nv)
  (hse : s.step.e ≠ 0) (hx : xRun g (jItem f lp x) s = some (s', left)) : Calls Tryz.prog 170 #[.pointer (some ⟨yb, 0, none⟩), .pointer (some ⟨fb, 0, none⟩), itV x nm va vb vt] w fun e w' => e = .returned (.bool left) ∧ FPost K yb fb w w' rs s' f lp lv := by
 cases g with
 | zero => cases hx
 | succ g =>
 rw [x_one _ _ _ _ _ h1 h2 h3, if_pos hse] at hx
 injection hx with hx
 injection hx with hx1 hx2
 subst hx1
 subst hx2
 have hK0 : Kp w (w.alloc (.cells #[.int .u8 x.kind, .int .i64 x.n, .string nm, va, vb, vt] 212)) (fun _ => False) := (Kp.refl w _).alloc _
 have hr0 := hr.kpF hK0
 obtain ⟨hf0, hto0⟩ := hf.sto hr (STo.kpF (rs := rs) hK0)
 clear hr hf hK0
 have q1 : ¬ (x.kind : Int) = 63 := by omega
 have q2 : ¬ (x.kind : Int) = 117 := by omega
 have q3 : ¬ (x.kind : Int) = 119 := by omega
 clear h1 h2 h3
 go_enter Tryz.func170, Tryz.ntmps170
 go_wp2_with fail
 refine (stepS _ yb rs s hr0 he).mono ?_
 rintro e w1 ⟨rfl, rs1, hr1, hsto1, -⟩
 obtain ⟨hf1, hto1⟩ := hf0.sto hr0 hsto1
 rw [decide_eq_false hse]
 clear hr0 hf0 hsto1 q1 q2 q3
 go_wp2
 go_ret
 exact ⟨rfl, rs1, lv, hr1, hf1, hto0.trans hto1⟩
theorem itemX_ (g : Nat) (hB : ∀ g', g' < g → CB K g') (hL : ∀ g', g' < g → CL K g') (hE : ∀ g', g' < g → CE K g') (hC : ∀ g', g' < g → CC K g') (hT : ∀ g', g' < g → CT K g') : CI K g := by
 intro w yb fb rs s s' f lp lv x nm va vb vt left hr he hf hlp hat hx
 by_cases h1 : x.kind = 63
 ·exact runIf g hB w yb fb rs s s' f lp lv x nm va vb vt left h1 hr he hf hlp hat hx
 by_cases h2 : x.kind = 117
 ·exact runUntil g hB w yb fb rs s s' f lp lv x nm va vb vt left h2 hr he hf hlp hat hx
 by_cases h3 : x.kind = 119
 ·exact runWhile g hB w yb fb rs s s' f lp lv x nm va vb vt left h3 hr he hf hlp hat hx
 by_cases hse : s.step.e ≠ 0
 ·exact runErr g w yb fb rs s s' f lp lv x nm va vb vt left h1 h2 h3 hr he hf hse hx
 by_cases k1 : x.kind = 110
 ·exact runNu g w yb fb rs s s' f lp lv x nm va vb vt left k1 hr he hf hlp hat hx
 by_cases k2 : x.kind = 112
 ·exact runPl g w yb fb rs s s' f lp lv x nm va vb vt left k2 hr he hf hlp hat hx
 by_cases k3 : x.kind = 105
 ·exact runI g w yb fb rs s s' f lp lv x nm va vb vt left k3 hr he hf hlp hat hx
 by_cases k4 : x.kind = 120
 ·exact runEx g w yb fb rs s s' f lp lv x nm va vb vt left k4 hr he hf hlp hat hx
 by_cases k5 : x.kind = 114
 ·exact runRe g hE w yb fb rs s s' f lp lv x nm va vb vt left k5 hr he hf hlp hat hx
 by_cases k6 : x.kind = 99
 ·exact runCa g hC w yb fb rs s s' f lp lv x nm va vb vt left k6 hr he hf hlp hat hx
 by_cases k7 : x.kind = 123
 ·exact runBr g hT w yb fb rs s s' f lp lv x nm va vb vt left k7 hr he hf hlp hat hx
 by_cases k8 : x.kind = 100
 ·exact runDo g hL w yb fb rs s s' f lp lv x nm va vb vt left k8 hr he hf hlp hat hx
 ·exfalso
  cases g with
  | zero => cases hx
  | succ g =>
   rw [x_one _ _ _ _ _ h1 h2 h3, if_neg hse, one_none _ _ _ _ _ k1 k2 k3 k4 k5 k6 k7 k8] at hx
   cases hx
end
end Go.Proofs.YtldifaahmpecfaaGreatDoor
