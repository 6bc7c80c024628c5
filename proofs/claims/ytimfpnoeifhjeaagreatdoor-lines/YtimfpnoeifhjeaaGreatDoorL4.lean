import Derived.Test.YtimfpnoeifhjeaaGreatDoorL3
namespace Go.Proofs.YtimfpnoeifhjeaaGreatDoor
open Go.RowKit

/-- One pair more. -/
theorem WInv.add {B : Nat} {w w1 : World} {wb : Nat} {v v' : Value} {ps : List PS} (p : PS) (h : WInv B w wb v ps) (hp : PInv B w p) (hne : ∀ j (hj : j < ps.length), ps[j].xb ≠ p.xb ∧ ps[j].yb ≠ p.yb) (hxv : p.xv = .slice none 0 0) (hyv : p.yv = .slice none 0 0) (hbs : B ≤ w.heap.size)
    (hown : w1.ownsRow 0 42 1 v' (ps.length + 1) (ptrs ps ++ [.pointer (some ⟨p.pb, 0, none⟩)])) (hg : w.grownBy w1 v.ownBlock) (hnx : ∀ k, own v' k → own v k ∨ w.heap.size ≤ k) :
    WInv B (w1.setCell ⟨wb, 0, none⟩ v') wb v' (ps ++ [p]) ∧ Below B w (w1.setCell ⟨wb, 0, none⟩ v') ∧ Blk w1 wb 28 #[v, .int .i64 0, .slice none 0 0] := by
  have hb1 : Blk w1 wb 28 #[v, .int .i64 0, .slice none 0 0] := h.blk.same (hg.block wb h.blk.lt (fun e => own_ne h.row h.blk (by decide) e.symm))
  have hkp : Kp w (w1.setCell ⟨wb, 0, none⟩ v') (fun k => k = wb ∨ own v k) := ((Kp.refl _ _).grown hg (fun k _ e => .inr e)).set (fun _ => .inl rfl) _
  have keep : ∀ q : PS, PInv B w q → PInv B (w1.setCell ⟨wb, 0, none⟩ v') q := by
    intro q hq
    obtain ⟨yc, hyb⟩ := hq.y.blk
    have nS : ∀ {b : Nat} {t : TypeId} {c : Array Value}, Blk w b t c → t ≠ 28 → t ≠ 42 → ¬ (b = wb ∨ own v b) := by
      rintro b t c hb t1 t2 (e | e)
      · subst e; exact t1 (hb.inj h.blk).1
      · exact own_ne h.row hb (Ne.symm t2) e
    refine hq.keep hkp (nS hq.blk (by decide) (by decide)) (nS hq.x.blk (by decide) (by decide)) (nS hyb (by decide) (by decide)) ?_ ?_
    · rintro k hk (e | e)
      · subst e; exact own_ne hq.x.row h.blk (by decide) hk
      · exact own_disj2 hq.x.row h.row (by decide) hk e
    · rintro k hk (e | e)
      · subst e; exact own_ne hq.y.row h.blk (by decide) hk
      · exact own_disj2 hq.y.row h.row (by decide) hk e
  have hnil : ∀ k, ¬ own (.slice none 0 0) k := fun k hk => by simp [own, Value.ownBlock] at hk
  refine ⟨⟨hb1.set 0 _, ?_, ?_, ?_, h.bw, ?_⟩, ?_, hb1⟩
  · have := ownsRow_setCell_other hown (a := ⟨wb, 0, none⟩) (own_ne hown hb1 (by decide)) v'
    simpa [ptrs] using this
  · intro i hi
    rw [List.getElem_append]
    split
    · exact keep _ (h.pin i (by assumption))
    · simp only [List.getElem_singleton]; exact keep _ hp
  · have key : ∀ j (hj : j < ps.length), Dis ps[j] p := by
      intro j hj
      exact ⟨(hne j hj).1, (hne j hj).2, fun k _ h2 => by rw [hxv] at h2; exact hnil k h2, fun k _ h2 => by rw [hyv] at h2; exact hnil k h2⟩
    intro a b ha hb hab
    simp only [List.length_append, List.length_cons, List.length_nil] at ha hb
    rw [List.getElem_append, List.getElem_append]
    split
    · split
      · exact h.dis a b (by assumption) (by assumption) hab
      · simp only [List.getElem_singleton]; exact key a (by assumption)
    · split
      · simp only [List.getElem_singleton]
        have hk := key b (by assumption)
        exact ⟨fun e => hk.x e.symm, fun e => hk.y e.symm, fun k h1 h2 => hk.xv k h2 h1, fun k h1 h2 => hk.yv k h2 h1⟩
      · omega
  · intro k hk
    rcases hnx k hk with h1 | h1
    · exact h.bv k h1
    · omega
  · refine hkp.below hbs ?_
    rintro k hk (e | e)
    · have := h.bw; omega
    · have := h.bv k e; omega

theorem Tryz.info42 : (Tryz.prog.info? 42).map (fun i => (i.zero, i.size, i.bytes)) = some (some (.pointer none), 1, 8) := by kernel_rfl

/-- What a step leaves. -/
def SInv (B : Nat) (w w' : World) (wb n : Nat) : Prop := ∃ v ps, WInv B w' wb v ps ∧ ps.length ≤ n + 1 ∧ Below B w w'

set_option maxRecDepth 1000000 in
set_option maxHeartbeats 1000000 in
theorem stepL_new (B : Nat) (w : World) (wb : Nat) (v : Value) (ps : List PS) (A N M : Int) (S : ByteArray) (h : WInv B w wb v ps) (hbs : B ≤ w.heap.size) (hn : ps.length ≤ 4398046511104) :
    Calls Tryz.prog 5 #[.pointer (some ⟨wb, 0, none⟩), .agg #[.int .i64 1, .int .i64 A, .int .i64 N, .int .i64 M, .string S]] w fun e w' => e = .returned (.bool true) ∧ SInv B w w' wb ps.length := by
  obtain ⟨i0, hi, hz0, hz1, hz2⟩ := info_parts Tryz.info42
  obtain ⟨ao, cap, hv⟩ := form_of h.row
  have hwl := h.blk.lt
  go_enter Tryz.func5, Tryz.ntmps5
  go_wp2_with fail
  refine (newM _).mono ?_
  rintro e w' ⟨rfl, hw⟩
  rw [hw]; clear hw
  go_wp2_with fail
  refine (freshR _).mono ?_
  rintro e w3 ⟨rfl, hw3⟩
  have hk3 : Kp w w3 (fun _ => False) := by rw [hw3]; exact (((Kp.refl _ _).alloc _).alloc _).alloc _
  have hs3 : w3.heap.size = w.heap.size + 3 := by rw [hw3]; simp
  have hx3 : XSess w3 (w.heap.size + 1) (.slice none 0 0) [] mem0 := by
    refine ⟨?_, World.ownsRow_nil _ _ _ _, good0⟩
    rw [hw3]; exact (Blk.new1 w _ _ _).alloc _
  have hy3 : RSess w3 (w.heap.size + 1 + 1) (.slice none 0 0) [] mem0 := by
    refine ⟨⟨⟨.slice none 0 0, mem0, 0, 0, ⟨#[]⟩⟩, ⟨?_, World.ownsRow_nil _ _ _ _, by simp⟩, rfl, rfl⟩, good0⟩
    rw [hw3]; exact Blk.new2 w _ _ _ _
  have h3 := h.kp hk3
  have hbel3 : Below B w w3 := hk3.below hbs (by simp)
  clear hw3
  have HS3 := hide hs3
  have hsz3 : w.heap.size + 3 ≤ w3.heap.size := by omega
  clear hs3
  have h4 : WInv B (w3.alloc (.cells #[.pointer (some ⟨w.heap.size + 1, 0, none⟩), .pointer (some ⟨w.heap.size + 1 + 1, 0, none⟩)] 44)) wb v ps := h3.kp ((Kp.refl _ _).alloc _)
  have hp4 : PInv B (w3.alloc (.cells #[.pointer (some ⟨w.heap.size + 1, 0, none⟩), .pointer (some ⟨w.heap.size + 1 + 1, 0, none⟩)] 44)) ⟨w3.heap.size, w.heap.size + 1, w.heap.size + 1 + 1, .slice none 0 0, .slice none 0 0, [], mem0⟩ :=
    ⟨Blk.new w3 _ _, hx3.keep (S := fun _ => False) ((Kp.refl _ _).alloc _) (by simp) (by simp), hy3.keep (S := fun _ => False) ((Kp.refl _ _).alloc _) (by simp) (by simp), by show B ≤ w.heap.size + 1; omega, by show B ≤ w.heap.size + 1 + 1; omega, fun k hk => by simp [own, Value.ownBlock] at hk, fun k hk => by simp [own, Value.ownBlock] at hk⟩
  have hne : ∀ j (hj : j < ps.length), ps[j].xb ≠ w.heap.size + 1 ∧ ps[j].yb ≠ w.heap.size + 1 + 1 := by
    intro j hj
    have h1 := (h.pin j hj).x.blk.lt
    obtain ⟨yc, hyb⟩ := (h.pin j hj).y.blk
    have h2 := hyb.lt
    omega
  have c0 : w3.cell? ⟨wb, 0, none⟩ = some v := h3.blk.cell rfl
  have hr4 := h4.row
  rw [hv] at c0 hr4
  have HV := hide hv
  have H4 := hide h4
  have HP4 := hide hp4
  have HNE := hide hne
  have hwl3 := h3.blk.lt
  clear hv h4 hp4 hne hx3 hy3
  go_wp2_with (first
    | (at_builtin; refine wpList_append_to _ rfl _ _ 25 rfl 42 i0 (.pointer none) 1 8 Tryz.underlying25 hi hz0 hz1 hz2 rfl (by decide) _ _ _ rfl (hr4.alloc _) ⟨w3.heap.size + 1, 0, none⟩ 1 1 [.pointer (some ⟨w3.heap.size, 0, none⟩)] rfl rfl ?c1 ?c2 ?c3 ?c4 ?_)
    | go_in)
  case c1 =>
    intro j u hj
    match j, hj with
    | 0, hj =>
      simp at hj; subst hj
      rw [addr_add2]
      exact (Blk.new1 w3 _ _ _).cell rfl
  case c2 => intro u hu; simp at hu; subst hu; rfl
  case c3 => unfold maxLen; omega
  case c4 => omega
  intro v' w1 hown hgrow hnx
  obtain ⟨g', cap', rfl⟩ := Joins.ownsRow_form hown (by omega)
  have HADD := WInv.add ⟨w3.heap.size, w.heap.size + 1, w.heap.size + 1 + 1, .slice none 0 0, .slice none 0 0, [], mem0⟩ (H4.out.kp (w' := (w3.alloc (.cells #[.pointer (some ⟨w.heap.size + 1, 0, none⟩), .pointer (some ⟨w.heap.size + 1 + 1, 0, none⟩)] 44)).alloc (.cells #[.pointer (some ⟨w3.heap.size, 0, none⟩)] 42)) ((Kp.refl _ _).alloc _))
    (HP4.out.keep (S := fun _ => False) ((Kp.refl _ _).alloc _) (by simp) (by simp) (by simp) (by simp) (by simp)) HNE.out rfl rfl (by simp; omega) hown (by rw [HV.out]; exact hgrow) (by rw [HV.out, World.size_alloc, World.size_alloc]; exact hnx)
  have q0 : w1.cell? ⟨wb, 0, none⟩ = some v := HADD.2.2.cell rfl
  have q1 := HADD.2.2.free 0
  rw [HV.out] at q0
  have HFIN : Hid (SInv B w (w1.setCell ⟨wb, 0, none⟩ (.slice (some ⟨g', 0, none⟩) (ps.length + 1) cap')) wb ps.length) := by
    refine ⟨_, _, HADD.1, by simp, ?_⟩
    have e1 : Below B w ((w3.alloc (.cells #[.pointer (some ⟨w.heap.size + 1, 0, none⟩), .pointer (some ⟨w.heap.size + 1 + 1, 0, none⟩)] 44)).alloc (.cells #[.pointer (some ⟨w3.heap.size, 0, none⟩)] 42)) := (hbel3.alloc (by omega) _).alloc (by simp; omega) _
    exact e1.trans HADD.2.1
  clear HADD hown hgrow hnx
  go_wp2
  go_ret
  exact ⟨rfl, HFIN.out⟩
end Go.Proofs.YtimfpnoeifhjeaaGreatDoor
