import Derived.Test.YtldifaahmpecfaaGreatDoorV30
namespace Go.Proofs.YtldifaahmpecfaaGreatDoor
set_option maxRecDepth 1000000
set_option maxHeartbeats 4000000
set_option linter.all false
section
open Go.RowKit
theorem Blk.three {w : World} {b : Nat} {t : TypeId} {a0 a1 a2 : Value} (h : Blk w b t #[a0, a1, a2]) : w.cell? ⟨b, 0, none⟩ = some a0 ∧ w.cell? ⟨b, 1, none⟩ = some a1 ∧ w.cell? ⟨b, 2, none⟩ = some a2 := ⟨h.cell rfl, h.cell rfl, h.cell rfl⟩
theorem Blk.threeF {w : World} {b : Nat} {t : TypeId} {c : Array Value} (h : Blk w b t c) : w.frozen? ⟨b, 0, none⟩ = false ∧ w.frozen? ⟨b, 1, none⟩ = false ∧ w.frozen? ⟨b, 2, none⟩ = false := ⟨h.free 0, h.free 1, h.free 2⟩
theorem Blk.set3 {w : World} {b : Nat} {t : TypeId} {a0 a1 a2 : Value} (h : Blk w b t #[a0, a1, a2]) (v0 v1 v2 : Value) : Blk (((w.setCell ⟨b, 0, none⟩ v0).setCell ⟨b, 1, none⟩ v1).setCell ⟨b, 2, none⟩ v2) b t #[v0, v1, v2] :=
 ((h.set 0 v0).set 1 v1).set 2 v2
theorem Kp.new3 {w w1 : World} (h : Kp w w1 (fun _ => False)) {b : Nat} (hb : w.heap.size ≤ b) (v0 v1 v2 : Value) : Kp w (((w1.setCell ⟨b, 0, none⟩ v0).setCell ⟨b, 1, none⟩ v1).setCell ⟨b, 2, none⟩ v2) (fun _ => False) := by
 have hn : ∀ o, (⟨b, o, none⟩ : Addr).block < w.heap.size → (fun _ : Nat => False) (⟨b, o, none⟩ : Addr).block := fun o hlt => absurd hlt (by show ¬ b < _; omega)
 exact ((h.set (hn 0) v0).set (hn 1) v1).set (hn 2) v2
theorem MInv.aside {w : World} {xb rb : Nat} {m : MS} {ns : List Int} (h : MInv w xb rb m ns) {b : Nat} {c : Array Value} (hb : Blk w b 180 c) (o : Nat) (v : Value) : MInv (w.setCell ⟨b, o, none⟩ v) xb rb m ns :=
  ⟨h.xblk.setOther (a := ⟨b, o, none⟩) (by rintro rfl; exact absurd (hb.inj h.xblk).1 (by decide)) v, h.rblk.setOther (a := ⟨b, o, none⟩) (by rintro rfl; exact absurd (hb.inj h.rblk).1 (by decide)) v,
   ownsRow_setCell_other (a := ⟨b, o, none⟩) h.srow (own_ne h.srow hb (by decide)) v, ownsRow_setCell_other (a := ⟨b, o, none⟩) h.orow (own_ne h.orow hb (by decide)) v, h.len⟩
theorem stTk_no (w : World) (xb rb : Nat) (m : MS) (ns : List Int) (n : Int) (h : MInv w xb rb m ns) (h1 : ¬ m.st < 2000) :
  Calls Tryz.prog 225 #[pt rb, .int .i64 n] w fun e w' => e = .returned (.tuple #[.agg #[.int .i64 0, .int .i64 0, .int .i64 0], .int .i64 12]) ∧ Kp w w' (fun _ => False) := by
 have HB := hide (burn_no (w.alloc (.cells #[.int .i64 0, .int .i64 0, .int .i64 0] 180)) xb rb m ns (h.alloc _) h1)
 have hl := h.rblk.lt
 go_enter Tryz.func225, Tryz.ntmps225
 go_wp2_with fail
 refine HB.out.mono ?_
 rintro e w' ⟨rfl, rfl⟩
 go_wp2
 refine bodyPost_ret (v := .tuple #[.agg #[.int .i64 0, .int .i64 0, .int .i64 0], .int .i64 12]) (by simp [results, Tryz.results225, go_sem]) rfl ?_
 exact ⟨rfl, (Kp.refl _ _).alloc _⟩
theorem stTk_under (w : World) (xb rb : Nat) (m : MS) (ns : List Int) (n : Int) (h : MInv w xb rb m ns) (h0 : 0 ≤ m.st) (h1 : m.st < 2000) (hlt : (ns.length : Int) < n) (hn : n ≤ 10) :
  Calls Tryz.prog 225 #[pt rb, .int .i64 n] w fun e w' => e = .returned (.tuple #[.agg #[.int .i64 0, .int .i64 0, .int .i64 0], .int .i64 6]) ∧ MInv w' xb rb { m with st := m.st + 1 } ns ∧ MTo xb rb w w' m { m with st := m.st + 1 } := by
 have HB := hide (burn_ok (w.alloc (.cells #[.int .i64 0, .int .i64 0, .int .i64 0] 180)) xb rb m _ (h.alloc _) h0 h1)
 have hl := h.rblk.lt
 have hlx := h.xblk.lt
 have hi1 := ((h.setSt (m.st + 1)).1).alloc (.cells #[.int .i64 0, .int .i64 0, .int .i64 0] 180)
 have ht1 : MTo xb rb w ((w.setCell ⟨rb, 2, none⟩ (.int .i64 (m.st + 1))).alloc (.cells #[.int .i64 0, .int .i64 0, .int .i64 0] 180)) m { m with st := m.st + 1 } := (h.setSt (m.st + 1)).2.trans (MTo.kp ((Kp.refl _ _).alloc _))
 have hZ0 : Blk ((w.setCell ⟨rb, 2, none⟩ (.int .i64 (m.st + 1))).alloc (.cells #[.int .i64 0, .int .i64 0, .int .i64 0] 180)) w.heap.size 180 #[.int .i64 0, .int .i64 0, .int .i64 0] := by
  have := Blk.new (w.setCell ⟨rb, 2, none⟩ (.int .i64 (m.st + 1))) #[.int .i64 0, .int .i64 0, .int .i64 0] 180; simpa using this
 go_enter Tryz.func225, Tryz.ntmps225
 go_wp2_with fail
 refine HB.out.mono ?_
 rintro e w' ⟨rfl, rfl⟩
 go_wp2_with fail
 refine (takeM_under _ xb rb _ ns n hi1 hlt hn).mono ?_
 rintro e w2 ⟨rfl, hk2⟩
 have hZ := hk2.blk hZ0 (by simp)
 obtain ⟨y0, y1, y2⟩ := hZ.three
 obtain ⟨z0, z1, z2⟩ := hZ.threeF
 go_wp2
 have hC := hZ.set3 (.int .i64 0) (.int .i64 0) (.int .i64 0)
 have HQ : MInv (((w2.setCell ⟨w.heap.size, 0, none⟩ (.int .i64 0)).setCell ⟨w.heap.size, 1, none⟩ (.int .i64 0)).setCell ⟨w.heap.size, 2, none⟩ (.int .i64 0)) xb rb { m with st := m.st + 1 } ns ∧ MTo xb rb w (((w2.setCell ⟨w.heap.size, 0, none⟩ (.int .i64 0)).setCell ⟨w.heap.size, 1, none⟩ (.int .i64 0)).setCell ⟨w.heap.size, 2, none⟩ (.int .i64 0)) m { m with st := m.st + 1 } := by
  refine ⟨(((hi1.kp hk2).aside hZ 0 _).aside (hZ.set 0 _) 1 _).aside ((hZ.set 0 _).set 1 _) 2 _, ?_⟩
  have t2 := ht1.trans (MTo.kp hk2)
  exact ⟨((t2.kp.set (a := ⟨w.heap.size, 0, none⟩) (fun hh => absurd hh (Nat.lt_irrefl _)) _).set (a := ⟨w.heap.size, 1, none⟩) (fun hh => absurd hh (Nat.lt_irrefl _)) _).set (a := ⟨w.heap.size, 2, none⟩) (fun hh => absurd hh (Nat.lt_irrefl _)) _, t2.nx⟩
 generalize (((w2.setCell ⟨w.heap.size, 0, none⟩ (.int .i64 0)).setCell ⟨w.heap.size, 1, none⟩ (.int .i64 0)).setCell ⟨w.heap.size, 2, none⟩ (.int .i64 0)) = wf at hC HQ ⊢
 obtain ⟨q0, q1, q2⟩ := hC.three
 refine bodyPost_ret (v := .tuple #[.agg #[.int .i64 0, .int .i64 0, .int .i64 0], .int .i64 6]) (by simp [results, Tryz.results225, go_sem, q0, q1, q2]) rfl ?_
 exact ⟨rfl, HQ.1, HQ.2⟩
theorem stTk1 (w : World) (xb rb : Nat) (m : MS) (a : Int) (r : List Int) (h : MInv w xb rb m (a :: r).reverse) (h0 : 0 ≤ m.st) (h1 : m.st < 2000) :
  Calls Tryz.prog 225 #[pt rb, .int .i64 1] w fun e w' => ∃ v', e = .returned (.tuple #[.agg #[.int .i64 a, .int .i64 0, .int .i64 0], .int .i64 0]) ∧ MInv w' xb rb { m with sv := v', st := m.st + 1 } r.reverse ∧ MTo xb rb w w' m { m with sv := v', st := m.st + 1 } := by
 have HB := hide (burn_ok (w.alloc (.cells #[.int .i64 0, .int .i64 0, .int .i64 0] 180)) xb rb m _ (h.alloc _) h0 h1)
 have hl := h.rblk.lt
 have hlx := h.xblk.lt
 have hi1 := ((h.setSt (m.st + 1)).1).alloc (.cells #[.int .i64 0, .int .i64 0, .int .i64 0] 180)
 have ht1 : MTo xb rb w ((w.setCell ⟨rb, 2, none⟩ (.int .i64 (m.st + 1))).alloc (.cells #[.int .i64 0, .int .i64 0, .int .i64 0] 180)) m { m with st := m.st + 1 } := (h.setSt (m.st + 1)).2.trans (MTo.kp ((Kp.refl _ _).alloc _))
 have hZ0 : Blk ((w.setCell ⟨rb, 2, none⟩ (.int .i64 (m.st + 1))).alloc (.cells #[.int .i64 0, .int .i64 0, .int .i64 0] 180)) w.heap.size 180 #[.int .i64 0, .int .i64 0, .int .i64 0] := by
  have := Blk.new (w.setCell ⟨rb, 2, none⟩ (.int .i64 (m.st + 1))) #[.int .i64 0, .int .i64 0, .int .i64 0] 180; simpa using this
 go_enter Tryz.func225, Tryz.ntmps225
 go_wp2_with fail
 refine HB.out.mono ?_
 rintro e w' ⟨rfl, rfl⟩
 go_wp2_with fail
 refine (takeM1 _ xb rb _ a r hi1).mono ?_
 rintro e w2 ⟨v', rfl, hi2, ht2⟩
 have hZ := ht2.blk hZ0 (by rintro (h9 | h9) <;> omega) (by rintro (h9 | h9); exact own_ne hi1.srow hZ0 (by decide) h9; exact own_ne hi1.orow hZ0 (by decide) h9)
 obtain ⟨y0, y1, y2⟩ := hZ.three
 obtain ⟨z0, z1, z2⟩ := hZ.threeF
 go_wp2
 have hC := hZ.set3 (.int .i64 a) (.int .i64 0) (.int .i64 0)
 have HQ : MInv (((w2.setCell ⟨w.heap.size, 0, none⟩ (.int .i64 a)).setCell ⟨w.heap.size, 1, none⟩ (.int .i64 0)).setCell ⟨w.heap.size, 2, none⟩ (.int .i64 0)) xb rb { m with sv := v', st := m.st + 1 } r.reverse ∧ MTo xb rb w (((w2.setCell ⟨w.heap.size, 0, none⟩ (.int .i64 a)).setCell ⟨w.heap.size, 1, none⟩ (.int .i64 0)).setCell ⟨w.heap.size, 2, none⟩ (.int .i64 0)) m { m with sv := v', st := m.st + 1 } := by
  refine ⟨((hi2.aside hZ 0 _).aside (hZ.set 0 _) 1 _).aside ((hZ.set 0 _).set 1 _) 2 _, ?_⟩
  have t2 := ht1.trans ht2
  exact ⟨((t2.kp.set (a := ⟨w.heap.size, 0, none⟩) (fun hh => absurd hh (Nat.lt_irrefl _)) _).set (a := ⟨w.heap.size, 1, none⟩) (fun hh => absurd hh (Nat.lt_irrefl _)) _).set (a := ⟨w.heap.size, 2, none⟩) (fun hh => absurd hh (Nat.lt_irrefl _)) _, t2.nx⟩
 generalize (((w2.setCell ⟨w.heap.size, 0, none⟩ (.int .i64 a)).setCell ⟨w.heap.size, 1, none⟩ (.int .i64 0)).setCell ⟨w.heap.size, 2, none⟩ (.int .i64 0)) = wf at hC HQ ⊢
 obtain ⟨q0, q1, q2⟩ := hC.three
 refine bodyPost_ret (v := .tuple #[.agg #[.int .i64 a, .int .i64 0, .int .i64 0], .int .i64 0]) (by simp [results, Tryz.results225, go_sem, q0, q1, q2]) rfl ?_
 exact ⟨v', rfl, HQ.1, HQ.2⟩
theorem stTk2 (w : World) (xb rb : Nat) (m : MS) (b a : Int) (r : List Int) (h : MInv w xb rb m (b :: a :: r).reverse) (h0 : 0 ≤ m.st) (h1 : m.st < 2000) :
  Calls Tryz.prog 225 #[pt rb, .int .i64 2] w fun e w' => ∃ v', e = .returned (.tuple #[.agg #[.int .i64 a, .int .i64 b, .int .i64 0], .int .i64 0]) ∧ MInv w' xb rb { m with sv := v', st := m.st + 1 } r.reverse ∧ MTo xb rb w w' m { m with sv := v', st := m.st + 1 } := by
 have HB := hide (burn_ok (w.alloc (.cells #[.int .i64 0, .int .i64 0, .int .i64 0] 180)) xb rb m _ (h.alloc _) h0 h1)
 have hl := h.rblk.lt
 have hlx := h.xblk.lt
 have hi1 := ((h.setSt (m.st + 1)).1).alloc (.cells #[.int .i64 0, .int .i64 0, .int .i64 0] 180)
 have ht1 : MTo xb rb w ((w.setCell ⟨rb, 2, none⟩ (.int .i64 (m.st + 1))).alloc (.cells #[.int .i64 0, .int .i64 0, .int .i64 0] 180)) m { m with st := m.st + 1 } := (h.setSt (m.st + 1)).2.trans (MTo.kp ((Kp.refl _ _).alloc _))
 have hZ0 : Blk ((w.setCell ⟨rb, 2, none⟩ (.int .i64 (m.st + 1))).alloc (.cells #[.int .i64 0, .int .i64 0, .int .i64 0] 180)) w.heap.size 180 #[.int .i64 0, .int .i64 0, .int .i64 0] := by
  have := Blk.new (w.setCell ⟨rb, 2, none⟩ (.int .i64 (m.st + 1))) #[.int .i64 0, .int .i64 0, .int .i64 0] 180; simpa using this
 go_enter Tryz.func225, Tryz.ntmps225
 go_wp2_with fail
 refine HB.out.mono ?_
 rintro e w' ⟨rfl, rfl⟩
 go_wp2_with fail
 refine (takeM2 _ xb rb _ b a r hi1).mono ?_
 rintro e w2 ⟨v', rfl, hi2, ht2⟩
 have hZ := ht2.blk hZ0 (by rintro (h9 | h9) <;> omega) (by rintro (h9 | h9); exact own_ne hi1.srow hZ0 (by decide) h9; exact own_ne hi1.orow hZ0 (by decide) h9)
 obtain ⟨y0, y1, y2⟩ := hZ.three
 obtain ⟨z0, z1, z2⟩ := hZ.threeF
 go_wp2
 have hC := hZ.set3 (.int .i64 a) (.int .i64 b) (.int .i64 0)
 have HQ : MInv (((w2.setCell ⟨w.heap.size, 0, none⟩ (.int .i64 a)).setCell ⟨w.heap.size, 1, none⟩ (.int .i64 b)).setCell ⟨w.heap.size, 2, none⟩ (.int .i64 0)) xb rb { m with sv := v', st := m.st + 1 } r.reverse ∧ MTo xb rb w (((w2.setCell ⟨w.heap.size, 0, none⟩ (.int .i64 a)).setCell ⟨w.heap.size, 1, none⟩ (.int .i64 b)).setCell ⟨w.heap.size, 2, none⟩ (.int .i64 0)) m { m with sv := v', st := m.st + 1 } := by
  refine ⟨((hi2.aside hZ 0 _).aside (hZ.set 0 _) 1 _).aside ((hZ.set 0 _).set 1 _) 2 _, ?_⟩
  have t2 := ht1.trans ht2
  exact ⟨((t2.kp.set (a := ⟨w.heap.size, 0, none⟩) (fun hh => absurd hh (Nat.lt_irrefl _)) _).set (a := ⟨w.heap.size, 1, none⟩) (fun hh => absurd hh (Nat.lt_irrefl _)) _).set (a := ⟨w.heap.size, 2, none⟩) (fun hh => absurd hh (Nat.lt_irrefl _)) _, t2.nx⟩
 generalize (((w2.setCell ⟨w.heap.size, 0, none⟩ (.int .i64 a)).setCell ⟨w.heap.size, 1, none⟩ (.int .i64 b)).setCell ⟨w.heap.size, 2, none⟩ (.int .i64 0)) = wf at hC HQ ⊢
 obtain ⟨q0, q1, q2⟩ := hC.three
 refine bodyPost_ret (v := .tuple #[.agg #[.int .i64 a, .int .i64 b, .int .i64 0], .int .i64 0]) (by simp [results, Tryz.results225, go_sem, q0, q1, q2]) rfl ?_
 exact ⟨v', rfl, HQ.1, HQ.2⟩
end
section
open Go.RowKit
def PPost (B : Nat) (W : World) (xb rb mb : Nat) (w : World) (m : MS) (D : Nat → Prop) (s' : St) (w' : World) : Prop := ∃ m' D', PR B W w' xb rb mb m' D' s' ∧ PTo xb rb mb w w' m m' D D'
theorem PPost.step {B : Nat} {W : World} {xb rb mb : Nat} {w w1 w2 : World} {m m1 : MS} {D D1 : Nat → Prop} {s' : St} (ht : PTo xb rb mb w w1 m m1 D D1) (h : PPost B W xb rb mb w1 m1 D1 s' w2) : PPost B W xb rb mb w m D s' w2 := by
 obtain ⟨m', D', h1, h2⟩ := h; exact ⟨m', D', h1, ht.trans h2⟩
theorem St.step_ok {s : St} (h : s.steps < 2000) : s.step = { s with steps := s.steps + 1 } := by unfold St.step; rw [if_pos h]
theorem St.step_no {s : St} (h : ¬ s.steps < 2000) : s.step = { s with e := 12, steps := s.steps + 1 } := by unfold St.step; rw [if_neg h]
section
variable {B : Nat} {W w : World} {xb rb mb : Nat} {m : MS} {D : Nat → Prop} {s : St}
theorem PR.fuel (h : PR B W w xb rb mb m D s) (he : s.e = 0) (hf : ¬ m.st < 2000) : PR B W w xb rb mb m D s.step ∧ s.step.e = 12 := by
 have hs : ¬ s.steps < 2000 := by rw [← h.st he]; exact hf
 have hg := h.good.step he
 rw [St.step_no hs] at hg ⊢
 obtain ⟨ns, hi, _⟩ := h.inv
 exact ⟨(h.turn (s' := { s with e := 12, steps := s.steps + 1 }) (To.refl _ _ _) rfl ⟨ns, hi, (fun h => by cases h)⟩ h.mem h.out h.st0 h.st1 (fun h => by cases h) h.dp rfl hg).1, rfl⟩
theorem PR.burn (h : PR B W w xb rb mb m D s) (he : s.e = 0) (hf : m.st < 2000) : PR B W (w.setCell ⟨rb, 2, none⟩ (.int .i64 (m.st + 1))) xb rb mb { m with st := m.st + 1 } D s.step ∧ PTo xb rb mb w (w.setCell ⟨rb, 2, none⟩ (.int .i64 (m.st + 1))) m { m with st := m.st + 1 } D D ∧ s.step.e = 0 := by
 have hs : s.steps < 2000 := by rw [← h.st he]; exact hf
 have hg := h.good.step he
 rw [St.step_ok hs] at hg ⊢
 obtain ⟨ns, hi, hn⟩ := h.inv
 obtain ⟨h1, h2⟩ := hi.setSt (m.st + 1)
 have := h.turn (s' := { s with steps := s.steps + 1 }) h2 rfl ⟨ns, h1, hn⟩ h.mem h.out (by have := h.st0; show 0 ≤ m.st + 1; omega) (by show m.st + 1 ≤ 2000; omega) (fun e => by show m.st + 1 = s.steps + 1; rw [h.st he]) h.dp rfl hg
 exact ⟨this.1, this.2, he⟩
theorem PR.ofM {w' : World} {R : Res} {s' : St} (h : PR B W w xb rb mb m D s) (hp : MPost w w' xb rb m R) (h1 : s'.e = R.e) (h2 : R.e = 0 → s'.rs = R.rs) (h3 : s'.mem = R.mem) (h4 : s'.out = R.out) (h5 : s'.steps = s.steps) (h6 : s'.depth = s.depth) (h7 : s'.defs = s.defs) (he : s.e = 0) (hg : SGood s') : PPost B W xb rb mb w m D s' w' := by
 obtain ⟨m', ns, hi, ht, hm, ho, hq, hn⟩ := hp
 have q1 : m'.st = m.st := congrArg Prod.fst hq
 have q2 : m'.dp = m.dp := congrArg (fun x => x.2.1) hq
 have q3 : m'.bk = m.bk := congrArg (fun x => x.2.2) hq
 exact ⟨m', D, h.turn ht q3 ⟨ns, hi, fun e => by rw [h1] at e; rw [hn e, h2 e]⟩ (by rw [hm, h3]) (by rw [ho, h4]) (by rw [q1]; exact h.st0) (by rw [q1]; exact h.st1) (fun _ => by rw [q1, h.st he, h5]) (by rw [q2, h.dp, h6]) h7 hg⟩
theorem stepP (h : PR B W w xb rb mb m D s) (he : s.e = 0) (v : Value) (s2 s' : St) (hs' : s' = if s.step.e = 0 then s2 else s.step)
  (hact : s.step.e = 0 → ∀ w1 m1, PR B W w1 xb rb mb m1 D s.step → PTo xb rb mb w w1 m m1 D D → CallsV v (pt rb) w1 fun e w' => e = .returned (.int .i64 s2.e) ∧ PPost B W xb rb mb w1 m1 D s2 w') :
  Calls Tryz.prog 61 #[pt rb, v] w fun e w' => e = .returned (.int .i64 s'.e) ∧ PPost B W xb rb mb w m D s' w' := by
 obtain ⟨ns, hi, hn⟩ := h.inv
 by_cases hf : m.st < 2000
 ·obtain ⟨h1, h2, h3⟩ := h.burn he hf
  rw [if_pos h3] at hs'
  rw [hs']
  refine (stepV w xb rb m ns v (fun n w' => n = s2.e ∧ PPost B W xb rb mb w m D s2 w') hi h.st0 hf ((hact h3 _ _ h1 h2).mono ?_)).mono ?_
  ·rintro e w' ⟨rfl, hp⟩
   exact ⟨_, rfl, rfl, hp.step h2⟩
  ·rintro e w' ⟨n, rfl, rfl, hp⟩
   exact ⟨rfl, hp⟩
 ·obtain ⟨h1, h2⟩ := h.fuel he hf
  rw [if_neg (by rw [h2]; decide)] at hs'
  rw [hs']
  refine (stepV_no w xb rb m ns v hi hf).mono ?_
  rintro e w' ⟨rfl, rfl⟩
  exact ⟨by rw [h2], m, D, h1, PTo.refl _ _ _ _ _ _⟩
theorem layP (h : PR B W w xb rb mb m D s) (he : s.e = 0) (n : Int) (hn : In n) (nb : Nat) (hb : Blk w nb 2 #[.int .i64 n]) :
  CallsV (.func (.func 87) #[] #[pt nb]) (pt rb) w fun e w' => e = .returned (.int .i64 (s.put n).e) ∧ PPost B W xb rb mb w m D (s.put n) w' := by
 obtain ⟨ns, hi, hns⟩ := h.inv
 have hns := hns he
 subst hns
 have hg := h.good.put hn
 refine ⟨_, _, _, rfl, ent_lay, ?_⟩
 by_cases hl : s.rs.length < 32
 ·have hs : s.put n = { s with rs := n :: s.rs } := by unfold St.put; rw [if_pos hl]
  rw [hs] at hg ⊢
  refine (ly_ok w xb rb nb m n s.rs hi (hb.cell rfl) hl).mono ?_
  rintro e w' ⟨rfl, hp⟩
  exact ⟨by rw [show ({ s with rs := n :: s.rs } : St).e = 0 from he], h.ofM hp he (fun _ => rfl) h.mem.symm h.out.symm rfl rfl rfl he hg⟩
 ·have hs : s.put n = { s with e := 7 } := by unfold St.put; rw [if_neg hl]
  rw [hs] at hg ⊢
  refine (ly_full w xb rb nb m n s.rs hi (hb.cell rfl) hl).mono ?_
  rintro e w' ⟨rfl, hp⟩
  exact ⟨rfl, h.ofM hp rfl (fun h => by cases h) h.mem.symm h.out.symm rfl rfl rfl he hg⟩
theorem plainPX (hG : Glo B W) (h : PR B W w xb rb mb m D s) (he : s.e = 0) (j : Nat) (act : Value) (hb : plainR (BD D w) j act) :
  CallsV act (pt rb) w fun e w' => e = .returned (.int .i64 (s.word j).e) ∧ PPost B W xb rb mb w m D (s.word j) w' := by
 obtain ⟨ns, hi, hns⟩ := h.inv
 have hns := hns he
 subst hns
 have hg := h.good.word he j
 refine (actM B W w D xb rb m s.rs j act hb hi (by rw [h.out]; exact h.good.g.osz) h.good.g.ins h.safe hG).mono ?_
 rintro e w' ⟨rfl, hp⟩
 rw [h.mem, h.out] at hp
 rw [h.mem, h.out]
 exact ⟨rfl, h.ofM hp rfl (fun _ => rfl) rfl rfl rfl rfl rfl he hg⟩
theorem askM (w : World) (rb : Nat) (a0 a1 a2 why : Int) (Q : World → Prop) (hc : Calls Tryz.prog 225 #[pt rb, .int .i64 1] w fun e w' => e = .returned (.tuple #[.agg #[.int .i64 a0, .int .i64 a1, .int .i64 a2], .int .i64 why]) ∧ ∀ w2, Kp w' w2 (fun _ => False) → Q w2) :
  Calls Tryz.prog 224 #[pt rb] w fun e w' => e = .returned (.tuple #[.bool (a0 != 0), .int .i64 why]) ∧ Q w' := by
 have HC := hide hc
 clear hc
 go_enter Tryz.func224, Tryz.ntmps224
 go_wp2_with fail
 refine HC.out.mono ?_
 rintro e w1 ⟨rfl, hq⟩
 have HQ := hide hq
 clear hq
 go_wp2
 go_ret2
 exact ⟨rfl, HQ.out _ ((Kp.refl _ _).alloc _)⟩
theorem boundsM (w : World) (rb : Nat) (a0 a1 a2 why : Int) (Q : World → Prop) (hc : Calls Tryz.prog 225 #[pt rb, .int .i64 2] w fun e w' => e = .returned (.tuple #[.agg #[.int .i64 a0, .int .i64 a1, .int .i64 a2], .int .i64 why]) ∧ ∀ w2, Kp w' w2 (fun _ => False) → Q w2) :
  Calls Tryz.prog 211 #[pt rb] w fun e w' => e = .returned (.tuple #[.int .i64 a0, .int .i64 a1, .int .i64 why]) ∧ Q w' := by
 have HC := hide hc
 clear hc
 go_enter Tryz.func211, Tryz.ntmps211
 go_wp2_with fail
 refine HC.out.mono ?_
 rintro e w1 ⟨rfl, hq⟩
 have HQ := hide hq
 clear hq
 go_wp2
 go_quiet (fail)
 go_wp2
 refine bodyPost_ret (results_tmp3 rfl _ _ _) rfl ?_
 exact ⟨rfl, HQ.out _ (((Kp.refl _ _).alloc _).drewN nq)⟩
theorem PPost.after {w' w2 : World} {s' : St} (h : PPost B W xb rb mb w m D s' w') (hk : Kp w' w2 (fun _ => False)) : PPost B W xb rb mb w m D s' w2 := by
 obtain ⟨m', D', h1, h2⟩ := h
 obtain ⟨h3, h4⟩ := h1.kp hk
 exact ⟨m', D', h3, h2.trans h4⟩
theorem askP (h : PR B W w xb rb mb m D s) (he : s.e = 0) :
  Calls Tryz.prog 224 #[pt rb] w fun e w' => e = .returned (.tuple #[.bool s.test.2, .int .i64 s.test.1.e]) ∧ PPost B W xb rb mb w m D s.test.1 w' := by
 obtain ⟨ns, hi, hns⟩ := h.inv
 have hns := hns he
 subst hns
 have hg := h.good.test he
 by_cases hf : m.st < 2000
 ·have hst : s.steps < 2000 := by rw [← h.st he]; exact hf
  have hs := St.step_ok hst
  have hse : s.step.e = 0 := by rw [hs]; exact he
  cases hrs : s.rs with
  | nil =>
   have HT : s.test = (s.step.err 6, false) := by unfold St.test; rw [if_pos hse, show s.step.rs = [] by rw [hs]; exact hrs]
   rw [HT] at hg ⊢
   refine askM w rb 0 0 0 6 _ ((stTk_under w xb rb m _ 1 hi h.st0 hf (by rw [hrs]; decide) (by decide)).mono ?_)
   rintro e w' ⟨rfl, hi', ht'⟩
   refine ⟨rfl, fun w2 hk => PPost.after ⟨_, D, h.turn ht' rfl ⟨_, hi', (fun h => by cases h)⟩ (by rw [hs]; exact h.mem) (by rw [hs]; exact h.out) (by have := h.st0; show 0 ≤ m.st + 1; omega) (by show m.st + 1 ≤ 2000; omega) (fun h => by cases h) (by rw [hs]; exact h.dp) (by rw [hs]; rfl) hg⟩ hk⟩
  | cons a r =>
   have HT : s.test = ({ s.step with rs := r }, decide (a ≠ 0)) := by unfold St.test; rw [if_pos hse, show s.step.rs = a :: r by rw [hs]; exact hrs]
   rw [HT] at hg ⊢
   rw [hrs] at hi
   rw [show decide (a ≠ 0) = (a != 0) by cases hz : (a != 0) <;> simpa using hz, show ({ s.step with rs := r } : St).e = 0 from hse]
   refine askM w rb a 0 0 0 _ ((stTk1 w xb rb m a r hi h.st0 hf).mono ?_)
   rintro e w' ⟨v', rfl, hi', ht'⟩
   refine ⟨rfl, fun w2 hk => PPost.after ⟨_, D, h.turn ht' rfl ⟨_, hi', fun _ => rfl⟩ (by rw [hs]; exact h.mem) (by rw [hs]; exact h.out) (by have := h.st0; show 0 ≤ m.st + 1; omega) (by show m.st + 1 ≤ 2000; omega) (fun _ => by rw [hs]; show m.st + 1 = s.steps + 1; rw [h.st he]) (by rw [hs]; exact h.dp) (by rw [hs]) hg⟩ hk⟩
 ·obtain ⟨h1, h2⟩ := h.fuel he hf
  have HT : s.test = (s.step, false) := by unfold St.test; rw [if_neg (by rw [h2]; decide)]
  rw [HT] at ⊢
  rw [h2]
  refine askM w rb 0 0 0 12 _ ((stTk_no w xb rb m _ 1 hi hf).mono ?_)
  rintro e w' ⟨rfl, hk'⟩
  exact ⟨rfl, fun w2 hk => PPost.after ⟨m, D, (h1.kp hk').1, (h1.kp hk').2⟩ hk⟩
end
end
section
open Go.RowKit
structure FrR (B : Nat) (w : World) (fb rb : Nat) (m : MS) (D : Nat → Prop) (lv : Value) (why : Int) (lp : List Int) : Prop where
 blk : Blk w fb 197 #[pt rb, lv, .int .i64 why]
 row : w.ownsRow 0 2 1 lv lp.length (ints lp.reverse)
 ins : ∀ n ∈ lp, In n
 sep : ∀ k, own lv k → ¬ own m.sv k
 nd : ¬ D fb
 nl : ∀ k, own lv k → ¬ D k
 bf : B ≤ fb
 bl : ∀ k, own lv k → B ≤ k
structure FT (xb rb mb fb : Nat) (w w' : World) (m m' : MS) (D D' : Nat → Prop) (lv lv' : Value) : Prop where
 wt : To (fun k => ((k = xb ∨ k = rb) ∨ k = mb) ∨ k = fb) w w' (fun k => (own m.sv k ∨ own m.ov k) ∨ own lv k) (fun k => (own m'.sv k ∨ own m'.ov k) ∨ own lv' k)
 up : ∀ k, D k → D' k
 nw : ∀ k, D' k → D k ∨ w.heap.size ≤ k
 bk : m'.bk = m.bk
 lve : lv' = lv
theorem FT.refl (xb rb mb fb : Nat) (w : World) (m : MS) (D : Nat → Prop) (lv : Value) : FT xb rb mb fb w w m m D D lv lv := ⟨To.refl _ _ _, fun _ h => h, fun _ h => .inl h, rfl, rfl⟩
theorem FT.trans {xb rb mb fb : Nat} {w w1 w2 : World} {m m1 m2 : MS} {D D1 D2 : Nat → Prop} {lv lv1 lv2 : Value} (h : FT xb rb mb fb w w1 m m1 D D1 lv lv1) (g : FT xb rb mb fb w1 w2 m1 m2 D1 D2 lv1 lv2) : FT xb rb mb fb w w2 m m2 D D2 lv lv2 := by
 refine ⟨h.wt.trans g.wt, fun k hk => g.up k (h.up k hk), fun k hk => ?_, g.bk.trans h.bk, g.lve.trans h.lve⟩
 rcases g.nw k hk with h1 | h1
 ·exact h.nw k h1
 ·exact .inr (Nat.le_trans h.wt.kp.size h1)
section
variable {B : Nat} {W w w' : World} {xb rb mb fb : Nat} {m m' : MS} {D D' : Nat → Prop} {s : St} {lv : Value} {why : Int} {lp : List Int}
theorem PR.other {S : Nat → Prop} (h : PR B W w xb rb mb m D s) (hk : Kp w w' S) (h1 : ¬ S xb) (h2 : ¬ S rb) (h3 : ¬ S mb) (h4 : ¬ S m.bk) (h5 : ∀ k, own m.sv k → ¬ S k) (h6 : ∀ k, own m.ov k → ¬ S k) (h7 : ∀ k, D k → ¬ S k) (h8 : ∀ k, k < B → ¬ S k) : PR B W w' xb rb mb m D s := by
 obtain ⟨ns, hi, hn⟩ := h.inv
 have hs := h.safe
 refine ⟨⟨ns, ⟨hk.blk hi.xblk h1, hk.blk hi.rblk h2, hk.row hi.srow h5, hk.row hi.orow h6, hi.len⟩, hn⟩, h.mem, h.out, h.st0, h.st1, h.st, h.dp, ⟨hs.bel.trans (hk.below hs.bs h8), hs.bx, hs.br, hs.bv, Nat.le_trans hs.bs hk.size⟩, h.bmb, hk.blk h.book h4, h.words.keep (BD_keep hk (fun b _ hb => ⟨hb, h7 b hb⟩)) (hk.block mb h.words.ltm h3), fun k hd => ?_, h.good⟩
 obtain ⟨e0, e1⟩ := h.sep k hd
 exact ⟨Nat.lt_of_lt_of_le e0 hk.size, e1⟩
theorem FrR.ne (h : PR B W w xb rb mb m D s) (hf : FrR B w fb rb m D lv why lp) : fb ≠ xb ∧ fb ≠ rb ∧ fb ≠ mb ∧ fb ≠ m.bk ∧ ¬ own m.sv fb ∧ ¬ own m.ov fb ∧ ¬ own lv fb := by
 obtain ⟨ns, hi, _⟩ := h.inv
 refine ⟨?_, ?_, (h.words.ne hf.blk).symm, ?_, fun e => ?_, fun e => ?_, fun e => ?_⟩
 ·rintro rfl; exact absurd (hf.blk.inj hi.xblk).1 (by decide)
 ·rintro rfl; exact absurd (hf.blk.inj hi.rblk).1 (by decide)
 ·rintro rfl; exact absurd (hf.blk.inj h.book).1 (by decide)
 ·exact absurd (row_type hi.srow e hf.blk) (by decide)
 ·exact absurd (row_type hi.orow e hf.blk) (by decide)
 ·exact absurd (row_type hf.row e hf.blk) (by decide)
theorem FrR.lvn (h : PR B W w xb rb mb m D s) (hf : FrR B w fb rb m D lv why lp) {k : Nat} (hk : own lv k) : k ≠ xb ∧ k ≠ rb ∧ k ≠ mb ∧ k ≠ m.bk ∧ ¬ own m.sv k ∧ ¬ own m.ov k := by
 obtain ⟨ns, hi, _⟩ := h.inv
 obtain ⟨c, hc⟩ := row_blk hf.row hk
 refine ⟨?_, ?_, (h.words.ne hc).symm, ?_, hf.sep k hk, fun e => ?_⟩
 ·rintro rfl; exact absurd (hc.inj hi.xblk).1 (by decide)
 ·rintro rfl; exact absurd (hc.inj hi.rblk).1 (by decide)
 ·rintro rfl; exact absurd (hc.inj h.book).1 (by decide)
 ·exact absurd (row_type hi.orow e hc) (by decide)
theorem FrR.sto (h : PR B W w xb rb mb m D s) (hf : FrR B w fb rb m D lv why lp) (ht : PTo xb rb mb w w' m m' D D') : FrR B w' fb rb m' D' lv why lp ∧ FT xb rb mb fb w w' m m' D D' lv lv := by
 obtain ⟨n1, n2, n3, n4, n5, n6, n7⟩ := hf.ne h
 refine ⟨⟨ht.wt.kp.blk hf.blk ?_, ht.wt.kp.row hf.row (fun k hk => ?_), hf.ins, fun k hk hv => ?_, fun hd => ?_, fun k hk hd => ?_, hf.bf, hf.bl⟩, ⟨⟨ht.wt.kp.mono (fun k _ hk => ?_), fun k hk => ?_⟩, ht.up, ht.nw, ht.bk, rfl⟩⟩
 ·rintro (((e | e) | e) | (e | e))
  ·exact n1 e
  ·exact n2 e
  ·exact n3 e
  ·exact n5 e
  ·exact n6 e
 ·obtain ⟨l1, l2, l3, l4, l5, l6⟩ := hf.lvn h hk
  rintro (((e | e) | e) | (e | e))
  ·exact l1 e
  ·exact l2 e
  ·exact l3 e
  ·exact l5 e
  ·exact l6 e
 ·obtain ⟨l1, l2, l3, l4, l5, l6⟩ := hf.lvn h hk
  have := own_lt hf.row hk
  rcases ht.wt.nx k (.inl hv) with (e | e) | e
  ·exact l5 e
  ·exact l6 e
  ·omega
 ·rcases ht.nw _ hd with e | e
  ·exact hf.nd e
  ·have := hf.blk.lt; omega
 ·rcases ht.nw _ hd with e | e
  ·exact hf.nl k hk e
  ·have := own_lt hf.row hk; omega
 ·rcases hk with e | e
  ·exact .inl (.inl e)
  ·exact .inr (.inl e)
 ·rcases hk with e | e
  ·rcases ht.wt.nx k e with h1 | h1
   ·exact .inl (.inl h1)
   ·exact .inr h1
  ·exact .inl (.inr e)
theorem FrR.setWhy (h : PR B W w xb rb mb m D s) (hf : FrR B w fb rb m D lv why lp) (n : Int) : PR B W (w.setCell ⟨fb, 2, none⟩ (.int .i64 n)) xb rb mb m D s ∧ FrR B (w.setCell ⟨fb, 2, none⟩ (.int .i64 n)) fb rb m D lv n lp ∧ FT xb rb mb fb w (w.setCell ⟨fb, 2, none⟩ (.int .i64 n)) m m D D lv lv := by
 obtain ⟨n1, n2, n3, n4, n5, n6, n7⟩ := hf.ne h
 have hk := Kp.one w fb 2 (.int .i64 n)
 refine ⟨h.other hk n1.symm n2.symm n3.symm n4.symm (fun k hk e => n5 (e ▸ hk)) (fun k hk e => n6 (e ▸ hk)) (fun k hk e => hf.nd (e ▸ hk)) (fun k hk e => by have := hf.bf; omega), ⟨hf.blk.set 2 _, ownsRow_setCell_other (a := ⟨fb, 2, none⟩) hf.row n7 _, hf.ins, hf.sep, hf.nd, hf.nl, hf.bf, hf.bl⟩, ⟨⟨hk.mono (fun k _ e => .inl (.inr e)), fun k hk => .inl hk⟩, fun _ h => h, fun _ h => .inl h, rfl, rfl⟩⟩
end
def sig (b : Bool) : Int := if b = true then 1 else 0
def sgl (l : Bool) (e : Int) : Int := sig (l || decide (e ≠ 0))
theorem sgl_no : sgl false 0 = 0 := rfl
theorem sgl_yes {l : Bool} {e : Int} (h : l = true ∨ e ≠ 0) : sgl l e = 1 := by
 unfold sgl
 rcases h with h | h
 ·rw [h]; rfl
 ·rw [decide_eq_true h]; simp [sig]
theorem sgl_dec (e : Int) : sgl (decide (e ≠ 0)) e = sgl false e := by unfold sgl; cases decide (e ≠ 0) <;> rfl
theorem heedM (w : World) (fb : Nat) (why : Int) (rv lv : Value) (y : Int) (hf : Blk w fb 197 #[rv, lv, .int .i64 y]) :
  Calls Tryz.prog 205 #[pt fb, .int .i64 why] w fun e w' => e = .returned (.int .i64 (sgl false why)) ∧ w' = w.setCell ⟨fb, 2, none⟩ (.int .i64 why) := by
 have c2 : w.cell? ⟨fb, 2, none⟩ = some (.int .i64 y) := hf.cell rfl
 have f2 := hf.free 2
 by_cases h0 : why = 0
 ·subst h0
  go_enter Tryz.func205, Tryz.ntmps205
  go_wp2
  go_ret
  exact ⟨rfl, rfl⟩
 ·have h1 : (why != 0) = true := by simpa using h0
  have H0 := hide h0
  clear h0
  go_enter Tryz.func205, Tryz.ntmps205
  go_wp2
  go_ret
  exact ⟨by rw [sgl_yes (.inr H0.out)]; rfl, rfl⟩
end
end Go.Proofs.YtldifaahmpecfaaGreatDoor
