import Derived.Test.YtimfpnoeifhjeaaGreatDoorM4
import Derived.Deep.RegionWith
namespace Go.Proofs.YtimfpnoeifhjeaaGreatDoor
open Go.RowKit

set_option maxRecDepth 1000000 in
set_option maxHeartbeats 800000 in
theorem dv_quo (w : World) (xb rb fb : Nat) (m : MS) (b a : Int) (r : List Int) (h : MInv w xb rb m (b :: a :: r).reverse) (hf : Blk w fb 134 #[.func (.func 76) #[] #[]]) (hb : ¬ b = 0) :
    Calls Tryz.prog 98 #[.pointer (some ⟨rb, 0, none⟩), .pointer (some ⟨fb, 0, none⟩)] w fun e w' => e = .returned (.int .i64 0) ∧ MPost w w' xb rb m ⟨0, fdiv a b :: r, m.mem, m.out⟩ := by
  have hl := h.len
  simp only [List.length_reverse, List.length_cons] at hl
  go_enter Tryz.func98, Tryz.ntmps98
  go_wp2_with fail
  refine (takeM2 _ _ _ _ _ _ _ h).mono ?_
  rintro e w1 ⟨v', rfl, hi1, ht1⟩
  have hf1 := ht1.blk hf (by rintro (h1 | h1); exact absurd (hf.inj (h1 ▸ h.xblk)).1 (by decide); exact absurd (hf.inj (h1 ▸ h.rblk)).1 (by decide)) (by rintro (h1 | h1); exact own_ne h.srow hf (by decide) h1; exact own_ne h.orow hf (by decide) h1)
  have c1 : w1.cell? ⟨fb, 0, none⟩ = some (.func (.func 76) #[] #[]) := hf1.cell rfl
  have hfl := hf1.lt
  go_wp2_with fail
  refine (quotM _ _ _ hb).mono ?_
  rintro e w' ⟨rfl, hw⟩
  rw [hw]; clear hw
  go_wp2_with fail
  refine (putM1 _ _ _ _ r (fdiv a b) _ _ ((hi1.alloc _).alloc _) (by omega) (by simp)).mono ?_
  rintro e w2 ⟨rfl, v2, hi2, ht2⟩
  go_wp2
  go_ret
  exact ⟨rfl, _, _, hi2, ht1.trans ((MTo.kp (((Kp.refl _ _).alloc _).alloc _)).trans ht2), rfl, rfl, rfl, fun _ => rfl⟩

set_option maxRecDepth 1000000 in
set_option maxHeartbeats 800000 in
theorem dv_mod (w : World) (xb rb fb : Nat) (m : MS) (b a : Int) (r : List Int) (h : MInv w xb rb m (b :: a :: r).reverse) (hf : Blk w fb 134 #[.func (.func 77) #[] #[]]) (hb : ¬ b = 0) :
    Calls Tryz.prog 98 #[.pointer (some ⟨rb, 0, none⟩), .pointer (some ⟨fb, 0, none⟩)] w fun e w' => e = .returned (.int .i64 0) ∧ MPost w w' xb rb m ⟨0, wrap64 (a - wrap64 (b * fdiv a b)) :: r, m.mem, m.out⟩ := by
  have hl := h.len
  simp only [List.length_reverse, List.length_cons] at hl
  go_enter Tryz.func98, Tryz.ntmps98
  go_wp2_with fail
  refine (takeM2 _ _ _ _ _ _ _ h).mono ?_
  rintro e w1 ⟨v', rfl, hi1, ht1⟩
  have hf1 := ht1.blk hf (by rintro (h1 | h1); exact absurd (hf.inj (h1 ▸ h.xblk)).1 (by decide); exact absurd (hf.inj (h1 ▸ h.rblk)).1 (by decide)) (by rintro (h1 | h1); exact own_ne h.srow hf (by decide) h1; exact own_ne h.orow hf (by decide) h1)
  have c1 : w1.cell? ⟨fb, 0, none⟩ = some (.func (.func 77) #[] #[]) := hf1.cell rfl
  have hfl := hf1.lt
  go_wp2_with fail
  refine (remM _ _ _ hb).mono ?_
  rintro e w' ⟨rfl, hw⟩
  rw [hw]; clear hw
  go_wp2_with fail
  refine (putM1 _ _ _ _ r (wrap64 (a - wrap64 (b * fdiv a b))) _ _ ((hi1.alloc _).alloc _) (by omega) (by simp)).mono ?_
  rintro e w2 ⟨rfl, v2, hi2, ht2⟩
  go_wp2
  go_ret
  exact ⟨rfl, _, _, hi2, ht1.trans ((MTo.kp (((Kp.refl _ _).alloc _).alloc _)).trans ht2), rfl, rfl, rfl, fun _ => rfl⟩

set_option maxRecDepth 1000000 in
set_option maxHeartbeats 800000 in
theorem dv_zero (w : World) (xb rb fb : Nat) (m : MS) (a : Int) (r : List Int) (h : MInv w xb rb m (0 :: a :: r).reverse) :
    Calls Tryz.prog 98 #[.pointer (some ⟨rb, 0, none⟩), .pointer (some ⟨fb, 0, none⟩)] w fun e w' => e = .returned (.int .i64 9) ∧ MPost w w' xb rb m ⟨9, [], m.mem, m.out⟩ := by
  go_enter Tryz.func98, Tryz.ntmps98
  go_wp2_with fail
  refine (takeM2 _ _ _ _ _ _ _ h).mono ?_
  rintro e w1 ⟨v', rfl, hi1, ht1⟩
  go_wp2
  go_ret
  exact ⟨rfl, MPost.err (ht1.trans (MTo.kp ((Kp.refl _ _).alloc _))) (hi1.alloc _) rfl rfl rfl (by decide)⟩

set_option maxRecDepth 1000000 in
set_option maxHeartbeats 800000 in
theorem ly_ok (w : World) (xb rb nb : Nat) (m : MS) (n : Int) (r : List Int) (h : MInv w xb rb m r.reverse) (hn : w.cell? ⟨nb, 0, none⟩ = some (.int .i64 n)) (hl : r.length < 32) :
    Calls Tryz.prog 68 #[.pointer (some ⟨rb, 0, none⟩), .pointer (some ⟨nb, 0, none⟩)] w fun e w' => e = .returned (.int .i64 0) ∧ MPost w w' xb rb m ⟨0, n :: r, m.mem, m.out⟩ := by
  go_enter Tryz.func68, Tryz.ntmps68
  go_wp2_with fail
  refine (putM1 _ _ _ _ r n _ _ (h.alloc _) hl (by simp)).mono ?_
  rintro e w2 ⟨rfl, v2, hi2, ht2⟩
  go_wp2
  go_ret
  exact ⟨rfl, _, _, hi2, (MTo.kp ((Kp.refl _ _).alloc _)).trans ht2, rfl, rfl, rfl, fun _ => rfl⟩

set_option maxRecDepth 1000000 in
set_option maxHeartbeats 800000 in
theorem ly_full (w : World) (xb rb nb : Nat) (m : MS) (n : Int) (r : List Int) (h : MInv w xb rb m r.reverse) (hn : w.cell? ⟨nb, 0, none⟩ = some (.int .i64 n)) (hl : ¬ r.length < 32) :
    Calls Tryz.prog 68 #[.pointer (some ⟨rb, 0, none⟩), .pointer (some ⟨nb, 0, none⟩)] w fun e w' => e = .returned (.int .i64 7) ∧ MPost w w' xb rb m ⟨7, [], m.mem, m.out⟩ := by
  go_enter Tryz.func68, Tryz.ntmps68
  go_wp2_with fail
  refine (putM_full _ _ _ _ _ _ _ _ (h.alloc _) (by omega) (by simp; omega)).mono ?_
  rintro e w' ⟨rfl, hw⟩
  rw [hw]; clear hw
  go_wp2
  go_ret
  exact ⟨rfl, MPost.err (MTo.kp ((Kp.refl _ _).alloc _)) (h.alloc _) rfl rfl rfl (by decide)⟩

set_option maxRecDepth 1000000 in
set_option maxHeartbeats 800000 in
theorem fe_ok (w : World) (xb rb : Nat) (m : MS) (a : Int) (r : List Int) (h : MInv w xb rb m (a :: r).reverse) (h0 : 0 ≤ a) (h1 : a < 16) :
    Calls Tryz.prog 85 #[.pointer (some ⟨rb, 0, none⟩)] w fun e w' => e = .returned (.int .i64 0) ∧ MPost w w' xb rb m ⟨0, m.mem a.toNat :: r, m.mem, m.out⟩ := by
  have hl := h.len
  simp only [List.length_reverse, List.length_cons] at hl
  have hd : decide (0 ≤ a ∧ a < 16) = true := decide_eq_true ⟨h0, h1⟩
  go_enter Tryz.func85, Tryz.ntmps85
  go_wp2_with fail
  refine (takeM1 _ _ _ _ _ _ h).mono ?_
  rintro e w1 ⟨v', rfl, hi1, ht1⟩
  have c0 : w1.cell? ⟨rb, 0, none⟩ = some (.pointer (some ⟨xb, 0, none⟩)) := hi1.rblk.cell rfl
  have c1 : w1.cell? ⟨xb, 1 + a.toNat, none⟩ = some (.int .i64 (m.mem a.toNat)) := hi1.xblk.cell (marr_at _ _ _ (by omega))
  have l1 := hi1.rblk.lt
  have l2 := hi1.xblk.lt
  go_wp2_with fail
  refine (isCellM _ _).mono ?_
  rintro e w' ⟨rfl, hw⟩
  rw [hw, hd]; clear hw
  go_wp2_with fail
  go_region_with (go_at_call 69; refine (putM1 _ xb _ { m with sv := v' } r (m.mem a.toNat) _ _ (by exact ((hi1.alloc _).alloc _).drew) (by omega) (by simp)).mono ?_; rintro e w2 ⟨rfl, v2, hi2, ht2⟩)
  all_goals go_wp2
  all_goals go_ret
  all_goals exact ⟨rfl, _, _, hi2, ht1.trans ((MTo.kp ((((Kp.refl _ _).alloc _).alloc _).drew)).trans ht2), rfl, rfl, rfl, fun _ => rfl⟩

set_option maxRecDepth 1000000 in
set_option maxHeartbeats 800000 in
theorem fe_no (w : World) (xb rb : Nat) (m : MS) (a : Int) (r : List Int) (h : MInv w xb rb m (a :: r).reverse) (h0 : ¬ (0 ≤ a ∧ a < 16)) :
    Calls Tryz.prog 85 #[.pointer (some ⟨rb, 0, none⟩)] w fun e w' => e = .returned (.int .i64 10) ∧ MPost w w' xb rb m ⟨10, [], m.mem, m.out⟩ := by
  have hd : decide (0 ≤ a ∧ a < 16) = false := decide_eq_false h0
  clear h0
  go_enter Tryz.func85, Tryz.ntmps85
  go_wp2_with fail
  refine (takeM1 _ _ _ _ _ _ h).mono ?_
  rintro e w1 ⟨v', rfl, hi1, ht1⟩
  go_wp2_with fail
  refine (isCellM _ _).mono ?_
  rintro e w' ⟨rfl, hw⟩
  rw [hw, hd]; clear hw
  go_wp2
  go_ret
  exact ⟨rfl, MPost.err (ht1.trans (MTo.kp ((Kp.refl _ _).alloc _))) (hi1.alloc _) rfl rfl rfl (by decide)⟩

set_option maxRecDepth 1000000 in
set_option maxHeartbeats 800000 in
theorem MInv.setMem {w : World} {xb rb : Nat} {m : MS} {ns : List Int} (h : MInv w xb rb m ns) (i : Nat) (hi : i < 16) (v : Int) :
    MInv (w.setCell ⟨xb, 1 + i, none⟩ (.int .i64 v)) xb rb { m with mem := fun j => if j = i then v else m.mem j } ns ∧ MTo xb rb w (w.setCell ⟨xb, 1 + i, none⟩ (.int .i64 v)) m { m with mem := fun j => if j = i then v else m.mem j } :=
  ⟨⟨by have := h.xblk.set (1 + i) (.int .i64 v); rw [marr_upd _ _ i v hi] at this; exact this, h.rblk.setOther h.ne.symm _, ownsRow_setCell_other h.srow (own_ne h.srow h.xblk (by decide)) _, ownsRow_setCell_other h.orow (own_ne h.orow h.xblk (by decide)) _, h.len⟩,
   ⟨(Kp.refl _ _).set (fun _ => .inl (.inl rfl)) _, fun _ hk => .inl hk⟩⟩

set_option maxRecDepth 1000000 in
set_option maxHeartbeats 800000 in
theorem st_ok (w : World) (xb rb : Nat) (m : MS) (b a : Int) (r : List Int) (h : MInv w xb rb m (b :: a :: r).reverse) (h0 : 0 ≤ b) (h1 : b < 16) :
    Calls Tryz.prog 86 #[.pointer (some ⟨rb, 0, none⟩)] w fun e w' => e = .returned (.int .i64 0) ∧ MPost w w' xb rb m ⟨0, r, fun j => if j = b.toNat then a else m.mem j, m.out⟩ := by
  have hd : decide (0 ≤ b ∧ b < 16) = true := decide_eq_true ⟨h0, h1⟩
  go_enter Tryz.func86, Tryz.ntmps86
  go_wp2_with fail
  refine (takeM2 _ _ _ _ _ _ _ h).mono ?_
  rintro e w1 ⟨v', rfl, hi1, ht1⟩
  have c0 : w1.cell? ⟨rb, 0, none⟩ = some (.pointer (some ⟨xb, 0, none⟩)) := hi1.rblk.cell rfl
  have c1 : w1.cell? ⟨xb, 1 + b.toNat, none⟩ = some (.int .i64 (m.mem b.toNat)) := hi1.xblk.cell (marr_at _ _ _ (by omega))
  have f1 := hi1.xblk.free (1 + b.toNat)
  have l1 := hi1.rblk.lt
  have l2 := hi1.xblk.lt
  have HM := hi1.setMem b.toNat (by omega) a
  go_wp2_with fail
  refine (isCellM _ _).mono ?_
  rintro e w' ⟨rfl, hw⟩
  rw [hw, hd]; clear hw
  go_wp2
  go_region
  all_goals go_wp2
  all_goals go_ret
  all_goals exact ⟨rfl, _, _, (HM.1.alloc _).drew, ht1.trans (HM.2.trans (MTo.kp (((Kp.refl _ _).alloc _).drew))), rfl, rfl, rfl, fun _ => rfl⟩

set_option maxRecDepth 1000000 in
set_option maxHeartbeats 800000 in
theorem st_no (w : World) (xb rb : Nat) (m : MS) (b a : Int) (r : List Int) (h : MInv w xb rb m (b :: a :: r).reverse) (h0 : ¬ (0 ≤ b ∧ b < 16)) :
    Calls Tryz.prog 86 #[.pointer (some ⟨rb, 0, none⟩)] w fun e w' => e = .returned (.int .i64 10) ∧ MPost w w' xb rb m ⟨10, [], m.mem, m.out⟩ := by
  have hd : decide (0 ≤ b ∧ b < 16) = false := decide_eq_false h0
  clear h0
  go_enter Tryz.func86, Tryz.ntmps86
  go_wp2_with fail
  refine (takeM2 _ _ _ _ _ _ _ h).mono ?_
  rintro e w1 ⟨v', rfl, hi1, ht1⟩
  go_wp2_with fail
  refine (isCellM _ _).mono ?_
  rintro e w' ⟨rfl, hw⟩
  rw [hw, hd]; clear hw
  go_wp2
  go_ret
  exact ⟨rfl, MPost.err (ht1.trans (MTo.kp ((Kp.refl _ _).alloc _))) (hi1.alloc _) rfl rfl rfl (by decide)⟩

end Go.Proofs.YtimfpnoeifhjeaaGreatDoor
