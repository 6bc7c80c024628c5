import Derived.Test.YtimfpnoeifhjeaaGreatDoorM2
import Derived.Test.YtimfpnoeifhjeaaGreatDoorM3
namespace Go.Proofs.YtimfpnoeifhjeaaGreatDoor
open Go.RowKit

/-- What a step of the program comes to. -/
def MPost (w w' : World) (xb rb : Nat) (m : MS) (R : Res) : Prop :=
  ∃ m' ns, MInv w' xb rb m' ns ∧ MTo xb rb w w' m m' ∧ m'.mem = R.mem ∧ m'.out = R.out ∧ m'.st = m.st ∧ (R.e = 0 → ns = R.rs.reverse)

theorem MPost.ofT {w w1 w2 : World} {xb rb : Nat} {m m1 : MS} {R : Res} (ht : MTo xb rb w w1 m m1) (hs : m1.st = m.st) (h : MPost w1 w2 xb rb m1 R) : MPost w w2 xb rb m R := by
  obtain ⟨m', ns, h1, h2, h4, h5, h6, h7⟩ := h
  exact ⟨m', ns, h1, ht.trans h2, h4, h5, h6.trans hs, h7⟩
theorem MPost.err {w w1 : World} {xb rb : Nat} {m m1 : MS} {ns : List Int} (ht : MTo xb rb w w1 m m1) (hi : MInv w1 xb rb m1 ns) (hs : m1.st = m.st) (hm : m1.mem = m.mem) (ho : m1.out = m.out) {e : Int} (he : e ≠ 0) : MPost w w1 xb rb m ⟨e, [], m.mem, m.out⟩ :=
  ⟨m1, ns, hi, ht, hm, ho, hs, fun h => absurd h he⟩

theorem takeM1 (w : World) (xb rb : Nat) (m : MS) (a : Int) (r : List Int) (h : MInv w xb rb m (a :: r).reverse) :
    Calls Tryz.prog 97 #[.pointer (some ⟨rb, 0, none⟩), .int .i64 1] w fun e w' => ∃ v', e = .returned (.tuple #[.agg #[.int .i64 a, .int .i64 0, .int .i64 0], .int .i64 0]) ∧ MInv w' xb rb { m with sv := v' } r.reverse ∧ MTo xb rb w w' m { m with sv := v' } :=
  takeM w xb rb m r.reverse [a] (by simpa using h) (by simp) (by simp)
theorem takeM2 (w : World) (xb rb : Nat) (m : MS) (b a : Int) (r : List Int) (h : MInv w xb rb m (b :: a :: r).reverse) :
    Calls Tryz.prog 97 #[.pointer (some ⟨rb, 0, none⟩), .int .i64 2] w fun e w' => ∃ v', e = .returned (.tuple #[.agg #[.int .i64 a, .int .i64 b, .int .i64 0], .int .i64 0]) ∧ MInv w' xb rb { m with sv := v' } r.reverse ∧ MTo xb rb w w' m { m with sv := v' } :=
  takeM w xb rb m r.reverse [a, b] (by simpa using h) (by simp) (by simp)
theorem takeM3 (w : World) (xb rb : Nat) (m : MS) (c b a : Int) (r : List Int) (h : MInv w xb rb m (c :: b :: a :: r).reverse) :
    Calls Tryz.prog 97 #[.pointer (some ⟨rb, 0, none⟩), .int .i64 3] w fun e w' => ∃ v', e = .returned (.tuple #[.agg #[.int .i64 a, .int .i64 b, .int .i64 c], .int .i64 0]) ∧ MInv w' xb rb { m with sv := v' } r.reverse ∧ MTo xb rb w w' m { m with sv := v' } :=
  takeM w xb rb m r.reverse [a, b, c] (by simpa using h) (by simp) (by simp)

theorem addr_add2 (g j : Nat) : (⟨g, 0, none⟩ : Addr).add j = ⟨g, j, none⟩ := by unfold Addr.add; split <;> simp_all

/-- One number more. -/
theorem putM1 (w : World) (xb rb : Nat) (m : MS) (r : List Int) (n : Int) (g cap : Nat) (h : MInv w xb rb m r.reverse) (hl : r.length < 32) (hc : w.cell? ⟨g, 0, none⟩ = some (.int .i64 n)) :
    Calls Tryz.prog 69 #[.pointer (some ⟨rb, 0, none⟩), .slice (some ⟨g, 0, none⟩) 1 cap] w fun e w' => e = .returned (.int .i64 0) ∧ ∃ v', MInv w' xb rb { m with sv := v' } (n :: r).reverse ∧ MTo xb rb w w' m { m with sv := v' } := by
  refine (putM_ok w xb rb m r.reverse [n] g cap h (by simp; omega) ?_ (by simp)).mono ?_
  · intro j u hj
    match j, hj with
    | 0, hj => simp [ints] at hj; subst hj; rw [addr_add2]; exact hc
  · rintro e w' ⟨rfl, v', hi, ht⟩
    exact ⟨rfl, v', by rw [List.reverse_cons]; exact hi, ht⟩

set_option maxRecDepth 1000000 in
set_option maxHeartbeats 800000 in
theorem cp_add (w : World) (xb rb fb : Nat) (m : MS) (b a : Int) (r : List Int) (h : MInv w xb rb m (b :: a :: r).reverse) (hf : Blk w fb 134 #[.func (.func 72) #[] #[]]) :
    Calls Tryz.prog 96 #[.pointer (some ⟨rb, 0, none⟩), .pointer (some ⟨fb, 0, none⟩)] w fun e w' => e = .returned (.int .i64 0) ∧ MPost w w' xb rb m ⟨0, wrap64 (a + b) :: r, m.mem, m.out⟩ := by
  have hl := h.len
  simp only [List.length_reverse, List.length_cons] at hl
  go_enter Tryz.func96, Tryz.ntmps96
  go_wp2_with fail
  refine (takeM2 _ _ _ _ _ _ _ h).mono ?_
  rintro e w1 ⟨v', rfl, hi1, ht1⟩
  have hf1 := ht1.blk hf (by rintro (h1 | h1); exact absurd (hf.inj (h1 ▸ h.xblk)).1 (by decide); exact absurd (hf.inj (h1 ▸ h.rblk)).1 (by decide)) (by rintro (h1 | h1); exact own_ne h.srow hf (by decide) h1; exact own_ne h.orow hf (by decide) h1)
  have c1 : w1.cell? ⟨fb, 0, none⟩ = some (.func (.func 72) #[] #[]) := hf1.cell rfl
  have hfl := hf1.lt
  go_wp2_with fail
  refine (addM _ _ _).mono ?_
  rintro e w' ⟨rfl, hw⟩
  rw [hw]; clear hw
  go_wp2_with fail
  refine (putM1 _ _ _ _ r (wrap64 (a + b)) _ _ ((hi1.alloc _).alloc _) (by omega) (by simp)).mono ?_
  rintro e w2 ⟨rfl, v2, hi2, ht2⟩
  go_wp2
  go_ret
  exact ⟨rfl, _, _, hi2, ht1.trans ((MTo.kp (((Kp.refl _ _).alloc _).alloc _)).trans ht2), rfl, rfl, rfl, fun _ => rfl⟩

set_option maxRecDepth 1000000 in
set_option maxHeartbeats 800000 in
theorem cp_sub (w : World) (xb rb fb : Nat) (m : MS) (b a : Int) (r : List Int) (h : MInv w xb rb m (b :: a :: r).reverse) (hf : Blk w fb 134 #[.func (.func 73) #[] #[]]) :
    Calls Tryz.prog 96 #[.pointer (some ⟨rb, 0, none⟩), .pointer (some ⟨fb, 0, none⟩)] w fun e w' => e = .returned (.int .i64 0) ∧ MPost w w' xb rb m ⟨0, wrap64 (a - b) :: r, m.mem, m.out⟩ := by
  have hl := h.len
  simp only [List.length_reverse, List.length_cons] at hl
  go_enter Tryz.func96, Tryz.ntmps96
  go_wp2_with fail
  refine (takeM2 _ _ _ _ _ _ _ h).mono ?_
  rintro e w1 ⟨v', rfl, hi1, ht1⟩
  have hf1 := ht1.blk hf (by rintro (h1 | h1); exact absurd (hf.inj (h1 ▸ h.xblk)).1 (by decide); exact absurd (hf.inj (h1 ▸ h.rblk)).1 (by decide)) (by rintro (h1 | h1); exact own_ne h.srow hf (by decide) h1; exact own_ne h.orow hf (by decide) h1)
  have c1 : w1.cell? ⟨fb, 0, none⟩ = some (.func (.func 73) #[] #[]) := hf1.cell rfl
  have hfl := hf1.lt
  go_wp2_with fail
  refine (subM _ _ _).mono ?_
  rintro e w' ⟨rfl, hw⟩
  rw [hw]; clear hw
  go_wp2_with fail
  refine (putM1 _ _ _ _ r (wrap64 (a - b)) _ _ ((hi1.alloc _).alloc _) (by omega) (by simp)).mono ?_
  rintro e w2 ⟨rfl, v2, hi2, ht2⟩
  go_wp2
  go_ret
  exact ⟨rfl, _, _, hi2, ht1.trans ((MTo.kp (((Kp.refl _ _).alloc _).alloc _)).trans ht2), rfl, rfl, rfl, fun _ => rfl⟩

set_option maxRecDepth 1000000 in
set_option maxHeartbeats 800000 in
theorem cp_mul (w : World) (xb rb fb : Nat) (m : MS) (b a : Int) (r : List Int) (h : MInv w xb rb m (b :: a :: r).reverse) (hf : Blk w fb 134 #[.func (.func 74) #[] #[]]) :
    Calls Tryz.prog 96 #[.pointer (some ⟨rb, 0, none⟩), .pointer (some ⟨fb, 0, none⟩)] w fun e w' => e = .returned (.int .i64 0) ∧ MPost w w' xb rb m ⟨0, wrap64 (a * b) :: r, m.mem, m.out⟩ := by
  have hl := h.len
  simp only [List.length_reverse, List.length_cons] at hl
  go_enter Tryz.func96, Tryz.ntmps96
  go_wp2_with fail
  refine (takeM2 _ _ _ _ _ _ _ h).mono ?_
  rintro e w1 ⟨v', rfl, hi1, ht1⟩
  have hf1 := ht1.blk hf (by rintro (h1 | h1); exact absurd (hf.inj (h1 ▸ h.xblk)).1 (by decide); exact absurd (hf.inj (h1 ▸ h.rblk)).1 (by decide)) (by rintro (h1 | h1); exact own_ne h.srow hf (by decide) h1; exact own_ne h.orow hf (by decide) h1)
  have c1 : w1.cell? ⟨fb, 0, none⟩ = some (.func (.func 74) #[] #[]) := hf1.cell rfl
  have hfl := hf1.lt
  go_wp2_with fail
  refine (mulM _ _ _).mono ?_
  rintro e w' ⟨rfl, hw⟩
  rw [hw]; clear hw
  go_wp2_with fail
  refine (putM1 _ _ _ _ r (wrap64 (a * b)) _ _ ((hi1.alloc _).alloc _) (by omega) (by simp)).mono ?_
  rintro e w2 ⟨rfl, v2, hi2, ht2⟩
  go_wp2
  go_ret
  exact ⟨rfl, _, _, hi2, ht1.trans ((MTo.kp (((Kp.refl _ _).alloc _).alloc _)).trans ht2), rfl, rfl, rfl, fun _ => rfl⟩

set_option maxRecDepth 1000000 in
set_option maxHeartbeats 800000 in
theorem cp_eq (w : World) (xb rb fb : Nat) (m : MS) (b a : Int) (r : List Int) (h : MInv w xb rb m (b :: a :: r).reverse) (hf : Blk w fb 134 #[.func (.func 78) #[] #[]]) :
    Calls Tryz.prog 96 #[.pointer (some ⟨rb, 0, none⟩), .pointer (some ⟨fb, 0, none⟩)] w fun e w' => e = .returned (.int .i64 0) ∧ MPost w w' xb rb m ⟨0, sonum (a == b) :: r, m.mem, m.out⟩ := by
  have hl := h.len
  simp only [List.length_reverse, List.length_cons] at hl
  go_enter Tryz.func96, Tryz.ntmps96
  go_wp2_with fail
  refine (takeM2 _ _ _ _ _ _ _ h).mono ?_
  rintro e w1 ⟨v', rfl, hi1, ht1⟩
  have hf1 := ht1.blk hf (by rintro (h1 | h1); exact absurd (hf.inj (h1 ▸ h.xblk)).1 (by decide); exact absurd (hf.inj (h1 ▸ h.rblk)).1 (by decide)) (by rintro (h1 | h1); exact own_ne h.srow hf (by decide) h1; exact own_ne h.orow hf (by decide) h1)
  have c1 : w1.cell? ⟨fb, 0, none⟩ = some (.func (.func 78) #[] #[]) := hf1.cell rfl
  have hfl := hf1.lt
  go_wp2_with fail
  refine (eqM _ _ _).mono ?_
  rintro e w' ⟨rfl, hw⟩
  rw [hw]; clear hw
  go_wp2_with fail
  refine (putM1 _ _ _ _ r (sonum (a == b)) _ _ ((hi1.alloc _).alloc _) (by omega) (by simp)).mono ?_
  rintro e w2 ⟨rfl, v2, hi2, ht2⟩
  go_wp2
  go_ret
  exact ⟨rfl, _, _, hi2, ht1.trans ((MTo.kp (((Kp.refl _ _).alloc _).alloc _)).trans ht2), rfl, rfl, rfl, fun _ => rfl⟩

set_option maxRecDepth 1000000 in
set_option maxHeartbeats 800000 in
theorem cp_lt (w : World) (xb rb fb : Nat) (m : MS) (b a : Int) (r : List Int) (h : MInv w xb rb m (b :: a :: r).reverse) (hf : Blk w fb 134 #[.func (.func 80) #[] #[]]) :
    Calls Tryz.prog 96 #[.pointer (some ⟨rb, 0, none⟩), .pointer (some ⟨fb, 0, none⟩)] w fun e w' => e = .returned (.int .i64 0) ∧ MPost w w' xb rb m ⟨0, sonum (decide (a < b)) :: r, m.mem, m.out⟩ := by
  have hl := h.len
  simp only [List.length_reverse, List.length_cons] at hl
  go_enter Tryz.func96, Tryz.ntmps96
  go_wp2_with fail
  refine (takeM2 _ _ _ _ _ _ _ h).mono ?_
  rintro e w1 ⟨v', rfl, hi1, ht1⟩
  have hf1 := ht1.blk hf (by rintro (h1 | h1); exact absurd (hf.inj (h1 ▸ h.xblk)).1 (by decide); exact absurd (hf.inj (h1 ▸ h.rblk)).1 (by decide)) (by rintro (h1 | h1); exact own_ne h.srow hf (by decide) h1; exact own_ne h.orow hf (by decide) h1)
  have c1 : w1.cell? ⟨fb, 0, none⟩ = some (.func (.func 80) #[] #[]) := hf1.cell rfl
  have hfl := hf1.lt
  go_wp2_with fail
  refine (ltM _ _ _).mono ?_
  rintro e w' ⟨rfl, hw⟩
  rw [hw]; clear hw
  go_wp2_with fail
  refine (putM1 _ _ _ _ r (sonum (decide (a < b))) _ _ ((hi1.alloc _).alloc _) (by omega) (by simp)).mono ?_
  rintro e w2 ⟨rfl, v2, hi2, ht2⟩
  go_wp2
  go_ret
  exact ⟨rfl, _, _, hi2, ht1.trans ((MTo.kp (((Kp.refl _ _).alloc _).alloc _)).trans ht2), rfl, rfl, rfl, fun _ => rfl⟩

set_option maxRecDepth 1000000 in
set_option maxHeartbeats 800000 in
theorem un_96 (w : World) (xb rb fb : Nat) (m : MS) (ns : List Int) (h : MInv w xb rb m ns) (hl : ns.length < 2) :
    Calls Tryz.prog 96 #[.pointer (some ⟨rb, 0, none⟩), .pointer (some ⟨fb, 0, none⟩)] w fun e w' => e = .returned (.int .i64 6) ∧ MPost w w' xb rb m ⟨6, [], m.mem, m.out⟩ := by
  go_enter Tryz.func96, Tryz.ntmps96
  go_wp2_with fail
  refine (takeM_under _ _ _ _ _ _ h (by omega) (by omega)).mono ?_
  rintro e w1 ⟨rfl, hk⟩
  go_wp2
  go_ret
  exact ⟨rfl, MPost.err (MTo.kp (hk.alloc _)) (h.kp (hk.alloc _)) rfl rfl rfl (by decide)⟩

set_option maxRecDepth 1000000 in
set_option maxHeartbeats 800000 in
theorem un_98 (w : World) (xb rb fb : Nat) (m : MS) (ns : List Int) (h : MInv w xb rb m ns) (hl : ns.length < 2) :
    Calls Tryz.prog 98 #[.pointer (some ⟨rb, 0, none⟩), .pointer (some ⟨fb, 0, none⟩)] w fun e w' => e = .returned (.int .i64 6) ∧ MPost w w' xb rb m ⟨6, [], m.mem, m.out⟩ := by
  go_enter Tryz.func98, Tryz.ntmps98
  go_wp2_with fail
  refine (takeM_under _ _ _ _ _ _ h (by omega) (by omega)).mono ?_
  rintro e w1 ⟨rfl, hk⟩
  go_wp2
  go_ret
  exact ⟨rfl, MPost.err (MTo.kp (hk.alloc _)) (h.kp (hk.alloc _)) rfl rfl rfl (by decide)⟩

set_option maxRecDepth 1000000 in
set_option maxHeartbeats 800000 in
theorem un_100 (w : World) (xb rb fb : Nat) (m : MS) (ns : List Int) (h : MInv w xb rb m ns) (hl : ns.length < 1) :
    Calls Tryz.prog 100 #[.pointer (some ⟨rb, 0, none⟩), .pointer (some ⟨fb, 0, none⟩)] w fun e w' => e = .returned (.int .i64 6) ∧ MPost w w' xb rb m ⟨6, [], m.mem, m.out⟩ := by
  go_enter Tryz.func100, Tryz.ntmps100
  go_wp2_with fail
  refine (takeM_under _ _ _ _ _ _ h (by omega) (by omega)).mono ?_
  rintro e w1 ⟨rfl, hk⟩
  go_wp2
  go_ret
  exact ⟨rfl, MPost.err (MTo.kp (hk.alloc _)) (h.kp (hk.alloc _)) rfl rfl rfl (by decide)⟩

set_option maxRecDepth 1000000 in
set_option maxHeartbeats 800000 in
theorem un_85 (w : World) (xb rb : Nat) (m : MS) (ns : List Int) (h : MInv w xb rb m ns) (hl : ns.length < 1) :
    Calls Tryz.prog 85 #[.pointer (some ⟨rb, 0, none⟩)] w fun e w' => e = .returned (.int .i64 6) ∧ MPost w w' xb rb m ⟨6, [], m.mem, m.out⟩ := by
  go_enter Tryz.func85, Tryz.ntmps85
  go_wp2_with fail
  refine (takeM_under _ _ _ _ _ _ h (by omega) (by omega)).mono ?_
  rintro e w1 ⟨rfl, hk⟩
  go_wp2
  go_ret
  exact ⟨rfl, MPost.err (MTo.kp (hk.alloc _)) (h.kp (hk.alloc _)) rfl rfl rfl (by decide)⟩

set_option maxRecDepth 1000000 in
set_option maxHeartbeats 800000 in
theorem un_86 (w : World) (xb rb : Nat) (m : MS) (ns : List Int) (h : MInv w xb rb m ns) (hl : ns.length < 2) :
    Calls Tryz.prog 86 #[.pointer (some ⟨rb, 0, none⟩)] w fun e w' => e = .returned (.int .i64 6) ∧ MPost w w' xb rb m ⟨6, [], m.mem, m.out⟩ := by
  go_enter Tryz.func86, Tryz.ntmps86
  go_wp2_with fail
  refine (takeM_under _ _ _ _ _ _ h (by omega) (by omega)).mono ?_
  rintro e w1 ⟨rfl, hk⟩
  go_wp2
  go_ret
  exact ⟨rfl, MPost.err (MTo.kp (hk.alloc _)) (h.kp (hk.alloc _)) rfl rfl rfl (by decide)⟩

end Go.Proofs.YtimfpnoeifhjeaaGreatDoor
