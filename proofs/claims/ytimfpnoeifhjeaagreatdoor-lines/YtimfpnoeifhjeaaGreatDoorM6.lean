import Derived.Test.YtimfpnoeifhjeaaGreatDoorM5
import Derived.Test.YtimfpnoeifhjeaaGreatDoorT1
namespace Go.Proofs.YtimfpnoeifhjeaaGreatDoor
open Go.RowKit

theorem hide {p : Prop} (h : p) : Hid p := h
theorem unhide {p : Prop} (h : Hid p) : p := h

/-- What the program reads of package-level tables, in a world W below block B. -/
structure Glo (B : Nat) (W : World) : Prop where
  pow : Lib.TabBelow Tryz.prog B W "internal/strconv.uint64pow10" .u64 Lib.pow10Tab
  asc : Lib.TabBelow Tryz.prog B W "strings.asciiSpace" .u8 Lib.asciiSpaceTab
  bs : B ≤ W.heap.size

/-- All that a session writes lies from block B on. -/
structure Safe (B : Nat) (W w : World) (xb rb : Nat) (m : MS) : Prop where
  bel : Below B W w
  bx : B ≤ xb
  br : B ≤ rb
  bv : ∀ k, own m.sv k ∨ own m.ov k → B ≤ k
  bs : B ≤ w.heap.size

theorem Safe.to {B : Nat} {W w w' : World} {xb rb : Nat} {m m' : MS} (h : Safe B W w xb rb m) (ht : MTo xb rb w w' m m') : Safe B W w' xb rb m' := by
  have hkp := To.kp ht
  refine ⟨?_, h.bx, h.br, fun k hk => ?_, Nat.le_trans h.bs hkp.size⟩
  · refine h.bel.trans ⟨hkp.os, hkp.tape, hkp.output, hkp.size, fun k hk => hkp.block k (Nat.lt_of_lt_of_le hk h.bs) ?_⟩
    rintro ((h1 | h1) | h1)
    · have := h.bx; omega
    · have := h.br; omega
    · have := h.bv k h1; omega
  · rcases To.nx ht k hk with h1 | h1
    · exact h.bv k h1
    · have := h.bs; omega
theorem Safe.kp {B : Nat} {W w w' : World} {xb rb : Nat} {m : MS} (h : Safe B W w xb rb m) (hk : Kp w w' (fun _ => False)) : Safe B W w' xb rb m := h.to (MTo.kp hk)

set_option maxRecDepth 1000000 in
set_option maxHeartbeats 800000 in
theorem sh_dot (B : Nat) (W : World) (w : World) (xb rb fb : Nat) (m : MS) (a : Int) (r : List Int) (h : MInv w xb rb m (a :: r).reverse) (hf : Blk w fb 138 #[.func (.func 83) #[] #[]]) (ho : m.out.size ≤ 300) (h0 : -9223372036854775808 ≤ a) (h1 : a ≤ 9223372036854775807) (hS : Safe B W w xb rb m) (hG : Glo B W) :
    Calls Tryz.prog 100 #[.pointer (some ⟨rb, 0, none⟩), .pointer (some ⟨fb, 0, none⟩)] w fun e w' => e = .returned (.int .i64 (prtP m.mem m.out r (dot a)).e) ∧ MPost w w' xb rb m (prtP m.mem m.out r (dot a)) := by
  have H0 : Hid (-9223372036854775808 ≤ a) := h0
  have H1 : Hid (a ≤ 9223372036854775807) := h1
  clear h0 h1
  have hsz : (dot a).size ≤ 1000 := by have := itoa_len a H0.out H1.out; show (dot a).data.size ≤ 1000; simp [dot]; omega
  have hps : 0 < (dot a).size := by show 0 < (dot a).data.size; simp [dot]
  go_enter Tryz.func100, Tryz.ntmps100
  go_wp2_with fail
  refine (takeM1 _ _ _ _ _ _ h).mono ?_
  rintro e w1 ⟨v', rfl, hi1, ht1⟩
  have hf1 := ht1.blk hf (by rintro (h1 | h1); exact absurd (hf.inj (h1 ▸ h.xblk)).1 (by decide); exact absurd (hf.inj (h1 ▸ h.rblk)).1 (by decide)) (by rintro (h1 | h1); exact own_ne h.srow hf (by decide) h1; exact own_ne h.orow hf (by decide) h1)
  have c1 : w1.cell? ⟨fb, 0, none⟩ = some (.func (.func 83) #[] #[]) := hf1.cell rfl
  have hfl := hf1.lt
  go_wp2_with fail
  refine (digitsM _ _ H0.out H1.out (by exact (hG.pow.on ((hS.to ht1).kp ((Kp.refl _ _).alloc _)).bel).here)).mono ?_
  rintro e w2 ⟨g, cap, rfl, hc, hk⟩
  have hi2 := (hi1.alloc (.cells #[.int .i64 a, .int .i64 0, .int .i64 0] 151)).kp hk
  have ht2 : MTo xb rb w w2 m { m with sv := v' } := ht1.trans ((MTo.kp ((Kp.refl _ _).alloc _)).trans (MTo.kp hk))
  have HC := hide hc
  clear hc hk c1 hf1
  by_cases hl : 300 < m.out.size + (dot a).size
  · go_wp2_with fail
    refine (printM_full _ _ _ _ _ _ _ _ hi2 ho hsz hl).mono ?_
    rintro e w' ⟨rfl, hw⟩
    rw [hw]; clear hw
    have HR : Hid (prtP m.mem m.out r (dot a) = ⟨11, [], m.mem, m.out⟩) := if_pos hl
    clear hl
    go_wp2
    go_ret
    rw [HR.out]
    exact ⟨rfl, MPost.err ht2 hi2 rfl rfl rfl (by decide)⟩
  · go_wp2_with fail
    refine (printM_ok _ _ _ _ _ _ _ _ hi2 hps (by show m.out.size + _ ≤ 300; omega) (unhide HC)).mono ?_
    rintro e w3 ⟨rfl, v3, hi3, ht3⟩
    have HR : Hid (prtP m.mem m.out r (dot a) = ⟨0, r, m.mem, m.out ++ dot a⟩) := if_neg hl
    clear hl
    go_wp2
    go_ret
    rw [HR.out]
    exact ⟨rfl, _, _, hi3, ht2.trans ht3, rfl, rfl, rfl, fun _ => rfl⟩

set_option maxRecDepth 1000000 in
set_option maxHeartbeats 800000 in
theorem sh_emit (w : World) (xb rb fb : Nat) (m : MS) (a : Int) (r : List Int) (h : MInv w xb rb m (a :: r).reverse) (hf : Blk w fb 138 #[.func (.func 84) #[] #[]]) (ho : m.out.size ≤ 300) :
    Calls Tryz.prog 100 #[.pointer (some ⟨rb, 0, none⟩), .pointer (some ⟨fb, 0, none⟩)] w fun e w' => e = .returned (.int .i64 (prtP m.mem m.out r (chR a)).e) ∧ MPost w w' xb rb m (prtP m.mem m.out r (chR a)) := by
  have hsz : (chR a).size ≤ 1000 := by show (1 : Nat) ≤ 1000; omega
  have hps : 0 < (chR a).size := by show (0 : Nat) < 1; omega
  go_enter Tryz.func100, Tryz.ntmps100
  go_wp2_with fail
  refine (takeM1 _ _ _ _ _ _ h).mono ?_
  rintro e w1 ⟨v', rfl, hi1, ht1⟩
  have hf1 := ht1.blk hf (by rintro (h1 | h1); exact absurd (hf.inj (h1 ▸ h.xblk)).1 (by decide); exact absurd (hf.inj (h1 ▸ h.rblk)).1 (by decide)) (by rintro (h1 | h1); exact own_ne h.srow hf (by decide) h1; exact own_ne h.orow hf (by decide) h1)
  have c1 : w1.cell? ⟨fb, 0, none⟩ = some (.func (.func 84) #[] #[]) := hf1.cell rfl
  have hfl := hf1.lt
  go_wp2_with fail
  refine (charM _ _).mono ?_
  rintro e w2 ⟨g, cap, rfl, hc, hk⟩
  have hi2 := (hi1.alloc (.cells #[.int .i64 a, .int .i64 0, .int .i64 0] 151)).kp hk
  have ht2 : MTo xb rb w w2 m { m with sv := v' } := ht1.trans ((MTo.kp ((Kp.refl _ _).alloc _)).trans (MTo.kp hk))
  have HC := hide hc
  clear hc hk c1 hf1
  by_cases hl : 300 < m.out.size + (chR a).size
  · go_wp2_with fail
    refine (printM_full _ _ _ _ _ _ _ _ hi2 ho hsz hl).mono ?_
    rintro e w' ⟨rfl, hw⟩
    rw [hw]; clear hw
    have HR : Hid (prtP m.mem m.out r (chR a) = ⟨11, [], m.mem, m.out⟩) := if_pos hl
    clear hl
    go_wp2
    go_ret
    rw [HR.out]
    exact ⟨rfl, MPost.err ht2 hi2 rfl rfl rfl (by decide)⟩
  · go_wp2_with fail
    refine (printM_ok _ _ _ _ _ _ _ _ hi2 hps (by show m.out.size + _ ≤ 300; omega) (unhide HC)).mono ?_
    rintro e w3 ⟨rfl, v3, hi3, ht3⟩
    have HR : Hid (prtP m.mem m.out r (chR a) = ⟨0, r, m.mem, m.out ++ chR a⟩) := if_neg hl
    clear hl
    go_wp2
    go_ret
    rw [HR.out]
    exact ⟨rfl, _, _, hi3, ht2.trans ht3, rfl, rfl, rfl, fun _ => rfl⟩

end Go.Proofs.YtimfpnoeifhjeaaGreatDoor
