import Derived.Test.YtldifaahmpecfaaGreatDoorV2
namespace Go.Proofs.YtldifaahmpecfaaGreatDoor
set_option maxRecDepth 1000000
set_option maxHeartbeats 4000000
set_option linter.all false
section
open Go.RowKit
theorem siR_dup (w : World) (yb : Nat) (s : RS) (a : Int) (r : List Int) (h : RInv w yb s r.reverse) (he : s.e = 0) (hl : r.length < 31) :
  Calls Tryz.prog 122 #[.pointer (some ⟨yb, 0, none⟩), .string { data := #[100, 117, 112] }, .int .i64 a] w fun e w' => e = .returned (.tuple #[]) ∧ RPost w w' yb s ⟨0, a :: a :: r, s.mem, s.out⟩ := by
 go_enter Tryz.func122, Tryz.ntmps122
 go_wp2_with fail
 refine (layR1 _ _ _ _ _ h he (by omega)).mono ?_
 rintro e w1 ⟨rfl, v1, hi1, ht1⟩
 go_wp2_with fail
 refine (layR1 _ _ _ _ _ hi1 he (by simp; omega)).mono ?_
 rintro e w2 ⟨rfl, v2, hi2, ht2⟩
 go_wp2
 go_end0
 exact ⟨rfl, ⟨_, _, hi2, ht1.trans ht2, he, rfl, rfl, rfl, fun _ => rfl⟩⟩
theorem siR_dup_over (w : World) (yb : Nat) (s : RS) (a : Int) (r : List Int) (h : RInv w yb s r.reverse) (he : s.e = 0) (hl : r.length = 31) :
  Calls Tryz.prog 122 #[.pointer (some ⟨yb, 0, none⟩), .string { data := #[100, 117, 112] }, .int .i64 a] w fun e w' => e = .returned (.tuple #[]) ∧ RPost w w' yb s ⟨7, [], s.mem, s.out⟩ := by
 go_enter Tryz.func122, Tryz.ntmps122
 go_wp2_with fail
 refine (layR1 _ _ _ _ _ h he (by omega)).mono ?_
 rintro e w1 ⟨rfl, v1, hi1, ht1⟩
 go_wp2_with fail
 refine (layR_full _ _ _ _ _ hi1 he (by simp; omega)).mono ?_
 rintro e w2 ⟨rfl, hi2, ht2⟩
 go_wp2
 go_end0
 exact ⟨rfl, ⟨_, _, hi2, ht1.trans ht2, rfl, rfl, rfl, rfl, fun h => by cases h⟩⟩
theorem siR_drop (w : World) (yb : Nat) (s : RS) (a : Int) (r : List Int) (h : RInv w yb s r.reverse) (he : s.e = 0) :
  Calls Tryz.prog 122 #[.pointer (some ⟨yb, 0, none⟩), .string { data := #[100, 114, 111, 112] }, .int .i64 a] w fun e w' => e = .returned (.tuple #[]) ∧ RPost w w' yb s ⟨0, r, s.mem, s.out⟩ := by
 go_enter Tryz.func122, Tryz.ntmps122
 go_wp2
 go_end0
 exact ⟨rfl, ⟨_, _, h, To.refl _ _ _, he, rfl, rfl, rfl, fun _ => rfl⟩⟩
theorem RPost.ofR {w w1 w2 : World} {yb : Nat} {s s1 : RS} {R : Res} (ht : RTo yb w w1 s s1) (hs : (s1.st, s1.d) = (s.st, s.d)) (h : RPost w1 w2 yb s1 R) : RPost w w2 yb s R := by
 obtain ⟨s', ns, h1, h2, h3, h4, h5, h6, h7⟩ := h.ex
 exact ⟨s', ns, h1, ht.trans h2, h3, h4, h5, h6.trans hs, h7⟩
theorem RInv.kp {w w' : World} {yb : Nat} {s : RS} {ns : List Int} (h : RInv w yb s ns) (hk : Kp w w' (fun _ => False)) : RInv w' yb s ns :=
 ⟨hk.blk h.blk (by simp), hk.row h.row (by simp), h.len⟩
theorem RTo.kp {w w' : World} {yb : Nat} {s : RS} (hk : Kp w w' (fun _ => False)) : RTo yb w w' s s := ⟨hk.mono (fun _ _ h => h.elim), fun _ h => .inl h⟩
def dot (a : Int) : ByteArray := ⟨(Lib.itoa a ++ [32]).toArray⟩
theorem itoa_len (a : Int) (h0 : -9223372036854775808 ≤ a) (h1 : a ≤ 9223372036854775807) : (Lib.itoa a).length ≤ 21 := by
 unfold Lib.itoa
 split
 ·simp only [List.length_cons]; rw [Lib.decDigits_length]; have := nDigits_le 19 a.natAbs (by omega); omega
 ·rw [Lib.decDigits_length]; have := nDigits_le 19 a.toNat (by omega); omega
def prt (s : RS) (r : List Int) (t : ByteArray) : Res := if 300 < s.out.size + t.size then ⟨11, [], s.mem, s.out⟩ else ⟨0, r, s.mem, s.out ++ t⟩
theorem printR (w : World) (yb : Nat) (s : RS) (r : List Int) (t : ByteArray) (h : RInv w yb s r.reverse) (he : s.e = 0) (ho : s.out.size ≤ 300) (ht : t.size ≤ 1000) :
  Calls Tryz.prog 144 #[.pointer (some ⟨yb, 0, none⟩), .string t] w fun e w' => e = .returned (.tuple #[]) ∧ RPost w w' yb s (prt s r t) := by
 unfold prt
 by_cases hl : 300 < s.out.size + t.size
 ·rw [if_pos hl]
  refine (printR_full w yb s _ t h ho ht hl).mono ?_
  rintro e w' ⟨rfl, hi, hto⟩
  exact ⟨rfl, ⟨_, _, hi, hto, rfl, rfl, rfl, rfl, fun h => by cases h⟩⟩
 ·rw [if_neg hl]
  refine (printR_ok w yb s _ t h ho ht (by omega)).mono ?_
  rintro e w' ⟨rfl, hi, hto⟩
  exact ⟨rfl, ⟨_, _, hi, hto, he, rfl, rfl, rfl, fun _ => rfl⟩⟩
theorem dot_eq (a : Int) : (⟨(Lib.itoa a).toArray⟩ ++ ⟨#[32]⟩ : ByteArray) = dot a := by rw [ba_app]; simp [dot]
theorem dot_size (a : Int) (h0 : -9223372036854775808 ≤ a) (h1 : a ≤ 9223372036854775807) : (dot a).size ≤ 1000 := by
 have := itoa_len a h0 h1
 show (dot a).data.size ≤ 1000
 simp [dot]; omega
theorem siR_dot (w : World) (yb : Nat) (s : RS) (a : Int) (r : List Int) (h : RInv w yb s r.reverse) (he : s.e = 0) (ho : s.out.size ≤ 300) (h0 : -9223372036854775808 ≤ a) (h1 : a ≤ 9223372036854775807) :
  Calls Tryz.prog 122 #[.pointer (some ⟨yb, 0, none⟩), .string { data := #[46] }, .int .i64 a] w fun e w' => e = .returned (.tuple #[]) ∧ RPost w w' yb s (prt s r (dot a)) := by
 have H := digR a w h0 h1
 have hd := dot_size a h0 h1
 have hll := itoa_len a h0 h1
 clear h0 h1
 go_enter Tryz.func122, Tryz.ntmps122
 go_wp2_with fail
 refine H.mono ?_
 clear H
 rintro e w1 ⟨rfl, hk⟩
 have hsz : (ByteArray.mk (Lib.itoa a).toArray).size = (Lib.itoa a).length := rfl
 go_wp2_with fail
 rw [dot_eq]
 refine (printR _ _ _ _ _ (h.kp hk) he ho hd).mono ?_
 rintro e w2 ⟨rfl, hp⟩
 go_wp2
 go_end0
 exact ⟨rfl, RPost.ofR (RTo.kp hk) rfl hp⟩
def chR (a : Int) : ByteArray := ⟨#[UInt8.ofNat (wrap64 (wrap64 (32 + a) - wrap64 (95 * fdiv a 95)) % 256).toNat]⟩
theorem siR_emit (w : World) (yb : Nat) (s : RS) (a : Int) (r : List Int) (h : RInv w yb s r.reverse) (he : s.e = 0) (ho : s.out.size ≤ 300) :
  Calls Tryz.prog 122 #[.pointer (some ⟨yb, 0, none⟩), .string { data := #[101, 109, 105, 116] }, .int .i64 a] w fun e w' => e = .returned (.tuple #[]) ∧ RPost w w' yb s (prt s r (chR a)) := by
 have hcv := conv1
 go_enter Tryz.func122, Tryz.ntmps122
 go_wp2_with fail
 refine (quotR _ _ _ (by decide)).mono ?_
 rintro e w' ⟨rfl, hw⟩
 rw [hw]; clear hw
 go_wp2_with fail
 refine (printR _ _ _ _ _ (h.alloc _) he ho (by show (1 : Nat) ≤ 1000; omega)).mono ?_
 rintro e w2 ⟨rfl, hp⟩
 go_wp2
 go_end0
 exact ⟨rfl, RPost.ofR (RTo.kp ((Kp.refl _ _).alloc _)) rfl hp⟩
theorem siR_fetch (w : World) (yb : Nat) (s : RS) (a : Int) (r : List Int) (h : RInv w yb s r.reverse) (he : s.e = 0) (hl : r.length < 32) (ha : 0 ≤ a) (hb : a < 16) :
  Calls Tryz.prog 122 #[.pointer (some ⟨yb, 0, none⟩), .string { data := #[64] }, .int .i64 a] w fun e w' => e = .returned (.tuple #[]) ∧ RPost w w' yb s ⟨0, s.mem a.toNat :: r, s.mem, s.out⟩ := by
 have c1 : w.cell? ⟨yb, 1 + a.toNat, none⟩ = some (.int .i64 (s.mem a.toNat)) := h.blk.cell (RS.at s _ (by omega))
 go_enter Tryz.func122, Tryz.ntmps122
 go_wp2_with fail
 refine (layR1 _ _ _ _ _ h he (by omega)).mono ?_
 rintro e w1 ⟨rfl, v1, hi1, ht1⟩
 go_wp2
 go_end0
 exact ⟨rfl, ⟨_, _, hi1, ht1, he, rfl, rfl, rfl, fun _ => rfl⟩⟩
theorem siR_fetch_no (w : World) (yb : Nat) (s : RS) (a : Int) (r : List Int) (h : RInv w yb s r.reverse) (he : s.e = 0) (ha : ¬ (0 ≤ a ∧ a < 16)) :
  Calls Tryz.prog 122 #[.pointer (some ⟨yb, 0, none⟩), .string { data := #[64] }, .int .i64 a] w fun e w' => e = .returned (.tuple #[]) ∧ RPost w w' yb s ⟨10, [], s.mem, s.out⟩ := by
 have c1 : w.cell? ⟨yb, 21, none⟩ = some (.int .i64 s.e) := h.blk.cell rfl
 have f1 := h.blk.free 21
 rcases (show a < 0 ∨ (0 ≤ a ∧ 16 ≤ a) by omega) with h1 | ⟨h1, h2⟩
 all_goals
  clear ha
  go_enter Tryz.func122, Tryz.ntmps122
  go_wp2
  refine bodyPost_ret (results_none rfl _ _ _) rfl ?_
  exact ⟨rfl, ⟨_, _, h.setE _, RTo.set rfl _ _, rfl, rfl, rfl, rfl, fun h => by cases h⟩⟩
end
end Go.Proofs.YtldifaahmpecfaaGreatDoor
