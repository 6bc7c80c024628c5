import Derived.Test.YtldifaahmpecfaaGreatDoorV6
namespace Go.Proofs.YtldifaahmpecfaaGreatDoor
set_option maxRecDepth 1000000
set_option maxHeartbeats 4000000
set_option linter.all false
section
open Go.RowKit
def prtP (mem : Nat → Int) (out : ByteArray) (r : List Int) (t : ByteArray) : Res := if 300 < out.size + t.size then ⟨11, [], mem, out⟩ else ⟨0, r, mem, out ++ t⟩
def under (mem : Nat → Int) (out : ByteArray) : Res := ⟨6, [], mem, out⟩
def p_add (mem : Nat → Int) (out : ByteArray) : List Int → Res
 | b :: a :: r => ⟨0, wrap64 (a + b) :: r, mem, out⟩
 | _ => under mem out
def p_sub (mem : Nat → Int) (out : ByteArray) : List Int → Res
 | b :: a :: r => ⟨0, wrap64 (a - b) :: r, mem, out⟩
 | _ => under mem out
def p_mul (mem : Nat → Int) (out : ByteArray) : List Int → Res
 | b :: a :: r => ⟨0, wrap64 (a * b) :: r, mem, out⟩
 | _ => under mem out
def p_quo (mem : Nat → Int) (out : ByteArray) : List Int → Res
 | b :: a :: r => if b = 0 then ⟨9, [], mem, out⟩ else ⟨0, fdiv a b :: r, mem, out⟩
 | _ => under mem out
def p_mod (mem : Nat → Int) (out : ByteArray) : List Int → Res
 | b :: a :: r => if b = 0 then ⟨9, [], mem, out⟩ else ⟨0, wrap64 (a - wrap64 (b * fdiv a b)) :: r, mem, out⟩
 | _ => under mem out
def p_eq (mem : Nat → Int) (out : ByteArray) : List Int → Res
 | b :: a :: r => ⟨0, sonum (a == b) :: r, mem, out⟩
 | _ => under mem out
def p_lt (mem : Nat → Int) (out : ByteArray) : List Int → Res
 | b :: a :: r => ⟨0, sonum (decide (a < b)) :: r, mem, out⟩
 | _ => under mem out
def p_dup (mem : Nat → Int) (out : ByteArray) : List Int → Res
 | a :: r => if r.length < 31 then ⟨0, a :: a :: r, mem, out⟩ else ⟨7, [], mem, out⟩
 | _ => under mem out
def p_drop (mem : Nat → Int) (out : ByteArray) : List Int → Res
 | _ :: r => ⟨0, r, mem, out⟩
 | _ => under mem out
def p_swap (mem : Nat → Int) (out : ByteArray) : List Int → Res
 | b :: a :: r => ⟨0, a :: b :: r, mem, out⟩
 | _ => under mem out
def p_over (mem : Nat → Int) (out : ByteArray) : List Int → Res
 | b :: a :: r => if r.length < 30 then ⟨0, a :: b :: a :: r, mem, out⟩ else ⟨7, [], mem, out⟩
 | _ => under mem out
def p_rot (mem : Nat → Int) (out : ByteArray) : List Int → Res
 | c :: b :: a :: r => ⟨0, a :: c :: b :: r, mem, out⟩
 | _ => under mem out
def p_dot (mem : Nat → Int) (out : ByteArray) : List Int → Res
 | a :: r => prtP mem out r (dot a)
 | _ => under mem out
def p_emit (mem : Nat → Int) (out : ByteArray) : List Int → Res
 | a :: r => prtP mem out r (chR a)
 | _ => under mem out
def p_fetch (mem : Nat → Int) (out : ByteArray) : List Int → Res
 | a :: r => if 0 ≤ a ∧ a < 16 then ⟨0, mem a.toNat :: r, mem, out⟩ else ⟨10, [], mem, out⟩
 | _ => under mem out
def p_store (mem : Nat → Int) (out : ByteArray) : List Int → Res
 | b :: a :: r => if 0 ≤ b ∧ b < 16 then ⟨0, r, fun j => if j = b.toNat then a else mem j, out⟩ else ⟨10, [], mem, out⟩
 | _ => under mem out
def plainP (k : Nat) (rs : List Int) (mem : Nat → Int) (out : ByteArray) : Res :=
 match k with
 | 0 => p_add mem out rs
 | 1 => p_sub mem out rs
 | 2 => p_mul mem out rs
 | 3 => p_quo mem out rs
 | 4 => p_mod mem out rs
 | 5 => p_eq mem out rs
 | 6 => p_lt mem out rs
 | 7 => p_dup mem out rs
 | 8 => p_drop mem out rs
 | 9 => p_swap mem out rs
 | 10 => p_over mem out rs
 | 11 => p_rot mem out rs
 | 12 => p_dot mem out rs
 | 13 => p_emit mem out rs
 | 14 => p_fetch mem out rs
 | _ => p_store mem out rs
def In (a : Int) : Prop := -9223372036854775808 ≤ a ∧ a ≤ 9223372036854775807
theorem plA_add (w : World) (yb : Nat) (s : RS) (rs : List Int) (h : RInv w yb s rs.reverse) (he : s.e = 0) (_ho : s.out.size ≤ 300) (hin : ∀ a ∈ rs, In a) :
  Calls Tryz.prog 79 #[.pointer (some ⟨yb, 0, none⟩), .string { data := #[43] }] w fun e w' => e = .returned (.tuple #[]) ∧ RPost w w' yb s (p_add s.mem s.out rs) := by
 match rs, h, hin with
 | [], h, _ => exact plR_add_under w yb s _ h (by simp)
 | [_], h, _ => exact plR_add_under w yb s _ h (by simp)
 | b :: a :: r, h, _ => exact plR_add w yb s b a r h he
theorem plA_sub (w : World) (yb : Nat) (s : RS) (rs : List Int) (h : RInv w yb s rs.reverse) (he : s.e = 0) (_ho : s.out.size ≤ 300) (hin : ∀ a ∈ rs, In a) :
  Calls Tryz.prog 79 #[.pointer (some ⟨yb, 0, none⟩), .string { data := #[45] }] w fun e w' => e = .returned (.tuple #[]) ∧ RPost w w' yb s (p_sub s.mem s.out rs) := by
 match rs, h, hin with
 | [], h, _ => exact plR_sub_under w yb s _ h (by simp)
 | [_], h, _ => exact plR_sub_under w yb s _ h (by simp)
 | b :: a :: r, h, _ => exact plR_sub w yb s b a r h he
theorem plA_mul (w : World) (yb : Nat) (s : RS) (rs : List Int) (h : RInv w yb s rs.reverse) (he : s.e = 0) (_ho : s.out.size ≤ 300) (hin : ∀ a ∈ rs, In a) :
  Calls Tryz.prog 79 #[.pointer (some ⟨yb, 0, none⟩), .string { data := #[42] }] w fun e w' => e = .returned (.tuple #[]) ∧ RPost w w' yb s (p_mul s.mem s.out rs) := by
 match rs, h, hin with
 | [], h, _ => exact plR_mul_under w yb s _ h (by simp)
 | [_], h, _ => exact plR_mul_under w yb s _ h (by simp)
 | b :: a :: r, h, _ => exact plR_mul w yb s b a r h he
theorem plA_quo (w : World) (yb : Nat) (s : RS) (rs : List Int) (h : RInv w yb s rs.reverse) (he : s.e = 0) (_ho : s.out.size ≤ 300) (hin : ∀ a ∈ rs, In a) :
  Calls Tryz.prog 79 #[.pointer (some ⟨yb, 0, none⟩), .string { data := #[47] }] w fun e w' => e = .returned (.tuple #[]) ∧ RPost w w' yb s (p_quo s.mem s.out rs) := by
 match rs, h, hin with
 | [], h, _ => exact plR_quo_under w yb s _ h (by simp)
 | [_], h, _ => exact plR_quo_under w yb s _ h (by simp)
 | b :: a :: r, h, _ => 
  simp only [p_quo]
  by_cases hb : b = 0
  ·subst hb; rw [if_pos rfl]; exact plR_quo_zero w yb s a r h he
  ·rw [if_neg hb]; exact plR_quo w yb s b a r h he hb
theorem plA_mod (w : World) (yb : Nat) (s : RS) (rs : List Int) (h : RInv w yb s rs.reverse) (he : s.e = 0) (_ho : s.out.size ≤ 300) (hin : ∀ a ∈ rs, In a) :
  Calls Tryz.prog 79 #[.pointer (some ⟨yb, 0, none⟩), .string { data := #[109, 111, 100] }] w fun e w' => e = .returned (.tuple #[]) ∧ RPost w w' yb s (p_mod s.mem s.out rs) := by
 match rs, h, hin with
 | [], h, _ => exact plR_mod_under w yb s _ h (by simp)
 | [_], h, _ => exact plR_mod_under w yb s _ h (by simp)
 | b :: a :: r, h, _ => 
  simp only [p_mod]
  by_cases hb : b = 0
  ·subst hb; rw [if_pos rfl]; exact plR_mod_zero w yb s a r h he
  ·rw [if_neg hb]; exact plR_mod w yb s b a r h he hb
theorem plA_eq (w : World) (yb : Nat) (s : RS) (rs : List Int) (h : RInv w yb s rs.reverse) (he : s.e = 0) (_ho : s.out.size ≤ 300) (hin : ∀ a ∈ rs, In a) :
  Calls Tryz.prog 79 #[.pointer (some ⟨yb, 0, none⟩), .string { data := #[61] }] w fun e w' => e = .returned (.tuple #[]) ∧ RPost w w' yb s (p_eq s.mem s.out rs) := by
 match rs, h, hin with
 | [], h, _ => exact plR_eq_under w yb s _ h (by simp)
 | [_], h, _ => exact plR_eq_under w yb s _ h (by simp)
 | b :: a :: r, h, _ => exact plR_eq w yb s b a r h he
theorem plA_lt (w : World) (yb : Nat) (s : RS) (rs : List Int) (h : RInv w yb s rs.reverse) (he : s.e = 0) (_ho : s.out.size ≤ 300) (hin : ∀ a ∈ rs, In a) :
  Calls Tryz.prog 79 #[.pointer (some ⟨yb, 0, none⟩), .string { data := #[60] }] w fun e w' => e = .returned (.tuple #[]) ∧ RPost w w' yb s (p_lt s.mem s.out rs) := by
 match rs, h, hin with
 | [], h, _ => exact plR_lt_under w yb s _ h (by simp)
 | [_], h, _ => exact plR_lt_under w yb s _ h (by simp)
 | b :: a :: r, h, _ => exact plR_lt w yb s b a r h he
theorem plA_dup (w : World) (yb : Nat) (s : RS) (rs : List Int) (h : RInv w yb s rs.reverse) (he : s.e = 0) (_ho : s.out.size ≤ 300) (hin : ∀ a ∈ rs, In a) :
  Calls Tryz.prog 79 #[.pointer (some ⟨yb, 0, none⟩), .string { data := #[100, 117, 112] }] w fun e w' => e = .returned (.tuple #[]) ∧ RPost w w' yb s (p_dup s.mem s.out rs) := by
 match rs, h, hin with
 | [], h, _ => exact plR_dup_under w yb s _ h (by simp)
 | a :: r, h, _ => 
  simp only [p_dup]
  have hl := h.len
  simp only [List.length_reverse, List.length_cons] at hl
  by_cases hr : r.length < 31
  ·rw [if_pos hr]; exact plR_dup w yb s a r h he hr
  ·rw [if_neg hr]; exact plR_dup_full w yb s a r h he (by omega)
theorem plA_drop (w : World) (yb : Nat) (s : RS) (rs : List Int) (h : RInv w yb s rs.reverse) (he : s.e = 0) (_ho : s.out.size ≤ 300) (hin : ∀ a ∈ rs, In a) :
  Calls Tryz.prog 79 #[.pointer (some ⟨yb, 0, none⟩), .string { data := #[100, 114, 111, 112] }] w fun e w' => e = .returned (.tuple #[]) ∧ RPost w w' yb s (p_drop s.mem s.out rs) := by
 match rs, h, hin with
 | [], h, _ => exact plR_drop_under w yb s _ h (by simp)
 | a :: r, h, _ => exact plR_drop w yb s a r h he
theorem plA_swap (w : World) (yb : Nat) (s : RS) (rs : List Int) (h : RInv w yb s rs.reverse) (he : s.e = 0) (_ho : s.out.size ≤ 300) (hin : ∀ a ∈ rs, In a) :
  Calls Tryz.prog 79 #[.pointer (some ⟨yb, 0, none⟩), .string { data := #[115, 119, 97, 112] }] w fun e w' => e = .returned (.tuple #[]) ∧ RPost w w' yb s (p_swap s.mem s.out rs) := by
 match rs, h, hin with
 | [], h, _ => exact plR_swap_under w yb s _ h (by simp)
 | [_], h, _ => exact plR_swap_under w yb s _ h (by simp)
 | b :: a :: r, h, _ => exact plR_swap w yb s b a r h he
theorem plA_over (w : World) (yb : Nat) (s : RS) (rs : List Int) (h : RInv w yb s rs.reverse) (he : s.e = 0) (_ho : s.out.size ≤ 300) (hin : ∀ a ∈ rs, In a) :
  Calls Tryz.prog 79 #[.pointer (some ⟨yb, 0, none⟩), .string { data := #[111, 118, 101, 114] }] w fun e w' => e = .returned (.tuple #[]) ∧ RPost w w' yb s (p_over s.mem s.out rs) := by
 match rs, h, hin with
 | [], h, _ => exact plR_over_under w yb s _ h (by simp)
 | [_], h, _ => exact plR_over_under w yb s _ h (by simp)
 | b :: a :: r, h, _ => 
  simp only [p_over]
  have hl := h.len
  simp only [List.length_reverse, List.length_cons] at hl
  by_cases hr : r.length < 30
  ·rw [if_pos hr]; exact plR_over w yb s b a r h he hr
  ·rw [if_neg hr]; exact plR_over_full w yb s b a r h he (by omega)
theorem plA_rot (w : World) (yb : Nat) (s : RS) (rs : List Int) (h : RInv w yb s rs.reverse) (he : s.e = 0) (_ho : s.out.size ≤ 300) (hin : ∀ a ∈ rs, In a) :
  Calls Tryz.prog 79 #[.pointer (some ⟨yb, 0, none⟩), .string { data := #[114, 111, 116] }] w fun e w' => e = .returned (.tuple #[]) ∧ RPost w w' yb s (p_rot s.mem s.out rs) := by
 match rs, h, hin with
 | [], h, _ => exact plR_rot_under w yb s _ h (by simp)
 | [_], h, _ => exact plR_rot_under w yb s _ h (by simp)
 | [_, _], h, _ => exact plR_rot_under w yb s _ h (by simp)
 | c :: b :: a :: r, h, _ => exact plR_rot w yb s c b a r h he
theorem plA_dot (w : World) (yb : Nat) (s : RS) (rs : List Int) (h : RInv w yb s rs.reverse) (he : s.e = 0) (ho : s.out.size ≤ 300) (hin : ∀ a ∈ rs, In a) :
  Calls Tryz.prog 79 #[.pointer (some ⟨yb, 0, none⟩), .string { data := #[46] }] w fun e w' => e = .returned (.tuple #[]) ∧ RPost w w' yb s (p_dot s.mem s.out rs) := by
 match rs, h, hin with
 | [], h, _ => exact plR_dot_under w yb s _ h (by simp)
 | a :: r, h, hin => 
  have ha := hin a (by simp)
  exact plR_dot w yb s a r h he ho ha.1 ha.2
theorem plA_emit (w : World) (yb : Nat) (s : RS) (rs : List Int) (h : RInv w yb s rs.reverse) (he : s.e = 0) (ho : s.out.size ≤ 300) (hin : ∀ a ∈ rs, In a) :
  Calls Tryz.prog 79 #[.pointer (some ⟨yb, 0, none⟩), .string { data := #[101, 109, 105, 116] }] w fun e w' => e = .returned (.tuple #[]) ∧ RPost w w' yb s (p_emit s.mem s.out rs) := by
 match rs, h, hin with
 | [], h, _ => exact plR_emit_under w yb s _ h (by simp)
 | a :: r, h, _ => exact plR_emit w yb s a r h he ho
theorem plA_fetch (w : World) (yb : Nat) (s : RS) (rs : List Int) (h : RInv w yb s rs.reverse) (he : s.e = 0) (_ho : s.out.size ≤ 300) (hin : ∀ a ∈ rs, In a) :
  Calls Tryz.prog 79 #[.pointer (some ⟨yb, 0, none⟩), .string { data := #[64] }] w fun e w' => e = .returned (.tuple #[]) ∧ RPost w w' yb s (p_fetch s.mem s.out rs) := by
 match rs, h, hin with
 | [], h, _ => exact plR_fetch_under w yb s _ h (by simp)
 | a :: r, h, _ => 
  simp only [p_fetch]
  by_cases hr : 0 ≤ a ∧ a < 16
  ·rw [if_pos hr]; exact plR_fetch w yb s a r h he hr.1 hr.2
  ·rw [if_neg hr]; exact plR_fetch_no w yb s a r h he hr
theorem plA_store (w : World) (yb : Nat) (s : RS) (rs : List Int) (h : RInv w yb s rs.reverse) (he : s.e = 0) (_ho : s.out.size ≤ 300) (hin : ∀ a ∈ rs, In a) :
  Calls Tryz.prog 79 #[.pointer (some ⟨yb, 0, none⟩), .string { data := #[33] }] w fun e w' => e = .returned (.tuple #[]) ∧ RPost w w' yb s (p_store s.mem s.out rs) := by
 match rs, h, hin with
 | [], h, _ => exact plR_store_under w yb s _ h (by simp)
 | [_], h, _ => exact plR_store_under w yb s _ h (by simp)
 | b :: a :: r, h, _ => 
  simp only [p_store]
  by_cases hr : 0 ≤ b ∧ b < 16
  ·rw [if_pos hr]; exact plR_store w yb s b a r h he hr.1 hr.2
  ·rw [if_neg hr]
   rcases (show b < 0 ∨ (0 ≤ b ∧ 16 ≤ b) by omega) with h1 | ⟨h1, h2⟩
   ·exact plR_store_noa w yb s b a r h he h1
   ·exact plR_store_nob w yb s b a r h he h1 h2
theorem of_toList {t : ByteArray} {l : List UInt8} (h : t.toList = l) : t = ⟨l.toArray⟩ := by
 rw [ByteArray.toList_eq] at h
 subst h
 apply ByteArray.ext; simp
theorem plainR_all (k : Nat) (t : ByteArray) (hk : plainL[k]? = some t.toList) (w : World) (yb : Nat) (s : RS) (rs : List Int) (h : RInv w yb s rs.reverse) (he : s.e = 0) (ho : s.out.size ≤ 300) (hin : ∀ a ∈ rs, In a) :
  Calls Tryz.prog 79 #[.pointer (some ⟨yb, 0, none⟩), .string t] w fun e w' => e = .returned (.tuple #[]) ∧ RPost w w' yb s (plainP k rs s.mem s.out) := by
 have hlt : k < 16 := by
  rcases Nat.lt_or_ge k 16 with h' | h'
  ·exact h'
  ·rw [List.getElem?_eq_none (by simpa [plainL] using h')] at hk; cases hk
 have : k = 0 ∨ k = 1 ∨ k = 2 ∨ k = 3 ∨ k = 4 ∨ k = 5 ∨ k = 6 ∨ k = 7 ∨ k = 8 ∨ k = 9 ∨ k = 10 ∨ k = 11 ∨ k = 12 ∨ k = 13 ∨ k = 14 ∨ k = 15 := by omega
 rcases this with rfl | rfl | rfl | rfl | rfl | rfl | rfl | rfl | rfl | rfl | rfl | rfl | rfl | rfl | rfl | rfl
 ·have ht := of_toList (Option.some.inj hk).symm; rw [ht]; exact plA_add w yb s rs h he ho hin
 ·have ht := of_toList (Option.some.inj hk).symm; rw [ht]; exact plA_sub w yb s rs h he ho hin
 ·have ht := of_toList (Option.some.inj hk).symm; rw [ht]; exact plA_mul w yb s rs h he ho hin
 ·have ht := of_toList (Option.some.inj hk).symm; rw [ht]; exact plA_quo w yb s rs h he ho hin
 ·have ht := of_toList (Option.some.inj hk).symm; rw [ht]; exact plA_mod w yb s rs h he ho hin
 ·have ht := of_toList (Option.some.inj hk).symm; rw [ht]; exact plA_eq w yb s rs h he ho hin
 ·have ht := of_toList (Option.some.inj hk).symm; rw [ht]; exact plA_lt w yb s rs h he ho hin
 ·have ht := of_toList (Option.some.inj hk).symm; rw [ht]; exact plA_dup w yb s rs h he ho hin
 ·have ht := of_toList (Option.some.inj hk).symm; rw [ht]; exact plA_drop w yb s rs h he ho hin
 ·have ht := of_toList (Option.some.inj hk).symm; rw [ht]; exact plA_swap w yb s rs h he ho hin
 ·have ht := of_toList (Option.some.inj hk).symm; rw [ht]; exact plA_over w yb s rs h he ho hin
 ·have ht := of_toList (Option.some.inj hk).symm; rw [ht]; exact plA_rot w yb s rs h he ho hin
 ·have ht := of_toList (Option.some.inj hk).symm; rw [ht]; exact plA_dot w yb s rs h he ho hin
 ·have ht := of_toList (Option.some.inj hk).symm; rw [ht]; exact plA_emit w yb s rs h he ho hin
 ·have ht := of_toList (Option.some.inj hk).symm; rw [ht]; exact plA_fetch w yb s rs h he ho hin
 ·have ht := of_toList (Option.some.inj hk).symm; rw [ht]; exact plA_store w yb s rs h he ho hin
theorem In_wrap (x : Int) : In (wrap64 x) := by unfold In wrap64; omega
theorem In_so (b : Bool) : In (sonum b) := by cases b <;> simp [sonum, In]
theorem In_fdiv (a b : Int) : In (fdiv a b) := by unfold fdiv; split <;> exact In_wrap _
structure Good (rs : List Int) (mem : Nat → Int) (out : ByteArray) : Prop where
 ins : ∀ a ∈ rs, In a
 mems : ∀ i, In (mem i)
 len : rs.length ≤ 32
 osz : out.size ≤ 300
def Fine (R : Res) : Prop := Good R.rs R.mem R.out
theorem Fine.err {rs : List Int} {mem : Nat → Int} {out : ByteArray} (h : Good rs mem out) (e : Int) : Fine ⟨e, [], mem, out⟩ := ⟨by simp, h.mems, by simp, h.osz⟩
theorem Fine.prt {rs : List Int} {mem : Nat → Int} {out : ByteArray} (h : Good rs mem out) (r : List Int) (t : ByteArray) (hr : ∀ a ∈ r, In a) (hl : r.length ≤ 32) : Fine (prtP mem out r t) := by
 unfold prtP
 split
 ·exact Fine.err h 11
 ·exact ⟨hr, h.mems, hl, by show (out ++ t).size ≤ 300; rw [ByteArray.size_append]; omega⟩
theorem plain_fine (k : Nat) {rs : List Int} {mem : Nat → Int} {out : ByteArray} (h : Good rs mem out) : Fine (plainP k rs mem out) := by
 have hu : Fine (under mem out) := Fine.err h 6
 have hw := In_wrap
 have hs := In_so
 have hf := In_fdiv
 have hm := h.mems
 unfold plainP
 split
 ·unfold p_add
  split
  ·have hi := h.ins
   have hl := h.len
   simp only [List.mem_cons, forall_eq_or_imp, List.length_cons] at hi hl
   skip
   refine ⟨?_, hm, by simp only [List.length_cons]; omega, h.osz⟩
   simp only [List.mem_cons, forall_eq_or_imp]
   exact ⟨hw _, hi.2.2⟩
  ·exact hu
 ·unfold p_sub
  split
  ·have hi := h.ins
   have hl := h.len
   simp only [List.mem_cons, forall_eq_or_imp, List.length_cons] at hi hl
   skip
   refine ⟨?_, hm, by simp only [List.length_cons]; omega, h.osz⟩
   simp only [List.mem_cons, forall_eq_or_imp]
   exact ⟨hw _, hi.2.2⟩
  ·exact hu
 ·unfold p_mul
  split
  ·have hi := h.ins
   have hl := h.len
   simp only [List.mem_cons, forall_eq_or_imp, List.length_cons] at hi hl
   skip
   refine ⟨?_, hm, by simp only [List.length_cons]; omega, h.osz⟩
   simp only [List.mem_cons, forall_eq_or_imp]
   exact ⟨hw _, hi.2.2⟩
  ·exact hu
 ·unfold p_quo
  split
  ·have hi := h.ins
   have hl := h.len
   simp only [List.mem_cons, forall_eq_or_imp, List.length_cons] at hi hl
   split <;> first | exact Fine.err h _ | skip
   refine ⟨?_, hm, by simp only [List.length_cons]; omega, h.osz⟩
   simp only [List.mem_cons, forall_eq_or_imp]
   exact ⟨hf _ _, hi.2.2⟩
  ·exact hu
 ·unfold p_mod
  split
  ·have hi := h.ins
   have hl := h.len
   simp only [List.mem_cons, forall_eq_or_imp, List.length_cons] at hi hl
   split <;> first | exact Fine.err h _ | skip
   refine ⟨?_, hm, by simp only [List.length_cons]; omega, h.osz⟩
   simp only [List.mem_cons, forall_eq_or_imp]
   exact ⟨hw _, hi.2.2⟩
  ·exact hu
 ·unfold p_eq
  split
  ·have hi := h.ins
   have hl := h.len
   simp only [List.mem_cons, forall_eq_or_imp, List.length_cons] at hi hl
   skip
   refine ⟨?_, hm, by simp only [List.length_cons]; omega, h.osz⟩
   simp only [List.mem_cons, forall_eq_or_imp]
   exact ⟨hs _, hi.2.2⟩
  ·exact hu
 ·unfold p_lt
  split
  ·have hi := h.ins
   have hl := h.len
   simp only [List.mem_cons, forall_eq_or_imp, List.length_cons] at hi hl
   skip
   refine ⟨?_, hm, by simp only [List.length_cons]; omega, h.osz⟩
   simp only [List.mem_cons, forall_eq_or_imp]
   exact ⟨hs _, hi.2.2⟩
  ·exact hu
 ·unfold p_dup
  split
  ·have hi := h.ins
   have hl := h.len
   simp only [List.mem_cons, forall_eq_or_imp, List.length_cons] at hi hl
   split <;> first | exact Fine.err h _ | skip
   refine ⟨?_, hm, by simp only [List.length_cons]; omega, h.osz⟩
   simp only [List.mem_cons, forall_eq_or_imp]
   exact ⟨hi.1, hi.1, hi.2⟩
  ·exact hu
 ·unfold p_drop
  split
  ·have hi := h.ins
   have hl := h.len
   simp only [List.mem_cons, forall_eq_or_imp, List.length_cons] at hi hl
   skip
   exact ⟨hi.2, hm, by dsimp only; omega, h.osz⟩
  ·exact hu
 ·unfold p_swap
  split
  ·have hi := h.ins
   have hl := h.len
   simp only [List.mem_cons, forall_eq_or_imp, List.length_cons] at hi hl
   skip
   refine ⟨?_, hm, by simp only [List.length_cons]; omega, h.osz⟩
   simp only [List.mem_cons, forall_eq_or_imp]
   exact ⟨hi.2.1, hi.1, hi.2.2⟩
  ·exact hu
 ·unfold p_over
  split
  ·have hi := h.ins
   have hl := h.len
   simp only [List.mem_cons, forall_eq_or_imp, List.length_cons] at hi hl
   split <;> first | exact Fine.err h _ | skip
   refine ⟨?_, hm, by simp only [List.length_cons]; omega, h.osz⟩
   simp only [List.mem_cons, forall_eq_or_imp]
   exact ⟨hi.2.1, hi.1, hi.2.1, hi.2.2⟩
  ·exact hu
 ·unfold p_rot
  split
  ·have hi := h.ins
   have hl := h.len
   simp only [List.mem_cons, forall_eq_or_imp, List.length_cons] at hi hl
   skip
   refine ⟨?_, hm, by simp only [List.length_cons]; omega, h.osz⟩
   simp only [List.mem_cons, forall_eq_or_imp]
   exact ⟨hi.2.2.1, hi.1, hi.2.1, hi.2.2.2⟩
  ·exact hu
 ·unfold p_dot
  split
  ·have hi := h.ins
   have hl := h.len
   simp only [List.mem_cons, forall_eq_or_imp, List.length_cons] at hi hl
   skip
   exact Fine.prt h _ _ hi.2 (by omega)
  ·exact hu
 ·unfold p_emit
  split
  ·have hi := h.ins
   have hl := h.len
   simp only [List.mem_cons, forall_eq_or_imp, List.length_cons] at hi hl
   skip
   exact Fine.prt h _ _ hi.2 (by omega)
  ·exact hu
 ·unfold p_fetch
  split
  ·have hi := h.ins
   have hl := h.len
   simp only [List.mem_cons, forall_eq_or_imp, List.length_cons] at hi hl
   split <;> first | exact Fine.err h _ | skip
   refine ⟨?_, hm, by simp only [List.length_cons]; omega, h.osz⟩
   simp only [List.mem_cons, forall_eq_or_imp]
   exact ⟨hm _, hi.2⟩
  ·exact hu
 ·unfold p_store
  split
  ·have hi := h.ins
   have hl := h.len
   simp only [List.mem_cons, forall_eq_or_imp, List.length_cons] at hi hl
   split <;> first | exact Fine.err h _ | skip
   refine ⟨hi.2.2, ?_, by dsimp only; omega, h.osz⟩
   intro i; show In (if _ then _ else _); split
   ·exact hi.2.1
   ·exact hm i
  ·exact hu
end
section
open Go.RowKit
abbrev Tok := List UInt8
structure It where
 kind : Nat
 n : Int
 name : Tok
 a : List It
 b : List It
 toks : List Tok
def kIf : Tok := [105, 102]
def kElse : Tok := [101, 108, 115, 101]
def kThen : Tok := [116, 104, 101, 110]
def kBegin : Tok := [98, 101, 103, 105, 110]
def kUntil : Tok := [117, 110, 116, 105, 108]
def kWhile : Tok := [119, 104, 105, 108, 101]
def kRepeat : Tok := [114, 101, 112, 101, 97, 116]
def kDo : Tok := [100, 111]
def kLoop : Tok := [108, 111, 111, 112]
def kI : Tok := [105]
def kRecurse : Tok := [114, 101, 99, 117, 114, 115, 101]
def kExit : Tok := [101, 120, 105, 116]
def kColon : Tok := [58]
def kSemi : Tok := [59]
def kOpen : Tok := [123]
def kClose : Tok := [125]
def pBraces : List Tok → Except Int (List Tok × List Tok)
 | [] => .error 4
 | t :: r => if t = kOpen then .error 4 else if t = kClose then .ok ([], r) else
  match pBraces r with
  | .error e => .error e
  | .ok (ts, r') => .ok (t :: ts, r')
def formD (t : Tok) : Bool := keptL.any (· == t) || t == kColon || t == kSemi || t == kClose
def pOne (known : Tok → Bool) (loops : Nat) (t : Tok) : Except Int It :=
 match numP t with
 | some n => .ok ⟨110, n, [], [], [], []⟩
 | none => if plainL.any (· == t) = true then .ok ⟨112, 0, t, [], [], []⟩
  else if t = kI ∧ 0 < loops then .ok ⟨105, 0, [], [], [], []⟩ else if t = kRecurse then .ok ⟨114, 0, [], [], [], []⟩ else if t = kExit then .ok ⟨120, 0, [], [], [], []⟩
  else if formD t = true then .error 4 else if known t = true then .ok ⟨99, 0, t, [], [], []⟩ else .error 3
structure PJ where
 item : Bool
 loops : Nat
 ends : List Tok
 t : Tok
def pRead (known : Tok → Bool) : Nat → PJ → List Tok → Option (Except Int (List It × Tok × List Tok))
 | 0, _, _ => none
 | g + 1, j, r =>
  if j.item = false then
   match r with
   | [] => some (.error 4)
   | t :: r1 => if j.ends.any (· == t) = true then some (.ok ([], t, r1)) else
    match pRead known g ⟨true, j.loops, [], t⟩ r1 with
    | none => none
    | some (.error e) => some (.error e)
    | some (.ok (xs, _, r2)) => match pRead known g j r2 with
     | none => none
     | some (.error e) => some (.error e)
     | some (.ok (ys, t', r3)) => some (.ok (xs ++ ys, t', r3))
  else if j.t = kIf then
   match pRead known g ⟨false, j.loops, [kElse, kThen], []⟩ r with
   | none => none
   | some (.error e) => some (.error e)
   | some (.ok (a, t1, r1)) => if t1 = kElse then
     match pRead known g ⟨false, j.loops, [kThen], []⟩ r1 with
     | none => none
     | some (.error e) => some (.error e)
     | some (.ok (b, _, r2)) => some (.ok ([⟨63, 0, [], a, b, []⟩], [], r2))
    else some (.ok ([⟨63, 0, [], a, [], []⟩], [], r1))
  else if j.t = kBegin then
   match pRead known g ⟨false, j.loops, [kUntil, kWhile], []⟩ r with
   | none => none
   | some (.error e) => some (.error e)
   | some (.ok (a, t1, r1)) => if t1 = kWhile then
     match pRead known g ⟨false, j.loops, [kRepeat], []⟩ r1 with
     | none => none
     | some (.error e) => some (.error e)
     | some (.ok (b, _, r2)) => some (.ok ([⟨119, 0, [], a, b, []⟩], [], r2))
    else some (.ok ([⟨117, 0, [], a, [], []⟩], [], r1))
  else if j.t = kDo then
   match pRead known g ⟨false, j.loops + 1, [kLoop], []⟩ r with
   | none => none
   | some (.error e) => some (.error e)
   | some (.ok (a, _, r1)) => some (.ok ([⟨100, 0, [], a, [], []⟩], [], r1))
  else if j.t = kOpen then
   match pBraces r with
   | .error e => some (.error e)
   | .ok (ts, r1) => some (.ok ([⟨123, 0, [], [], [], ts⟩], [], r1))
  else match pOne known j.loops j.t with
   | .error e => some (.error e)
   | .ok x => some (.ok ([x], [], r))
structure Def where
 name : Tok
 id : Int
 body : List It
 count : Int
 fast : Bool
 built : List Tok
structure St where
 rs : List Int
 mem : Nat → Int
 defs : List Def
 ids : Int
 hot : Int
 built : Int
 e : Int
 steps : Int
 depth : Int
 out : ByteArray
def isName (t : Tok) : Bool := decide (1 ≤ t.length ∧ t.length ≤ 8) && t.all (fun c => decide (97 ≤ c.toNat ∧ c.toNat ≤ 122)) && !plainL.any (· == t) && !keptL.any (· == t)
def St.find (s : St) (t : Tok) : Option Nat := s.defs.findIdx? (fun d => d.name == t)
def St.known (s : St) (t : Tok) : Bool := (s.find t).isSome
def St.err (s : St) (e : Int) : St := { s with e := e }
def pDef (g : Nat) (s : St) : List Tok → Option (Except Int (Tok × List It × List Tok))
 | [] => some (.error 4)
 | t :: r => if isName t = false then some (.error 4) else if s.known t = false ∧ 30 ≤ s.defs.length then some (.error 5) else
  match pRead s.known g ⟨false, 0, [kSemi], []⟩ r with
  | none => none
  | some (.error e) => some (.error e)
  | some (.ok (b, _, r1)) => some (.ok (t, b, r1))
def St.step (s : St) : St := if s.steps < 2000 then { s with steps := s.steps + 1 } else { s with e := 12, steps := s.steps + 1 }
def St.put (s : St) (n : Int) : St := if s.rs.length < 32 then { s with rs := n :: s.rs } else { s with e := 7 }
def St.word (s : St) (k : Nat) : St := { s with rs := (plainP k s.rs s.mem s.out).rs, mem := (plainP k s.rs s.mem s.out).mem, out := (plainP k s.rs s.mem s.out).out, e := (plainP k s.rs s.mem s.out).e }
def slowD (d : Def) : Def := { d with fast := false, built := [], count := 0 }
def callsG : Nat → List It → Option (List Tok)
 | 0, _ => none
 | _ + 1, [] => some []
 | g + 1, x :: r => match callsG g x.a, callsG g x.b, callsG g r with
  | some a, some b, some c => some ((if x.kind = 99 then [x.name] else []) ++ a ++ b ++ c)
  | _, _, _ => none
def bodyOf (defs : List Def) (t : Tok) : Option (List It) := (defs.find? (fun d => d.name == t)).map (·.body)
def foldN (f : Tok → Option (List Tok)) : List Tok → Option (List Tok)
 | [] => some []
 | t :: r => match f t, foldN f r with
  | some x, some y => some (t :: x ++ y)
  | _, _ => none
def buildsG (defs : List Def) (g : Nat) : Nat → List It → Option (List Tok)
 | 0, _ => some []
 | n + 1, l => match callsG g l with
  | none => none
  | some names => foldN (fun t => match bodyOf defs t with
   | none => none
   | some b => buildsG defs g n b) names
def St.set (s : St) (t : Tok) (b : List It) : St :=
 { s with ids := wrap64 (s.ids + 1), defs := match s.find t with
   | some k => (s.defs.map fun d => if d.fast = true ∧ d.built.any (· == t) = true then slowD d else d).set k ⟨t, wrap64 (s.ids + 1), b, 0, false, []⟩
   | none => (s.defs.map fun d => if d.fast = true ∧ d.built.any (· == t) = true then slowD d else d) ++ [⟨t, wrap64 (s.ids + 1), b, 0, false, []⟩] }
def St.count (g : Nat) (s : St) (k : Nat) : Option St :=
 match s.defs[k]? with
 | none => none
 | some d => if d.fast = true then some s else if wrap64 (d.count + 1) < s.hot then some { s with defs := s.defs.set k { d with count := wrap64 (d.count + 1) } } else
  match buildsG (s.defs.set k { d with count := wrap64 (d.count + 1), fast := true }) g s.built.toNat d.body with
  | none => none
  | some bs => some { s with defs := s.defs.set k { d with count := wrap64 (d.count + 1), fast := true, built := bs } }
structure Fr where
 id : Int
 name : Tok
 body : List It
def St.test (s : St) : St × Bool :=
 if s.step.e = 0 then match s.step.rs with
  | [] => (s.step.err 6, false)
  | a :: r => ({ s.step with rs := r }, decide (a ≠ 0))
 else (s.step, false)
structure XJ where
 what : Nat
 f : Fr
 lp : List Int
 l : List It
 x : It
 n : Int
 m : Int
 ts : List Tok
def it0 : It := ⟨0, 0, [], [], [], []⟩
def fr0 : Fr := ⟨0, [], []⟩
def jBody (f : Fr) (lp : List Int) (l : List It) : XJ := ⟨0, f, lp, l, it0, 0, 0, []⟩
def jItem (f : Fr) (lp : List Int) (x : It) : XJ := ⟨1, f, lp, [], x, 0, 0, []⟩
def jDo (f : Fr) (lp : List Int) (n m : Int) (l : List It) : XJ := ⟨2, f, lp, l, it0, n, m, []⟩
def jEnter (f : Fr) : XJ := ⟨3, f, [], [], it0, 0, 0, []⟩
def jCall (t : Tok) : XJ := ⟨4, fr0, [], [], it0, 0, 0, [t]⟩
def jToks (ts : List Tok) : XJ := ⟨5, fr0, [], [], it0, 0, 0, ts⟩
def xRun : Nat → XJ → St → Option (St × Bool)
 | 0, _, _ => none
 | g + 1, j, s =>
  if j.what = 0 then
   match j.l with
   | [] => some (s, false)
   | x :: l => match xRun g (jItem j.f j.lp x) s with
    | none => none
    | some (s1, left) => if left = true ∨ s1.e ≠ 0 then some (s1, true) else xRun g (jBody j.f j.lp l) s1
  else if j.what = 1 then
   if j.x.kind = 63 then
    if s.test.1.e ≠ 0 then some (s.test.1, true) else if s.test.2 = true then xRun g (jBody j.f j.lp j.x.a) s.test.1 else xRun g (jBody j.f j.lp j.x.b) s.test.1
   else if j.x.kind = 117 then
    match xRun g (jBody j.f j.lp j.x.a) s with
    | none => none
    | some (s1, left) => if left = true then some (s1, true) else
     if s1.test.1.e ≠ 0 then some (s1.test.1, true) else if s1.test.2 = true then some (s1.test.1, false) else xRun g j s1.test.1
   else if j.x.kind = 119 then
    match xRun g (jBody j.f j.lp j.x.a) s with
    | none => none
    | some (s1, left) => if left = true then some (s1, true) else
     if s1.test.1.e ≠ 0 then some (s1.test.1, true) else if s1.test.2 = false then some (s1.test.1, false) else
      match xRun g (jBody j.f j.lp j.x.b) s1.test.1 with
      | none => none
      | some (s3, left3) => if left3 = true then some (s3, true) else xRun g j s3
   else if s.step.e ≠ 0 then some (s.step, true)
   else if j.x.kind = 110 then some (s.step.put j.x.n, decide ((s.step.put j.x.n).e ≠ 0))
   else if j.x.kind = 112 then
    match plainL.findIdx? (· == j.x.name) with
    | none => none
    | some k => some (s.step.word k, decide ((s.step.word k).e ≠ 0))
   else if j.x.kind = 105 then
    match j.lp with
    | [] => none
    | i :: _ => some (s.step.put i, decide ((s.step.put i).e ≠ 0))
   else if j.x.kind = 120 then some (s.step, true)
   else if j.x.kind = 114 then
    match xRun g (jEnter j.f) s.step with
    | none => none
    | some (s2, _) => some (s2, decide (s2.e ≠ 0))
   else if j.x.kind = 99 then
    match xRun g (jCall j.x.name) s.step with
    | none => none
    | some (s2, _) => some (s2, decide (s2.e ≠ 0))
   else if j.x.kind = 123 then
    if 20 ≤ s.step.depth then some (s.step.err 8, true) else
    match xRun g (jToks j.x.toks) { s.step with depth := s.step.depth + 1 } with
    | none => none
    | some (s2, _) => some ({ s2 with depth := s2.depth - 1 }, decide (s2.e ≠ 0))
   else if j.x.kind = 100 then
    match s.step.rs with
    | b :: m :: r => xRun g (jDo j.f j.lp b m j.x.a) { s.step with rs := r }
    | _ => some (s.step.err 6, true)
   else none
  else if j.what = 2 then
   if j.n < j.m then
    if s.step.e ≠ 0 then some (s.step, true) else
    match xRun g (jBody j.f (j.n :: j.lp) j.l) s.step with
    | none => none
    | some (s2, left) => if left = true then some (s2, true) else xRun g (jDo j.f j.lp (j.n + 1) j.m j.l) s2
   else some (s, false)
  else if j.what = 3 then
   if 20 ≤ s.depth then some (s.err 8, true) else
   match (match s.find j.f.name with
    | none => some s
    | some k => match s.defs[k]? with
     | none => none
     | some d => if d.id = j.f.id then s.count g k else some s) with
   | none => none
   | some s1 => match xRun g (jBody j.f [] j.f.body) { s1 with depth := s1.depth + 1 } with
    | none => none
    | some (s2, _) => some ({ s2 with depth := s2.depth - 1 }, false)
  else if j.what = 4 then
   match s.defs.find? (fun d => d.name == j.ts.headD []) with
   | none => none
   | some d => xRun g (jEnter ⟨d.id, d.name, d.body⟩) s
  else
   match j.ts with
   | [] => some (s, false)
   | t :: r => if s.e ≠ 0 then some (s, false) else
    if t = kColon then match pDef g s r with
     | none => none
     | some (.error e) => some (s.err e, false)
     | some (.ok (nm, b, r1)) => if s.step.e ≠ 0 then some (s.step, false) else xRun g (jToks r1) (s.step.set nm b)
    else match numP t with
    | some n => if s.step.e ≠ 0 then xRun g (jToks r) s.step else xRun g (jToks r) (s.step.put n)
    | none => match plainL.findIdx? (· == t) with
     | some k => if s.step.e ≠ 0 then xRun g (jToks r) s.step else xRun g (jToks r) (s.step.word k)
     | none => if keptL.any (· == t) || t == kSemi || t == kOpen || t == kClose then xRun g (jToks r) (s.err 4)
      else if s.known t = false then xRun g (jToks r) (s.err 3)
      else if s.step.e ≠ 0 then xRun g (jToks r) s.step else
      match xRun g (jCall t) s.step with
      | none => none
      | some (s2, _) => xRun g (jToks r) s2
def st0 : St := ⟨[], fun _ => 0, [], 0, 5, 1, 0, 0, 0, ⟨#[]⟩⟩
end
end Go.Proofs.YtldifaahmpecfaaGreatDoor
