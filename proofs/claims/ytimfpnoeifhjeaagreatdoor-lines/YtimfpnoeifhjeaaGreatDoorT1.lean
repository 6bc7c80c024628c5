import Derived.Test.YtimfpnoeifhjeaaGreatDoorR10
namespace Go.Proofs.YtimfpnoeifhjeaaGreatDoor
open Go.RowKit

def prtP (mem : Nat → Int) (out : ByteArray) (r : List Int) (t : ByteArray) : Res := if 300 < out.size + t.size then ⟨11, [], mem, out⟩ else ⟨0, r, mem, out ++ t⟩
/-- Too few numbers. -/
def under (mem : Nat → Int) (out : ByteArray) : Res := ⟨6, [], mem, out⟩

def p_add (mem : Nat → Int) (out : ByteArray) : List Int → Res
  | b :: a :: r => ⟨0, wrap64 (a + b) :: r, mem, out⟩
  | _ => under mem out
def p_sub (mem : Nat → Int) (out : ByteArray) : List Int → Res
  | b :: a :: r => ⟨0, wrap64 (a - b) :: r, mem, out⟩
  | _ => under mem out
def p_mul (mem : Nat → Int) (out : ByteArray) : List Int → Res
  | b :: a :: r => ⟨0, wrap64 (a * b) :: r, mem, out⟩
  | _ => under mem out
def p_quo (mem : Nat → Int) (out : ByteArray) : List Int → Res
  | b :: a :: r => if b = 0 then ⟨9, [], mem, out⟩ else ⟨0, fdiv a b :: r, mem, out⟩
  | _ => under mem out
def p_mod (mem : Nat → Int) (out : ByteArray) : List Int → Res
  | b :: a :: r => if b = 0 then ⟨9, [], mem, out⟩ else ⟨0, wrap64 (a - wrap64 (b * fdiv a b)) :: r, mem, out⟩
  | _ => under mem out
def p_eq (mem : Nat → Int) (out : ByteArray) : List Int → Res
  | b :: a :: r => ⟨0, sonum (a == b) :: r, mem, out⟩
  | _ => under mem out
def p_lt (mem : Nat → Int) (out : ByteArray) : List Int → Res
  | b :: a :: r => ⟨0, sonum (decide (a < b)) :: r, mem, out⟩
  | _ => under mem out
def p_dup (mem : Nat → Int) (out : ByteArray) : List Int → Res
  | a :: r => if r.length < 31 then ⟨0, a :: a :: r, mem, out⟩ else ⟨7, [], mem, out⟩
  | _ => under mem out
def p_drop (mem : Nat → Int) (out : ByteArray) : List Int → Res
  | _ :: r => ⟨0, r, mem, out⟩
  | _ => under mem out
def p_swap (mem : Nat → Int) (out : ByteArray) : List Int → Res
  | b :: a :: r => ⟨0, a :: b :: r, mem, out⟩
  | _ => under mem out
def p_over (mem : Nat → Int) (out : ByteArray) : List Int → Res
  | b :: a :: r => if r.length < 30 then ⟨0, a :: b :: a :: r, mem, out⟩ else ⟨7, [], mem, out⟩
  | _ => under mem out
def p_rot (mem : Nat → Int) (out : ByteArray) : List Int → Res
  | c :: b :: a :: r => ⟨0, a :: c :: b :: r, mem, out⟩
  | _ => under mem out
def p_dot (mem : Nat → Int) (out : ByteArray) : List Int → Res
  | a :: r => prtP mem out r (dot a)
  | _ => under mem out
def p_emit (mem : Nat → Int) (out : ByteArray) : List Int → Res
  | a :: r => prtP mem out r (chR a)
  | _ => under mem out
def p_fetch (mem : Nat → Int) (out : ByteArray) : List Int → Res
  | a :: r => if 0 ≤ a ∧ a < 16 then ⟨0, mem a.toNat :: r, mem, out⟩ else ⟨10, [], mem, out⟩
  | _ => under mem out
def p_store (mem : Nat → Int) (out : ByteArray) : List Int → Res
  | b :: a :: r => if 0 ≤ b ∧ b < 16 then ⟨0, r, fun j => if j = b.toNat then a else mem j, out⟩ else ⟨10, [], mem, out⟩
  | _ => under mem out
/-- What the plain word number k does. -/
def plainP (k : Nat) (rs : List Int) (mem : Nat → Int) (out : ByteArray) : Res :=
  match k with
  | 0 => p_add mem out rs
  | 1 => p_sub mem out rs
  | 2 => p_mul mem out rs
  | 3 => p_quo mem out rs
  | 4 => p_mod mem out rs
  | 5 => p_eq mem out rs
  | 6 => p_lt mem out rs
  | 7 => p_dup mem out rs
  | 8 => p_drop mem out rs
  | 9 => p_swap mem out rs
  | 10 => p_over mem out rs
  | 11 => p_rot mem out rs
  | 12 => p_dot mem out rs
  | 13 => p_emit mem out rs
  | 14 => p_fetch mem out rs
  | _ => p_store mem out rs

def In (a : Int) : Prop := -9223372036854775808 ≤ a ∧ a ≤ 9223372036854775807

theorem plA_add (w : World) (yb : Nat) (s : RS) (rs : List Int) (h : RInv w yb s rs.reverse) (he : s.e = 0) (_ho : s.out.size ≤ 300) (hin : ∀ a ∈ rs, In a) :
    Calls Tryz.prog 46 #[.pointer (some ⟨yb, 0, none⟩), .string { data := #[43] }] w fun e w' => e = .returned (.tuple #[]) ∧ RPost w w' yb s (p_add s.mem s.out rs) := by
  match rs, h, hin with
  | [], h, _ => exact plR_add_under w yb s _ h (by simp)
  | [_], h, _ => exact plR_add_under w yb s _ h (by simp)
  | b :: a :: r, h, _ => exact plR_add w yb s b a r h he

theorem plA_sub (w : World) (yb : Nat) (s : RS) (rs : List Int) (h : RInv w yb s rs.reverse) (he : s.e = 0) (_ho : s.out.size ≤ 300) (hin : ∀ a ∈ rs, In a) :
    Calls Tryz.prog 46 #[.pointer (some ⟨yb, 0, none⟩), .string { data := #[45] }] w fun e w' => e = .returned (.tuple #[]) ∧ RPost w w' yb s (p_sub s.mem s.out rs) := by
  match rs, h, hin with
  | [], h, _ => exact plR_sub_under w yb s _ h (by simp)
  | [_], h, _ => exact plR_sub_under w yb s _ h (by simp)
  | b :: a :: r, h, _ => exact plR_sub w yb s b a r h he

theorem plA_mul (w : World) (yb : Nat) (s : RS) (rs : List Int) (h : RInv w yb s rs.reverse) (he : s.e = 0) (_ho : s.out.size ≤ 300) (hin : ∀ a ∈ rs, In a) :
    Calls Tryz.prog 46 #[.pointer (some ⟨yb, 0, none⟩), .string { data := #[42] }] w fun e w' => e = .returned (.tuple #[]) ∧ RPost w w' yb s (p_mul s.mem s.out rs) := by
  match rs, h, hin with
  | [], h, _ => exact plR_mul_under w yb s _ h (by simp)
  | [_], h, _ => exact plR_mul_under w yb s _ h (by simp)
  | b :: a :: r, h, _ => exact plR_mul w yb s b a r h he

theorem plA_quo (w : World) (yb : Nat) (s : RS) (rs : List Int) (h : RInv w yb s rs.reverse) (he : s.e = 0) (_ho : s.out.size ≤ 300) (hin : ∀ a ∈ rs, In a) :
    Calls Tryz.prog 46 #[.pointer (some ⟨yb, 0, none⟩), .string { data := #[47] }] w fun e w' => e = .returned (.tuple #[]) ∧ RPost w w' yb s (p_quo s.mem s.out rs) := by
  match rs, h, hin with
  | [], h, _ => exact plR_quo_under w yb s _ h (by simp)
  | [_], h, _ => exact plR_quo_under w yb s _ h (by simp)
  | b :: a :: r, h, _ => 
    simp only [p_quo]
    by_cases hb : b = 0
    · subst hb; rw [if_pos rfl]; exact plR_quo_zero w yb s a r h he
    · rw [if_neg hb]; exact plR_quo w yb s b a r h he hb

theorem plA_mod (w : World) (yb : Nat) (s : RS) (rs : List Int) (h : RInv w yb s rs.reverse) (he : s.e = 0) (_ho : s.out.size ≤ 300) (hin : ∀ a ∈ rs, In a) :
    Calls Tryz.prog 46 #[.pointer (some ⟨yb, 0, none⟩), .string { data := #[109, 111, 100] }] w fun e w' => e = .returned (.tuple #[]) ∧ RPost w w' yb s (p_mod s.mem s.out rs) := by
  match rs, h, hin with
  | [], h, _ => exact plR_mod_under w yb s _ h (by simp)
  | [_], h, _ => exact plR_mod_under w yb s _ h (by simp)
  | b :: a :: r, h, _ => 
    simp only [p_mod]
    by_cases hb : b = 0
    · subst hb; rw [if_pos rfl]; exact plR_mod_zero w yb s a r h he
    · rw [if_neg hb]; exact plR_mod w yb s b a r h he hb

theorem plA_eq (w : World) (yb : Nat) (s : RS) (rs : List Int) (h : RInv w yb s rs.reverse) (he : s.e = 0) (_ho : s.out.size ≤ 300) (hin : ∀ a ∈ rs, In a) :
    Calls Tryz.prog 46 #[.pointer (some ⟨yb, 0, none⟩), .string { data := #[61] }] w fun e w' => e = .returned (.tuple #[]) ∧ RPost w w' yb s (p_eq s.mem s.out rs) := by
  match rs, h, hin with
  | [], h, _ => exact plR_eq_under w yb s _ h (by simp)
  | [_], h, _ => exact plR_eq_under w yb s _ h (by simp)
  | b :: a :: r, h, _ => exact plR_eq w yb s b a r h he

theorem plA_lt (w : World) (yb : Nat) (s : RS) (rs : List Int) (h : RInv w yb s rs.reverse) (he : s.e = 0) (_ho : s.out.size ≤ 300) (hin : ∀ a ∈ rs, In a) :
    Calls Tryz.prog 46 #[.pointer (some ⟨yb, 0, none⟩), .string { data := #[60] }] w fun e w' => e = .returned (.tuple #[]) ∧ RPost w w' yb s (p_lt s.mem s.out rs) := by
  match rs, h, hin with
  | [], h, _ => exact plR_lt_under w yb s _ h (by simp)
  | [_], h, _ => exact plR_lt_under w yb s _ h (by simp)
  | b :: a :: r, h, _ => exact plR_lt w yb s b a r h he

theorem plA_dup (w : World) (yb : Nat) (s : RS) (rs : List Int) (h : RInv w yb s rs.reverse) (he : s.e = 0) (_ho : s.out.size ≤ 300) (hin : ∀ a ∈ rs, In a) :
    Calls Tryz.prog 46 #[.pointer (some ⟨yb, 0, none⟩), .string { data := #[100, 117, 112] }] w fun e w' => e = .returned (.tuple #[]) ∧ RPost w w' yb s (p_dup s.mem s.out rs) := by
  match rs, h, hin with
  | [], h, _ => exact plR_dup_under w yb s _ h (by simp)
  | a :: r, h, _ => 
    simp only [p_dup]
    have hl := h.len
    simp only [List.length_reverse, List.length_cons] at hl
    by_cases hr : r.length < 31
    · rw [if_pos hr]; exact plR_dup w yb s a r h he hr
    · rw [if_neg hr]; exact plR_dup_full w yb s a r h he (by omega)

theorem plA_drop (w : World) (yb : Nat) (s : RS) (rs : List Int) (h : RInv w yb s rs.reverse) (he : s.e = 0) (_ho : s.out.size ≤ 300) (hin : ∀ a ∈ rs, In a) :
    Calls Tryz.prog 46 #[.pointer (some ⟨yb, 0, none⟩), .string { data := #[100, 114, 111, 112] }] w fun e w' => e = .returned (.tuple #[]) ∧ RPost w w' yb s (p_drop s.mem s.out rs) := by
  match rs, h, hin with
  | [], h, _ => exact plR_drop_under w yb s _ h (by simp)
  | a :: r, h, _ => exact plR_drop w yb s a r h he

theorem plA_swap (w : World) (yb : Nat) (s : RS) (rs : List Int) (h : RInv w yb s rs.reverse) (he : s.e = 0) (_ho : s.out.size ≤ 300) (hin : ∀ a ∈ rs, In a) :
    Calls Tryz.prog 46 #[.pointer (some ⟨yb, 0, none⟩), .string { data := #[115, 119, 97, 112] }] w fun e w' => e = .returned (.tuple #[]) ∧ RPost w w' yb s (p_swap s.mem s.out rs) := by
  match rs, h, hin with
  | [], h, _ => exact plR_swap_under w yb s _ h (by simp)
  | [_], h, _ => exact plR_swap_under w yb s _ h (by simp)
  | b :: a :: r, h, _ => exact plR_swap w yb s b a r h he

theorem plA_over (w : World) (yb : Nat) (s : RS) (rs : List Int) (h : RInv w yb s rs.reverse) (he : s.e = 0) (_ho : s.out.size ≤ 300) (hin : ∀ a ∈ rs, In a) :
    Calls Tryz.prog 46 #[.pointer (some ⟨yb, 0, none⟩), .string { data := #[111, 118, 101, 114] }] w fun e w' => e = .returned (.tuple #[]) ∧ RPost w w' yb s (p_over s.mem s.out rs) := by
  match rs, h, hin with
  | [], h, _ => exact plR_over_under w yb s _ h (by simp)
  | [_], h, _ => exact plR_over_under w yb s _ h (by simp)
  | b :: a :: r, h, _ => 
    simp only [p_over]
    have hl := h.len
    simp only [List.length_reverse, List.length_cons] at hl
    by_cases hr : r.length < 30
    · rw [if_pos hr]; exact plR_over w yb s b a r h he hr
    · rw [if_neg hr]; exact plR_over_full w yb s b a r h he (by omega)

theorem plA_rot (w : World) (yb : Nat) (s : RS) (rs : List Int) (h : RInv w yb s rs.reverse) (he : s.e = 0) (_ho : s.out.size ≤ 300) (hin : ∀ a ∈ rs, In a) :
    Calls Tryz.prog 46 #[.pointer (some ⟨yb, 0, none⟩), .string { data := #[114, 111, 116] }] w fun e w' => e = .returned (.tuple #[]) ∧ RPost w w' yb s (p_rot s.mem s.out rs) := by
  match rs, h, hin with
  | [], h, _ => exact plR_rot_under w yb s _ h (by simp)
  | [_], h, _ => exact plR_rot_under w yb s _ h (by simp)
  | [_, _], h, _ => exact plR_rot_under w yb s _ h (by simp)
  | c :: b :: a :: r, h, _ => exact plR_rot w yb s c b a r h he

theorem plA_dot (w : World) (yb : Nat) (s : RS) (rs : List Int) (h : RInv w yb s rs.reverse) (he : s.e = 0) (ho : s.out.size ≤ 300) (hin : ∀ a ∈ rs, In a) :
    Calls Tryz.prog 46 #[.pointer (some ⟨yb, 0, none⟩), .string { data := #[46] }] w fun e w' => e = .returned (.tuple #[]) ∧ RPost w w' yb s (p_dot s.mem s.out rs) := by
  match rs, h, hin with
  | [], h, _ => exact plR_dot_under w yb s _ h (by simp)
  | a :: r, h, hin => 
    have ha := hin a (by simp)
    exact plR_dot w yb s a r h he ho ha.1 ha.2

theorem plA_emit (w : World) (yb : Nat) (s : RS) (rs : List Int) (h : RInv w yb s rs.reverse) (he : s.e = 0) (ho : s.out.size ≤ 300) (hin : ∀ a ∈ rs, In a) :
    Calls Tryz.prog 46 #[.pointer (some ⟨yb, 0, none⟩), .string { data := #[101, 109, 105, 116] }] w fun e w' => e = .returned (.tuple #[]) ∧ RPost w w' yb s (p_emit s.mem s.out rs) := by
  match rs, h, hin with
  | [], h, _ => exact plR_emit_under w yb s _ h (by simp)
  | a :: r, h, _ => exact plR_emit w yb s a r h he ho

theorem plA_fetch (w : World) (yb : Nat) (s : RS) (rs : List Int) (h : RInv w yb s rs.reverse) (he : s.e = 0) (_ho : s.out.size ≤ 300) (hin : ∀ a ∈ rs, In a) :
    Calls Tryz.prog 46 #[.pointer (some ⟨yb, 0, none⟩), .string { data := #[64] }] w fun e w' => e = .returned (.tuple #[]) ∧ RPost w w' yb s (p_fetch s.mem s.out rs) := by
  match rs, h, hin with
  | [], h, _ => exact plR_fetch_under w yb s _ h (by simp)
  | a :: r, h, _ => 
    simp only [p_fetch]
    by_cases hr : 0 ≤ a ∧ a < 16
    · rw [if_pos hr]; exact plR_fetch w yb s a r h he hr.1 hr.2
    · rw [if_neg hr]; exact plR_fetch_no w yb s a r h he hr

theorem plA_store (w : World) (yb : Nat) (s : RS) (rs : List Int) (h : RInv w yb s rs.reverse) (he : s.e = 0) (_ho : s.out.size ≤ 300) (hin : ∀ a ∈ rs, In a) :
    Calls Tryz.prog 46 #[.pointer (some ⟨yb, 0, none⟩), .string { data := #[33] }] w fun e w' => e = .returned (.tuple #[]) ∧ RPost w w' yb s (p_store s.mem s.out rs) := by
  match rs, h, hin with
  | [], h, _ => exact plR_store_under w yb s _ h (by simp)
  | [_], h, _ => exact plR_store_under w yb s _ h (by simp)
  | b :: a :: r, h, _ => 
    simp only [p_store]
    by_cases hr : 0 ≤ b ∧ b < 16
    · rw [if_pos hr]; exact plR_store w yb s b a r h he hr.1 hr.2
    · rw [if_neg hr]
      rcases (show b < 0 ∨ (0 ≤ b ∧ 16 ≤ b) by omega) with h1 | ⟨h1, h2⟩
      · exact plR_store_noa w yb s b a r h he h1
      · exact plR_store_nob w yb s b a r h he h1 h2

theorem of_toList {t : ByteArray} {l : List UInt8} (h : t.toList = l) : t = ⟨l.toArray⟩ := by
  rw [ByteArray.toList_eq] at h
  subst h
  apply ByteArray.ext; simp

theorem plainR_all (k : Nat) (t : ByteArray) (hk : plainL[k]? = some t.toList) (w : World) (yb : Nat) (s : RS) (rs : List Int) (h : RInv w yb s rs.reverse) (he : s.e = 0) (ho : s.out.size ≤ 300) (hin : ∀ a ∈ rs, In a) :
    Calls Tryz.prog 46 #[.pointer (some ⟨yb, 0, none⟩), .string t] w fun e w' => e = .returned (.tuple #[]) ∧ RPost w w' yb s (plainP k rs s.mem s.out) := by
  have hlt : k < 16 := by
    rcases Nat.lt_or_ge k 16 with h' | h'
    · exact h'
    · rw [List.getElem?_eq_none (by simpa [plainL] using h')] at hk; cases hk
  have : k = 0 ∨ k = 1 ∨ k = 2 ∨ k = 3 ∨ k = 4 ∨ k = 5 ∨ k = 6 ∨ k = 7 ∨ k = 8 ∨ k = 9 ∨ k = 10 ∨ k = 11 ∨ k = 12 ∨ k = 13 ∨ k = 14 ∨ k = 15 := by omega
  rcases this with rfl | rfl | rfl | rfl | rfl | rfl | rfl | rfl | rfl | rfl | rfl | rfl | rfl | rfl | rfl | rfl
  · have ht := of_toList (Option.some.inj hk).symm; rw [ht]; exact plA_add w yb s rs h he ho hin
  · have ht := of_toList (Option.some.inj hk).symm; rw [ht]; exact plA_sub w yb s rs h he ho hin
  · have ht := of_toList (Option.some.inj hk).symm; rw [ht]; exact plA_mul w yb s rs h he ho hin
  · have ht := of_toList (Option.some.inj hk).symm; rw [ht]; exact plA_quo w yb s rs h he ho hin
  · have ht := of_toList (Option.some.inj hk).symm; rw [ht]; exact plA_mod w yb s rs h he ho hin
  · have ht := of_toList (Option.some.inj hk).symm; rw [ht]; exact plA_eq w yb s rs h he ho hin
  · have ht := of_toList (Option.some.inj hk).symm; rw [ht]; exact plA_lt w yb s rs h he ho hin
  · have ht := of_toList (Option.some.inj hk).symm; rw [ht]; exact plA_dup w yb s rs h he ho hin
  · have ht := of_toList (Option.some.inj hk).symm; rw [ht]; exact plA_drop w yb s rs h he ho hin
  · have ht := of_toList (Option.some.inj hk).symm; rw [ht]; exact plA_swap w yb s rs h he ho hin
  · have ht := of_toList (Option.some.inj hk).symm; rw [ht]; exact plA_over w yb s rs h he ho hin
  · have ht := of_toList (Option.some.inj hk).symm; rw [ht]; exact plA_rot w yb s rs h he ho hin
  · have ht := of_toList (Option.some.inj hk).symm; rw [ht]; exact plA_dot w yb s rs h he ho hin
  · have ht := of_toList (Option.some.inj hk).symm; rw [ht]; exact plA_emit w yb s rs h he ho hin
  · have ht := of_toList (Option.some.inj hk).symm; rw [ht]; exact plA_fetch w yb s rs h he ho hin
  · have ht := of_toList (Option.some.inj hk).symm; rw [ht]; exact plA_store w yb s rs h he ho hin

theorem In_wrap (x : Int) : In (wrap64 x) := by unfold In wrap64; omega
theorem In_so (b : Bool) : In (sonum b) := by cases b <;> simp [sonum, In]
theorem In_fdiv (a b : Int) : In (fdiv a b) := by unfold fdiv; split <;> exact In_wrap _

/-- What holds of stack, cells and print all along. -/
structure Good (rs : List Int) (mem : Nat → Int) (out : ByteArray) : Prop where
  ins : ∀ a ∈ rs, In a
  mems : ∀ i, In (mem i)
  len : rs.length ≤ 32
  osz : out.size ≤ 300


/-- A result that is fine. -/
def Fine (R : Res) : Prop := Good R.rs R.mem R.out
theorem Fine.err {rs : List Int} {mem : Nat → Int} {out : ByteArray} (h : Good rs mem out) (e : Int) : Fine ⟨e, [], mem, out⟩ := ⟨by simp, h.mems, by simp, h.osz⟩
theorem Fine.prt {rs : List Int} {mem : Nat → Int} {out : ByteArray} (h : Good rs mem out) (r : List Int) (t : ByteArray) (hr : ∀ a ∈ r, In a) (hl : r.length ≤ 32) : Fine (prtP mem out r t) := by
  unfold prtP
  split
  · exact Fine.err h 11
  · exact ⟨hr, h.mems, hl, by show (out ++ t).size ≤ 300; rw [ByteArray.size_append]; omega⟩

theorem plain_fine (k : Nat) {rs : List Int} {mem : Nat → Int} {out : ByteArray} (h : Good rs mem out) : Fine (plainP k rs mem out) := by
  have hu : Fine (under mem out) := Fine.err h 6
  have hw := In_wrap
  have hs := In_so
  have hf := In_fdiv
  have hm := h.mems
  unfold plainP
  split
  · unfold p_add
    split
    · have hi := h.ins
      have hl := h.len
      simp only [List.mem_cons, forall_eq_or_imp, List.length_cons] at hi hl
      skip
      refine ⟨?_, hm, by simp only [List.length_cons]; omega, h.osz⟩
      simp only [List.mem_cons, forall_eq_or_imp]
      exact ⟨hw _, hi.2.2⟩
    · exact hu
  · unfold p_sub
    split
    · have hi := h.ins
      have hl := h.len
      simp only [List.mem_cons, forall_eq_or_imp, List.length_cons] at hi hl
      skip
      refine ⟨?_, hm, by simp only [List.length_cons]; omega, h.osz⟩
      simp only [List.mem_cons, forall_eq_or_imp]
      exact ⟨hw _, hi.2.2⟩
    · exact hu
  · unfold p_mul
    split
    · have hi := h.ins
      have hl := h.len
      simp only [List.mem_cons, forall_eq_or_imp, List.length_cons] at hi hl
      skip
      refine ⟨?_, hm, by simp only [List.length_cons]; omega, h.osz⟩
      simp only [List.mem_cons, forall_eq_or_imp]
      exact ⟨hw _, hi.2.2⟩
    · exact hu
  · unfold p_quo
    split
    · have hi := h.ins
      have hl := h.len
      simp only [List.mem_cons, forall_eq_or_imp, List.length_cons] at hi hl
      split <;> first | exact Fine.err h _ | skip
      refine ⟨?_, hm, by simp only [List.length_cons]; omega, h.osz⟩
      simp only [List.mem_cons, forall_eq_or_imp]
      exact ⟨hf _ _, hi.2.2⟩
    · exact hu
  · unfold p_mod
    split
    · have hi := h.ins
      have hl := h.len
      simp only [List.mem_cons, forall_eq_or_imp, List.length_cons] at hi hl
      split <;> first | exact Fine.err h _ | skip
      refine ⟨?_, hm, by simp only [List.length_cons]; omega, h.osz⟩
      simp only [List.mem_cons, forall_eq_or_imp]
      exact ⟨hw _, hi.2.2⟩
    · exact hu
  · unfold p_eq
    split
    · have hi := h.ins
      have hl := h.len
      simp only [List.mem_cons, forall_eq_or_imp, List.length_cons] at hi hl
      skip
      refine ⟨?_, hm, by simp only [List.length_cons]; omega, h.osz⟩
      simp only [List.mem_cons, forall_eq_or_imp]
      exact ⟨hs _, hi.2.2⟩
    · exact hu
  · unfold p_lt
    split
    · have hi := h.ins
      have hl := h.len
      simp only [List.mem_cons, forall_eq_or_imp, List.length_cons] at hi hl
      skip
      refine ⟨?_, hm, by simp only [List.length_cons]; omega, h.osz⟩
      simp only [List.mem_cons, forall_eq_or_imp]
      exact ⟨hs _, hi.2.2⟩
    · exact hu
  · unfold p_dup
    split
    · have hi := h.ins
      have hl := h.len
      simp only [List.mem_cons, forall_eq_or_imp, List.length_cons] at hi hl
      split <;> first | exact Fine.err h _ | skip
      refine ⟨?_, hm, by simp only [List.length_cons]; omega, h.osz⟩
      simp only [List.mem_cons, forall_eq_or_imp]
      exact ⟨hi.1, hi.1, hi.2⟩
    · exact hu
  · unfold p_drop
    split
    · have hi := h.ins
      have hl := h.len
      simp only [List.mem_cons, forall_eq_or_imp, List.length_cons] at hi hl
      skip
      exact ⟨hi.2, hm, by dsimp only; omega, h.osz⟩
    · exact hu
  · unfold p_swap
    split
    · have hi := h.ins
      have hl := h.len
      simp only [List.mem_cons, forall_eq_or_imp, List.length_cons] at hi hl
      skip
      refine ⟨?_, hm, by simp only [List.length_cons]; omega, h.osz⟩
      simp only [List.mem_cons, forall_eq_or_imp]
      exact ⟨hi.2.1, hi.1, hi.2.2⟩
    · exact hu
  · unfold p_over
    split
    · have hi := h.ins
      have hl := h.len
      simp only [List.mem_cons, forall_eq_or_imp, List.length_cons] at hi hl
      split <;> first | exact Fine.err h _ | skip
      refine ⟨?_, hm, by simp only [List.length_cons]; omega, h.osz⟩
      simp only [List.mem_cons, forall_eq_or_imp]
      exact ⟨hi.2.1, hi.1, hi.2.1, hi.2.2⟩
    · exact hu
  · unfold p_rot
    split
    · have hi := h.ins
      have hl := h.len
      simp only [List.mem_cons, forall_eq_or_imp, List.length_cons] at hi hl
      skip
      refine ⟨?_, hm, by simp only [List.length_cons]; omega, h.osz⟩
      simp only [List.mem_cons, forall_eq_or_imp]
      exact ⟨hi.2.2.1, hi.1, hi.2.1, hi.2.2.2⟩
    · exact hu
  · unfold p_dot
    split
    · have hi := h.ins
      have hl := h.len
      simp only [List.mem_cons, forall_eq_or_imp, List.length_cons] at hi hl
      skip
      exact Fine.prt h _ _ hi.2 (by omega)
    · exact hu
  · unfold p_emit
    split
    · have hi := h.ins
      have hl := h.len
      simp only [List.mem_cons, forall_eq_or_imp, List.length_cons] at hi hl
      skip
      exact Fine.prt h _ _ hi.2 (by omega)
    · exact hu
  · unfold p_fetch
    split
    · have hi := h.ins
      have hl := h.len
      simp only [List.mem_cons, forall_eq_or_imp, List.length_cons] at hi hl
      split <;> first | exact Fine.err h _ | skip
      refine ⟨?_, hm, by simp only [List.length_cons]; omega, h.osz⟩
      simp only [List.mem_cons, forall_eq_or_imp]
      exact ⟨hm _, hi.2⟩
    · exact hu
  · unfold p_store
    split
    · have hi := h.ins
      have hl := h.len
      simp only [List.mem_cons, forall_eq_or_imp, List.length_cons] at hi hl
      split <;> first | exact Fine.err h _ | skip
      refine ⟨hi.2.2, ?_, by dsimp only; omega, h.osz⟩
      intro i; show In (if _ then _ else _); split
      · exact hi.2.1
      · exact hm i
    · exact hu
end Go.Proofs.YtimfpnoeifhjeaaGreatDoor
