import Derived.Test.YtimfpnoeifhjeaaGreatDoorR2
import Derived.Test.YtimfpnoeifhjeaaGreatDoorA1
namespace Go.Proofs.YtimfpnoeifhjeaaGreatDoor
open Go.RowKit

theorem tk_rev (rs : List Int) (n j : Nat) (h : j < n) (h' : j < rs.length) : tk rs.reverse n j = rs.getD j 0 := by
  unfold tk
  rw [if_pos h]
  simp only [List.length_reverse, List.getD_eq_getElem?_getD]
  rw [List.getElem?_reverse (by omega)]
  congr 2; omega

theorem take_rev (xs r : List Int) : ((xs ++ r).reverse).take ((xs ++ r).reverse.length - xs.length) = r.reverse := by
  simp [List.reverse_append]

set_option maxHeartbeats 400000 in
theorem takeR_under (w : World) (yb : Nat) (s : RS) (ns : List Int) (n : Int) (h : RInv w yb s ns) (hlt : (ns.length : Int) < n) :
    Calls Tryz.prog 62 #[.pointer (some ⟨yb, 0, none⟩), .int .i64 n] w fun e w' => ∃ v, e = .returned (.tuple #[v, .bool false]) ∧ RInv w' yb { s with e := 6 } ns ∧ RTo yb w w' s { s with e := 6 } := by
  have c0 : w.cell? ⟨yb, 0, none⟩ = some s.nv := h.blk.cell rfl
  obtain ⟨ao, cap, hv⟩ : ∃ ao cap, s.nv = .slice ao ns.length cap := by
    rcases h.row.2 with ⟨hv, h0⟩ | ⟨g, cap, _, hv, _⟩
    · exact ⟨none, 0, by rw [hv, h0]⟩
    · exact ⟨some ⟨g, 0, none⟩, cap, hv⟩
  rw [hv] at c0
  have HV : Hid (s.nv = .slice ao ns.length cap) := hv
  clear hv
  have c1 : w.cell? ⟨yb, 21, none⟩ = some (.int .i64 s.e) := h.blk.cell rfl
  have f1 := h.blk.free 21
  have hylt := h.blk.lt
  have hmk : ∀ w, (Instr.makeSlice 36 (.int .i64 3) (.int .i64 3)).run Tryz.prog w = .ok (.slice (some ⟨w.heap.size, 0, none⟩) 3 3) (w.alloc (.cells #[.int .i64 0, .int .i64 0, .int .i64 0] 3)) := fun _ => by kernel_rfl
  go_enter Tryz.func62, Tryz.ntmps62
  go_wp2
  go_ret2
  refine ⟨_, rfl, (h.setE _).alloc _, ⟨((Kp.refl _ _).set (fun _ => .inl rfl) _).alloc _, fun k hk => .inl hk⟩⟩

/-- Taken: the first three, the last one that was laid first; new memory. -/
structure Took (w w' : World) (yb : Nat) (s : RS) (x0 x1 x2 : Int) (r : List Int) (g : Nat) (v' : Value) : Prop where
  blk : Blk w' g 3 #[.int .i64 x0, .int .i64 x1, .int .i64 x2]
  new : w.heap.size ≤ g
  inv : RInv w' yb { s with nv := v' } r.reverse
  to : RTo yb w w' s { s with nv := v' }
  apart : ¬ own v' g

theorem takeR1 (w : World) (yb : Nat) (s : RS) (a : Int) (r : List Int) (h : RInv w yb s (a :: r).reverse) :
    Calls Tryz.prog 62 #[.pointer (some ⟨yb, 0, none⟩), .int .i64 1] w fun e w' => ∃ g v', e = .returned (.tuple #[.slice (some ⟨g, 0, none⟩) 3 3, .bool true]) ∧ Took w w' yb s a 0 0 r g v' := by
  refine (takeR w yb s _ 1 h (by omega) (by omega) (by simp)).mono ?_
  rintro e w' ⟨g, v', rfl, hb, hn, hi, ht, ha⟩
  refine ⟨g, v', rfl, ?_, hn, ?_, ht, ha⟩
  · have := hb; unfold tkArr at this
    rw [tk_rev _ _ _ (by omega) (by simp)] at this; exact this
  · have := take_rev [a] r; simp only [List.cons_append, List.nil_append, List.length_cons, List.length_nil] at this; rw [this] at hi; exact hi

theorem takeR2 (w : World) (yb : Nat) (s : RS) (b a : Int) (r : List Int) (h : RInv w yb s (b :: a :: r).reverse) :
    Calls Tryz.prog 62 #[.pointer (some ⟨yb, 0, none⟩), .int .i64 2] w fun e w' => ∃ g v', e = .returned (.tuple #[.slice (some ⟨g, 0, none⟩) 3 3, .bool true]) ∧ Took w w' yb s b a 0 r g v' := by
  refine (takeR w yb s _ 2 h (by omega) (by omega) (by simp)).mono ?_
  rintro e w' ⟨g, v', rfl, hb, hn, hi, ht, ha⟩
  refine ⟨g, v', rfl, ?_, hn, ?_, ht, ha⟩
  · have := hb; unfold tkArr at this
    rw [tk_rev _ _ _ (by omega) (by simp), tk_rev _ _ _ (by omega) (by simp)] at this; exact this
  · have := take_rev [b, a] r; simp only [List.cons_append, List.nil_append, List.length_cons, List.length_nil] at this; rw [this] at hi; exact hi

theorem takeR3 (w : World) (yb : Nat) (s : RS) (c b a : Int) (r : List Int) (h : RInv w yb s (c :: b :: a :: r).reverse) :
    Calls Tryz.prog 62 #[.pointer (some ⟨yb, 0, none⟩), .int .i64 3] w fun e w' => ∃ g v', e = .returned (.tuple #[.slice (some ⟨g, 0, none⟩) 3 3, .bool true]) ∧ Took w w' yb s c b a r g v' := by
  refine (takeR w yb s _ 3 h (by omega) (by omega) (by simp)).mono ?_
  rintro e w' ⟨g, v', rfl, hb, hn, hi, ht, ha⟩
  refine ⟨g, v', rfl, ?_, hn, ?_, ht, ha⟩
  · have := hb; unfold tkArr at this
    rw [tk_rev _ _ _ (by omega) (by simp), tk_rev _ _ _ (by omega) (by simp), tk_rev _ _ _ (by omega) (by simp)] at this; exact this
  · have := take_rev [c, b, a] r; simp only [List.cons_append, List.nil_append, List.length_cons, List.length_nil] at this; rw [this] at hi; exact hi

theorem layR1 (w : World) (yb : Nat) (s : RS) (r : List Int) (n : Int) (h : RInv w yb s r.reverse) (he : s.e = 0) (hl : r.length < 32) :
    Calls Tryz.prog 45 #[.pointer (some ⟨yb, 0, none⟩), .int .i64 n] w fun e w' => e = .returned (.tuple #[]) ∧ ∃ v', RInv w' yb { s with nv := v' } (n :: r).reverse ∧ RTo yb w w' s { s with nv := v' } := by
  refine (layR_ok w yb s _ n h he (by simpa using hl)).mono ?_
  rintro e w' ⟨rfl, v', hi, ht⟩
  exact ⟨rfl, v', by rw [List.reverse_cons]; exact hi, ht⟩

/-- What a plain word makes of stack (the last number first), cells and what is printed. -/
structure Res where
  e : Int
  rs : List Int
  mem : Nat → Int
  out : ByteArray

structure RPost (w w' : World) (yb : Nat) (s : RS) (R : Res) : Prop where
  ex : ∃ s' ns, RInv w' yb s' ns ∧ RTo yb w w' s s' ∧ s'.e = R.e ∧ s'.mem = R.mem ∧ s'.out = R.out ∧ s'.st = s.st ∧ (R.e = 0 → ns = R.rs.reverse)

end Go.Proofs.YtimfpnoeifhjeaaGreatDoor
