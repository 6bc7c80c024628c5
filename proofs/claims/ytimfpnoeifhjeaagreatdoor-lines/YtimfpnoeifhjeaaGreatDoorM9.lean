import Derived.Test.YtimfpnoeifhjeaaGreatDoorM8
namespace Go.Proofs.YtimfpnoeifhjeaaGreatDoor
open Go.RowKit

theorem Blk.new1 (w : World) (o : Obj) (c : Array Value) (t : TypeId) : Blk ((w.alloc o).alloc (.cells c t)) (w.heap.size + 1) t c := by
  have := Blk.new (w.alloc o) c t; rw [World.size_alloc] at this; exact this
theorem Blk.new2 (w : World) (o o' : Obj) (c : Array Value) (t : TypeId) : Blk (((w.alloc o).alloc o').alloc (.cells c t)) (w.heap.size + 1 + 1) t c := by
  have := Blk.new ((w.alloc o).alloc o') c t; rw [World.size_alloc, World.size_alloc] at this; exact this

theorem mkFunc (fn : Fn) (first cap : Array Value) (w : World) : (Instr.makeFunc fn first cap).run Tryz.prog w = .ok (.func fn first cap) w := rfl

theorem Blk.step {w w1 : World} {rb fb : Nat} {t : TypeId} {c : Array Value} {s : Value} (h : Blk w fb t c) (hne : fb ≠ rb) (e : w1 = w.setCell ⟨rb, 2, none⟩ s) : Blk w1 fb t c := by subst e; exact h.setOther hne _
theorem MInv.step {w w1 : World} {xb rb : Nat} {m : MS} {ns : List Int} {s : Int} (h : MInv w xb rb m ns) (e : w1 = w.setCell ⟨rb, 2, none⟩ (.int .i64 s)) : MInv w1 xb rb { m with st := s } ns := by subst e; exact (h.setSt s).1

set_option maxRecDepth 1000000 in
set_option maxHeartbeats 800000 in
theorem ac_add (w : World) (xb rb : Nat) (m : MS) (rs : List Int) (h : MInv w xb rb m rs.reverse) (h0 : 0 ≤ m.st) (h1 : m.st < 2000) (_ho : m.out.size ≤ 300) (_hin : ∀ a ∈ rs, In a) :
    Calls Tryz.prog 54 #[.int .i64 2] w fun e w1 => ∃ act, e = .returned act ∧ Calls Tryz.prog 50 #[.pointer (some ⟨rb, 0, none⟩), act] w1 fun e w2 => e = .returned (.int .i64 (p_add m.mem m.out rs).e) ∧ SPost w w2 xb rb m (p_add m.mem m.out rs) := by
  have hmf := mkFunc
  have hrl := h.rblk.lt
  go_enter Tryz.func54, Tryz.ntmps54
  go_wp2
  go_ret
  refine ⟨_, rfl, (stM_96 _ xb rb m rs.reverse _ (p_add m.mem m.out rs) (h.alloc _) h0 h1 fun w1 e1 => ?_).mono fun e w2 hp => ⟨hp.1, SPost.kp ((Kp.refl _ _).alloc _) hp.2⟩⟩
  have hf : Blk w1 w.heap.size 134 #[.func (.func 72) #[] #[]] := (Blk.new w _ _).step (by omega) e1
  have hi := (h.alloc _).step e1
  clear e1
  match rs, hi with
  | [], h => exact un_96 w1 xb rb _ _ _ h (by simp)
  | [_], h => exact un_96 w1 xb rb _ _ _ h (by simp)
  | b :: a :: r, h => exact cp_add w1 xb rb _ _ b a r h hf

set_option maxRecDepth 1000000 in
set_option maxHeartbeats 800000 in
theorem ac_sub (w : World) (xb rb : Nat) (m : MS) (rs : List Int) (h : MInv w xb rb m rs.reverse) (h0 : 0 ≤ m.st) (h1 : m.st < 2000) (_ho : m.out.size ≤ 300) (_hin : ∀ a ∈ rs, In a) :
    Calls Tryz.prog 54 #[.int .i64 3] w fun e w1 => ∃ act, e = .returned act ∧ Calls Tryz.prog 50 #[.pointer (some ⟨rb, 0, none⟩), act] w1 fun e w2 => e = .returned (.int .i64 (p_sub m.mem m.out rs).e) ∧ SPost w w2 xb rb m (p_sub m.mem m.out rs) := by
  have hmf := mkFunc
  have hrl := h.rblk.lt
  go_enter Tryz.func54, Tryz.ntmps54
  go_wp2
  go_ret
  refine ⟨_, rfl, (stM_96 _ xb rb m rs.reverse _ (p_sub m.mem m.out rs) (h.alloc _) h0 h1 fun w1 e1 => ?_).mono fun e w2 hp => ⟨hp.1, SPost.kp ((Kp.refl _ _).alloc _) hp.2⟩⟩
  have hf : Blk w1 w.heap.size 134 #[.func (.func 73) #[] #[]] := (Blk.new w _ _).step (by omega) e1
  have hi := (h.alloc _).step e1
  clear e1
  match rs, hi with
  | [], h => exact un_96 w1 xb rb _ _ _ h (by simp)
  | [_], h => exact un_96 w1 xb rb _ _ _ h (by simp)
  | b :: a :: r, h => exact cp_sub w1 xb rb _ _ b a r h hf

set_option maxRecDepth 1000000 in
set_option maxHeartbeats 800000 in
theorem ac_mul (w : World) (xb rb : Nat) (m : MS) (rs : List Int) (h : MInv w xb rb m rs.reverse) (h0 : 0 ≤ m.st) (h1 : m.st < 2000) (_ho : m.out.size ≤ 300) (_hin : ∀ a ∈ rs, In a) :
    Calls Tryz.prog 54 #[.int .i64 4] w fun e w1 => ∃ act, e = .returned act ∧ Calls Tryz.prog 50 #[.pointer (some ⟨rb, 0, none⟩), act] w1 fun e w2 => e = .returned (.int .i64 (p_mul m.mem m.out rs).e) ∧ SPost w w2 xb rb m (p_mul m.mem m.out rs) := by
  have hmf := mkFunc
  have hrl := h.rblk.lt
  go_enter Tryz.func54, Tryz.ntmps54
  go_wp2
  go_ret
  refine ⟨_, rfl, (stM_96 _ xb rb m rs.reverse _ (p_mul m.mem m.out rs) (h.alloc _) h0 h1 fun w1 e1 => ?_).mono fun e w2 hp => ⟨hp.1, SPost.kp ((Kp.refl _ _).alloc _) hp.2⟩⟩
  have hf : Blk w1 w.heap.size 134 #[.func (.func 74) #[] #[]] := (Blk.new w _ _).step (by omega) e1
  have hi := (h.alloc _).step e1
  clear e1
  match rs, hi with
  | [], h => exact un_96 w1 xb rb _ _ _ h (by simp)
  | [_], h => exact un_96 w1 xb rb _ _ _ h (by simp)
  | b :: a :: r, h => exact cp_mul w1 xb rb _ _ b a r h hf

set_option maxRecDepth 1000000 in
set_option maxHeartbeats 800000 in
theorem ac_quo (w : World) (xb rb : Nat) (m : MS) (rs : List Int) (h : MInv w xb rb m rs.reverse) (h0 : 0 ≤ m.st) (h1 : m.st < 2000) (_ho : m.out.size ≤ 300) (_hin : ∀ a ∈ rs, In a) :
    Calls Tryz.prog 54 #[.int .i64 5] w fun e w1 => ∃ act, e = .returned act ∧ Calls Tryz.prog 50 #[.pointer (some ⟨rb, 0, none⟩), act] w1 fun e w2 => e = .returned (.int .i64 (p_quo m.mem m.out rs).e) ∧ SPost w w2 xb rb m (p_quo m.mem m.out rs) := by
  have hmf := mkFunc
  have hrl := h.rblk.lt
  go_enter Tryz.func54, Tryz.ntmps54
  go_wp2
  go_ret
  refine ⟨_, rfl, (stM_98 _ xb rb m rs.reverse _ (p_quo m.mem m.out rs) (h.alloc _) h0 h1 fun w1 e1 => ?_).mono fun e w2 hp => ⟨hp.1, SPost.kp ((Kp.refl _ _).alloc _) hp.2⟩⟩
  have hf : Blk w1 w.heap.size 134 #[.func (.func 76) #[] #[]] := (Blk.new w _ _).step (by omega) e1
  have hi := (h.alloc _).step e1
  clear e1
  match rs, hi with
  | [], h => exact un_98 w1 xb rb _ _ _ h (by simp)
  | [_], h => exact un_98 w1 xb rb _ _ _ h (by simp)
  | b :: a :: r, h =>
    simp only [p_quo]
    by_cases hb : b = 0
    · subst hb; rw [if_pos rfl]; exact dv_zero w1 xb rb _ _ a r h
    · rw [if_neg hb]; exact dv_quo w1 xb rb _ _ b a r h hf hb

set_option maxRecDepth 1000000 in
set_option maxHeartbeats 800000 in
theorem ac_mod (w : World) (xb rb : Nat) (m : MS) (rs : List Int) (h : MInv w xb rb m rs.reverse) (h0 : 0 ≤ m.st) (h1 : m.st < 2000) (_ho : m.out.size ≤ 300) (_hin : ∀ a ∈ rs, In a) :
    Calls Tryz.prog 54 #[.int .i64 6] w fun e w1 => ∃ act, e = .returned act ∧ Calls Tryz.prog 50 #[.pointer (some ⟨rb, 0, none⟩), act] w1 fun e w2 => e = .returned (.int .i64 (p_mod m.mem m.out rs).e) ∧ SPost w w2 xb rb m (p_mod m.mem m.out rs) := by
  have hmf := mkFunc
  have hrl := h.rblk.lt
  go_enter Tryz.func54, Tryz.ntmps54
  go_wp2
  go_ret
  refine ⟨_, rfl, (stM_98 _ xb rb m rs.reverse _ (p_mod m.mem m.out rs) (h.alloc _) h0 h1 fun w1 e1 => ?_).mono fun e w2 hp => ⟨hp.1, SPost.kp ((Kp.refl _ _).alloc _) hp.2⟩⟩
  have hf : Blk w1 w.heap.size 134 #[.func (.func 77) #[] #[]] := (Blk.new w _ _).step (by omega) e1
  have hi := (h.alloc _).step e1
  clear e1
  match rs, hi with
  | [], h => exact un_98 w1 xb rb _ _ _ h (by simp)
  | [_], h => exact un_98 w1 xb rb _ _ _ h (by simp)
  | b :: a :: r, h =>
    simp only [p_mod]
    by_cases hb : b = 0
    · subst hb; rw [if_pos rfl]; exact dv_zero w1 xb rb _ _ a r h
    · rw [if_neg hb]; exact dv_mod w1 xb rb _ _ b a r h hf hb

set_option maxRecDepth 1000000 in
set_option maxHeartbeats 800000 in
theorem ac_eq (w : World) (xb rb : Nat) (m : MS) (rs : List Int) (h : MInv w xb rb m rs.reverse) (h0 : 0 ≤ m.st) (h1 : m.st < 2000) (_ho : m.out.size ≤ 300) (_hin : ∀ a ∈ rs, In a) :
    Calls Tryz.prog 54 #[.int .i64 7] w fun e w1 => ∃ act, e = .returned act ∧ Calls Tryz.prog 50 #[.pointer (some ⟨rb, 0, none⟩), act] w1 fun e w2 => e = .returned (.int .i64 (p_eq m.mem m.out rs).e) ∧ SPost w w2 xb rb m (p_eq m.mem m.out rs) := by
  have hmf := mkFunc
  have hrl := h.rblk.lt
  go_enter Tryz.func54, Tryz.ntmps54
  go_wp2
  go_ret
  refine ⟨_, rfl, (stM_96 _ xb rb m rs.reverse _ (p_eq m.mem m.out rs) (h.alloc _) h0 h1 fun w1 e1 => ?_).mono fun e w2 hp => ⟨hp.1, SPost.kp ((Kp.refl _ _).alloc _) hp.2⟩⟩
  have hf : Blk w1 w.heap.size 134 #[.func (.func 78) #[] #[]] := (Blk.new w _ _).step (by omega) e1
  have hi := (h.alloc _).step e1
  clear e1
  match rs, hi with
  | [], h => exact un_96 w1 xb rb _ _ _ h (by simp)
  | [_], h => exact un_96 w1 xb rb _ _ _ h (by simp)
  | b :: a :: r, h => exact cp_eq w1 xb rb _ _ b a r h hf

set_option maxRecDepth 1000000 in
set_option maxHeartbeats 800000 in
theorem ac_lt (w : World) (xb rb : Nat) (m : MS) (rs : List Int) (h : MInv w xb rb m rs.reverse) (h0 : 0 ≤ m.st) (h1 : m.st < 2000) (_ho : m.out.size ≤ 300) (_hin : ∀ a ∈ rs, In a) :
    Calls Tryz.prog 54 #[.int .i64 8] w fun e w1 => ∃ act, e = .returned act ∧ Calls Tryz.prog 50 #[.pointer (some ⟨rb, 0, none⟩), act] w1 fun e w2 => e = .returned (.int .i64 (p_lt m.mem m.out rs).e) ∧ SPost w w2 xb rb m (p_lt m.mem m.out rs) := by
  have hmf := mkFunc
  have hrl := h.rblk.lt
  go_enter Tryz.func54, Tryz.ntmps54
  go_wp2
  go_ret
  refine ⟨_, rfl, (stM_96 _ xb rb m rs.reverse _ (p_lt m.mem m.out rs) (h.alloc _) h0 h1 fun w1 e1 => ?_).mono fun e w2 hp => ⟨hp.1, SPost.kp ((Kp.refl _ _).alloc _) hp.2⟩⟩
  have hf : Blk w1 w.heap.size 134 #[.func (.func 80) #[] #[]] := (Blk.new w _ _).step (by omega) e1
  have hi := (h.alloc _).step e1
  clear e1
  match rs, hi with
  | [], h => exact un_96 w1 xb rb _ _ _ h (by simp)
  | [_], h => exact un_96 w1 xb rb _ _ _ h (by simp)
  | b :: a :: r, h => exact cp_lt w1 xb rb _ _ b a r h hf

set_option maxRecDepth 1000000 in
set_option maxHeartbeats 800000 in
theorem ac_dup (w : World) (xb rb : Nat) (m : MS) (rs : List Int) (h : MInv w xb rb m rs.reverse) (h0 : 0 ≤ m.st) (h1 : m.st < 2000) (_ho : m.out.size ≤ 300) (_hin : ∀ a ∈ rs, In a) :
    Calls Tryz.prog 54 #[.int .i64 9] w fun e w1 => ∃ act, e = .returned act ∧ Calls Tryz.prog 50 #[.pointer (some ⟨rb, 0, none⟩), act] w1 fun e w2 => e = .returned (.int .i64 (p_dup m.mem m.out rs).e) ∧ SPost w w2 xb rb m (p_dup m.mem m.out rs) := by
  have hmf := mkFunc
  have hrl := h.rblk.lt
  go_enter Tryz.func54, Tryz.ntmps54
  go_wp2
  go_ret
  refine ⟨_, rfl, (stM_99 _ xb rb m rs.reverse _ _ (p_dup m.mem m.out rs) (((h.alloc _).alloc _).alloc _) h0 h1 fun w1 e1 => ?_).mono fun e w2 hp => ⟨hp.1, SPost.kp ((((Kp.refl _ _).alloc _).alloc _).alloc _) hp.2⟩⟩
  have hc : Blk w1 (w.heap.size + 1) 3 #[.int .i64 ((1 : Nat) : Int)] := Blk.step (by exact ((Blk.new1 w _ _ _).alloc _)) (by omega) e1
  have hpb : Blk w1 (w.heap.size + 1 + 1) 36 #[.slice (some ⟨w.heap.size, 0, none⟩) 2 2] := Blk.step (by exact (Blk.new2 w _ _ _ _)) (by omega) e1
  have hr0 : Blk w1 w.heap.size 3 (placesV [0, 0]).toArray := (((Blk.new w _ _).alloc _).alloc _).step (by omega) e1
  have hpv : w1.ownsRow 0 3 1 (.slice (some ⟨w.heap.size, 0, none⟩) 2 2) 2 (placesV [0, 0]) := ⟨rfl, .inr ⟨w.heap.size, 2, (placesV [0, 0]).toArray, rfl, Nat.zero_le _, hr0, Nat.le_refl _, by decide, rfl, by simp [placesV]⟩⟩
  have hi := (((h.alloc _).alloc _).alloc _).step e1
  clear e1
  match rs, hi with
  | [], h => exact re_under w1 xb rb _ _ _ _ 1 h hc (by simp) (by decide)
  | a :: r, h =>
    have hl := h.len
    simp only [List.length_reverse, List.length_cons] at hl
    refine (reM w1 xb rb _ _ _ r.reverse [a] [0, 0] _ (by simpa using h) (by simp) (by simp) hc hpb hpv (by decide) (by decide)).mono ?_
    rintro e w2 ⟨hp1, hp2⟩
    simp only [p_dup]
    by_cases hr : r.length < 31
    · rw [if_pos hr]; have := hp1 (by simp; omega); simpa [picked] using this
    · rw [if_neg hr]; exact hp2 (by simp; omega)

set_option maxRecDepth 1000000 in
set_option maxHeartbeats 800000 in
theorem ac_drop (w : World) (xb rb : Nat) (m : MS) (rs : List Int) (h : MInv w xb rb m rs.reverse) (h0 : 0 ≤ m.st) (h1 : m.st < 2000) (_ho : m.out.size ≤ 300) (_hin : ∀ a ∈ rs, In a) :
    Calls Tryz.prog 54 #[.int .i64 10] w fun e w1 => ∃ act, e = .returned act ∧ Calls Tryz.prog 50 #[.pointer (some ⟨rb, 0, none⟩), act] w1 fun e w2 => e = .returned (.int .i64 (p_drop m.mem m.out rs).e) ∧ SPost w w2 xb rb m (p_drop m.mem m.out rs) := by
  have hmf := mkFunc
  have hrl := h.rblk.lt
  go_enter Tryz.func54, Tryz.ntmps54
  go_wp2
  go_ret
  refine ⟨_, rfl, (stM_99 _ xb rb m rs.reverse _ _ (p_drop m.mem m.out rs) ((h.alloc _).alloc _) h0 h1 fun w1 e1 => ?_).mono fun e w2 hp => ⟨hp.1, SPost.kp (((Kp.refl _ _).alloc _).alloc _) hp.2⟩⟩
  have hc : Blk w1 (w.heap.size) 3 #[.int .i64 ((1 : Nat) : Int)] := Blk.step (by exact ((Blk.new w _ _).alloc _)) (by omega) e1
  have hpb : Blk w1 (w.heap.size + 1) 36 #[.slice none 0 0] := Blk.step (by exact (Blk.new1 w _ _ _)) (by omega) e1
  have hpv : w1.ownsRow 0 3 1 (.slice none 0 0) 0 (placesV []) := World.ownsRow_nil _ _ _ _
  have hi := ((h.alloc _).alloc _).step e1
  clear e1
  match rs, hi with
  | [], h => exact re_under w1 xb rb _ _ _ _ 1 h hc (by simp) (by decide)
  | a :: r, h =>
    have hl := h.len
    simp only [List.length_reverse, List.length_cons] at hl
    refine (reM w1 xb rb _ _ _ r.reverse [a] [] _ (by simpa using h) (by simp) (by simp) hc hpb hpv (by decide) (by decide)).mono ?_
    rintro e w2 ⟨hp1, _⟩
    have := hp1 (by simp; omega)
    simpa [picked, p_drop] using this

set_option maxRecDepth 1000000 in
set_option maxHeartbeats 800000 in
theorem ac_swap (w : World) (xb rb : Nat) (m : MS) (rs : List Int) (h : MInv w xb rb m rs.reverse) (h0 : 0 ≤ m.st) (h1 : m.st < 2000) (_ho : m.out.size ≤ 300) (_hin : ∀ a ∈ rs, In a) :
    Calls Tryz.prog 54 #[.int .i64 11] w fun e w1 => ∃ act, e = .returned act ∧ Calls Tryz.prog 50 #[.pointer (some ⟨rb, 0, none⟩), act] w1 fun e w2 => e = .returned (.int .i64 (p_swap m.mem m.out rs).e) ∧ SPost w w2 xb rb m (p_swap m.mem m.out rs) := by
  have hmf := mkFunc
  have hrl := h.rblk.lt
  go_enter Tryz.func54, Tryz.ntmps54
  go_wp2
  go_ret
  refine ⟨_, rfl, (stM_99 _ xb rb m rs.reverse _ _ (p_swap m.mem m.out rs) (((h.alloc _).alloc _).alloc _) h0 h1 fun w1 e1 => ?_).mono fun e w2 hp => ⟨hp.1, SPost.kp ((((Kp.refl _ _).alloc _).alloc _).alloc _) hp.2⟩⟩
  have hc : Blk w1 (w.heap.size + 1) 3 #[.int .i64 ((2 : Nat) : Int)] := Blk.step (by exact ((Blk.new1 w _ _ _).alloc _)) (by omega) e1
  have hpb : Blk w1 (w.heap.size + 1 + 1) 36 #[.slice (some ⟨w.heap.size, 0, none⟩) 2 2] := Blk.step (by exact (Blk.new2 w _ _ _ _)) (by omega) e1
  have hr0 : Blk w1 w.heap.size 3 (placesV [1, 0]).toArray := (((Blk.new w _ _).alloc _).alloc _).step (by omega) e1
  have hpv : w1.ownsRow 0 3 1 (.slice (some ⟨w.heap.size, 0, none⟩) 2 2) 2 (placesV [1, 0]) := ⟨rfl, .inr ⟨w.heap.size, 2, (placesV [1, 0]).toArray, rfl, Nat.zero_le _, hr0, Nat.le_refl _, by decide, rfl, by simp [placesV]⟩⟩
  have hi := (((h.alloc _).alloc _).alloc _).step e1
  clear e1
  match rs, hi with
  | [], h => exact re_under w1 xb rb _ _ _ _ 2 h hc (by simp) (by decide)
  | [_], h => exact re_under w1 xb rb _ _ _ _ 2 h hc (by simp) (by decide)
  | b :: a :: r, h =>
    have hl := h.len
    simp only [List.length_reverse, List.length_cons] at hl
    refine (reM w1 xb rb _ _ _ r.reverse [a, b] [1, 0] _ (by simpa using h) (by simp) (by simp) hc hpb hpv (by decide) (by decide)).mono ?_
    rintro e w2 ⟨hp1, _⟩
    have := hp1 (by simp; omega)
    simpa [picked, p_swap] using this

set_option maxRecDepth 1000000 in
set_option maxHeartbeats 800000 in
theorem ac_over (w : World) (xb rb : Nat) (m : MS) (rs : List Int) (h : MInv w xb rb m rs.reverse) (h0 : 0 ≤ m.st) (h1 : m.st < 2000) (_ho : m.out.size ≤ 300) (_hin : ∀ a ∈ rs, In a) :
    Calls Tryz.prog 54 #[.int .i64 12] w fun e w1 => ∃ act, e = .returned act ∧ Calls Tryz.prog 50 #[.pointer (some ⟨rb, 0, none⟩), act] w1 fun e w2 => e = .returned (.int .i64 (p_over m.mem m.out rs).e) ∧ SPost w w2 xb rb m (p_over m.mem m.out rs) := by
  have hmf := mkFunc
  have hrl := h.rblk.lt
  go_enter Tryz.func54, Tryz.ntmps54
  go_wp2
  go_ret
  refine ⟨_, rfl, (stM_99 _ xb rb m rs.reverse _ _ (p_over m.mem m.out rs) (((h.alloc _).alloc _).alloc _) h0 h1 fun w1 e1 => ?_).mono fun e w2 hp => ⟨hp.1, SPost.kp ((((Kp.refl _ _).alloc _).alloc _).alloc _) hp.2⟩⟩
  have hc : Blk w1 (w.heap.size + 1) 3 #[.int .i64 ((2 : Nat) : Int)] := Blk.step (by exact ((Blk.new1 w _ _ _).alloc _)) (by omega) e1
  have hpb : Blk w1 (w.heap.size + 1 + 1) 36 #[.slice (some ⟨w.heap.size, 0, none⟩) 3 3] := Blk.step (by exact (Blk.new2 w _ _ _ _)) (by omega) e1
  have hr0 : Blk w1 w.heap.size 3 (placesV [0, 1, 0]).toArray := (((Blk.new w _ _).alloc _).alloc _).step (by omega) e1
  have hpv : w1.ownsRow 0 3 1 (.slice (some ⟨w.heap.size, 0, none⟩) 3 3) 3 (placesV [0, 1, 0]) := ⟨rfl, .inr ⟨w.heap.size, 3, (placesV [0, 1, 0]).toArray, rfl, Nat.zero_le _, hr0, Nat.le_refl _, by decide, rfl, by simp [placesV]⟩⟩
  have hi := (((h.alloc _).alloc _).alloc _).step e1
  clear e1
  match rs, hi with
  | [], h => exact re_under w1 xb rb _ _ _ _ 2 h hc (by simp) (by decide)
  | [_], h => exact re_under w1 xb rb _ _ _ _ 2 h hc (by simp) (by decide)
  | b :: a :: r, h =>
    have hl := h.len
    simp only [List.length_reverse, List.length_cons] at hl
    refine (reM w1 xb rb _ _ _ r.reverse [a, b] [0, 1, 0] _ (by simpa using h) (by simp) (by simp) hc hpb hpv (by decide) (by decide)).mono ?_
    rintro e w2 ⟨hp1, hp2⟩
    simp only [p_over]
    by_cases hr : r.length < 30
    · rw [if_pos hr]; have := hp1 (by simp; omega); simpa [picked] using this
    · rw [if_neg hr]; exact hp2 (by simp; omega)

set_option maxRecDepth 1000000 in
set_option maxHeartbeats 800000 in
theorem ac_rot (w : World) (xb rb : Nat) (m : MS) (rs : List Int) (h : MInv w xb rb m rs.reverse) (h0 : 0 ≤ m.st) (h1 : m.st < 2000) (_ho : m.out.size ≤ 300) (_hin : ∀ a ∈ rs, In a) :
    Calls Tryz.prog 54 #[.int .i64 13] w fun e w1 => ∃ act, e = .returned act ∧ Calls Tryz.prog 50 #[.pointer (some ⟨rb, 0, none⟩), act] w1 fun e w2 => e = .returned (.int .i64 (p_rot m.mem m.out rs).e) ∧ SPost w w2 xb rb m (p_rot m.mem m.out rs) := by
  have hmf := mkFunc
  have hrl := h.rblk.lt
  go_enter Tryz.func54, Tryz.ntmps54
  go_wp2
  go_ret
  refine ⟨_, rfl, (stM_99 _ xb rb m rs.reverse _ _ (p_rot m.mem m.out rs) (((h.alloc _).alloc _).alloc _) h0 h1 fun w1 e1 => ?_).mono fun e w2 hp => ⟨hp.1, SPost.kp ((((Kp.refl _ _).alloc _).alloc _).alloc _) hp.2⟩⟩
  have hc : Blk w1 (w.heap.size + 1) 3 #[.int .i64 ((3 : Nat) : Int)] := Blk.step (by exact ((Blk.new1 w _ _ _).alloc _)) (by omega) e1
  have hpb : Blk w1 (w.heap.size + 1 + 1) 36 #[.slice (some ⟨w.heap.size, 0, none⟩) 3 3] := Blk.step (by exact (Blk.new2 w _ _ _ _)) (by omega) e1
  have hr0 : Blk w1 w.heap.size 3 (placesV [1, 2, 0]).toArray := (((Blk.new w _ _).alloc _).alloc _).step (by omega) e1
  have hpv : w1.ownsRow 0 3 1 (.slice (some ⟨w.heap.size, 0, none⟩) 3 3) 3 (placesV [1, 2, 0]) := ⟨rfl, .inr ⟨w.heap.size, 3, (placesV [1, 2, 0]).toArray, rfl, Nat.zero_le _, hr0, Nat.le_refl _, by decide, rfl, by simp [placesV]⟩⟩
  have hi := (((h.alloc _).alloc _).alloc _).step e1
  clear e1
  match rs, hi with
  | [], h => exact re_under w1 xb rb _ _ _ _ 3 h hc (by simp) (by decide)
  | [_], h => exact re_under w1 xb rb _ _ _ _ 3 h hc (by simp) (by decide)
  | [_, _], h => exact re_under w1 xb rb _ _ _ _ 3 h hc (by simp) (by decide)
  | c :: b :: a :: r, h =>
    have hl := h.len
    simp only [List.length_reverse, List.length_cons] at hl
    refine (reM w1 xb rb _ _ _ r.reverse [a, b, c] [1, 2, 0] _ (by simpa using h) (by simp) (by simp) hc hpb hpv (by decide) (by decide)).mono ?_
    rintro e w2 ⟨hp1, _⟩
    have := hp1 (by simp; omega)
    simpa [picked, p_rot] using this

set_option maxRecDepth 1000000 in
set_option maxHeartbeats 800000 in
theorem ac_dot (B : Nat) (W : World) (w : World) (xb rb : Nat) (m : MS) (rs : List Int) (h : MInv w xb rb m rs.reverse) (h0 : 0 ≤ m.st) (h1 : m.st < 2000) (ho : m.out.size ≤ 300) (hin : ∀ a ∈ rs, In a) (hS : Safe B W w xb rb m) (hG : Glo B W) :
    Calls Tryz.prog 54 #[.int .i64 14] w fun e w1 => ∃ act, e = .returned act ∧ Calls Tryz.prog 50 #[.pointer (some ⟨rb, 0, none⟩), act] w1 fun e w2 => e = .returned (.int .i64 (p_dot m.mem m.out rs).e) ∧ SPost w w2 xb rb m (p_dot m.mem m.out rs) := by
  have hmf := mkFunc
  have hrl := h.rblk.lt
  go_enter Tryz.func54, Tryz.ntmps54
  go_wp2
  go_ret
  refine ⟨_, rfl, (stM_100 _ xb rb m rs.reverse _ (p_dot m.mem m.out rs) (h.alloc _) h0 h1 fun w1 e1 => ?_).mono fun e w2 hp => ⟨hp.1, SPost.kp ((Kp.refl _ _).alloc _) hp.2⟩⟩
  have hf : Blk w1 w.heap.size 138 #[.func (.func 83) #[] #[]] := (Blk.new w _ _).step (by omega) e1
  have hi := (h.alloc _).step e1
  have hS1 : Safe B W w1 xb rb { m with st := m.st + 1 } := by
    subst e1
    exact (hS.kp ((Kp.refl _ _).alloc _)).to ((h.alloc _).setSt _).2
  clear e1
  match rs, hi, hin with
  | [], h, _ => exact un_100 w1 xb rb _ _ _ h (by simp)
  | a :: r, h, hin =>
    have ha := hin a (by simp)
    exact sh_dot B W w1 xb rb _ _ a r h hf ho ha.1 ha.2 (hS1) hG

set_option maxRecDepth 1000000 in
set_option maxHeartbeats 800000 in
theorem ac_emit (w : World) (xb rb : Nat) (m : MS) (rs : List Int) (h : MInv w xb rb m rs.reverse) (h0 : 0 ≤ m.st) (h1 : m.st < 2000) (ho : m.out.size ≤ 300) (_hin : ∀ a ∈ rs, In a) :
    Calls Tryz.prog 54 #[.int .i64 15] w fun e w1 => ∃ act, e = .returned act ∧ Calls Tryz.prog 50 #[.pointer (some ⟨rb, 0, none⟩), act] w1 fun e w2 => e = .returned (.int .i64 (p_emit m.mem m.out rs).e) ∧ SPost w w2 xb rb m (p_emit m.mem m.out rs) := by
  have hmf := mkFunc
  have hrl := h.rblk.lt
  go_enter Tryz.func54, Tryz.ntmps54
  go_wp2
  go_ret
  refine ⟨_, rfl, (stM_100 _ xb rb m rs.reverse _ (p_emit m.mem m.out rs) (h.alloc _) h0 h1 fun w1 e1 => ?_).mono fun e w2 hp => ⟨hp.1, SPost.kp ((Kp.refl _ _).alloc _) hp.2⟩⟩
  have hf : Blk w1 w.heap.size 138 #[.func (.func 84) #[] #[]] := (Blk.new w _ _).step (by omega) e1
  have hi := (h.alloc _).step e1
  clear e1
  match rs, hi with
  | [], h => exact un_100 w1 xb rb _ _ _ h (by simp)
  | a :: r, h =>
    exact sh_emit w1 xb rb _ _ a r h hf ho

set_option maxRecDepth 1000000 in
set_option maxHeartbeats 800000 in
theorem ac_fetch (w : World) (xb rb : Nat) (m : MS) (rs : List Int) (h : MInv w xb rb m rs.reverse) (h0 : 0 ≤ m.st) (h1 : m.st < 2000) (_ho : m.out.size ≤ 300) (_hin : ∀ a ∈ rs, In a) :
    Calls Tryz.prog 54 #[.int .i64 16] w fun e w1 => ∃ act, e = .returned act ∧ Calls Tryz.prog 50 #[.pointer (some ⟨rb, 0, none⟩), act] w1 fun e w2 => e = .returned (.int .i64 (p_fetch m.mem m.out rs).e) ∧ SPost w w2 xb rb m (p_fetch m.mem m.out rs) := by
  have hmf := mkFunc
  have hrl := h.rblk.lt
  go_enter Tryz.func54, Tryz.ntmps54
  go_wp2
  go_ret
  refine ⟨_, rfl, stM_85 _ xb rb m rs.reverse (p_fetch m.mem m.out rs) h h0 h1 fun w1 e1 => ?_⟩
  have hi := h.step e1
  clear e1
  match rs, hi with
  | [], h => exact un_85 w1 xb rb _ _ h (by simp)
  | a :: r, h =>
    simp only [p_fetch]
    by_cases hr : 0 ≤ a ∧ a < 16
    · rw [if_pos hr]; exact fe_ok w1 xb rb _ a r h hr.1 hr.2
    · rw [if_neg hr]; exact fe_no w1 xb rb _ a r h hr

set_option maxRecDepth 1000000 in
set_option maxHeartbeats 800000 in
theorem ac_store (w : World) (xb rb : Nat) (m : MS) (rs : List Int) (h : MInv w xb rb m rs.reverse) (h0 : 0 ≤ m.st) (h1 : m.st < 2000) (_ho : m.out.size ≤ 300) (_hin : ∀ a ∈ rs, In a) :
    Calls Tryz.prog 54 #[.int .i64 17] w fun e w1 => ∃ act, e = .returned act ∧ Calls Tryz.prog 50 #[.pointer (some ⟨rb, 0, none⟩), act] w1 fun e w2 => e = .returned (.int .i64 (p_store m.mem m.out rs).e) ∧ SPost w w2 xb rb m (p_store m.mem m.out rs) := by
  have hmf := mkFunc
  have hrl := h.rblk.lt
  go_enter Tryz.func54, Tryz.ntmps54
  go_wp2
  go_ret
  refine ⟨_, rfl, stM_86 _ xb rb m rs.reverse (p_store m.mem m.out rs) h h0 h1 fun w1 e1 => ?_⟩
  have hi := h.step e1
  clear e1
  match rs, hi with
  | [], h => exact un_86 w1 xb rb _ _ h (by simp)
  | [_], h => exact un_86 w1 xb rb _ _ h (by simp)
  | b :: a :: r, h =>
    simp only [p_store]
    by_cases hr : 0 ≤ b ∧ b < 16
    · rw [if_pos hr]; exact st_ok w1 xb rb _ b a r h hr.1 hr.2
    · rw [if_neg hr]; exact st_no w1 xb rb _ b a r h hr

end Go.Proofs.YtimfpnoeifhjeaaGreatDoor
