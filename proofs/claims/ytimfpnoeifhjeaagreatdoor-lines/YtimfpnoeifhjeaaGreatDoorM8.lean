import Derived.Test.YtimfpnoeifhjeaaGreatDoorM7
namespace Go.Proofs.YtimfpnoeifhjeaaGreatDoor
open Go.RowKit

/-- One step, paid for. -/
def SPost (w w' : World) (xb rb : Nat) (m : MS) (R : Res) : Prop :=
  ∃ m' ns, MInv w' xb rb m' ns ∧ MTo xb rb w w' m m' ∧ m'.mem = R.mem ∧ m'.out = R.out ∧ m'.st = m.st + 1 ∧ (R.e = 0 → ns = R.rs.reverse)

theorem MInv.setSt {w : World} {xb rb : Nat} {m : MS} {ns : List Int} (h : MInv w xb rb m ns) (s : Int) :
    MInv (w.setCell ⟨rb, 2, none⟩ (.int .i64 s)) xb rb { m with st := s } ns ∧ MTo xb rb w (w.setCell ⟨rb, 2, none⟩ (.int .i64 s)) m { m with st := s } :=
  ⟨⟨h.xblk.setOther h.ne _, h.rblk.set 2 _, ownsRow_setCell_other h.srow (own_ne h.srow h.rblk (by decide)) _, ownsRow_setCell_other h.orow (own_ne h.orow h.rblk (by decide)) _, h.len⟩,
   ⟨(Kp.refl _ _).set (fun _ => .inl (.inr rfl)) _, fun _ hk => .inl hk⟩⟩

theorem SPost.of {w w1 w2 : World} {xb rb : Nat} {m : MS} {R : Res} (ht : MTo xb rb w w1 m { m with st := m.st + 1 }) (h : MPost w1 w2 xb rb { m with st := m.st + 1 } R) : SPost w w2 xb rb m R := by
  obtain ⟨m', ns, h1, h2, h4, h5, h6, h7⟩ := h
  exact ⟨m', ns, h1, ht.trans h2, h4, h5, h6, h7⟩
theorem SPost.kp {w w1 w2 : World} {xb rb : Nat} {m : MS} {R : Res} (hk : Kp w w1 (fun _ => False)) (h : SPost w1 w2 xb rb m R) : SPost w w2 xb rb m R := by
  obtain ⟨m', ns, h1, h2, h4, h5, h6, h7⟩ := h
  exact ⟨m', ns, h1, (MTo.kp hk).trans h2, h4, h5, h6, h7⟩

set_option maxRecDepth 1000000 in
set_option maxHeartbeats 800000 in
theorem stM_68 (w : World) (xb rb : Nat) (m : MS) (ns : List Int) (p : Value) (R : Res) (h : MInv w xb rb m ns) (h0 : 0 ≤ m.st) (h1 : m.st < 2000)
    (hc : ∀ w1, w1 = w.setCell ⟨rb, 2, none⟩ (.int .i64 (m.st + 1)) → Calls Tryz.prog 68 #[.pointer (some ⟨rb, 0, none⟩), p] w1 fun e w' => e = .returned (.int .i64 R.e) ∧ MPost w1 w' xb rb { m with st := m.st + 1 } R) :
    Calls Tryz.prog 50 #[.pointer (some ⟨rb, 0, none⟩), .func (.func 68) #[] #[p]] w fun e w' => e = .returned (.int .i64 R.e) ∧ SPost w w' xb rb m R := by
  have c1 : w.cell? ⟨rb, 2, none⟩ = some (.int .i64 m.st) := h.rblk.cell rfl
  have f1 := h.rblk.free 2
  have HC := hide (hc _ rfl)
  clear hc
  go_enter Tryz.func50, Tryz.ntmps50
  go_wp2_with fail
  refine HC.out.mono ?_
  rintro e w2 ⟨rfl, hp⟩
  go_wp2
  go_ret
  exact ⟨rfl, SPost.of (h.setSt _).2 hp⟩

set_option maxRecDepth 1000000 in
set_option maxHeartbeats 800000 in
theorem stM_96 (w : World) (xb rb : Nat) (m : MS) (ns : List Int) (p : Value) (R : Res) (h : MInv w xb rb m ns) (h0 : 0 ≤ m.st) (h1 : m.st < 2000)
    (hc : ∀ w1, w1 = w.setCell ⟨rb, 2, none⟩ (.int .i64 (m.st + 1)) → Calls Tryz.prog 96 #[.pointer (some ⟨rb, 0, none⟩), p] w1 fun e w' => e = .returned (.int .i64 R.e) ∧ MPost w1 w' xb rb { m with st := m.st + 1 } R) :
    Calls Tryz.prog 50 #[.pointer (some ⟨rb, 0, none⟩), .func (.func 96) #[] #[p]] w fun e w' => e = .returned (.int .i64 R.e) ∧ SPost w w' xb rb m R := by
  have c1 : w.cell? ⟨rb, 2, none⟩ = some (.int .i64 m.st) := h.rblk.cell rfl
  have f1 := h.rblk.free 2
  have HC := hide (hc _ rfl)
  clear hc
  go_enter Tryz.func50, Tryz.ntmps50
  go_wp2_with fail
  refine HC.out.mono ?_
  rintro e w2 ⟨rfl, hp⟩
  go_wp2
  go_ret
  exact ⟨rfl, SPost.of (h.setSt _).2 hp⟩

set_option maxRecDepth 1000000 in
set_option maxHeartbeats 800000 in
theorem stM_98 (w : World) (xb rb : Nat) (m : MS) (ns : List Int) (p : Value) (R : Res) (h : MInv w xb rb m ns) (h0 : 0 ≤ m.st) (h1 : m.st < 2000)
    (hc : ∀ w1, w1 = w.setCell ⟨rb, 2, none⟩ (.int .i64 (m.st + 1)) → Calls Tryz.prog 98 #[.pointer (some ⟨rb, 0, none⟩), p] w1 fun e w' => e = .returned (.int .i64 R.e) ∧ MPost w1 w' xb rb { m with st := m.st + 1 } R) :
    Calls Tryz.prog 50 #[.pointer (some ⟨rb, 0, none⟩), .func (.func 98) #[] #[p]] w fun e w' => e = .returned (.int .i64 R.e) ∧ SPost w w' xb rb m R := by
  have c1 : w.cell? ⟨rb, 2, none⟩ = some (.int .i64 m.st) := h.rblk.cell rfl
  have f1 := h.rblk.free 2
  have HC := hide (hc _ rfl)
  clear hc
  go_enter Tryz.func50, Tryz.ntmps50
  go_wp2_with fail
  refine HC.out.mono ?_
  rintro e w2 ⟨rfl, hp⟩
  go_wp2
  go_ret
  exact ⟨rfl, SPost.of (h.setSt _).2 hp⟩

set_option maxRecDepth 1000000 in
set_option maxHeartbeats 800000 in
theorem stM_100 (w : World) (xb rb : Nat) (m : MS) (ns : List Int) (p : Value) (R : Res) (h : MInv w xb rb m ns) (h0 : 0 ≤ m.st) (h1 : m.st < 2000)
    (hc : ∀ w1, w1 = w.setCell ⟨rb, 2, none⟩ (.int .i64 (m.st + 1)) → Calls Tryz.prog 100 #[.pointer (some ⟨rb, 0, none⟩), p] w1 fun e w' => e = .returned (.int .i64 R.e) ∧ MPost w1 w' xb rb { m with st := m.st + 1 } R) :
    Calls Tryz.prog 50 #[.pointer (some ⟨rb, 0, none⟩), .func (.func 100) #[] #[p]] w fun e w' => e = .returned (.int .i64 R.e) ∧ SPost w w' xb rb m R := by
  have c1 : w.cell? ⟨rb, 2, none⟩ = some (.int .i64 m.st) := h.rblk.cell rfl
  have f1 := h.rblk.free 2
  have HC := hide (hc _ rfl)
  clear hc
  go_enter Tryz.func50, Tryz.ntmps50
  go_wp2_with fail
  refine HC.out.mono ?_
  rintro e w2 ⟨rfl, hp⟩
  go_wp2
  go_ret
  exact ⟨rfl, SPost.of (h.setSt _).2 hp⟩

set_option maxRecDepth 1000000 in
set_option maxHeartbeats 800000 in
theorem stM_99 (w : World) (xb rb : Nat) (m : MS) (ns : List Int) (p : Value) (q : Value) (R : Res) (h : MInv w xb rb m ns) (h0 : 0 ≤ m.st) (h1 : m.st < 2000)
    (hc : ∀ w1, w1 = w.setCell ⟨rb, 2, none⟩ (.int .i64 (m.st + 1)) → Calls Tryz.prog 99 #[.pointer (some ⟨rb, 0, none⟩), p, q] w1 fun e w' => e = .returned (.int .i64 R.e) ∧ MPost w1 w' xb rb { m with st := m.st + 1 } R) :
    Calls Tryz.prog 50 #[.pointer (some ⟨rb, 0, none⟩), .func (.func 99) #[] #[p, q]] w fun e w' => e = .returned (.int .i64 R.e) ∧ SPost w w' xb rb m R := by
  have c1 : w.cell? ⟨rb, 2, none⟩ = some (.int .i64 m.st) := h.rblk.cell rfl
  have f1 := h.rblk.free 2
  have HC := hide (hc _ rfl)
  clear hc
  go_enter Tryz.func50, Tryz.ntmps50
  go_wp2_with fail
  refine HC.out.mono ?_
  rintro e w2 ⟨rfl, hp⟩
  go_wp2
  go_ret
  exact ⟨rfl, SPost.of (h.setSt _).2 hp⟩

set_option maxRecDepth 1000000 in
set_option maxHeartbeats 800000 in
theorem stM_85 (w : World) (xb rb : Nat) (m : MS) (ns : List Int) (R : Res) (h : MInv w xb rb m ns) (h0 : 0 ≤ m.st) (h1 : m.st < 2000)
    (hc : ∀ w1, w1 = w.setCell ⟨rb, 2, none⟩ (.int .i64 (m.st + 1)) → Calls Tryz.prog 85 #[.pointer (some ⟨rb, 0, none⟩)] w1 fun e w' => e = .returned (.int .i64 R.e) ∧ MPost w1 w' xb rb { m with st := m.st + 1 } R) :
    Calls Tryz.prog 50 #[.pointer (some ⟨rb, 0, none⟩), .func (.func 85) #[] #[]] w fun e w' => e = .returned (.int .i64 R.e) ∧ SPost w w' xb rb m R := by
  have c1 : w.cell? ⟨rb, 2, none⟩ = some (.int .i64 m.st) := h.rblk.cell rfl
  have f1 := h.rblk.free 2
  have HC := hide (hc _ rfl)
  clear hc
  go_enter Tryz.func50, Tryz.ntmps50
  go_wp2_with fail
  refine HC.out.mono ?_
  rintro e w2 ⟨rfl, hp⟩
  go_wp2
  go_ret
  exact ⟨rfl, SPost.of (h.setSt _).2 hp⟩

set_option maxRecDepth 1000000 in
set_option maxHeartbeats 800000 in
theorem stM_86 (w : World) (xb rb : Nat) (m : MS) (ns : List Int) (R : Res) (h : MInv w xb rb m ns) (h0 : 0 ≤ m.st) (h1 : m.st < 2000)
    (hc : ∀ w1, w1 = w.setCell ⟨rb, 2, none⟩ (.int .i64 (m.st + 1)) → Calls Tryz.prog 86 #[.pointer (some ⟨rb, 0, none⟩)] w1 fun e w' => e = .returned (.int .i64 R.e) ∧ MPost w1 w' xb rb { m with st := m.st + 1 } R) :
    Calls Tryz.prog 50 #[.pointer (some ⟨rb, 0, none⟩), .func (.func 86) #[] #[]] w fun e w' => e = .returned (.int .i64 R.e) ∧ SPost w w' xb rb m R := by
  have c1 : w.cell? ⟨rb, 2, none⟩ = some (.int .i64 m.st) := h.rblk.cell rfl
  have f1 := h.rblk.free 2
  have HC := hide (hc _ rfl)
  clear hc
  go_enter Tryz.func50, Tryz.ntmps50
  go_wp2_with fail
  refine HC.out.mono ?_
  rintro e w2 ⟨rfl, hp⟩
  go_wp2
  go_ret
  exact ⟨rfl, SPost.of (h.setSt _).2 hp⟩

set_option maxRecDepth 1000000 in
set_option maxHeartbeats 800000 in
theorem re_under (w : World) (xb rb cb pb : Nat) (m : MS) (ns : List Int) (n : Nat) (h : MInv w xb rb m ns) (hc : Blk w cb 3 #[.int .i64 n]) (hl : ns.length < n) (hn : n ≤ 3) :
    Calls Tryz.prog 99 #[.pointer (some ⟨rb, 0, none⟩), .pointer (some ⟨cb, 0, none⟩), .pointer (some ⟨pb, 0, none⟩)] w fun e w' => e = .returned (.int .i64 6) ∧ MPost w w' xb rb m ⟨6, [], m.mem, m.out⟩ := by
  have c0 : w.cell? ⟨cb, 0, none⟩ = some (.int .i64 n) := hc.cell rfl
  go_enter Tryz.func99, Tryz.ntmps99
  go_wp2_with fail
  refine (takeM_under _ _ _ _ _ _ h (by omega) (by omega)).mono ?_
  rintro e w1 ⟨rfl, hk⟩
  go_wp2
  go_ret
  exact ⟨rfl, MPost.err (MTo.kp (hk.alloc _)) (h.kp (hk.alloc _)) rfl rfl rfl (by decide)⟩

end Go.Proofs.YtimfpnoeifhjeaaGreatDoor
