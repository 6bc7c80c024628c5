import Derived.Test.YtimfpnoeifhjeaaGreatDoorProg
import Derived.Test.YtimfpnoeifhjeaaGreatDoorB0
import Derived.Test.YtimfpnoeifhjeaaGreatDoorR1
import Derived.Deep.RegionLaw
import Derived.Laws.OwnMore
import Derived.Lib.UnsafeStr
import Derived.Lib.SmallJoins
namespace Go.Proofs.YtimfpnoeifhjeaaGreatDoor
open Go.RowKit

/-- What a session of the program holds, and the run of a line. -/
structure MS where
  sv : Value
  mem : Nat → Int
  ov : Value
  st : Int
  out : ByteArray

def marr (sv : Value) (mem : Nat → Int) : Array Value := #[sv, .int .i64 (mem 0), .int .i64 (mem 1), .int .i64 (mem 2), .int .i64 (mem 3), .int .i64 (mem 4), .int .i64 (mem 5), .int .i64 (mem 6), .int .i64 (mem 7),
  .int .i64 (mem 8), .int .i64 (mem 9), .int .i64 (mem 10), .int .i64 (mem 11), .int .i64 (mem 12), .int .i64 (mem 13), .int .i64 (mem 14), .int .i64 (mem 15)]
def rarr (xb : Nat) (ov : Value) (st : Int) : Array Value := #[.pointer (some ⟨xb, 0, none⟩), ov, .int .i64 st]

theorem marr_upd (sv : Value) (mem : Nat → Int) (i : Nat) (v : Int) (hi : i < 16) : (marr sv mem).setIfInBounds (1 + i) (.int .i64 v) = marr sv (fun j => if j = i then v else mem j) := by
  have : i = 0 ∨ i = 1 ∨ i = 2 ∨ i = 3 ∨ i = 4 ∨ i = 5 ∨ i = 6 ∨ i = 7 ∨ i = 8 ∨ i = 9 ∨ i = 10 ∨ i = 11 ∨ i = 12 ∨ i = 13 ∨ i = 14 ∨ i = 15 := by omega
  rcases this with h | h | h | h | h | h | h | h | h | h | h | h | h | h | h | h <;> subst h <;> rfl
theorem marr_at (sv : Value) (mem : Nat → Int) (i : Nat) (hi : i < 16) : (marr sv mem)[1 + i]? = some (.int .i64 (mem i)) := by
  have : i = 0 ∨ i = 1 ∨ i = 2 ∨ i = 3 ∨ i = 4 ∨ i = 5 ∨ i = 6 ∨ i = 7 ∨ i = 8 ∨ i = 9 ∨ i = 10 ∨ i = 11 ∨ i = 12 ∨ i = 13 ∨ i = 14 ∨ i = 15 := by omega
  rcases this with h | h | h | h | h | h | h | h | h | h | h | h | h | h | h | h <;> subst h <;> rfl

structure MInv (w : World) (xb rb : Nat) (m : MS) (ns : List Int) : Prop where
  xblk : Blk w xb 62 (marr m.sv m.mem)
  rblk : Blk w rb 92 (rarr xb m.ov m.st)
  srow : w.ownsRow 0 2 1 m.sv ns.length (ints ns)
  orow : w.ownsRow 0 5 1 m.ov m.out.size (Lib.byteCells m.out.data.toList)
  len : ns.length ≤ 32

abbrev MTo (xb rb : Nat) (w w' : World) (m m' : MS) : Prop := To (fun k => k = xb ∨ k = rb) w w' (fun k => own m.sv k ∨ own m.ov k) (fun k => own m'.sv k ∨ own m'.ov k)

theorem MInv.ne {w : World} {xb rb : Nat} {m : MS} {ns : List Int} (h : MInv w xb rb m ns) : xb ≠ rb := by
  rintro rfl; exact absurd (h.xblk.inj h.rblk).1 (by decide)
theorem MInv.kp {w w' : World} {xb rb : Nat} {m : MS} {ns : List Int} (h : MInv w xb rb m ns) (hk : Kp w w' (fun _ => False)) : MInv w' xb rb m ns :=
  ⟨hk.blk h.xblk (by simp), hk.blk h.rblk (by simp), hk.row h.srow (by simp), hk.row h.orow (by simp), h.len⟩
theorem MTo.kp {w w' : World} {xb rb : Nat} {m : MS} (hk : Kp w w' (fun _ => False)) : MTo xb rb w w' m m := ⟨hk.mono (fun _ _ h => h.elim), fun _ h => .inl h⟩
theorem MInv.drew {w : World} {xb rb : Nat} {m : MS} {ns : List Int} (h : MInv w xb rb m ns) : MInv w.drew xb rb m ns := ⟨h.xblk, h.rblk, h.srow, h.orow, h.len⟩
theorem MInv.alloc {w : World} {xb rb : Nat} {m : MS} {ns : List Int} (h : MInv w xb rb m ns) (o : Obj) : MInv (w.alloc o) xb rb m ns := h.kp ((Kp.refl _ _).alloc o)

theorem To.undrew {F : Nat → Prop} {w w' : World} {V V' : Nat → Prop} (h : To F w.drew w' V V') : To F w w' V V' := ⟨⟨h.kp.os, h.kp.tape, h.kp.output, h.kp.size, h.kp.block⟩, h.nx⟩

theorem Tryz.info2 : (Tryz.prog.info? 2).map (fun i => (i.zero, i.size, i.bytes)) = some (some (.int .i64 0), 1, 8) := by kernel_rfl
theorem Tryz.info5 : (Tryz.prog.info? 5).map (fun i => (i.zero, i.size, i.bytes)) = some (some (.int .u8 0), 1, 1) := by kernel_rfl

theorem form_of {w : World} {b e z : Nat} {v : Value} {n : Nat} {xs : List Value} (h : w.ownsRow b e z v n xs) : ∃ ao cap, v = .slice ao n cap := by
  rcases h.2 with ⟨hv, h0⟩ | ⟨g, cap, _, hv, _⟩
  · exact ⟨none, 0, by rw [hv, h0]⟩
  · exact ⟨some ⟨g, 0, none⟩, cap, hv⟩

theorem own_disj2 {w : World} {b b' : Nat} {e e' : TypeId} {z z' : Nat} {v v' : Value} {n n' : Nat} {xs xs' : List Value} (h : w.ownsRow b e z v n xs) (h' : w.ownsRow b' e' z' v' n' xs') (ht : e ≠ e') {k : Nat} (hk : own v k) : ¬ own v' k := by
  intro hk'
  rcases h.2 with ⟨rfl, _⟩ | ⟨g, cap, cur, rfl, _, hgg, _⟩
  · simp [own, Value.ownBlock] at hk
  · rcases h'.2 with ⟨rfl, _⟩ | ⟨g', cap', cur', rfl, _, hgg', _⟩
    · simp [own, Value.ownBlock] at hk'
    · simp [own, Value.ownBlock] at hk hk'
      subst hk; subst hk'
      rw [hgg] at hgg'; injection hgg' with hgg'; injection hgg' with h1 h2; exact ht h2

/-- The stack behind an append. -/
theorem MInv.grown {w w1 : World} {xb rb : Nat} {m : MS} {ns xs : List Int} {v' : Value} (h : MInv w xb rb m ns) (hl : ns.length + xs.length ≤ 32) (hown : w1.ownsRow 0 2 1 v' (ns.length + xs.length) (ints ns ++ ints xs)) (hg : w.grownBy w1 m.sv.ownBlock) (hnx : ∀ k, own v' k → own m.sv k ∨ w.heap.size ≤ k) :
    MInv (w1.setCell ⟨xb, 0, none⟩ v') xb rb { m with sv := v' } (ns ++ xs) ∧ MTo xb rb w (w1.setCell ⟨xb, 0, none⟩ v') m { m with sv := v' } ∧ Blk w1 xb 62 (marr m.sv m.mem) ∧ Blk w1 rb 92 (rarr xb m.ov m.st) := by
  have hx1 : Blk w1 xb 62 (marr m.sv m.mem) := h.xblk.same (hg.block xb h.xblk.lt (fun e => own_ne h.srow h.xblk (by decide) e.symm))
  have hr1 : Blk w1 rb 92 (rarr xb m.ov m.st) := h.rblk.same (hg.block rb h.rblk.lt (fun e => own_ne h.srow h.rblk (by decide) e.symm))
  have ho1 : w1.ownsRow 0 5 1 m.ov m.out.size (Lib.byteCells m.out.data.toList) := h.orow.kept hg (by
    cases hv : m.ov.ownBlock with
    | none => exact .inl rfl
    | some k => right; intro e; exact own_disj2 h.orow h.srow (by decide) hv e.symm)
  refine ⟨⟨hx1.set 0 _, hr1.setOther h.ne.symm _, ?_, ownsRow_setCell_other ho1 (own_ne ho1 hx1 (by decide)) _, by simpa using hl⟩, ⟨?_, ?_⟩, hx1, hr1⟩
  · have := ownsRow_setCell_other hown (a := ⟨xb, 0, none⟩) (own_ne hown hx1 (by decide)) v'
    simpa [ints] using this
  · exact ((Kp.refl _ _).grown hg (fun k _ e => .inr (.inl e))).set (fun _ => .inl (.inl rfl)) _
  · rintro k (hk | hk)
    · rcases hnx k hk with h1 | h1
      · exact .inl (.inl h1)
      · exact .inr h1
    · exact .inl (.inr hk)

set_option maxHeartbeats 400000 in
theorem putM_full (w : World) (xb rb : Nat) (m : MS) (ns : List Int) (ao : Option Addr) (n cap : Nat) (h : MInv w xb rb m ns) (hn : n ≤ 10) (hl : 32 < ns.length + n) :
    Calls Tryz.prog 69 #[.pointer (some ⟨rb, 0, none⟩), .slice ao n cap] w fun e w' => e = .returned (.int .i64 7) ∧ w' = w := by
  obtain ⟨bo, c0, hv⟩ := form_of h.srow
  have k0 : w.cell? ⟨rb, 0, none⟩ = some (.pointer (some ⟨xb, 0, none⟩)) := h.rblk.cell rfl
  have k1 : w.cell? ⟨xb, 0, none⟩ = some m.sv := h.xblk.cell rfl
  rw [hv] at k1
  have hlen := h.len
  clear hv
  go_enter Tryz.func69, Tryz.ntmps69
  go_wp2
  go_ret
  exact ⟨rfl, rfl⟩

set_option maxRecDepth 1000000 in
set_option maxHeartbeats 1000000 in
theorem putM_ok (w : World) (xb rb : Nat) (m : MS) (ns xs : List Int) (g cap : Nat) (h : MInv w xb rb m ns) (hl : ns.length + xs.length ≤ 32) (hnews : ∀ j u, (ints xs)[j]? = some u → w.cell? ((⟨g, 0, none⟩ : Addr).add j) = some u) (hpos : 0 < xs.length) :
    Calls Tryz.prog 69 #[.pointer (some ⟨rb, 0, none⟩), .slice (some ⟨g, 0, none⟩) xs.length cap] w fun e w' => e = .returned (.int .i64 0) ∧ ∃ v', MInv w' xb rb { m with sv := v' } (ns ++ xs) ∧ MTo xb rb w w' m { m with sv := v' } := by
  obtain ⟨bo, c0, hv⟩ := form_of h.srow
  have k0 : w.cell? ⟨rb, 0, none⟩ = some (.pointer (some ⟨xb, 0, none⟩)) := h.rblk.cell rfl
  have k1 : w.cell? ⟨xb, 0, none⟩ = some m.sv := h.xblk.cell rfl
  have f1 := h.xblk.free 0
  have hr := h.srow
  rw [hv] at k1 hr
  have HV : Hid (m.sv = .slice bo ns.length c0) := hv
  clear hv
  have HN : Hid (∀ j u, (ints xs)[j]? = some u → w.cell? ((⟨g, 0, none⟩ : Addr).add j) = some u) := hnews
  clear hnews
  have h1c : ∀ u ∈ ints xs, u.oneCell' = true := by intro u hu; simp only [ints, List.mem_map] at hu; obtain ⟨a, _, rfl⟩ := hu; rfl
  have H1 : Hid (∀ u ∈ ints xs, u.oneCell' = true) := h1c
  clear h1c
  obtain ⟨i0, hi, hz0, hz1, hz2⟩ := info_parts Tryz.info2
  go_enter Tryz.func69, Tryz.ntmps69
  go_wp2
  go_region_law (refine step_append_to _ rfl (.tmp 27) (.tmp 28) 57 rfl 2 i0 (.int .i64 0) 1 8 Tryz.underlying57 hi hz0 hz1 hz2 rfl (by decide) _ _ _ rfl hr ⟨g, 0, none⟩ _ _ (ints xs) rfl (by simp [ints]) HN.out H1.out (by unfold maxLen; omega) (by omega) ?_; intro v' w1 hown hgrow hnx; obtain ⟨g', cap', rfl⟩ := Joins.ownsRow_form hown (by omega); have HG := h.drew.grown hl hown (by rw [HV.out]; exact hgrow) (by rw [HV.out]; exact hnx); have q0 : w1.cell? ⟨rb, 0, none⟩ = some (.pointer (some ⟨xb, 0, none⟩)) := HG.2.2.2.cell rfl; have q1 : w1.cell? ⟨xb, 0, none⟩ = some m.sv := HG.2.2.1.cell rfl; have q2 := HG.2.2.1.free 0)
  all_goals go_wp2
  all_goals go_ret
  all_goals exact ⟨rfl, _, HG.1, HG.2.1.undrew⟩

theorem step_append_nil {P : Program} {w : World} {ops : Array Oper} {o : Oper} {a : Act} {K : Act → World → Prop} {Q : Exit → Act → World → Prop} {E : Prop}
    (hg : o.guard = none) (s x : Operand) (t : TypeId) (ho : o.op = Op.call { callee := Callee.builtin Builtin.append, args := #[s, x], argTypes := #[t, t] })
    (e : TypeId) (i : TypeInfo) (size : Nat) (ht : P.underlying t = some (.slice e)) (hi : P.info? e = some i)
    (v : Value) (n : Nat) (xs : List Value) (hs : a.eval s = v) (hown : w.ownsRow 0 e size v n xs) (hx : a.eval x = .slice none 0 0)
    (h : K (a.put o.dst v) w) : if Region.wanted o (yielded ops a.tmps) = true then Oper.wp P o a w K Q else E := by
  have hw : Region.wanted o (yielded ops a.tmps) = true := by simp [Region.wanted, hg]
  rw [if_pos hw]
  have hrun := run_append_owned_none (P := P) (w := w) 0 t o.type e i size ht hi v n xs hown
  unfold Oper.wp
  simp [execOp, ho, resolve, invoke, builtin, hs, hx, hrun, Result.andThen]
  exact h

theorem MInv.same {w : World} {xb rb : Nat} {m : MS} {ns : List Int} (h : MInv w xb rb m ns) : MInv (w.setCell ⟨xb, 0, none⟩ m.sv) xb rb m ns ∧ MTo xb rb w (w.setCell ⟨xb, 0, none⟩ m.sv) m m :=
  ⟨⟨h.xblk.set 0 _, h.rblk.setOther h.ne.symm _, ownsRow_setCell_other h.srow (own_ne h.srow h.xblk (by decide)) _, ownsRow_setCell_other h.orow (own_ne h.orow h.xblk (by decide)) _, h.len⟩,
   ⟨(Kp.refl _ _).set (fun _ => .inl (.inl rfl)) _, fun _ hk => .inl hk⟩⟩

set_option maxRecDepth 1000000 in
set_option maxHeartbeats 1000000 in
theorem putM_nil (w : World) (xb rb : Nat) (m : MS) (ns : List Int) (h : MInv w xb rb m ns) :
    Calls Tryz.prog 69 #[.pointer (some ⟨rb, 0, none⟩), .slice none 0 0] w fun e w' => e = .returned (.int .i64 0) ∧ MInv w' xb rb m ns ∧ MTo xb rb w w' m m := by
  obtain ⟨bo, c0, hv⟩ := form_of h.srow
  have k0 : w.cell? ⟨rb, 0, none⟩ = some (.pointer (some ⟨xb, 0, none⟩)) := h.rblk.cell rfl
  have k1 : w.cell? ⟨xb, 0, none⟩ = some m.sv := h.xblk.cell rfl
  have f1 := h.xblk.free 0
  have hr := h.srow
  have hlen := h.len
  have HS := h.drew.same
  rw [hv] at k1 hr HS
  have HV : Hid (m.sv = .slice bo ns.length c0) := hv
  clear hv
  obtain ⟨i0, hi, hz0, hz1, hz2⟩ := info_parts Tryz.info2
  go_enter Tryz.func69, Tryz.ntmps69
  go_wp2
  go_region_law (refine step_append_nil rfl (.tmp 27) (.tmp 28) 57 rfl 2 i0 1 Tryz.underlying57 hi _ _ _ rfl hr rfl ?_)
  all_goals go_wp2
  all_goals go_ret
  all_goals exact ⟨rfl, HS.1, HS.2.undrew⟩
end Go.Proofs.YtimfpnoeifhjeaaGreatDoor
