import Derived.Test.YtimfpnoeifhjeaaGreatDoorProg
import Derived.Test.YtimfpnoeifhjeaaGreatDoorB0
import Derived.Deep.QuietTactic
import Derived.BigQuiet
namespace Go.Proofs.YtimfpnoeifhjeaaGreatDoor
open Go.RowKit

/-- What a session of the document's answer holds, as long as nothing is defined. -/
structure RS where
  nv : Value
  mem : Nat → Int
  e : Int
  st : Int
  out : ByteArray

def RS.arr (s : RS) : Array Value := #[s.nv, .int .i64 (s.mem 0), .int .i64 (s.mem 1), .int .i64 (s.mem 2), .int .i64 (s.mem 3), .int .i64 (s.mem 4), .int .i64 (s.mem 5), .int .i64 (s.mem 6), .int .i64 (s.mem 7),
  .int .i64 (s.mem 8), .int .i64 (s.mem 9), .int .i64 (s.mem 10), .int .i64 (s.mem 11), .int .i64 (s.mem 12), .int .i64 (s.mem 13), .int .i64 (s.mem 14), .int .i64 (s.mem 15),
  .slice none 0 0, .int .i64 0, .int .i64 5, .int .i64 1, .int .i64 s.e, .int .i64 s.st, .int .i64 0, .string s.out]

def ints (ns : List Int) : List Value := ns.map (.int .i64)

structure RInv (w : World) (yb : Nat) (s : RS) (ns : List Int) : Prop where
  blk : Blk w yb 51 s.arr
  row : w.ownsRow 0 3 1 s.nv ns.length (ints ns)
  len : ns.length ≤ 32

abbrev RTo (yb : Nat) (w w' : World) (s s' : RS) : Prop := To (fun k => k = yb) w w' (own s.nv) (own s'.nv)

theorem RS.upd (s : RS) (i : Nat) (v : Int) (hi : i < 16) : s.arr.setIfInBounds (1 + i) (.int .i64 v) = { s with mem := fun j => if j = i then v else s.mem j }.arr := by
  have : i = 0 ∨ i = 1 ∨ i = 2 ∨ i = 3 ∨ i = 4 ∨ i = 5 ∨ i = 6 ∨ i = 7 ∨ i = 8 ∨ i = 9 ∨ i = 10 ∨ i = 11 ∨ i = 12 ∨ i = 13 ∨ i = 14 ∨ i = 15 := by omega
  rcases this with h | h | h | h | h | h | h | h | h | h | h | h | h | h | h | h <;> subst h <;> rfl

theorem RS.at (s : RS) (i : Nat) (hi : i < 16) : s.arr[1 + i]? = some (.int .i64 (s.mem i)) := by
  have : i = 0 ∨ i = 1 ∨ i = 2 ∨ i = 3 ∨ i = 4 ∨ i = 5 ∨ i = 6 ∨ i = 7 ∨ i = 8 ∨ i = 9 ∨ i = 10 ∨ i = 11 ∨ i = 12 ∨ i = 13 ∨ i = 14 ∨ i = 15 := by omega
  rcases this with h | h | h | h | h | h | h | h | h | h | h | h | h | h | h | h <;> subst h <;> rfl

/-- One cell of the session is written, none of its row. -/
theorem RInv.setE {w : World} {yb : Nat} {s : RS} {ns : List Int} (h : RInv w yb s ns) (e : Int) : RInv (w.setCell ⟨yb, 21, none⟩ (.int .i64 e)) yb { s with e := e } ns :=
  ⟨h.blk.set 21 _, ownsRow_setCell_other h.row (own_ne h.row h.blk (by decide)) _, h.len⟩
theorem RInv.setSt {w : World} {yb : Nat} {s : RS} {ns : List Int} (h : RInv w yb s ns) (e : Int) : RInv (w.setCell ⟨yb, 22, none⟩ (.int .i64 e)) yb { s with st := e } ns :=
  ⟨h.blk.set 22 _, ownsRow_setCell_other h.row (own_ne h.row h.blk (by decide)) _, h.len⟩
theorem RInv.setOut {w : World} {yb : Nat} {s : RS} {ns : List Int} (h : RInv w yb s ns) (t : ByteArray) : RInv (w.setCell ⟨yb, 24, none⟩ (.string t)) yb { s with out := t } ns :=
  ⟨h.blk.set 24 _, ownsRow_setCell_other h.row (own_ne h.row h.blk (by decide)) _, h.len⟩
theorem RInv.setMem {w : World} {yb : Nat} {s : RS} {ns : List Int} (h : RInv w yb s ns) (i : Nat) (hi : i < 16) (v : Int) : RInv (w.setCell ⟨yb, 1 + i, none⟩ (.int .i64 v)) yb { s with mem := fun j => if j = i then v else s.mem j } ns :=
  ⟨by have := h.blk.set (1 + i) (.int .i64 v); rw [RS.upd s i v hi] at this; exact this, ownsRow_setCell_other h.row (own_ne h.row h.blk (by decide)) _, h.len⟩
theorem RInv.drew {w : World} {yb : Nat} {s : RS} {ns : List Int} (h : RInv w yb s ns) : RInv w.drew yb s ns := ⟨h.blk.drew, h.row, h.len⟩
theorem RInv.alloc {w : World} {yb : Nat} {s : RS} {ns : List Int} (h : RInv w yb s ns) (o : Obj) : RInv (w.alloc o) yb s ns := ⟨h.blk.alloc o, h.row.alloc o, h.len⟩
theorem RTo.set {yb : Nat} {w : World} {s s' : RS} (hnv : s'.nv = s.nv) (o : Nat) (v : Value) : RTo yb w (w.setCell ⟨yb, o, none⟩ v) s s' :=
  ⟨(Kp.refl _ _).set (fun _ => .inl rfl) v, fun k hk => .inl (by rw [hnv] at hk; exact hk)⟩

set_option maxHeartbeats 400000 in
theorem stepR (w : World) (yb : Nat) (s : RS) (ns : List Int) (h : RInv w yb s ns) (he : s.e = 0) (h0 : 0 ≤ s.st) (h1 : s.st < 2000) :
    Calls Tryz.prog 43 #[.pointer (some ⟨yb, 0, none⟩)] w fun e w' => e = .returned (.bool true) ∧ RInv w' yb { s with st := s.st + 1 } ns ∧ RTo yb w w' s { s with st := s.st + 1 } := by
  have c1 : w.cell? ⟨yb, 21, none⟩ = some (.int .i64 0) := h.blk.cell (by rw [← he]; rfl)
  have c2 : w.cell? ⟨yb, 22, none⟩ = some (.int .i64 s.st) := h.blk.cell rfl
  have f2 := h.blk.free 22
  go_enter Tryz.func43, Tryz.ntmps43
  go_wp2
  go_ret
  exact ⟨rfl, h.setSt _, RTo.set rfl _ _⟩

theorem Tryz.info3 : (Tryz.prog.info? 3).map (fun i => (i.zero, i.size, i.bytes)) = some (some (.int .i64 0), 1, 8) := by kernel_rfl

set_option maxHeartbeats 400000 in
theorem layR_full (w : World) (yb : Nat) (s : RS) (ns : List Int) (n : Int) (h : RInv w yb s ns) (he : s.e = 0) (hl : ns.length = 32) :
    Calls Tryz.prog 45 #[.pointer (some ⟨yb, 0, none⟩), .int .i64 n] w fun e w' => e = .returned (.tuple #[]) ∧ RInv w' yb { s with e := 7 } ns ∧ RTo yb w w' s { s with e := 7 } := by
  have c1 : w.cell? ⟨yb, 21, none⟩ = some (.int .i64 0) := h.blk.cell (by rw [← he]; rfl)
  have f1 := h.blk.free 21
  have c0 : w.cell? ⟨yb, 0, none⟩ = some s.nv := h.blk.cell rfl
  obtain ⟨g, cap, hv⟩ : ∃ g cap, s.nv = .slice (some ⟨g, 0, none⟩) 32 cap := by
    rcases h.row.2 with ⟨_, h0⟩ | ⟨g, cap, _, hv, _⟩
    · omega
    · exact ⟨g, cap, by rw [hv, hl]⟩
  rw [hv] at c0
  have HV : Hid (s.nv = .slice (some ⟨g, 0, none⟩) 32 cap) := hv
  clear hv
  go_enter Tryz.func45, Tryz.ntmps45
  go_wp2
  go_end0
  exact ⟨rfl, h.setE _, RTo.set rfl _ _⟩

set_option maxRecDepth 1000000 in
set_option maxHeartbeats 400000 in
theorem layR_ok (w : World) (yb : Nat) (s : RS) (ns : List Int) (n : Int) (h : RInv w yb s ns) (he : s.e = 0) (hl : ns.length < 32) :
    Calls Tryz.prog 45 #[.pointer (some ⟨yb, 0, none⟩), .int .i64 n] w fun e w' => e = .returned (.tuple #[]) ∧ ∃ v', RInv w' yb { s with nv := v' } (ns ++ [n]) ∧ RTo yb w w' s { s with nv := v' } := by
  have c1 : w.cell? ⟨yb, 21, none⟩ = some (.int .i64 0) := h.blk.cell (by rw [← he]; rfl)
  have c0 : w.cell? ⟨yb, 0, none⟩ = some s.nv := h.blk.cell rfl
  obtain ⟨ao, cap, hv⟩ : ∃ ao cap, s.nv = .slice ao ns.length cap := by
    rcases h.row.2 with ⟨hv, h0⟩ | ⟨g, cap, _, hv, _⟩
    · exact ⟨none, 0, by rw [hv, h0]⟩
    · exact ⟨some ⟨g, 0, none⟩, cap, hv⟩
  rw [hv] at c0
  have hr := h.row
  rw [hv] at hr
  have HV : Hid (s.nv = .slice ao ns.length cap) := hv
  clear hv
  obtain ⟨i0, hi, hz0, hz1, hz2⟩ := info_parts Tryz.info3
  go_enter Tryz.func45, Tryz.ntmps45
  go_wp2_with (first
    | (at_builtin; refine wpList_append_to _ rfl _ _ 36 rfl 3 i0 (.int .i64 0) 1 8 Tryz.underlying36 hi hz0 hz1 hz2 rfl (by decide) _ _ _ rfl (hr.alloc _) ⟨w.heap.size, 0, none⟩ 1 1 [.int .i64 n] rfl rfl ?c1 ?c2 ?c3 ?c4 ?_)
    | go_in)
  case c1 => intro j u hj; match j, hj with | 0, hj => simp at hj; subst hj; simp [Addr.add]
  case c2 => intro u hu; simp at hu; subst hu; rfl
  case c3 => unfold maxLen; omega
  case c4 => omega
  intro v' w1 hown hgrow hnx
  obtain ⟨g, cap', rfl⟩ : ∃ g cap', v' = .slice (some ⟨g, 0, none⟩) (ns.length + 1) cap' := by
    rcases hown.2 with ⟨_, h0⟩ | ⟨g, cap', _, hv, _⟩
    · omega
    · exact ⟨g, cap', hv⟩
  have hne : ¬ own (Value.slice ao ns.length cap) yb := by have := own_ne h.row h.blk (by decide); rw [HV.out] at this; exact this
  have hkp : Kp w w1 (fun k => k = yb ∨ own s.nv k) := ((Kp.refl _ _).alloc _).grown hgrow (fun k _ e => .inr (by rw [HV.out]; exact e))
  have hb1 : Blk w1 yb 51 s.arr := (h.blk.alloc _).same (hgrow.block yb (by have := h.blk.lt; simp; omega) (fun e => hne e.symm))
  have k0 : w1.cell? ⟨yb, 0, none⟩ = some s.nv := hb1.cell rfl
  have e0 := hb1.free 0
  rw [HV.out] at k0
  go_wp2
  go_end0
  refine ⟨rfl, _, ⟨hb1.set 0 _, ?_, by simp; omega⟩, ⟨hkp.set (fun _ => .inl rfl) _, fun k hk => ?_⟩⟩
  · have := ownsRow_setCell_other hown (a := ⟨yb, 0, none⟩) (own_ne hown hb1 (by decide)) (.slice (some ⟨g, 0, none⟩) (ns.length + 1) cap')
    simpa [ints] using this
  · rcases hnx k hk with h1 | h1
    · left; rw [HV.out]; exact h1
    · right; omega

set_option maxHeartbeats 400000 in
theorem printR_full (w : World) (yb : Nat) (s : RS) (ns : List Int) (t : ByteArray) (h : RInv w yb s ns) (ho : s.out.size ≤ 300) (ht : t.size ≤ 1000) (hl : 300 < s.out.size + t.size) :
    Calls Tryz.prog 89 #[.pointer (some ⟨yb, 0, none⟩), .string t] w fun e w' => e = .returned (.tuple #[]) ∧ RInv w' yb { s with e := 11 } ns ∧ RTo yb w w' s { s with e := 11 } := by
  have c1 : w.cell? ⟨yb, 24, none⟩ = some (.string s.out) := h.blk.cell rfl
  have c2 : w.cell? ⟨yb, 21, none⟩ = some (.int .i64 s.e) := h.blk.cell rfl
  have f1 := h.blk.free 21
  go_enter Tryz.func89, Tryz.ntmps89
  go_wp2
  refine bodyPost_ret (results_none rfl _ _ _) rfl ?_
  exact ⟨rfl, h.setE _, RTo.set rfl _ _⟩

set_option maxHeartbeats 400000 in
theorem printR_ok (w : World) (yb : Nat) (s : RS) (ns : List Int) (t : ByteArray) (h : RInv w yb s ns) (ho : s.out.size ≤ 300) (ht : t.size ≤ 1000) (hl : s.out.size + t.size ≤ 300) :
    Calls Tryz.prog 89 #[.pointer (some ⟨yb, 0, none⟩), .string t] w fun e w' => e = .returned (.tuple #[]) ∧ RInv w' yb { s with out := s.out ++ t } ns ∧ RTo yb w w' s { s with out := s.out ++ t } := by
  have c1 : w.cell? ⟨yb, 24, none⟩ = some (.string s.out) := h.blk.cell rfl
  have f1 := h.blk.free 24
  go_enter Tryz.func89, Tryz.ntmps89
  go_wp2
  go_end0
  exact ⟨rfl, h.setOut _, RTo.set rfl _ _⟩

end Go.Proofs.YtimfpnoeifhjeaaGreatDoor
