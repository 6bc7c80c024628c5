import Derived.Test.YtldifaahmpecfaaGreatDoorKJ
import Derived.Test.YtldifaahmpecfaaGreatDoorKA
import Derived.Test.YtldifaahmpecfaaGreatDoorKH
import Derived.Handy
namespace Go.Proofs.YtldifaahmpecfaaGreatDoor
set_option maxRecDepth 1000000
set_option maxHeartbeats 8000000
set_option linter.all false
section
open Go.RowKit
theorem XR.callI {f : Fr} {lp : List Int} {s s1 : St} {t : Tok} {d : Def} (he : s.e = 0) (hs : s.steps < 2000) (hd : s.defs.find? (fun d => d.name == t) = some d) (h1 : XR (jEnter ⟨d.id, d.name, d.body⟩) s.up s1) (he1 : s1.e = 0) : XR (jItem f lp ⟨99, 0, t, [], [], []⟩) s s1 := by
  obtain ⟨g, h1⟩ := h1
  refine ⟨g + 1 + 1, ?_⟩
  rw [x_one (g + 1) f lp s _ (by decide : ¬ (99 : Nat) = 63) (by decide : ¬ (99 : Nat) = 117) (by decide : ¬ (99 : Nat) = 119), step_up hs, if_neg (by show ¬ s.e ≠ 0; simp [he])]
  show (match xRun (g + 1) (jCall t) s.up with
    | none => none
    | some (s2, _) => some (s2, decide (s2.e ≠ 0))) = _
  rw [x_call, show s.up.defs.find? (fun d => d.name == t) = some d from hd]
  dsimp only
  rw [h1]
  dsimp only
  rw [he1]; rfl
def kA : Tok := [97]
def kB : Tok := [98]
def kC : Tok := [99]
def kDot : Tok := [46]
def nIt (v : Int) : It := ⟨110, v, [], [], [], []⟩
def cIt (t : Tok) : It := ⟨99, 0, t, [], [], []⟩
def wIt (t : Tok) : It := ⟨112, 0, t, [], [], []⟩
def cBody : List It := [cIt kB, cIt kB, wIt kPlus]
def LS (mem : Nat → Int) (N ia ib ic va : Int) (Bb : List It) (ca cb cc : Int) (rs : List Int) (steps depth : Int) (out : ByteArray) : St :=
  ⟨rs, mem, [⟨[115, 113], 2, [], 0, false, []⟩, ⟨kA, ia, [nIt va], ca, false, []⟩, ⟨kB, ib, Bb, cb, false, []⟩, ⟨kC, ic, cBody, cc, false, []⟩], N, 1000, 1, 0, steps, depth, out⟩
theorem wrap_small {n : Int} (h0 : -1000000 ≤ n) (h1 : n ≤ 1000000) : wrap64 n = n := by unfold wrap64; omega
section
variable {mem : Nat → Int} {N ia ib ic va x : Int} {Bb : List It} {ca cb cc : Int} {rs : List Int} {steps depth : Int} {out : ByteArray}
theorem comeA (h0 : 0 ≤ ca) (h1 : ca < 900) : xCome 10 ⟨ia, kA, [nIt va]⟩ (LS mem N ia ib ic va Bb ca cb cc rs steps depth out) = some (LS mem N ia ib ic va Bb (ca + 1) cb cc rs steps depth out) := by
  have w := wrap_small (n := ca + 1) (by omega) (by omega)
  simp [xCome, St.find, St.count, List.findIdx?_cons, LS, kA, w]
  omega
theorem comeB (h0 : 0 ≤ cb) (h1 : cb < 900) : xCome 10 ⟨ib, kB, Bb⟩ (LS mem N ia ib ic va Bb ca cb cc rs steps depth out) = some (LS mem N ia ib ic va Bb ca (cb + 1) cc rs steps depth out) := by
  have w := wrap_small (n := cb + 1) (by omega) (by omega)
  simp [xCome, St.find, St.count, List.findIdx?_cons, LS, kA, kB, w]
  omega
theorem comeC (h0 : 0 ≤ cc) (h1 : cc < 900) : xCome 10 ⟨ic, kC, cBody⟩ (LS mem N ia ib ic va Bb ca cb cc rs steps depth out) = some (LS mem N ia ib ic va Bb ca cb (cc + 1) rs steps depth out) := by
  have w := wrap_small (n := cc + 1) (by omega) (by omega)
  simp [xCome, St.find, St.count, List.findIdx?_cons, LS, kA, kB, kC, w]
  omega
theorem enterA (h0 : 0 ≤ ca) (h1 : ca < 900) (hs : steps < 2000) (hd : depth < 20) (hr : rs.length < 32) : XR (jEnter ⟨ia, kA, [nIt va]⟩) (LS mem N ia ib ic va Bb ca cb cc rs steps depth out) (LS mem N ia ib ic va Bb (ca + 1) cb cc (va :: rs) (steps + 1) depth out) := by
  have k1 : XR (jItem ⟨ia, kA, [nIt va]⟩ [] (nIt va)) (LS mem N ia ib ic va Bb (ca + 1) cb cc rs steps (depth + 1) out) (LS mem N ia ib ic va Bb (ca + 1) cb cc (va :: rs) (steps + 1) (depth + 1) out) := XR.num va rfl hs hr
  have k2 := XR.enter (s := LS mem N ia ib ic va Bb ca cb cc rs steps depth out) hd (comeA h0 h1) (XR.cons k1 rfl XR.nil)
  have e : ({ (LS mem N ia ib ic va Bb (ca + 1) cb cc (va :: rs) (steps + 1) (depth + 1) out) with depth := (LS mem N ia ib ic va Bb (ca + 1) cb cc (va :: rs) (steps + 1) (depth + 1) out).depth - 1 } : St) = LS mem N ia ib ic va Bb (ca + 1) cb cc (va :: rs) (steps + 1) depth out := by
    show LS mem N ia ib ic va Bb (ca + 1) cb cc (va :: rs) (steps + 1) (depth + 1 - 1) out = _
    rw [Int.add_sub_cancel]
  rw [e] at k2
  exact k2
end
def BOk (va : Int) (Bb : List It) (x : Int) (sb : Int) : Prop := 0 ≤ sb ∧ sb ≤ 10 ∧ ∀ (mem : Nat → Int) (N ia ib ic ca cb cc : Int) (rs : List Int) (steps depth : Int) (out : ByteArray) (f : Fr) (lp : List Int), 0 ≤ ca → ca < 900 → steps + sb ≤ 2000 → depth < 20 → rs.length + 2 ≤ 32 →
  XR (jBody f lp Bb) (LS mem N ia ib ic va Bb ca cb cc rs steps depth out) (LS mem N ia ib ic va Bb (ca + 1) cb cc (x :: rs) (steps + sb) depth out)
theorem bok1 (va : Int) : BOk va [cIt kA] va 2 := by
  refine ⟨by decide, by decide, fun mem N ia ib ic ca cb cc rs steps depth out f lp h0 h1 hs hd hr => ?_⟩
  have k0 := enterA (mem := mem) (N := N) (ia := ia) (ib := ib) (ic := ic) (va := va) (Bb := [cIt kA]) (ca := ca) (cb := cb) (cc := cc) (rs := rs) (steps := steps + 1) (depth := depth) (out := out) h0 h1 (by omega) hd (by omega)
  have k1 : XR (jItem f lp (cIt kA)) (LS mem N ia ib ic va [cIt kA] ca cb cc rs steps depth out) _ := XR.callI rfl (show steps < 2000 by omega) (d := ⟨kA, ia, [nIt va], ca, false, []⟩) rfl k0 rfl
  rw [show steps + 1 + 1 = steps + 2 by omega] at k1
  exact XR.cons k1 rfl XR.nil
theorem bok2 (va vb : Int) : BOk va [cIt kA, nIt vb, wIt kPlus] (wrap64 (va + vb)) 4 := by
  refine ⟨by decide, by decide, fun mem N ia ib ic ca cb cc rs steps depth out f lp h0 h1 hs hd hr => ?_⟩
  have k0 := enterA (mem := mem) (N := N) (ia := ia) (ib := ib) (ic := ic) (va := va) (Bb := [cIt kA, nIt vb, wIt kPlus]) (ca := ca) (cb := cb) (cc := cc) (rs := rs) (steps := steps + 1) (depth := depth) (out := out) h0 h1 (by omega) hd (by omega)
  have k1 : XR (jItem f lp (cIt kA)) (LS mem N ia ib ic va [cIt kA, nIt vb, wIt kPlus] ca cb cc rs steps depth out) _ := XR.callI rfl (show steps < 2000 by omega) (d := ⟨kA, ia, [nIt va], ca, false, []⟩) rfl k0 rfl
  have k2 : XR (jItem f lp (nIt vb)) (LS mem N ia ib ic va [cIt kA, nIt vb, wIt kPlus] (ca + 1) cb cc (va :: rs) (steps + 1 + 1) depth out) (LS mem N ia ib ic va [cIt kA, nIt vb, wIt kPlus] (ca + 1) cb cc (vb :: va :: rs) (steps + 1 + 1 + 1) depth out) := XR.num vb rfl (show steps + 1 + 1 < 2000 by omega) (show (va :: rs).length < 32 by simp; omega)
  have k3 : XR (jItem f lp (wIt kPlus)) (LS mem N ia ib ic va [cIt kA, nIt vb, wIt kPlus] (ca + 1) cb cc (vb :: va :: rs) (steps + 1 + 1 + 1) depth out) (LS mem N ia ib ic va [cIt kA, nIt vb, wIt kPlus] (ca + 1) cb cc (wrap64 (va + vb) :: rs) (steps + 1 + 1 + 1 + 1) depth out) := XR.word (k := 0) (by decide) rfl (show steps + 1 + 1 + 1 < 2000 by omega) rfl
  have k4 := XR.cons k1 rfl (XR.cons k2 rfl (XR.cons k3 rfl XR.nil))
  rw [show steps + 1 + 1 + 1 + 1 = steps + 4 by omega] at k4
  exact k4
section
variable {mem : Nat → Int} {N ia ib ic va x sb : Int} {Bb : List It} {ca cb cc : Int} {rs : List Int} {steps depth : Int} {out : ByteArray}
theorem enterB (hB : BOk va Bb x sb) (h0 : 0 ≤ ca) (h1 : ca < 900) (h2 : 0 ≤ cb) (h3 : cb < 900) (hs : steps + sb ≤ 2000) (hd : depth < 19) (hr : rs.length + 2 ≤ 32) : XR (jEnter ⟨ib, kB, Bb⟩) (LS mem N ia ib ic va Bb ca cb cc rs steps depth out) (LS mem N ia ib ic va Bb (ca + 1) (cb + 1) cc (x :: rs) (steps + sb) depth out) := by
  have k1 := hB.2.2 mem N ia ib ic ca (cb + 1) cc rs steps (depth + 1) out ⟨ib, kB, Bb⟩ [] h0 h1 hs (by omega) hr
  have k2 := XR.enter (s := LS mem N ia ib ic va Bb ca cb cc rs steps depth out) (f := ⟨ib, kB, Bb⟩) (show depth < 20 by omega) (comeB h2 h3) k1
  have e : ({ (LS mem N ia ib ic va Bb (ca + 1) (cb + 1) cc (x :: rs) (steps + sb) (depth + 1) out) with depth := (LS mem N ia ib ic va Bb (ca + 1) (cb + 1) cc (x :: rs) (steps + sb) (depth + 1) out).depth - 1 } : St) = LS mem N ia ib ic va Bb (ca + 1) (cb + 1) cc (x :: rs) (steps + sb) depth out := by
    show LS mem N ia ib ic va Bb (ca + 1) (cb + 1) cc (x :: rs) (steps + sb) (depth + 1 - 1) out = _
    rw [Int.add_sub_cancel]
  rw [e] at k2
  exact k2
theorem enterC (hB : BOk va Bb x sb) (h0 : 0 ≤ ca) (h1 : ca < 890) (h2 : 0 ≤ cb) (h3 : cb < 890) (h4 : 0 ≤ cc) (h5 : cc < 890) (hs : steps + 30 ≤ 2000) (hd : depth < 18) (hr : rs.length + 3 ≤ 32) : XR (jEnter ⟨ic, kC, cBody⟩) (LS mem N ia ib ic va Bb ca cb cc rs steps depth out) (LS mem N ia ib ic va Bb (ca + 2) (cb + 2) (cc + 1) (wrap64 (x + x) :: rs) (steps + (3 + 2 * sb)) depth out) := by
  have b0 := hB.1
  have b1 := hB.2.1
  have q1 := enterB (mem := mem) (N := N) (ia := ia) (ib := ib) (ic := ic) (ca := ca) (cb := cb) (cc := cc + 1) (rs := rs) (steps := steps + 1) (depth := depth + 1) (out := out) hB h0 (by omega) h2 (by omega) (by omega) (by omega) (by omega)
  have k1 : XR (jItem ⟨ic, kC, cBody⟩ [] (cIt kB)) (LS mem N ia ib ic va Bb ca cb (cc + 1) rs steps (depth + 1) out) _ := XR.callI rfl (show steps < 2000 by omega) (d := ⟨kB, ib, Bb, cb, false, []⟩) rfl q1 rfl
  have q2 := enterB (mem := mem) (N := N) (ia := ia) (ib := ib) (ic := ic) (ca := ca + 1) (cb := cb + 1) (cc := cc + 1) (rs := x :: rs) (steps := steps + 1 + sb + 1) (depth := depth + 1) (out := out) hB (by omega) (by omega) (by omega) (by omega) (by omega) (by omega) (by simp; omega)
  have k2 : XR (jItem ⟨ic, kC, cBody⟩ [] (cIt kB)) (LS mem N ia ib ic va Bb (ca + 1) (cb + 1) (cc + 1) (x :: rs) (steps + 1 + sb) (depth + 1) out) _ := XR.callI rfl (show steps + 1 + sb < 2000 by omega) (d := ⟨kB, ib, Bb, cb + 1, false, []⟩) rfl q2 rfl
  have k3 : XR (jItem ⟨ic, kC, cBody⟩ [] (wIt kPlus)) (LS mem N ia ib ic va Bb (ca + 1 + 1) (cb + 1 + 1) (cc + 1) (x :: x :: rs) (steps + 1 + sb + 1 + sb) (depth + 1) out) (LS mem N ia ib ic va Bb (ca + 1 + 1) (cb + 1 + 1) (cc + 1) (wrap64 (x + x) :: rs) (steps + 1 + sb + 1 + sb + 1) (depth + 1) out) := XR.word (k := 0) (by decide) rfl (show steps + 1 + sb + 1 + sb < 2000 by omega) rfl
  have k4 := XR.cons k1 rfl (XR.cons k2 rfl (XR.cons k3 rfl XR.nil))
  have k5 := XR.enter (s := LS mem N ia ib ic va Bb ca cb cc rs steps depth out) (f := ⟨ic, kC, cBody⟩) (show depth < 20 by omega) (comeC h4 (by omega)) k4
  have e : ({ (LS mem N ia ib ic va Bb (ca + 1 + 1) (cb + 1 + 1) (cc + 1) (wrap64 (x + x) :: rs) (steps + 1 + sb + 1 + sb + 1) (depth + 1) out) with depth := (LS mem N ia ib ic va Bb (ca + 1 + 1) (cb + 1 + 1) (cc + 1) (wrap64 (x + x) :: rs) (steps + 1 + sb + 1 + sb + 1) (depth + 1) out).depth - 1 } : St) = LS mem N ia ib ic va Bb (ca + 2) (cb + 2) (cc + 1) (wrap64 (x + x) :: rs) (steps + (3 + 2 * sb)) depth out := by
    show LS mem N ia ib ic va Bb (ca + 1 + 1) (cb + 1 + 1) (cc + 1) (wrap64 (x + x) :: rs) (steps + 1 + sb + 1 + sb + 1) (depth + 1 - 1) out = _
    rw [Int.add_sub_cancel, show ca + 1 + 1 = ca + 2 by omega, show cb + 1 + 1 = cb + 2 by omega, show steps + 1 + sb + 1 + sb + 1 = steps + (3 + 2 * sb) by omega]
  rw [e] at k5
  exact k5
end
end
section
open Go.RowKit
def k1 : Tok := [49]
theorem callA' : IsCall kA := ⟨by decide, by decide, by decide, by decide⟩
theorem callB' : IsCall kB := ⟨by decide, by decide, by decide, by decide⟩
theorem callC' : IsCall kC := ⟨by decide, by decide, by decide, by decide⟩
def sL (mem : Nat → Int) (built : Int) : St := ⟨[], mem, [⟨[115, 113], 2, [], 0, false, []⟩, ⟨kA, 3, [nIt 0], 0, false, []⟩, ⟨kB, 4, [cIt kA], 0, false, []⟩, ⟨kC, 5, cBody, 0, false, []⟩], 5, 5, built, 0, 3, 0, ⟨#[]⟩⟩
def toks0 : List Tok := [kColon, kA, k0, kSemi, kColon, kB, kA, kSemi, kColon, kC, kB, kB, kPlus, kSemi]
theorem line_0 (s : St) (h : Fsh s) : XR (jToks toks0) (freshL s) (sL s.mem s.built) := by
  obtain ⟨rs, mem, defs, ids, hot, built, e, steps, depth, out⟩ := s
  obtain ⟨h1, h2, h3, h4⟩ := h
  simp only at h1 h2 h3 h4
  subst h1 h2 h3 h4
  have w3 : wrap64 3 = 3 := by decide +kernel
  have w4 : wrap64 4 = 4 := by decide +kernel
  have w5 : wrap64 5 = 5 := by decide +kernel
  have e1 : (St.mk [] mem [⟨[115, 113], 2, [], 0, false, []⟩] 2 5 built 0 0 0 ⟨#[]⟩).up.set kA [nIt 0] = ⟨[], mem, [⟨[115, 113], 2, [], 0, false, []⟩, ⟨kA, 3, [nIt 0], 0, false, []⟩], 3, 5, built, 0, 1, 0, ⟨#[]⟩⟩ := by
    simp [St.set, St.up, St.find, List.findIdx?_cons, kA, w3]
  have e2 : (St.mk [] mem [⟨[115, 113], 2, [], 0, false, []⟩, ⟨kA, 3, [nIt 0], 0, false, []⟩] 3 5 built 0 1 0 ⟨#[]⟩).up.set kB [cIt kA] = ⟨[], mem, [⟨[115, 113], 2, [], 0, false, []⟩, ⟨kA, 3, [nIt 0], 0, false, []⟩, ⟨kB, 4, [cIt kA], 0, false, []⟩], 4, 5, built, 0, 2, 0, ⟨#[]⟩⟩ := by
    simp [St.set, St.up, St.find, List.findIdx?_cons, kA, kB, w4]
  have e3 : (St.mk [] mem [⟨[115, 113], 2, [], 0, false, []⟩, ⟨kA, 3, [nIt 0], 0, false, []⟩, ⟨kB, 4, [cIt kA], 0, false, []⟩] 4 5 built 0 2 0 ⟨#[]⟩).up.set kC cBody = sL mem built := by
    simp [St.set, St.up, St.find, List.findIdx?_cons, kA, kB, kC, w5, sL]
  have p1 : pDef 12 (St.mk [] mem [⟨[115, 113], 2, [], 0, false, []⟩] 2 5 built 0 0 0 ⟨#[]⟩) [kA, k0, kSemi, kColon, kB, kA, kSemi, kColon, kC, kB, kB, kPlus, kSemi] = some (.ok (kA, [nIt 0], [kColon, kB, kA, kSemi, kColon, kC, kB, kB, kPlus, kSemi])) := rfl
  have p2 : pDef 12 (St.mk [] mem [⟨[115, 113], 2, [], 0, false, []⟩, ⟨kA, 3, [nIt 0], 0, false, []⟩] 3 5 built 0 1 0 ⟨#[]⟩) [kB, kA, kSemi, kColon, kC, kB, kB, kPlus, kSemi] = some (.ok (kB, [cIt kA], [kColon, kC, kB, kB, kPlus, kSemi])) := rfl
  have p3 : pDef 12 (St.mk [] mem [⟨[115, 113], 2, [], 0, false, []⟩, ⟨kA, 3, [nIt 0], 0, false, []⟩, ⟨kB, 4, [cIt kA], 0, false, []⟩] 4 5 built 0 2 0 ⟨#[]⟩) [kC, kB, kB, kPlus, kSemi] = some (.ok (kC, cBody, [])) := rfl
  have q3 : XR (jToks [kColon, kC, kB, kB, kPlus, kSemi]) (St.mk [] mem [⟨[115, 113], 2, [], 0, false, []⟩, ⟨kA, 3, [nIt 0], 0, false, []⟩, ⟨kB, 4, [cIt kA], 0, false, []⟩] 4 5 built 0 2 0 ⟨#[]⟩) (sL mem built) := XR.tdef rfl (show (2 : Int) < 2000 by decide) p3 (by rw [e3]; exact XR.tnil)
  have q2 : XR (jToks [kColon, kB, kA, kSemi, kColon, kC, kB, kB, kPlus, kSemi]) (St.mk [] mem [⟨[115, 113], 2, [], 0, false, []⟩, ⟨kA, 3, [nIt 0], 0, false, []⟩] 3 5 built 0 1 0 ⟨#[]⟩) (sL mem built) := XR.tdef rfl (show (1 : Int) < 2000 by decide) p2 (by rw [e2]; exact q3)
  have q1 : XR (jToks toks0) (St.mk [] mem [⟨[115, 113], 2, [], 0, false, []⟩] 2 5 built 0 0 0 ⟨#[]⟩) (sL mem built) := XR.tdef rfl (show (0 : Int) < 2000 by decide) p1 (by rw [e1]; exact q2)
  exact q1
theorem sim_L (mem : Nat → Int) (built : Int) : Sim (sL mem built) (LS mem 5 3 4 5 0 [cIt kA] 0 0 0 [] 3 0 ⟨#[]⟩) := ⟨rfl, rfl, rfl, rfl, rfl, rfl, rfl, rfl⟩
section
variable {mem : Nat → Int} {N ia ib ic va x sb : Int} {Bb : List It}
theorem set_a (v : Int) (st : Int) : (LS mem N ia ib ic va Bb 0 0 0 [] st 0 ⟨#[]⟩).up.set kA [nIt v] = LS mem (wrap64 (N + 1)) (wrap64 (N + 1)) ib ic v Bb 0 0 0 [] (st + 1) 0 ⟨#[]⟩ := by
  simp [St.set, St.up, St.find, List.findIdx?_cons, LS, kA]
theorem set_b (b : List It) : (LS mem N ia ib ic va Bb 0 0 0 [] 0 0 ⟨#[]⟩).up.set kB b = LS mem (wrap64 (N + 1)) ia (wrap64 (N + 1)) ic va b 0 0 0 [] 1 0 ⟨#[]⟩ := by
  simp [St.set, St.up, St.find, List.findIdx?_cons, LS, kA, kB]
theorem def_a (X : Tok) (v : Int) (hX : GoodT X) (hv : numP X = some v) (st : Int) : pDef 3 (LS mem N ia ib ic va Bb 0 0 0 [] st 0 ⟨#[]⟩) [kA, X, kSemi] = some (.ok (kA, [nIt v], [])) := by
  have hn : isName kA = true := by decide
  have hk : (LS mem N ia ib ic va Bb 0 0 0 [] st 0 ⟨#[]⟩).known kA = true := rfl
  have hr := read_items (LS mem N ia ib ic va Bb 0 0 0 [] st 0 ⟨#[]⟩).known 0 [X] [] (one_good hX)
  have hi : itemOf X = nIt v := by unfold itemOf; rw [hv]; rfl
  simp only [pDef]
  rw [hn, if_neg (by decide), hk, if_neg (by simp)]
  have hr' : pRead (LS mem N ia ib ic va Bb 0 0 0 [] st 0 ⟨#[]⟩).known 3 ⟨false, 0, [kSemi], []⟩ [X, kSemi] = some (.ok ([itemOf X], kSemi, [])) := hr
  rw [hr', hi]
theorem line_a (X : Tok) (v : Int) (hX : GoodT X) (hv : numP X = some v) : XR (jToks [kColon, kA, X, kSemi]) (LS mem N ia ib ic va Bb 0 0 0 [] 0 0 ⟨#[]⟩) (LS mem (wrap64 (N + 1)) (wrap64 (N + 1)) ib ic v Bb 0 0 0 [] 1 0 ⟨#[]⟩) :=
  XR.tdef rfl (show (0 : Int) < 2000 by decide) (def_a X v hX hv 0) (by rw [set_a]; exact XR.tnil)
theorem def_b (X : Tok) (v : Int) (hX : GoodT X) (hv : numP X = some v) (r : List Tok) : pDef 5 (LS mem N ia ib ic va Bb 0 0 0 [] 0 0 ⟨#[]⟩) (kB :: kA :: X :: kPlus :: kSemi :: r) = some (.ok (kB, [cIt kA, nIt v, wIt kPlus], r)) := by
  have hn : isName kB = true := by decide
  have hk : (LS mem N ia ib ic va Bb 0 0 0 [] 0 0 ⟨#[]⟩).known kB = true := rfl
  have hi : itemOf X = nIt v := by unfold itemOf; rw [hv]; rfl
  have hr := read_items (LS mem N ia ib ic va Bb 0 0 0 [] 0 0 ⟨#[]⟩).known 0 [X, kPlus] r (fun t ht => by
    simp only [List.mem_cons, List.not_mem_nil, or_false] at ht
    rcases ht with rfl | rfl
    · exact hX
    · exact good_all.1)
  have ha : pRead (LS mem N ia ib ic va Bb 0 0 0 [] 0 0 ⟨#[]⟩).known 4 ⟨true, 0, [], kA⟩ (X :: kPlus :: kSemi :: r) = some (.ok ([cIt kA], [], X :: kPlus :: kSemi :: r)) := rfl
  have hb := pB_item (LS mem N ia ib ic va Bb 0 0 0 [] 0 0 ⟨#[]⟩).known 4 0 [kSemi] kA kSemi (X :: kPlus :: kSemi :: r) (X :: kPlus :: kSemi :: r) r [cIt kA] ([X, kPlus].map itemOf) (by decide) ha hr
  simp only [pDef]
  rw [hn, if_neg (by decide), hk, if_neg (by simp), hb]
  simp only [List.map_cons, List.map_nil, hi]
  rfl
theorem line_b (X : Tok) (v : Int) (hX : GoodT X) (hv : numP X = some v) : XR (jToks [kColon, kB, kA, X, kPlus, kSemi, kColon, kA, k1, kSemi]) (LS mem N ia ib ic va Bb 0 0 0 [] 0 0 ⟨#[]⟩) (LS mem (wrap64 (wrap64 (N + 1) + 1)) (wrap64 (wrap64 (N + 1) + 1)) (wrap64 (N + 1)) ic 1 [cIt kA, nIt v, wIt kPlus] 0 0 0 [] (1 + 1) 0 ⟨#[]⟩) := by
  have hg : GoodT k1 := ⟨by decide, by decide, .inl ⟨1, by decide⟩⟩
  exact XR.tdef rfl (show (0 : Int) < 2000 by decide) (def_b X v hX hv _) (by
    rw [set_b]
    exact XR.tdef rfl (show (1 : Int) < 2000 by decide) (def_a k1 1 hg (by decide) 1) (by rw [set_a]; exact XR.tnil))
theorem dot_one : dot (-1) = ⟨#[45, 49, 32]⟩ := by
  have h : (dot (-1)).data.toList = [45, 49, 32] := by decide +kernel
  exact ByteArray.ext (Array.ext' h)
theorem line_s (hB : BOk va Bb x sb) : ∃ ca cb cc st, XR (jToks [kB, kDup, kPlus, kC, kEq, kDot]) (LS mem N ia ib ic va Bb 0 0 0 [] 0 0 ⟨#[]⟩) (LS mem N ia ib ic va Bb ca cb cc [] st 0 ⟨#[45, 49, 32]⟩) := by
  have b0 := hB.1
  have b1 := hB.2.1
  have q1 := enterB (mem := mem) (N := N) (ia := ia) (ib := ib) (ic := ic) (ca := 0) (cb := 0) (cc := 0) (rs := []) (steps := 0 + 1) (depth := 0) (out := ⟨#[]⟩) hB (by decide) (by decide) (by decide) (by decide) (by omega) (by decide) (by decide)
  have q2 := enterC (mem := mem) (N := N) (ia := ia) (ib := ib) (ic := ic) (ca := 0 + 1) (cb := 0 + 1) (cc := 0) (rs := [wrap64 (x + x)]) (steps := 0 + 1 + sb + 1 + 1 + 1) (depth := 0) (out := ⟨#[]⟩) hB (by decide) (by decide) (by decide) (by decide) (by decide) (by decide) (by omega) (by decide) (by simp)
  have hp : (wrap64 (x + x) == wrap64 (x + x)) = true := by simp
  have hw : (LS mem N ia ib ic va Bb (0 + 1 + 2) (0 + 1 + 2) (0 + 1) [sonum (wrap64 (x + x) == wrap64 (x + x))] (0 + 1 + sb + 1 + 1 + 1 + (3 + 2 * sb) + 1) 0 ⟨#[]⟩).up.word 12 = LS mem N ia ib ic va Bb (0 + 1 + 2) (0 + 1 + 2) (0 + 1) [] (0 + 1 + sb + 1 + 1 + 1 + (3 + 2 * sb) + 1 + 1) 0 ⟨#[45, 49, 32]⟩ := by
    rw [hp]
    show ({ (LS mem N ia ib ic va Bb (0 + 1 + 2) (0 + 1 + 2) (0 + 1) [-1] (0 + 1 + sb + 1 + 1 + 1 + (3 + 2 * sb) + 1) 0 ⟨#[]⟩).up with rs := (prtP mem ⟨#[]⟩ [] (dot (-1))).rs, mem := (prtP mem ⟨#[]⟩ [] (dot (-1))).mem, out := (prtP mem ⟨#[]⟩ [] (dot (-1))).out, e := (prtP mem ⟨#[]⟩ [] (dot (-1))).e } : St) = _
    rw [dot_one]
    rfl
  refine ⟨0 + 1 + 2, 0 + 1 + 2, 0 + 1, 0 + 1 + sb + 1 + 1 + 1 + (3 + 2 * sb) + 1 + 1, ?_⟩
  refine XR.tcall callB' rfl (d := ⟨kB, ib, Bb, 0, false, []⟩) rfl rfl (show (0 : Int) < 2000 by decide) q1 ?_
  refine XR.tword (k := 7) (by decide) rfl (show 0 + 1 + sb < 2000 by omega) ?_
  refine XR.tword (k := 0) (by decide) rfl (show 0 + 1 + sb + 1 < 2000 by omega) ?_
  refine XR.tcall callC' rfl (d := ⟨kC, ic, cBody, 0, false, []⟩) rfl rfl (show 0 + 1 + sb + 1 + 1 < 2000 by omega) q2 ?_
  refine XR.tword (k := 5) (by decide) rfl (show 0 + 1 + sb + 1 + 1 + 1 + (3 + 2 * sb) < 2000 by omega) ?_
  refine XR.tword (k := 12) (by decide) rfl (show 0 + 1 + sb + 1 + 1 + 1 + (3 + 2 * sb) + 1 < 2000 by omega) ?_
  show XR (jToks []) ((LS mem N ia ib ic va Bb (0 + 1 + 2) (0 + 1 + 2) (0 + 1) [sonum (wrap64 (x + x) == wrap64 (x + x))] (0 + 1 + sb + 1 + 1 + 1 + (3 + 2 * sb) + 1) 0 ⟨#[]⟩).up.word 12) _
  rw [hw]
  exact XR.tnil
theorem line_t (hB : BOk va Bb x sb) (hv0 : -10000000 < va) (hv1 : va < 10000000) : ∃ ca cb cc st, XR (jToks [kC, kC, kC, kA, kDot]) (LS mem N ia ib ic va Bb 0 0 0 [] 0 0 ⟨#[]⟩) (LS mem N ia ib ic va Bb ca cb cc [wrap64 (x + x), wrap64 (x + x), wrap64 (x + x)] st 0 (dot va)) := by
  have b0 := hB.1
  have b1 := hB.2.1
  obtain ⟨S, hS⟩ : ∃ S, S = 3 + 2 * sb := ⟨_, rfl⟩
  have q1 := enterC (mem := mem) (N := N) (ia := ia) (ib := ib) (ic := ic) (ca := 0) (cb := 0) (cc := 0) (rs := []) (steps := 0 + 1) (depth := 0) (out := ⟨#[]⟩) hB (by decide) (by decide) (by decide) (by decide) (by decide) (by decide) (by omega) (by decide) (by decide)
  have q2 := enterC (mem := mem) (N := N) (ia := ia) (ib := ib) (ic := ic) (ca := 0 + 2) (cb := 0 + 2) (cc := 0 + 1) (rs := [wrap64 (x + x)]) (steps := 0 + 1 + (3 + 2 * sb) + 1) (depth := 0) (out := ⟨#[]⟩) hB (by decide) (by decide) (by decide) (by decide) (by decide) (by decide) (by omega) (by decide) (by simp)
  have q3 := enterC (mem := mem) (N := N) (ia := ia) (ib := ib) (ic := ic) (ca := 0 + 2 + 2) (cb := 0 + 2 + 2) (cc := 0 + 1 + 1) (rs := [wrap64 (x + x), wrap64 (x + x)]) (steps := 0 + 1 + (3 + 2 * sb) + 1 + (3 + 2 * sb) + 1) (depth := 0) (out := ⟨#[]⟩) hB (by decide) (by decide) (by decide) (by decide) (by decide) (by decide) (by omega) (by decide) (by simp)
  have q4 := enterA (mem := mem) (N := N) (ia := ia) (ib := ib) (ic := ic) (va := va) (Bb := Bb) (ca := 0 + 2 + 2 + 2) (cb := 0 + 2 + 2 + 2) (cc := 0 + 1 + 1 + 1) (rs := [wrap64 (x + x), wrap64 (x + x), wrap64 (x + x)]) (steps := 0 + 1 + (3 + 2 * sb) + 1 + (3 + 2 * sb) + 1 + (3 + 2 * sb) + 1) (depth := 0) (out := ⟨#[]⟩) (by decide) (by decide) (by omega) (by decide) (by simp)
  have hd : ¬ 300 < (⟨#[]⟩ : ByteArray).size + (dot va).size := by
    have h := (numLen va hv0 hv1).2
    have e : (dot va).size = (Lib.itoa va).length + 1 := by unfold dot; show (Lib.itoa va ++ [32]).toArray.size = _; simp
    rw [e]; show ¬ 300 < 0 + ((Lib.itoa va).length + 1); omega
  have he : (⟨#[]⟩ : ByteArray) ++ dot va = dot va := by unfold dot; rw [ba_app]; simp
  have hw : (LS mem N ia ib ic va Bb (0 + 2 + 2 + 2 + 1) (0 + 2 + 2 + 2) (0 + 1 + 1 + 1) [va, wrap64 (x + x), wrap64 (x + x), wrap64 (x + x)] (0 + 1 + (3 + 2 * sb) + 1 + (3 + 2 * sb) + 1 + (3 + 2 * sb) + 1 + 1) 0 ⟨#[]⟩).up.word 12 = LS mem N ia ib ic va Bb (0 + 2 + 2 + 2 + 1) (0 + 2 + 2 + 2) (0 + 1 + 1 + 1) [wrap64 (x + x), wrap64 (x + x), wrap64 (x + x)] (0 + 1 + (3 + 2 * sb) + 1 + (3 + 2 * sb) + 1 + (3 + 2 * sb) + 1 + 1 + 1) 0 (dot va) := by
    have hp : prtP mem ⟨#[]⟩ [wrap64 (x + x), wrap64 (x + x), wrap64 (x + x)] (dot va) = ⟨0, [wrap64 (x + x), wrap64 (x + x), wrap64 (x + x)], mem, dot va⟩ := by unfold prtP; rw [if_neg hd, he]
    show ({ (LS mem N ia ib ic va Bb (0 + 2 + 2 + 2 + 1) (0 + 2 + 2 + 2) (0 + 1 + 1 + 1) [va, wrap64 (x + x), wrap64 (x + x), wrap64 (x + x)] (0 + 1 + (3 + 2 * sb) + 1 + (3 + 2 * sb) + 1 + (3 + 2 * sb) + 1 + 1) 0 ⟨#[]⟩).up with rs := (prtP mem ⟨#[]⟩ [wrap64 (x + x), wrap64 (x + x), wrap64 (x + x)] (dot va)).rs, mem := (prtP mem ⟨#[]⟩ [wrap64 (x + x), wrap64 (x + x), wrap64 (x + x)] (dot va)).mem, out := (prtP mem ⟨#[]⟩ [wrap64 (x + x), wrap64 (x + x), wrap64 (x + x)] (dot va)).out, e := (prtP mem ⟨#[]⟩ [wrap64 (x + x), wrap64 (x + x), wrap64 (x + x)] (dot va)).e } : St) = _
    rw [hp]
    rfl
  refine ⟨0 + 2 + 2 + 2 + 1, 0 + 2 + 2 + 2, 0 + 1 + 1 + 1, 0 + 1 + (3 + 2 * sb) + 1 + (3 + 2 * sb) + 1 + (3 + 2 * sb) + 1 + 1 + 1, ?_⟩
  refine XR.tcall callC' rfl (d := ⟨kC, ic, cBody, 0, false, []⟩) rfl rfl (show (0 : Int) < 2000 by decide) q1 ?_
  refine XR.tcall callC' rfl (d := ⟨kC, ic, cBody, 0 + 1, false, []⟩) rfl rfl (show 0 + 1 + (3 + 2 * sb) < 2000 by omega) q2 ?_
  refine XR.tcall callC' rfl (d := ⟨kC, ic, cBody, 0 + 1 + 1, false, []⟩) rfl rfl (show 0 + 1 + (3 + 2 * sb) + 1 + (3 + 2 * sb) < 2000 by omega) q3 ?_
  refine XR.tcall callA' rfl (d := ⟨kA, ia, [nIt va], 0 + 2 + 2 + 2, false, []⟩) rfl rfl (show 0 + 1 + (3 + 2 * sb) + 1 + (3 + 2 * sb) + 1 + (3 + 2 * sb) < 2000 by omega) q4 ?_
  refine XR.tword (k := 12) (by decide) rfl (show 0 + 1 + (3 + 2 * sb) + 1 + (3 + 2 * sb) + 1 + (3 + 2 * sb) + 1 + 1 < 2000 by omega) ?_
  show XR (jToks []) ((LS mem N ia ib ic va Bb (0 + 2 + 2 + 2 + 1) (0 + 2 + 2 + 2) (0 + 1 + 1 + 1) [va, wrap64 (x + x), wrap64 (x + x), wrap64 (x + x)] (0 + 1 + (3 + 2 * sb) + 1 + (3 + 2 * sb) + 1 + (3 + 2 * sb) + 1 + 1) 0 ⟨#[]⟩).up.word 12) _
  rw [hw]
  exact XR.tnil
theorem line_u (y : Int) : XR (jToks [kDrop, kDrop, kDrop]) (LS mem N ia ib ic va Bb 0 0 0 [y, y, y] 0 0 ⟨#[]⟩) (LS mem N ia ib ic va Bb 0 0 0 [] (0 + 1 + 1 + 1) 0 ⟨#[]⟩) :=
  XR.tword (k := 8) (by decide) rfl (show (0 : Int) < 2000 by decide) (XR.tword (k := 8) (by decide) rfl (show (0 + 1 : Int) < 2000 by decide) (XR.tword (k := 8) (by decide) rfl (show (0 + 1 + 1 : Int) < 2000 by decide) XR.tnil))
end
end
section
open Go.RowKit
theorem isLine {s0 s1 : St} {t : ByteArray} {ts : List Tok} (hv : validB t.data.toList = true) (hf : Lib.fields t.data.toList = ts) (hr : XR (jToks ts) (freshL s0) s1) (he : s1.e = 0) : LineIs s0 t s1.out 0 s1 := by
  obtain ⟨g, hr⟩ := hr
  rw [← hf] at hr
  exact .inl ⟨hv, g, s1, false, hr, rfl, he.symm, (if_pos he).symm⟩
def tB0 : ByteArray := ⟨#[58, 32, 97, 32, 48, 32, 59, 32, 58, 32, 98, 32, 97, 32, 59, 32, 58, 32, 99, 32, 98, 32, 98, 32, 43, 32, 59]⟩
def tBs : ByteArray := ⟨#[98, 32, 100, 117, 112, 32, 43, 32, 99, 32, 61, 32, 46]⟩
def tBt : ByteArray := ⟨#[99, 32, 99, 32, 99, 32, 97, 32, 46]⟩
def tBu : ByteArray := ⟨#[100, 114, 111, 112, 32, 100, 114, 111, 112, 32, 100, 114, 111, 112]⟩
theorem is0 : LineIs fsC tB0 ⟨#[]⟩ 0 (sL fsC.mem fsC.built) := isLine (by decide +kernel) (by decide +kernel) (line_0 fsC fsC_ok) rfl
def aB (v : Nat) : ByteArray := ⟨#[58, 32, 97, 32]⟩ ++ numB v ++ ⟨#[32, 59]⟩
def bB (v : Nat) : ByteArray := ⟨#[58, 32, 98, 32, 97, 32]⟩ ++ numB v ++ ⟨#[32, 43, 32, 59, 32, 58, 32, 97, 32, 49, 32, 59]⟩
theorem aB_list (v : Nat) : (aB v).data.toList = textOf [kColon, kA, Lib.itoa v] ++ kSemi := by
  unfold aB numB
  rw [ba_app, ba_app]
  simp [textOf, kColon, kA, kSemi]
theorem bB_list (v : Nat) : (bB v).data.toList = textOf [kColon, kB, kA, Lib.itoa v, kPlus, kSemi, kColon, kA, k1] ++ kSemi := by
  unfold bB numB
  rw [ba_app, ba_app]
  simp [textOf, kColon, kA, kB, kPlus, k1, kSemi]
theorem aB_toks (v : Nat) (hv : v < 1000) : ∀ t ∈ [kColon, kA, Lib.itoa v], t.all tokB = true ∧ t ≠ [] := by
  intro t ht
  simp only [List.mem_cons, List.not_mem_nil, or_false] at ht
  rcases ht with rfl | rfl | rfl
  · exact ⟨by decide, by decide⟩
  · exact ⟨by decide, by decide⟩
  · exact ⟨itoa_tok _, itoa_ne _ (by omega) (by omega)⟩
theorem bB_toks (v : Nat) (hv : v < 1000) : ∀ t ∈ [kColon, kB, kA, Lib.itoa v, kPlus, kSemi, kColon, kA, k1], t.all tokB = true ∧ t ≠ [] := by
  intro t ht
  simp only [List.mem_cons, List.not_mem_nil, or_false] at ht
  rcases ht with rfl | rfl | rfl | rfl | rfl | rfl | rfl | rfl | rfl
  · exact ⟨by decide, by decide⟩
  · exact ⟨by decide, by decide⟩
  · exact ⟨by decide, by decide⟩
  · exact ⟨itoa_tok _, itoa_ne _ (by omega) (by omega)⟩
  · exact ⟨by decide, by decide⟩
  · exact ⟨by decide, by decide⟩
  · exact ⟨by decide, by decide⟩
  · exact ⟨by decide, by decide⟩
  · exact ⟨by decide, by decide⟩
theorem aB_fields (v : Nat) (hv : v < 1000) : Lib.fields (aB v).data.toList = [kColon, kA, Lib.itoa v, kSemi] := by
  rw [aB_list, fields_texts _ _ (aB_toks v hv), fields_end kSemi (by decide) (by decide)]; rfl
theorem bB_fields (v : Nat) (hv : v < 1000) : Lib.fields (bB v).data.toList = [kColon, kB, kA, Lib.itoa v, kPlus, kSemi, kColon, kA, k1, kSemi] := by
  rw [bB_list, fields_texts _ _ (bB_toks v hv), fields_end kSemi (by decide) (by decide)]; rfl
theorem aB_valid (v : Nat) (hv : v < 1000) : validB (aB v).data.toList = true := by
  have h2 := (numLen v (by omega) (by omega)).2
  have hl : (aB v).data.toList.length ≤ 400 := by
    rw [aB_list]
    simp [textOf, kColon, kA, kSemi]
    omega
  unfold validB
  rw [decide_eq_true hl, aB_list, List.all_append, texts_okB _ (aB_toks v hv)]
  decide
theorem bB_valid (v : Nat) (hv : v < 1000) : validB (bB v).data.toList = true := by
  have h2 := (numLen v (by omega) (by omega)).2
  have hl : (bB v).data.toList.length ≤ 400 := by
    rw [bB_list]
    simp [textOf, kColon, kA, kB, kPlus, k1, kSemi]
    omega
  unfold validB
  rw [decide_eq_true hl, bB_list, List.all_append, texts_okB _ (bB_toks v hv)]
  decide
section
variable {mem : Nat → Int} {N ia ib ic va x sb st : Int} {Bb : List It} {out : ByteArray}
theorem isA (v : Nat) (hv : v < 1000) : LineIs (LS mem N ia ib ic va Bb 0 0 0 [] st 0 out) (aB v) ⟨#[]⟩ 0 (LS mem (wrap64 (N + 1)) (wrap64 (N + 1)) ib ic v Bb 0 0 0 [] 1 0 ⟨#[]⟩) :=
  isLine (s0 := LS mem N ia ib ic va Bb 0 0 0 [] st 0 out) (aB_valid v hv) (aB_fields v hv) (line_a (Lib.itoa v) v (good_num v (by omega) (by omega)) (numP_itoa v (by omega) (by omega))) rfl
theorem isB (v : Nat) (hv : v < 1000) : LineIs (LS mem N ia ib ic va Bb 0 0 0 [] st 0 out) (bB v) ⟨#[]⟩ 0 (LS mem (wrap64 (wrap64 (N + 1) + 1)) (wrap64 (wrap64 (N + 1) + 1)) (wrap64 (N + 1)) ic 1 [cIt kA, nIt v, wIt kPlus] 0 0 0 [] (1 + 1) 0 ⟨#[]⟩) :=
  isLine (s0 := LS mem N ia ib ic va Bb 0 0 0 [] st 0 out) (bB_valid v hv) (bB_fields v hv) (line_b (Lib.itoa v) v (good_num v (by omega) (by omega)) (numP_itoa v (by omega) (by omega))) rfl
theorem isS (hB : BOk va Bb x sb) : ∃ ca cb cc st2, LineIs (LS mem N ia ib ic va Bb 0 0 0 [] st 0 out) tBs ⟨#[45, 49, 32]⟩ 0 (LS mem N ia ib ic va Bb ca cb cc [] st2 0 ⟨#[45, 49, 32]⟩) := by
  obtain ⟨ca, cb, cc, s2, h⟩ := line_s (mem := mem) (N := N) (ia := ia) (ib := ib) (ic := ic) hB
  exact ⟨ca, cb, cc, s2, isLine (s0 := LS mem N ia ib ic va Bb 0 0 0 [] st 0 out) (by decide +kernel) (by decide +kernel) h rfl⟩
theorem isT (hB : BOk va Bb x sb) (hv0 : -10000000 < va) (hv1 : va < 10000000) : ∃ ca cb cc st2, LineIs (LS mem N ia ib ic va Bb 0 0 0 [] st 0 out) tBt (dot va) 0 (LS mem N ia ib ic va Bb ca cb cc [wrap64 (x + x), wrap64 (x + x), wrap64 (x + x)] st2 0 (dot va)) := by
  obtain ⟨ca, cb, cc, s2, h⟩ := line_t (mem := mem) (N := N) (ia := ia) (ib := ib) (ic := ic) hB hv0 hv1
  exact ⟨ca, cb, cc, s2, isLine (s0 := LS mem N ia ib ic va Bb 0 0 0 [] st 0 out) (by decide +kernel) (by decide +kernel) h rfl⟩
theorem isU (y : Int) : LineIs (LS mem N ia ib ic va Bb 0 0 0 [y, y, y] st 0 out) tBu ⟨#[]⟩ 0 (LS mem N ia ib ic va Bb 0 0 0 [] (0 + 1 + 1 + 1) 0 ⟨#[]⟩) :=
  isLine (s0 := LS mem N ia ib ic va Bb 0 0 0 [y, y, y] st 0 out) (by decide +kernel) (by decide +kernel) (line_u y) rfl
end
def LP (PS : World → Nat → (Nat → Prop) → St → Prop) (W w : World) (xb : Nat) (s0 : St) : Prop := ∃ V s, PS w xb V s ∧ WFs s ∧ Sim s s0 ∧ Kp W w (fun _ => False) ∧ ∀ k, V k → W.heap.size ≤ k
theorem LP.canon {PS : World → Nat → (Nat → Prop) → St → Prop} {W w : World} {xb : Nat} {mem : Nat → Int} {N ia ib ic va ca cb cc st : Int} {Bb : List It} {rs : List Int} {out : ByteArray} (h : LP PS W w xb (LS mem N ia ib ic va Bb ca cb cc rs st 0 out)) : LP PS W w xb (LS mem N ia ib ic va Bb 0 0 0 rs st 0 out) := by
  obtain ⟨V, s, h1, h2, h3, h4⟩ := h
  exact ⟨V, s, h1, h2, h3.trans ⟨rfl, rfl, rfl, rfl, rfl, rfl, rfl, rfl⟩, h4⟩
def BForm (Bb : List It) : Prop := Bb = [cIt kA] ∨ ∃ vb, Bb = [cIt kA, nIt vb, wIt kPlus]
theorem bform_ok {Bb : List It} (h : BForm Bb) (va : Int) : ∃ x sb, BOk va Bb x sb := by
  rcases h with rfl | ⟨vb, rfl⟩
  · exact ⟨_, _, bok1 va⟩
  · exact ⟨_, _, bok2 va vb⟩
def LLoop (PS : World → Nat → (Nat → Prop) → St → Prop) (W w : World) (xb : Nat) : Prop := ∃ N ia ib ic va Bb st out, BForm Bb ∧ -10000000 < va ∧ va < 10000000 ∧ LP PS W w xb (LS fsC.mem N ia ib ic va Bb 0 0 0 [] st 0 out)
section
variable {PS : World → Nat → (Nat → Prop) → St → Prop} {W : World} (P : PCon W.heap.size W PS)
include P
theorem LP.idle {w w' : World} {xb : Nat} {s0 : St} (h : LP PS W w xb s0) (hk : Kp w w' (fun _ => False)) : LP PS W w' xb s0 := by
  obtain ⟨V, s, h1, h2, h3, h4, h5⟩ := h
  exact ⟨V, s, P.frame _ _ _ _ _ _ h1 hk (fun _ _ e => e) (fun _ _ e => e) h4.size, h2, h3, h4.trans hk, h5⟩
theorem lineLP {w : World} {xb : Nat} {s0 s2 : St} {t out : ByteArray} {er : Int} (h : LP PS W w xb s0) (hl : LineIs s0 t out er s2) :
    Calls Tryz.prog 15 #[.pointer (some ⟨xb, 0, none⟩), .string t] w fun e w' => e = .returned (.tuple #[.string out, .int .i64 er]) ∧ LP PS W w' xb s2 := by
  obtain ⟨V, s, h1, h2, h3, h4, h5⟩ := h
  refine (line_as P w xb V s s0 s2 t out er h1 h2 h3 hl).mono ?_
  rintro e w' ⟨rfl, V', s', hx, hw, hs, hto⟩
  have k := Kp.two h4 h5 hto
  exact ⟨rfl, V', s', hx, hw, hs, k.1, k.2⟩
theorem lineS {w : World} {xb : Nat} {mem : Nat → Int} {N ia ib ic va x sb st : Int} {Bb : List It} {out : ByteArray} (h : LP PS W w xb (LS mem N ia ib ic va Bb 0 0 0 [] st 0 out)) (hB : BOk va Bb x sb) :
    Calls Tryz.prog 15 #[.pointer (some ⟨xb, 0, none⟩), .string tBs] w fun e w' => e = .returned (.tuple #[.string ⟨#[45, 49, 32]⟩, .int .i64 0]) ∧ ∃ st2, LP PS W w' xb (LS mem N ia ib ic va Bb 0 0 0 [] st2 0 ⟨#[45, 49, 32]⟩) := by
  obtain ⟨ca, cb, cc, st2, hl⟩ := isS (mem := mem) (N := N) (ia := ia) (ib := ib) (ic := ic) (st := st) (out := out) hB
  refine (lineLP P h hl).mono ?_
  rintro e w' ⟨rfl, hp⟩
  exact ⟨rfl, st2, hp.canon⟩
theorem lineTt {w : World} {xb : Nat} {mem : Nat → Int} {N ia ib ic va x sb st : Int} {Bb : List It} {out : ByteArray} (h : LP PS W w xb (LS mem N ia ib ic va Bb 0 0 0 [] st 0 out)) (hB : BOk va Bb x sb) (hv0 : -10000000 < va) (hv1 : va < 10000000) :
    Calls Tryz.prog 15 #[.pointer (some ⟨xb, 0, none⟩), .string tBt] w fun e w' => e = .returned (.tuple #[.string (dot va), .int .i64 0]) ∧ ∃ st2, LP PS W w' xb (LS mem N ia ib ic va Bb 0 0 0 [wrap64 (x + x), wrap64 (x + x), wrap64 (x + x)] st2 0 (dot va)) := by
  obtain ⟨ca, cb, cc, st2, hl⟩ := isT (mem := mem) (N := N) (ia := ia) (ib := ib) (ic := ic) (st := st) (out := out) hB hv0 hv1
  refine (lineLP P h hl).mono ?_
  rintro e w' ⟨rfl, hp⟩
  exact ⟨rfl, st2, hp.canon⟩
theorem stackLP {w : World} {xb : Nat} {s0 : St} (h : LP PS W w xb s0) (y : Int) (hr : s0.rs = [y, y, y]) :
    Calls Tryz.prog 16 #[.pointer (some ⟨xb, 0, none⟩)] w fun e w' => ∃ g cap, e = .returned (.slice (some ⟨g, 0, none⟩) 3 cap) ∧ g < w'.heap.size ∧ w'.cell? ⟨g, 0, none⟩ = some (.int .i64 y) ∧ w'.cell? ⟨g, 1, none⟩ = some (.int .i64 y) ∧ w'.cell? ⟨g, 2, none⟩ = some (.int .i64 y) ∧ LP PS W w' xb s0 := by
  obtain ⟨V, s, h1, h2, h3, h4, h5⟩ := h
  refine (P.stack w xb V s h1 h2.g).mono ?_
  rintro e w' ⟨v, rfl, hrow, V', hx', hto, _⟩
  have k := Kp.two h4 h5 hto
  have hrs : s.rs = [y, y, y] := h3.rs.trans hr
  rw [hrs] at hrow
  have hrow' : w'.ownsRow w.heap.size 3 1 v [y, y, y].length (ints [y, y, y]) := hrow
  obtain ⟨ao, cap, rfl, hc⟩ := row_ints hrow'
  obtain ⟨g, rfl, a1, a2⟩ := hc 0 (by simp)
  obtain ⟨g', e', a3, a4⟩ := hc 1 (by simp)
  injection e' with e'; injection e' with e'; subst e'
  obtain ⟨g', e', a5, a6⟩ := hc 2 (by simp)
  injection e' with e'; injection e' with e'; subst e'
  exact ⟨g, cap, rfl, a1, a2, a4, a6, V', s, hx', h2, h3, k.1, k.2⟩
theorem tuneLP (T : TuneC PS) {w : World} {xb : Nat} {s0 : St} (h : LP PS W w xb s0) (hot built : Int) (h0 : 1 ≤ hot) (h1 : hot ≤ 1000) (h2 : 0 ≤ built) (h3 : built ≤ 3) :
    Calls Tryz.prog 19 #[.pointer (some ⟨xb, 0, none⟩), .int .i64 hot, .int .i64 built] w fun e w' => e = .returned (.int .i64 0) ∧ LP PS W w' xb s0 := by
  obtain ⟨V, s, a1, a2, a3, a4, a5⟩ := h
  refine (T w xb V s hot built a1 ⟨by omega, by omega⟩ ⟨by omega, by omega⟩).mono ?_
  rintro e w' ⟨r, rfl, hr, V', s', hx, hw, hs, hto⟩
  obtain rfl : r = 0 := hr (by unfold badU; omega)
  have k := Kp.two a4 a5 hto
  exact ⟨rfl, V', s', hx, hw a2, hs.trans a3, k.1, k.2⟩
end
theorem dot_ne (a : Int) : ((dot a).toList == ([] : List UInt8)) = false := by
  have e : (dot a).toList = Lib.itoa a ++ [32] := by rw [ByteArray.toList_eq]; unfold dot; simp
  rw [e]; cases Lib.itoa a <;> rfl
section
variable {PS : World → Nat → (Nat → Prop) → St → Prop}
theorem lateL (W : World) (P : PCon W.heap.size W PS) (T : TuneC PS) (ra : Option Addr) (len cap : Nat) (ht bl : Int) (h1 : In ht) (h2 : In bl) (hraw : ∀ i, i < len → ∃ rb off c, ra = some ⟨rb, off, none⟩ ∧ W.cell? ⟨rb, off + i, none⟩ = some (.int .i64 c) ∧ In c) :
    Calls Tryz.prog 9 #[.slice ra len cap, .int .i64 ht, .int .i64 bl] W fun e w' => e = .returned (.bool true) ∧ Below W.heap.size W w' := by
  obtain ⟨a, ha, hal⟩ := pick_natS ht 6 (by decide)
  obtain ⟨b, hb, hbl⟩ := pick_natS bl 4 (by decide)
  have HA := hide (fun w => pickK ht 6 w h1.1 h1.2 (by decide) (by decide))
  have HB := hide (fun w => pickK bl 4 w h2.1 h2.2 (by decide) (by decide))
  simp only [show ((6 : Nat) : Int) = 6 from rfl, show ((4 : Nat) : Int) = 4 from rfl] at ha hb
  simp only [ha] at HA
  simp only [hb] at HB
  clear ha hb h1 h2
  have HT := hide T
  have HR := hide hraw
  have HF1 := hide (freshK P W (Below.refl _ _) (Nat.le_refl _))
  clear T hraw
  go_enter Tryz.func9, Tryz.ntmps9
  go_wp2_with fail
  refine HF1.out.mono ?_
  rintro e w1 ⟨xb, rfl, V, hx, hw, hk, hV⟩
  have HP0 : Hid (LP PS W w1 xb fsC) := ⟨V, fsC, hx, hw, Sim.refl _, hk, hV⟩
  clear hx hw hk hV HF1
  go_wp2_with fail
  refine (HA.out _).mono ?_
  rintro e w' ⟨rfl, hw'⟩
  subst hw'
  go_wp2_with fail
  refine (HB.out _).mono ?_
  rintro e w'' ⟨rfl, hw'⟩
  subst hw'
  clear HA HB
  go_wp2_with fail
  refine (tuneLP P HT.out HP0.out _ _ (by omega) (by omega) (by omega) (by omega)).mono ?_
  rintro e w2 ⟨rfl, hp⟩
  have HP2 := hide hp
  clear hp HP0 HT
  have HL0 := hide (lineLP P HP2.out is0)
  simp only [tB0] at HL0
  go_wp2_with fail
  refine HL0.out.mono ?_
  rintro e w3 ⟨rfl, hp⟩
  have HP3 : Hid (LLoop PS W w3 xb) := by
    obtain ⟨V, s, a1, a2, a3, a4⟩ := hp
    exact ⟨_, _, _, _, _, _, _, _, .inl rfl, by decide, by decide, V, s, a1, a2, a3.trans (sim_L _ _), a4⟩
  clear hp HP2 HL0
  go_wp2
  go_loopw [11] (fun i wr => ∃ k : Nat, k ≤ len ∧ k ≤ 20 ∧ i = .int .i64 k ∧ LLoop PS W wr xb) (fun i _ => 20 - (intOf i).toNat)
  case atStart => exact ⟨0, Nat.zero_le _, by omega, rfl, HP3.out⟩
  case round =>
    clear HP3
    obtain ⟨k, hk, hk20, rfl, N, ia, ib, ic, va, Bb, st, out, hF, hv0, hv1, hp⟩ := hrel
    have hbel : Below W.heap.size W wr := by obtain ⟨V, s, a1, a2, a3, a4, a5⟩ := hp; exact a4.below (Nat.le_refl _) (fun _ _ h => h)
    by_cases hlt1 : k < len
    · by_cases hlt2 : k < 20
      case neg =>
        have HBE := hide hbel
        clear hp hF hbel hv0 hv1
        go_wp2
        go_ret
        exact ⟨rfl, HBE.out⟩
      obtain ⟨rb, off, c, rfl, hc, hin⟩ := HR.out k hlt1
      have hrb := lt_of_cell hc
      have d : wr.cell? ⟨rb, off + k, none⟩ = some (.int .i64 c) := (hbel.cell (p := ⟨rb, off + k, none⟩) hrb).trans hc
      obtain ⟨v, hv, hvl⟩ := pick_natS c 1000 (by decide)
      have HPK := hide (fun w => pickK c 1000 w hin.1 hin.2 (by decide) (by decide))
      simp only [show ((1000 : Nat) : Int) = 1000 from rfl] at hv
      simp only [hv] at HPK
      clear hc hv hin hbel
      have HP := hide hp
      have HFF := hide hF
      clear hp hF hv0 hv1
      have hns := numB_size (v : Int) (by omega) (by omega)
      go_wp2_with fail
      refine (HPK.out _).mono ?_
      rintro e w'' ⟨rfl, hw'⟩
      subst hw'
      clear HPK
      by_cases hm : c.tmod 3 = 0
      · go_wp2_with fail
        refine (digitsK _ _ (by omega) (by omega)).mono ?_
        rintro e w2' ⟨rfl, hk2⟩
        have HLA := hide (lineLP P (HP.out.idle P hk2) (isA v hvl))
        simp only [aB] at HLA
        have HFG := hide HFF.out
        clear hk2 HP d
        go_wp2_with fail
        refine HLA.out.mono ?_
        rintro e w3' ⟨rfl, hp3⟩
        have HLL : Hid (LLoop PS W w3' xb) := ⟨_, _, _, _, _, _, _, _, HFF.out, by omega, by omega, hp3⟩
        clear hp3 HLA HFF HFG hns
        obtain ⟨N, ia, ib, ic, va, Bb, st, out, hF, hv0, hv1, hp⟩ := HLL.out
        obtain ⟨x, sb, hB⟩ := bform_ok hF va
        have HFF := hide hF
        have HSS := hide (lineS P hp hB)
        simp only [tBs] at HSS
        have HBB := hide hB
        clear hp hF hB HLL
        go_wp2_with fail
        refine HSS.out.mono ?_
        rintro e w4 ⟨rfl, st4, hp4⟩
        have HTT := hide (lineTt P hp4 HBB.out hv0 hv1)
        simp only [tBt] at HTT
        clear hp4 HSS HBB
        go_wp2_with fail
        refine HTT.out.mono ?_
        rintro e w5 ⟨rfl, st5, hp5⟩
        have HS5 := hide (stackLP P hp5 _ rfl)
        clear hp5 HTT
        have hdn := dot_ne va
        have HV0 := hide hv0
        have HV1 := hide hv1
        clear hv0 hv1
        go_wp2_with fail
        refine HS5.out.mono ?_
        rintro e w6 ⟨g, cp, rfl, hg, c0, c1, c2, hp6⟩
        have HP6 := hide hp6
        clear hp6 HS5
        have HUU := hide (fun w' (hk : Kp w6 w' (fun _ => False)) => lineLP P (HP6.out.idle P hk) (isU _))
        simp only [tBu] at HUU
        clear HP6
        go_wp2
        go_quiet (fail)
        go_wp2_with fail
        refine (HUU.out _ ((Kp.refl _ _).drewN _)).mono ?_
        rintro e w7 ⟨rfl, hp7⟩
        have HP7 : Hid (LLoop PS W w7 xb) := ⟨_, _, _, _, _, _, _, _, HFF.out, HV0.out, HV1.out, hp7⟩
        clear hp7 HUU HFF HV0 HV1 c0 c1 c2
        go_wp2
        go_roundw
        case rel => exact ⟨k + 1, by omega, by omega, by go_num, HP7.out⟩
        case measure => simp [intOf]; omega
      · go_wp2_with fail
        refine (digitsK _ _ (by omega) (by omega)).mono ?_
        rintro e w2' ⟨rfl, hk2⟩
        have HLA := hide (lineLP P (HP.out.idle P hk2) (isB v hvl))
        simp only [bB] at HLA
        have HFG := hide HFF.out
        clear hk2 HP d
        go_wp2_with fail
        refine HLA.out.mono ?_
        rintro e w3' ⟨rfl, hp3⟩
        have HLL : Hid (LLoop PS W w3' xb) := ⟨_, _, _, _, _, _, _, _, .inr ⟨_, rfl⟩, by decide, by decide, hp3⟩
        clear hp3 HLA HFF HFG hns
        obtain ⟨N, ia, ib, ic, va, Bb, st, out, hF, hv0, hv1, hp⟩ := HLL.out
        obtain ⟨x, sb, hB⟩ := bform_ok hF va
        have HFF := hide hF
        have HSS := hide (lineS P hp hB)
        simp only [tBs] at HSS
        have HBB := hide hB
        clear hp hF hB HLL
        go_wp2_with fail
        refine HSS.out.mono ?_
        rintro e w4 ⟨rfl, st4, hp4⟩
        have HTT := hide (lineTt P hp4 HBB.out hv0 hv1)
        simp only [tBt] at HTT
        clear hp4 HSS HBB
        go_wp2_with fail
        refine HTT.out.mono ?_
        rintro e w5 ⟨rfl, st5, hp5⟩
        have HS5 := hide (stackLP P hp5 _ rfl)
        clear hp5 HTT
        have hdn := dot_ne va
        have HV0 := hide hv0
        have HV1 := hide hv1
        clear hv0 hv1
        go_wp2_with fail
        refine HS5.out.mono ?_
        rintro e w6 ⟨g, cp, rfl, hg, c0, c1, c2, hp6⟩
        have HP6 := hide hp6
        clear hp6 HS5
        have HUU := hide (fun w' (hk : Kp w6 w' (fun _ => False)) => lineLP P (HP6.out.idle P hk) (isU _))
        simp only [tBu] at HUU
        clear HP6
        go_wp2
        go_quiet (fail)
        go_wp2_with fail
        refine (HUU.out _ ((Kp.refl _ _).drewN _)).mono ?_
        rintro e w7 ⟨rfl, hp7⟩
        have HP7 : Hid (LLoop PS W w7 xb) := ⟨_, _, _, _, _, _, _, _, HFF.out, HV0.out, HV1.out, hp7⟩
        clear hp7 HUU HFF HV0 HV1 c0 c1 c2
        go_wp2
        go_roundw
        case rel => exact ⟨k + 1, by omega, by omega, by go_num, HP7.out⟩
        case measure => simp [intOf]; omega
    · have HBE := hide hbel
      clear hp hF hbel hv0 hv1
      go_wp2
      go_ret
      exact ⟨rfl, HBE.out⟩
end
end
end Go.Proofs.YtldifaahmpecfaaGreatDoor
