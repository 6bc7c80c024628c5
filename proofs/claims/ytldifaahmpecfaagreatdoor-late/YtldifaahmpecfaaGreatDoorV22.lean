import Derived.Test.YtldifaahmpecfaaGreatDoorV21
import Derived.Deep.RegionHeld3
namespace Go.Proofs.YtldifaahmpecfaaGreatDoor
set_option maxRecDepth 1000000
set_option maxHeartbeats 4000000
set_option linter.all false
section
open Go.RowKit
abbrev fStep (b : Nat) : Value := .func (.func 204) #[] #[pt b]
abbrev fDeep (b : Nat) : Value := .func (.func 139) #[] #[pt b]
def actR (M : Mem) (bk ob : Nat) (P : Value → List It → Prop) (x : It) (c : Value) : Prop :=
 (x.kind = 110 ∧ In x.n ∧ ∃ ab nb, c = fStep ab ∧ M ab 121 #[.func (.func 87) #[] #[pt nb]] ∧ M nb 2 #[.int .i64 x.n]) ∨
 (x.kind = 112 ∧ ∃ ab act j, c = fStep ab ∧ M ab 121 #[act] ∧ plainR M j act ∧ plainL.findIdx? (· == x.name) = some j) ∨
 (x.kind = 99 ∧ ∃ ab db bb nb nm, c = fStep ab ∧ M ab 121 #[fDeep db] ∧ M db 121 #[.func (.func 111) #[] #[pt bb, pt nb]] ∧ M bb 78 #[pt bk] ∧ M nb 9 #[.string nm] ∧ nm.data.toList = x.name ∧ nm.size ≤ 1000) ∨
 (x.kind = 63 ∧ ∃ b1 b2 va vb, c = .func (.func 206) #[] #[pt b1, pt b2] ∧ M b1 189 #[va] ∧ M b2 189 #[vb] ∧ P va x.a ∧ P vb x.b) ∨
 (x.kind = 117 ∧ ∃ b1 va, c = .func (.func 208) #[] #[pt b1] ∧ M b1 189 #[va] ∧ P va x.a) ∨
 (x.kind = 119 ∧ ∃ b1 b2 va vb, c = .func (.func 209) #[] #[pt b1, pt b2] ∧ M b1 189 #[va] ∧ M b2 189 #[vb] ∧ P va x.a ∧ P vb x.b) ∨
 (x.kind = 100 ∧ ∃ b1 va, c = .func (.func 210) #[] #[pt b1] ∧ M b1 189 #[va] ∧ P va x.a) ∨
 (x.kind = 105 ∧ c = .func (.func 191) #[] #[]) ∨
 (x.kind = 114 ∧ ∃ ab db, c = fStep ab ∧ M ab 121 #[fDeep db] ∧ M db 121 #[.func (.func 112) #[pt ob] #[]]) ∨
 (x.kind = 120 ∧ c = .func (.func 193) #[] #[]) ∨
 (x.kind = 123 ∧ ∃ ab db sb tb tv ws, c = fStep ab ∧ M ab 121 #[fDeep db] ∧ M db 121 #[.func (.func 213) #[] #[pt sb, pt tb]] ∧ M sb 193 #[pt bk, pt ob] ∧ M tb 47 #[tv] ∧ rowM M 9 tv (ws.map Value.string) ∧ texts ws = x.toks ∧ (∀ t ∈ ws, okW t) ∧ ws.length ≤ 1000)
theorem actR_mono {M M' : Mem} {bk ob : Nat} {P P' : Value → List It → Prop} (h : ∀ b t c, M b t c → M' b t c) (hp : ∀ v l, P v l → P' v l) {x : It} {c : Value} (hr : actR M bk ob P x c) : actR M' bk ob P' x c := by
 unfold actR at hr ⊢
 rcases hr with ⟨k, i, ab, nb, h1, h2, h3⟩ | ⟨k, ab, act, j, h1, h2, h3, h4⟩ | ⟨k, ab, db, bb, nb, nm, h1, h2, h3, h4, h5, h6⟩ | ⟨k, b1, b2, va, vb, h1, h2, h3, h4, h5⟩ | ⟨k, b1, va, h1, h2, h3⟩ | ⟨k, b1, b2, va, vb, h1, h2, h3, h4, h5⟩ | ⟨k, b1, va, h1, h2, h3⟩ | hr | ⟨k, ab, db, h1, h2, h3⟩ | hr | ⟨k, ab, db, sb, tb, tv, ws, h1, h2, h3, h4, h5, h6, h7⟩
 ·exact .inl ⟨k, i, ab, nb, h1, h _ _ _ h2, h _ _ _ h3⟩
 ·exact .inr (.inl ⟨k, ab, act, j, h1, h _ _ _ h2, plainR_mono h h3, h4⟩)
 ·exact .inr (.inr (.inl ⟨k, ab, db, bb, nb, nm, h1, h _ _ _ h2, h _ _ _ h3, h _ _ _ h4, h _ _ _ h5, h6⟩))
 ·exact .inr (.inr (.inr (.inl ⟨k, b1, b2, va, vb, h1, h _ _ _ h2, h _ _ _ h3, hp _ _ h4, hp _ _ h5⟩)))
 ·exact .inr (.inr (.inr (.inr (.inl ⟨k, b1, va, h1, h _ _ _ h2, hp _ _ h3⟩))))
 ·exact .inr (.inr (.inr (.inr (.inr (.inl ⟨k, b1, b2, va, vb, h1, h _ _ _ h2, h _ _ _ h3, hp _ _ h4, hp _ _ h5⟩)))))
 ·exact .inr (.inr (.inr (.inr (.inr (.inr (.inl ⟨k, b1, va, h1, h _ _ _ h2, hp _ _ h3⟩))))))
 ·exact .inr (.inr (.inr (.inr (.inr (.inr (.inr (.inl hr)))))))
 ·exact .inr (.inr (.inr (.inr (.inr (.inr (.inr (.inr (.inl ⟨k, ab, db, h1, h _ _ _ h2, h _ _ _ h3⟩))))))))
 ·exact .inr (.inr (.inr (.inr (.inr (.inr (.inr (.inr (.inr (.inl hr)))))))))
 ·exact .inr (.inr (.inr (.inr (.inr (.inr (.inr (.inr (.inr (.inr ⟨k, ab, db, sb, tb, tv, ws, h1, h _ _ _ h2, h _ _ _ h3, h _ _ _ h4, h _ _ _ h5, rowM_mono h h6, h7⟩)))))))))
def actsL (P : It → Value → Prop) : List It → List Value → Prop
 | [], cs => cs = []
 | x :: l, cs => ∃ c r, cs = c :: r ∧ P x c ∧ actsL P l r
theorem actsL_imp {P P' : It → Value → Prop} (h : ∀ x c, P x c → P' x c) : ∀ (l : List It) (cs : List Value), actsL P l cs → actsL P' l cs
 | [], _, h0 => h0
 | _ :: l, _, ⟨c, r, h1, h2, h3⟩ => ⟨c, r, h1, h _ _ h2, actsL_imp h l r h3⟩
theorem actsL_len {P : It → Value → Prop} : ∀ (l : List It) (cs : List Value), actsL P l cs → cs.length = l.length
 | [], _, h => by have h : _ = _ := h; subst h; rfl
 | _ :: l, _, ⟨c, r, h1, _, h3⟩ => by rw [h1]; simp [actsL_len l r h3]
theorem actsL_app {P : It → Value → Prop} : ∀ (l l' : List It) (cs cs' : List Value), actsL P l cs → actsL P l' cs' → actsL P (l ++ l') (cs ++ cs')
 | [], _, _, _, h, h' => by have h : _ = _ := h; subst h; exact h'
 | _ :: l, l', _, cs', ⟨c, r, h1, h2, h3⟩, h' => ⟨c, r ++ cs', by rw [h1]; rfl, h2, actsL_app l l' r cs' h3 h'⟩
theorem actsL_at {P : It → Value → Prop} : ∀ (l : List It) (cs : List Value), actsL P l cs → ∀ i (h : i < l.length), ∃ c, cs[i]? = some c ∧ P l[i] c
 | [], _, _, i, h => absurd h (by simp)
 | _ :: l, _, ⟨c, r, h1, h2, h3⟩, 0, h => ⟨c, by rw [h1]; rfl, h2⟩
 | _ :: l, _, ⟨c, r, h1, h2, h3⟩, i + 1, h => by
  obtain ⟨c', h4, h5⟩ := actsL_at l r h3 i (by simpa using h)
  exact ⟨c', by rw [h1]; simpa using h4, h5⟩
def actsIn (M : Mem) (bk ob : Nat) : Nat → Value → List It → Prop
 | 0, _, _ => False
 | g + 1, v, l => ∃ cs, rowM M 239 v cs ∧ actsL (actR M bk ob (actsIn M bk ob g)) l cs
def Acts (M : Mem) (bk ob : Nat) (v : Value) (l : List It) : Prop := ∃ g, actsIn M bk ob g v l
theorem actsIn_mono {M M' : Mem} {bk ob : Nat} (h : ∀ b t c, M b t c → M' b t c) : ∀ (g : Nat) (v : Value) (l : List It), actsIn M bk ob g v l → actsIn M' bk ob g v l
 | 0, _, _, h0 => h0
 | g + 1, _, _, ⟨cs, h1, h2⟩ => ⟨cs, rowM_mono h h1, actsL_imp (fun _ _ => actR_mono h (actsIn_mono h g)) _ _ h2⟩
theorem actsIn_succ {M : Mem} {bk ob : Nat} : ∀ (g : Nat) (v : Value) (l : List It), actsIn M bk ob g v l → actsIn M bk ob (g + 1) v l
 | 0, _, _, h => h.elim
 | g + 1, _, _, ⟨cs, h1, h2⟩ => ⟨cs, h1, actsL_imp (fun _ _ => actR_mono (fun _ _ _ h => h) (actsIn_succ g)) _ _ h2⟩
theorem actsIn_le {M : Mem} {bk ob g g' : Nat} (hg : g ≤ g') {v : Value} {l : List It} (h : actsIn M bk ob g v l) : actsIn M bk ob g' v l := by
 induction hg with
 | refl => exact h
 | step _ ih => exact actsIn_succ _ _ _ ih
theorem Acts.mono {M M' : Mem} {bk ob : Nat} (h : ∀ b t c, M b t c → M' b t c) {v : Value} {l : List It} (hi : Acts M bk ob v l) : Acts M' bk ob v l := by
 obtain ⟨g, hg⟩ := hi; exact ⟨g, actsIn_mono h g v l hg⟩
theorem actR_lift {M : Mem} {bk ob : Nat} {x : It} {c : Value} (hr : actR M bk ob (Acts M bk ob) x c) : ∃ g, actR M bk ob (actsIn M bk ob g) x c := by
 unfold actR at hr
 rcases hr with hr | hr | hr | ⟨k, b1, b2, va, vb, h1, h2, h3, ⟨g1, h4⟩, ⟨g2, h5⟩⟩ | ⟨k, b1, va, h1, h2, ⟨g1, h3⟩⟩ | ⟨k, b1, b2, va, vb, h1, h2, h3, ⟨g1, h4⟩, ⟨g2, h5⟩⟩ | ⟨k, b1, va, h1, h2, ⟨g1, h3⟩⟩ | hr | hr | hr | hr
 ·exact ⟨0, .inl hr⟩
 ·exact ⟨0, .inr (.inl hr)⟩
 ·exact ⟨0, .inr (.inr (.inl hr))⟩
 ·exact ⟨g1 + g2, .inr (.inr (.inr (.inl ⟨k, b1, b2, va, vb, h1, h2, h3, actsIn_le (by omega) h4, actsIn_le (by omega) h5⟩)))⟩
 ·exact ⟨g1, .inr (.inr (.inr (.inr (.inl ⟨k, b1, va, h1, h2, h3⟩))))⟩
 ·exact ⟨g1 + g2, .inr (.inr (.inr (.inr (.inr (.inl ⟨k, b1, b2, va, vb, h1, h2, h3, actsIn_le (by omega) h4, actsIn_le (by omega) h5⟩)))))⟩
 ·exact ⟨g1, .inr (.inr (.inr (.inr (.inr (.inr (.inl ⟨k, b1, va, h1, h2, h3⟩))))))⟩
 ·exact ⟨0, .inr (.inr (.inr (.inr (.inr (.inr (.inr (.inl hr)))))))⟩
 ·exact ⟨0, .inr (.inr (.inr (.inr (.inr (.inr (.inr (.inr (.inl hr))))))))⟩
 ·exact ⟨0, .inr (.inr (.inr (.inr (.inr (.inr (.inr (.inr (.inr (.inl hr)))))))))⟩
 ·exact ⟨0, .inr (.inr (.inr (.inr (.inr (.inr (.inr (.inr (.inr (.inr hr)))))))))⟩
theorem actsL_lift {M : Mem} {bk ob : Nat} : ∀ (l : List It) (cs : List Value), actsL (actR M bk ob (Acts M bk ob)) l cs → ∃ g, actsL (actR M bk ob (actsIn M bk ob g)) l cs
 | [], _, h => ⟨0, h⟩
 | _ :: l, _, ⟨c, r, h1, h2, h3⟩ => by
  obtain ⟨g1, h2⟩ := actR_lift h2
  obtain ⟨g2, h3⟩ := actsL_lift l r h3
  exact ⟨g1 + g2, c, r, h1, actR_mono (fun _ _ _ h => h) (fun _ _ => actsIn_le (by omega)) h2, actsL_imp (fun _ _ => actR_mono (fun _ _ _ h => h) (fun _ _ => actsIn_le (by omega))) _ _ h3⟩
theorem Acts.of {M : Mem} {bk ob : Nat} {v : Value} {l : List It} {cs : List Value} (h1 : rowM M 239 v cs) (h2 : actsL (actR M bk ob (Acts M bk ob)) l cs) : Acts M bk ob v l := by
 obtain ⟨g, h⟩ := actsL_lift l cs h2
 exact ⟨g + 1, cs, h1, h⟩
theorem Acts.out {M : Mem} {bk ob : Nat} {v : Value} {l : List It} (h : Acts M bk ob v l) : ∃ cs, rowM M 239 v cs ∧ actsL (actR M bk ob (Acts M bk ob)) l cs := by
 obtain ⟨g, h⟩ := h
 cases g with
 | zero => exact h.elim
 | succ g =>
  obtain ⟨cs, h1, h2⟩ := h
  exact ⟨cs, h1, actsL_imp (fun _ _ => actR_mono (fun _ _ _ h => h) (fun _ _ h => ⟨g, h⟩)) _ _ h2⟩
theorem Acts.form {M : Mem} {bk ob : Nat} {v : Value} {l : List It} (h : Acts M bk ob v l) : ∃ ao cap, v = .slice ao l.length cap := by
 obtain ⟨cs, h1, h2⟩ := h.out
 obtain ⟨ao, cap, rfl⟩ := h1.form
 exact ⟨ao, cap, by rw [actsL_len _ _ h2]⟩
end
section
open Go.RowKit
theorem Blk.new3 (w : World) (o o1 o2 : Obj) (c : Array Value) (t : TypeId) : Blk ((((w.alloc o).alloc o1).alloc o2).alloc (.cells c t)) (w.heap.size + 1 + 1 + 1) t c := by
 have := Blk.new (((w.alloc o).alloc o1).alloc o2) c t; rw [World.size_alloc, World.size_alloc, World.size_alloc] at this; exact this
theorem Blk.new4 (w : World) (o o1 o2 o3 : Obj) (c : Array Value) (t : TypeId) : Blk (((((w.alloc o).alloc o1).alloc o2).alloc o3).alloc (.cells c t)) (w.heap.size + 1 + 1 + 1 + 1) t c := by
 have := Blk.new ((((w.alloc o).alloc o1).alloc o2).alloc o3) c t; rw [World.size_alloc, World.size_alloc, World.size_alloc, World.size_alloc] at this; exact this
theorem Blk.new5 (w : World) (o o1 o2 o3 o4 : Obj) (c : Array Value) (t : TypeId) : Blk ((((((w.alloc o).alloc o1).alloc o2).alloc o3).alloc o4).alloc (.cells c t)) (w.heap.size + 1 + 1 + 1 + 1 + 1) t c := by
 have := Blk.new (((((w.alloc o).alloc o1).alloc o2).alloc o3).alloc o4) c t; rw [World.size_alloc, World.size_alloc, World.size_alloc, World.size_alloc, World.size_alloc] at this; exact this
theorem plainR_form {M : Mem} {j : Nat} {act : Value} (h : plainR M j act) : ∃ n f c, act = .func (.func n) f c := by
 unfold plainR at h
 split at h
 all_goals first
  | (obtain ⟨b, rfl, _⟩ := h; exact ⟨_, _, _, rfl⟩)
  | (obtain ⟨cb, b, pv, rfl, _⟩ := h; exact ⟨_, _, _, rfl⟩)
  | (have h : act = _ := h; subst h; exact ⟨_, _, _, rfl⟩)
  | exact h.elim
theorem nw (w : World) (k : Nat) : New w (w.heap.size + k) := Nat.le_add_right _ _
theorem fa_num (w : World) (bk ob : Nat) (x : It) (hx : x.kind = 110) (hn : In x.n) (pl : Int) (nm : ByteArray) (a1 a2 a3 : Option Addr) (m1 m2 m3 p1 p2 p3 : Nat) (P : Value → List It → Prop) :
  Calls Tryz.prog 167 #[.agg #[pt bk, pt ob], it7 0 x.n pl nm (.slice a1 m1 p1) (.slice a2 m2 p2) (.slice a3 m3 p3)] w fun e w' => ∃ c, e = .returned c ∧ Kp w w' (fun _ => False) ∧ actR (BD (New w) w') bk ob P x c := by
 have hmf := mkFunc
 go_enter Tryz.func167, Tryz.ntmps167
 go_wp2
 go_ret
 refine ⟨_, rfl, ?_, ?_⟩
 ·exact ((((Kp.refl _ _).alloc _).alloc _).alloc _).alloc _
 ·exact .inl ⟨hx, hn, _, _, rfl, ⟨nw w 3, Blk.new3 w _ _ _ _ _⟩, ⟨nw w 2, (Blk.new2 w _ _ _ _).alloc _⟩⟩
theorem fa_i (w : World) (bk ob : Nat) (x : It) (hx : x.kind = 105) (n pl : Int) (nm : ByteArray) (a1 a2 a3 : Option Addr) (m1 m2 m3 p1 p2 p3 : Nat) (P : Value → List It → Prop) :
  Calls Tryz.prog 167 #[.agg #[pt bk, pt ob], it7 7 n pl nm (.slice a1 m1 p1) (.slice a2 m2 p2) (.slice a3 m3 p3)] w fun e w' => ∃ c, e = .returned c ∧ Kp w w' (fun _ => False) ∧ actR (BD (New w) w') bk ob P x c := by
 have hmf := mkFunc
 go_enter Tryz.func167, Tryz.ntmps167
 go_wp2
 go_ret
 refine ⟨_, rfl, ?_, ?_⟩
 ·exact ((Kp.refl _ _).alloc _).alloc _
 ·exact .inr (.inr (.inr (.inr (.inr (.inr (.inr (.inl ⟨hx, rfl⟩)))))))
theorem fa_exit (w : World) (bk ob : Nat) (x : It) (hx : x.kind = 120) (n pl : Int) (nm : ByteArray) (a1 a2 a3 : Option Addr) (m1 m2 m3 p1 p2 p3 : Nat) (P : Value → List It → Prop) :
  Calls Tryz.prog 167 #[.agg #[pt bk, pt ob], it7 9 n pl nm (.slice a1 m1 p1) (.slice a2 m2 p2) (.slice a3 m3 p3)] w fun e w' => ∃ c, e = .returned c ∧ Kp w w' (fun _ => False) ∧ actR (BD (New w) w') bk ob P x c := by
 have hmf := mkFunc
 go_enter Tryz.func167, Tryz.ntmps167
 go_wp2
 go_ret
 refine ⟨_, rfl, ?_, ?_⟩
 ·exact ((Kp.refl _ _).alloc _).alloc _
 ·exact .inr (.inr (.inr (.inr (.inr (.inr (.inr (.inr (.inr (.inl ⟨hx, rfl⟩)))))))))
theorem fa_call (w : World) (bk ob : Nat) (x : It) (hx : x.kind = 99) (n pl : Int) (nm : ByteArray) (hnm : nm.data.toList = x.name) (hs : nm.size ≤ 1000) (a1 a2 a3 : Option Addr) (m1 m2 m3 p1 p2 p3 : Nat) (P : Value → List It → Prop) :
  Calls Tryz.prog 167 #[.agg #[pt bk, pt ob], it7 2 n pl nm (.slice a1 m1 p1) (.slice a2 m2 p2) (.slice a3 m3 p3)] w fun e w' => ∃ c, e = .returned c ∧ Kp w w' (fun _ => False) ∧ actR (BD (New w) w') bk ob P x c := by
 have hmf := mkFunc
 go_enter Tryz.func167, Tryz.ntmps167
 go_wp2
 go_ret
 refine ⟨_, rfl, ?_, ?_⟩
 ·exact ((((((Kp.refl _ _).alloc _).alloc _).alloc _).alloc _).alloc _).alloc _
 ·exact .inr (.inr (.inl ⟨hx, _, _, _, _, nm, rfl, ⟨nw w 5, Blk.new5 w _ _ _ _ _ _ _⟩, ⟨nw w 4, (Blk.new4 w _ _ _ _ _ _).alloc _⟩, ⟨nw w 2, (((Blk.new2 w _ _ _ _).alloc _).alloc _).alloc _⟩, ⟨nw w 3, ((Blk.new3 w _ _ _ _ _).alloc _).alloc _⟩, hnm, hs⟩))
theorem fa_rec (w : World) (bk ob : Nat) (x : It) (hx : x.kind = 114) (n pl : Int) (nm : ByteArray) (a1 a2 a3 : Option Addr) (m1 m2 m3 p1 p2 p3 : Nat) (P : Value → List It → Prop) :
  Calls Tryz.prog 167 #[.agg #[pt bk, pt ob], it7 8 n pl nm (.slice a1 m1 p1) (.slice a2 m2 p2) (.slice a3 m3 p3)] w fun e w' => ∃ c, e = .returned c ∧ Kp w w' (fun _ => False) ∧ actR (BD (New w) w') bk ob P x c := by
 have hmf := mkFunc
 go_enter Tryz.func167, Tryz.ntmps167
 go_wp2
 go_ret
 refine ⟨_, rfl, ?_, ?_⟩
 ·exact ((((Kp.refl _ _).alloc _).alloc _).alloc _).alloc _
 ·exact .inr (.inr (.inr (.inr (.inr (.inr (.inr (.inr (.inl ⟨hx, _, _, rfl, ⟨nw w 3, Blk.new3 w _ _ _ _ _⟩, ⟨nw w 2, (Blk.new2 w _ _ _ _).alloc _⟩⟩))))))))
theorem fa_plain (w : World) (bk ob : Nat) (x : It) (hx : x.kind = 112) (j : Nat) (hj : plainL.findIdx? (· == x.name) = some j) (n K : Int) (hK : K = (j : Int) + 2) (nm : ByteArray) (a1 a2 a3 : Option Addr) (m1 m2 m3 p1 p2 p3 : Nat) (P : Value → List It → Prop) :
  Calls Tryz.prog 167 #[.agg #[pt bk, pt ob], it7 1 n K nm (.slice a1 m1 p1) (.slice a2 m2 p2) (.slice a3 m3 p3)] w fun e w' => ∃ c, e = .returned c ∧ Kp w w' (fun _ => False) ∧ actR (BD (New w) w') bk ob P x c := by
 have hmf := mkFunc
 have hj16 : j < 16 := by obtain ⟨h, _⟩ := List.findIdx?_eq_some_iff_getElem.1 hj; exact h
 have HP : Hid (∀ w, Calls Tryz.prog 65 #[.int .i64 K] w fun e w' => ∃ act, e = .returned act ∧ Kp w w' (fun _ => False) ∧ plainR (BD (fun k => w.heap.size ≤ k) w') j act) := fun w => mkPlain j hj16 K hK w
 clear hK hj16
 go_enter Tryz.func167, Tryz.ntmps167
 go_wp2_with fail
 refine (HP.out _).mono ?_
 rintro e w1 ⟨act, rfl, hk1, hp⟩
 obtain ⟨fn, ff, fc, rfl⟩ := plainR_form hp
 have hkp : Kp w w1 (fun _ => False) := (((Kp.refl w (fun _ => False)).alloc _).alloc _).trans hk1
 have hsz := hkp.size
 have HPp : Hid (plainR (BD (New w) w1) j (.func (.func fn) ff fc)) := plainR_mono (BD_sub (fun b _ h => by
  have h : ((w.alloc _).alloc _).heap.size ≤ b := h
  rw [World.size_alloc, World.size_alloc] at h
  show w.heap.size ≤ b; omega)) hp
 clear hp hk1
 go_wp2
 go_ret
 refine ⟨_, rfl, hkp.alloc _, ?_⟩
 exact .inr (.inl ⟨hx, _, _, j, rfl, ⟨hsz, Blk.new w1 _ _⟩, plainR_mono (fun b t c h => ⟨h.1, h.2.alloc _⟩) HPp.out, hj⟩)
theorem fa_braces (w : World) (bk ob : Nat) (D : Nat → Prop) (x : It) (hx : x.kind = 123) (n pl : Int) (nm : ByteArray) (a1 a2 a3 : Option Addr) (m1 m2 m3 p1 p2 p3 : Nat) (ws : List ByteArray) (hr : rowM (BD D w) 9 (.slice a1 m1 p1) (ws.map Value.string)) (htx : texts ws = x.toks) (ho : ∀ t ∈ ws, okW t) (hl : ws.length ≤ 1000) (P : Value → List It → Prop) :
  Calls Tryz.prog 167 #[.agg #[pt bk, pt ob], it7 10 n pl nm (.slice a1 m1 p1) (.slice a2 m2 p2) (.slice a3 m3 p3)] w fun e w' => ∃ c, e = .returned c ∧ Kp w w' (fun _ => False) ∧ actR (BD (fun b => D b ∨ New w b) w') bk ob P x c := by
 have hmf := mkFunc
 have HR := hide hr
 clear hr
 go_enter Tryz.func167, Tryz.ntmps167
 go_wp2
 go_ret
 refine ⟨_, rfl, ((((((Kp.refl _ _).alloc _).alloc _).alloc _).alloc _).alloc _).alloc _, ?_⟩
 exact .inr (.inr (.inr (.inr (.inr (.inr (.inr (.inr (.inr (.inr (⟨hx, _, _, _, _, _, ws, rfl, ⟨.inr (nw w 5), Blk.new5 w _ _ _ _ _ _ _⟩, ⟨.inr (nw w 4), (Blk.new4 w _ _ _ _ _ _).alloc _⟩, ⟨.inr (nw w 2), (((Blk.new2 w _ _ _ _).alloc _).alloc _).alloc _⟩, ⟨.inr (nw w 3), ((Blk.new3 w _ _ _ _ _).alloc _).alloc _⟩, rowM_mono (fun b t c h => ⟨.inl h.1, (((((h.2.alloc _).alloc _).alloc _).alloc _).alloc _).alloc _⟩) HR.out, htx, ho, hl⟩))))))))))
end
section
open Go.RowKit
def FActs (g : Nat) : Prop := ∀ (w : World) (D : Nat → Prop) (bk ob : Nat) (v : Value) (l : List It), itemsIn (BD D w) g v l →
 Calls Tryz.prog 138 #[.agg #[pt bk, pt ob], v] w fun e w' => ∃ ao cap, e = .returned (.slice ao l.length cap) ∧ Kp w w' (fun _ => False) ∧ Acts (BD (fun b => D b ∨ New w b) w') bk ob (.slice ao l.length cap) l
theorem FActs.at {g : Nat} (hF : FActs g) {w W : World} {D : Nat → Prop} {v : Value} {l : List It} (bk ob : Nat) (h : itemsIn (BD D w) g v l) (hk : Kp w W (fun _ => False)) : ∀ w0, Kp W w0 (fun _ => False) →
  Calls Tryz.prog 138 #[.agg #[pt bk, pt ob], v] w0 fun e w' => ∃ ao cap, e = .returned (.slice ao l.length cap) ∧ Kp w0 w' (fun _ => False) ∧ Kp W w' (fun _ => False) ∧ Acts (BD (fun b => D b ∨ New w b) w') bk ob (.slice ao l.length cap) l := by
 intro w0 h0
 have hkk := hk.trans h0
 refine (hF w0 D bk ob v l (itemsIn_mono (BD_keep hkk (fun b _ hb => ⟨hb, by simp⟩)) g v l h)).mono ?_
 rintro e w' ⟨ao, cap, rfl, h1, h2⟩
 refine ⟨ao, cap, rfl, h1, h0.trans h1, h2.mono (BD_sub (fun b _ hb => ?_))⟩
 rcases hb with hb | hb
 ·exact .inl hb
 ·right; have : w0.heap.size ≤ b := hb; have := hkk.size; show w.heap.size ≤ b; omega
theorem mk_choose (w : World) (b1 b2 : Option Addr) (n1 n2 c1 c2 : Nat) : Calls Tryz.prog 187 #[.slice b1 n1 c1, .slice b2 n2 c2] w fun e w' => e = .returned (.func (.func 206) #[] #[pt w.heap.size, pt (w.heap.size + 1)]) ∧ w' = (w.alloc (.cells #[.slice b1 n1 c1] 189)).alloc (.cells #[.slice b2 n2 c2] 189) := by
 have hmf := mkFunc
 go_enter Tryz.func187, Tryz.ntmps187
 go_wp2
 go_ret
 exact ⟨rfl, rfl⟩
theorem mk_while (w : World) (b1 b2 : Option Addr) (n1 n2 c1 c2 : Nat) : Calls Tryz.prog 189 #[.slice b1 n1 c1, .slice b2 n2 c2] w fun e w' => e = .returned (.func (.func 209) #[] #[pt w.heap.size, pt (w.heap.size + 1)]) ∧ w' = (w.alloc (.cells #[.slice b1 n1 c1] 189)).alloc (.cells #[.slice b2 n2 c2] 189) := by
 have hmf := mkFunc
 go_enter Tryz.func189, Tryz.ntmps189
 go_wp2
 go_ret
 exact ⟨rfl, rfl⟩
theorem fa_until (g : Nat) (hF : FActs g) (w : World) (bk ob : Nat) (D : Nat → Prop) (x : It) (hx : x.kind = 117) (n pl : Int) (nm : ByteArray) (a1 a2 a3 : Option Addr) (m1 m2 m3 p1 p2 p3 : Nat) (ha : itemsIn (BD D w) g (.slice a2 m2 p2) x.a) :
  Calls Tryz.prog 167 #[.agg #[pt bk, pt ob], it7 4 n pl nm (.slice a1 m1 p1) (.slice a2 m2 p2) (.slice a3 m3 p3)] w fun e w' => ∃ c, e = .returned c ∧ Kp w w' (fun _ => False) ∧ actR (BD (fun b => D b ∨ New w b) w') bk ob (Acts (BD (fun b => D b ∨ New w b) w') bk ob) x c := by
 have hmf := mkFunc
 have HC := hide (hF.at bk ob ha (((Kp.refl w (fun _ => False)).alloc (.cells #[pt bk, pt ob] 193)).alloc (.cells #[.int .i64 4, .int .i64 n, .int .i64 pl, .string nm, .slice a1 m1 p1, .slice a2 m2 p2, .slice a3 m3 p3] 237)) _ (Kp.refl _ _))
 clear hF ha
 go_enter Tryz.func167, Tryz.ntmps167
 go_wp2_with fail
 refine HC.out.mono ?_
 rintro e w1 ⟨ao, cap, rfl, hk1, -, hA⟩
 have hkp : Kp w w1 (fun _ => False) := (((Kp.refl w (fun _ => False)).alloc _).alloc _).trans hk1
 have hsz := hkp.size
 have HA := hide hA
 clear hA hk1 HC
 go_wp2
 go_ret
 refine ⟨_, rfl, hkp.alloc _, ?_⟩
 exact .inr (.inr (.inr (.inr (.inl ⟨hx, _, _, rfl, ⟨.inr hsz, Blk.new w1 _ _⟩, HA.out.mono (fun b t c h => ⟨h.1, h.2.alloc _⟩)⟩))))
theorem fa_do (g : Nat) (hF : FActs g) (w : World) (bk ob : Nat) (D : Nat → Prop) (x : It) (hx : x.kind = 100) (n pl : Int) (nm : ByteArray) (a1 a2 a3 : Option Addr) (m1 m2 m3 p1 p2 p3 : Nat) (ha : itemsIn (BD D w) g (.slice a2 m2 p2) x.a) :
  Calls Tryz.prog 167 #[.agg #[pt bk, pt ob], it7 6 n pl nm (.slice a1 m1 p1) (.slice a2 m2 p2) (.slice a3 m3 p3)] w fun e w' => ∃ c, e = .returned c ∧ Kp w w' (fun _ => False) ∧ actR (BD (fun b => D b ∨ New w b) w') bk ob (Acts (BD (fun b => D b ∨ New w b) w') bk ob) x c := by
 have hmf := mkFunc
 have HC := hide (hF.at bk ob ha (((Kp.refl w (fun _ => False)).alloc (.cells #[pt bk, pt ob] 193)).alloc (.cells #[.int .i64 6, .int .i64 n, .int .i64 pl, .string nm, .slice a1 m1 p1, .slice a2 m2 p2, .slice a3 m3 p3] 237)) _ (Kp.refl _ _))
 clear hF ha
 go_enter Tryz.func167, Tryz.ntmps167
 go_wp2_with fail
 refine HC.out.mono ?_
 rintro e w1 ⟨ao, cap, rfl, hk1, -, hA⟩
 have hkp : Kp w w1 (fun _ => False) := (((Kp.refl w (fun _ => False)).alloc _).alloc _).trans hk1
 have hsz := hkp.size
 have HA := hide hA
 clear hA hk1 HC
 go_wp2
 go_ret
 refine ⟨_, rfl, hkp.alloc _, ?_⟩
 exact .inr (.inr (.inr (.inr (.inr (.inr (.inl ⟨hx, _, _, rfl, ⟨.inr hsz, Blk.new w1 _ _⟩, HA.out.mono (fun b t c h => ⟨h.1, h.2.alloc _⟩)⟩))))))
theorem fa_if (g : Nat) (hF : FActs g) (w : World) (bk ob : Nat) (D : Nat → Prop) (x : It) (hx : x.kind = 63) (n pl : Int) (nm : ByteArray) (a1 a2 a3 : Option Addr) (m1 m2 m3 p1 p2 p3 : Nat) (ha : itemsIn (BD D w) g (.slice a2 m2 p2) x.a) (hb : itemsIn (BD D w) g (.slice a3 m3 p3) x.b) :
  Calls Tryz.prog 167 #[.agg #[pt bk, pt ob], it7 3 n pl nm (.slice a1 m1 p1) (.slice a2 m2 p2) (.slice a3 m3 p3)] w fun e w' => ∃ c, e = .returned c ∧ Kp w w' (fun _ => False) ∧ actR (BD (fun b => D b ∨ New w b) w') bk ob (Acts (BD (fun b => D b ∨ New w b) w') bk ob) x c := by
 have hmf := mkFunc
 have hW : Kp w ((w.alloc (.cells #[pt bk, pt ob] 193)).alloc (.cells #[.int .i64 3, .int .i64 n, .int .i64 pl, .string nm, .slice a1 m1 p1, .slice a2 m2 p2, .slice a3 m3 p3] 237)) (fun _ => False) := ((Kp.refl w (fun _ => False)).alloc _).alloc _
 have hb0 : Blk ((w.alloc (.cells #[pt bk, pt ob] 193)).alloc (.cells #[.int .i64 3, .int .i64 n, .int .i64 pl, .string nm, .slice a1 m1 p1, .slice a2 m2 p2, .slice a3 m3 p3] 237)) w.heap.size 193 #[pt bk, pt ob] := (Blk.new w _ _).alloc _
 have hb1 := Blk.new1 w (.cells #[pt bk, pt ob] 193) #[.int .i64 3, .int .i64 n, .int .i64 pl, .string nm, .slice a1 m1 p1, .slice a2 m2 p2, .slice a3 m3 p3] 237
 have HC1 := hide (hF.at bk ob ha hW)
 have HC2 := hide (hF.at bk ob hb hW)
 have HK := hide hW
 have HB0 := hide hb0
 have HB1 := hide hb1
 clear hF ha hb hW hb0 hb1
 go_enter Tryz.func167, Tryz.ntmps167
 go_wp2
 go_region_held3 (fun w' => w'.cell? ⟨w.heap.size, 0, none⟩ = some (pt bk) ∧ w'.cell? ⟨w.heap.size, 1, none⟩ = some (pt ob) ∧ w'.cell? ⟨w.heap.size + 1, 5, none⟩ = some (.slice a2 m2 p2) ∧ w'.cell? ⟨w.heap.size + 1, 6, none⟩ = some (.slice a3 m3 p3)) (go_keep) (first
  | (go_at_call_of 138 (Value.slice a2 m2 p2); refine (HC1.out _ ?_).mono ?_; exact (Kp.refl _ _).drew; rintro e w1 ⟨ao1, cap1, rfl, -, hk1, hA1⟩; have HA1 := hide hA1; have HK1 := hide hk1; have u0 : w1.cell? ⟨w.heap.size, 0, none⟩ = some (pt bk) := (hk1.blk HB0.out (by simp)).cell rfl; have u1 : w1.cell? ⟨w.heap.size, 1, none⟩ = some (pt ob) := (hk1.blk HB0.out (by simp)).cell rfl; have u3 : w1.cell? ⟨w.heap.size + 1, 5, none⟩ = some (.slice a2 m2 p2) := (hk1.blk HB1.out (by simp)).cell rfl; have u2 : w1.cell? ⟨w.heap.size + 1, 6, none⟩ = some (.slice a3 m3 p3) := (hk1.blk HB1.out (by simp)).cell rfl; clear hA1 hk1)
  | (go_at_call_of 138 (Value.slice a3 m3 p3); refine (HC2.out _ ?_).mono ?_; exact HK1.out; rintro e w2 ⟨ao2, cap2, rfl, hk2, hk3, hA2⟩; have HA2 := hide hA2; have HK2 := hide hk2; have HK3 := hide hk3; have u0 : w2.cell? ⟨w.heap.size, 0, none⟩ = some (pt bk) := (hk3.blk HB0.out (by simp)).cell rfl; have u1 : w2.cell? ⟨w.heap.size, 1, none⟩ = some (pt ob) := (hk3.blk HB0.out (by simp)).cell rfl; have u3 : w2.cell? ⟨w.heap.size + 1, 5, none⟩ = some (.slice a2 m2 p2) := (hk3.blk HB1.out (by simp)).cell rfl; have u2 : w2.cell? ⟨w.heap.size + 1, 6, none⟩ = some (.slice a3 m3 p3) := (hk3.blk HB1.out (by simp)).cell rfl; have hlt3 := (hk3.blk HB1.out (by simp)).lt; clear hA2 hk2 hk3)
  | (go_at_call 187; refine (mk_choose _ _ _ _ _ _ _).mono ?_; rintro e w3 ⟨rfl, rfl⟩))
 go_wp2
 go_ret
 have hkp := HK.out.trans HK3.out
 have hsz := hkp.size
 have hka := BD_keep (D := fun b => D b ∨ New w b) (D' := fun b => D b ∨ New w b) HK2.out (fun b _ hb => ⟨hb, by simp⟩)
 refine ⟨_, rfl, (hkp.alloc _).alloc _, ?_⟩
 exact .inr (.inr (.inr (.inl ⟨hx, _, _, _, _, rfl, ⟨.inr hsz, (Blk.new w2 _ _).alloc _⟩, ⟨.inr (Nat.le_succ_of_le hsz), Blk.new1 w2 _ _ _⟩, (HA1.out.mono hka).mono (fun b t c h => ⟨h.1, (h.2.alloc _).alloc _⟩), HA2.out.mono (fun b t c h => ⟨h.1, (h.2.alloc _).alloc _⟩)⟩)))
theorem fa_while (g : Nat) (hF : FActs g) (w : World) (bk ob : Nat) (D : Nat → Prop) (x : It) (hx : x.kind = 119) (n pl : Int) (nm : ByteArray) (a1 a2 a3 : Option Addr) (m1 m2 m3 p1 p2 p3 : Nat) (ha : itemsIn (BD D w) g (.slice a2 m2 p2) x.a) (hb : itemsIn (BD D w) g (.slice a3 m3 p3) x.b) :
  Calls Tryz.prog 167 #[.agg #[pt bk, pt ob], it7 5 n pl nm (.slice a1 m1 p1) (.slice a2 m2 p2) (.slice a3 m3 p3)] w fun e w' => ∃ c, e = .returned c ∧ Kp w w' (fun _ => False) ∧ actR (BD (fun b => D b ∨ New w b) w') bk ob (Acts (BD (fun b => D b ∨ New w b) w') bk ob) x c := by
 have hmf := mkFunc
 have hW : Kp w ((w.alloc (.cells #[pt bk, pt ob] 193)).alloc (.cells #[.int .i64 5, .int .i64 n, .int .i64 pl, .string nm, .slice a1 m1 p1, .slice a2 m2 p2, .slice a3 m3 p3] 237)) (fun _ => False) := ((Kp.refl w (fun _ => False)).alloc _).alloc _
 have hb0 : Blk ((w.alloc (.cells #[pt bk, pt ob] 193)).alloc (.cells #[.int .i64 5, .int .i64 n, .int .i64 pl, .string nm, .slice a1 m1 p1, .slice a2 m2 p2, .slice a3 m3 p3] 237)) w.heap.size 193 #[pt bk, pt ob] := (Blk.new w _ _).alloc _
 have hb1 := Blk.new1 w (.cells #[pt bk, pt ob] 193) #[.int .i64 5, .int .i64 n, .int .i64 pl, .string nm, .slice a1 m1 p1, .slice a2 m2 p2, .slice a3 m3 p3] 237
 have HC1 := hide (hF.at bk ob ha hW)
 have HC2 := hide (hF.at bk ob hb hW)
 have HK := hide hW
 have HB0 := hide hb0
 have HB1 := hide hb1
 clear hF ha hb hW hb0 hb1
 go_enter Tryz.func167, Tryz.ntmps167
 go_wp2
 go_region_held3 (fun w' => w'.cell? ⟨w.heap.size, 0, none⟩ = some (pt bk) ∧ w'.cell? ⟨w.heap.size, 1, none⟩ = some (pt ob) ∧ w'.cell? ⟨w.heap.size + 1, 5, none⟩ = some (.slice a2 m2 p2) ∧ w'.cell? ⟨w.heap.size + 1, 6, none⟩ = some (.slice a3 m3 p3)) (go_keep) (first
  | (go_at_call_of 138 (Value.slice a2 m2 p2); refine (HC1.out _ ?_).mono ?_; exact (Kp.refl _ _).drew; rintro e w1 ⟨ao1, cap1, rfl, -, hk1, hA1⟩; have HA1 := hide hA1; have HK1 := hide hk1; have u0 : w1.cell? ⟨w.heap.size, 0, none⟩ = some (pt bk) := (hk1.blk HB0.out (by simp)).cell rfl; have u1 : w1.cell? ⟨w.heap.size, 1, none⟩ = some (pt ob) := (hk1.blk HB0.out (by simp)).cell rfl; have u3 : w1.cell? ⟨w.heap.size + 1, 5, none⟩ = some (.slice a2 m2 p2) := (hk1.blk HB1.out (by simp)).cell rfl; have u2 : w1.cell? ⟨w.heap.size + 1, 6, none⟩ = some (.slice a3 m3 p3) := (hk1.blk HB1.out (by simp)).cell rfl; clear hA1 hk1)
  | (go_at_call_of 138 (Value.slice a3 m3 p3); refine (HC2.out _ ?_).mono ?_; exact HK1.out; rintro e w2 ⟨ao2, cap2, rfl, hk2, hk3, hA2⟩; have HA2 := hide hA2; have HK2 := hide hk2; have HK3 := hide hk3; have u0 : w2.cell? ⟨w.heap.size, 0, none⟩ = some (pt bk) := (hk3.blk HB0.out (by simp)).cell rfl; have u1 : w2.cell? ⟨w.heap.size, 1, none⟩ = some (pt ob) := (hk3.blk HB0.out (by simp)).cell rfl; have u3 : w2.cell? ⟨w.heap.size + 1, 5, none⟩ = some (.slice a2 m2 p2) := (hk3.blk HB1.out (by simp)).cell rfl; have u2 : w2.cell? ⟨w.heap.size + 1, 6, none⟩ = some (.slice a3 m3 p3) := (hk3.blk HB1.out (by simp)).cell rfl; have hlt3 := (hk3.blk HB1.out (by simp)).lt; clear hA2 hk2 hk3)
  | (go_at_call 189; refine (mk_while _ _ _ _ _ _ _).mono ?_; rintro e w3 ⟨rfl, rfl⟩))
 go_wp2
 go_ret
 have hkp := HK.out.trans HK3.out
 have hsz := hkp.size
 have hka := BD_keep (D := fun b => D b ∨ New w b) (D' := fun b => D b ∨ New w b) HK2.out (fun b _ hb => ⟨hb, by simp⟩)
 refine ⟨_, rfl, (hkp.alloc _).alloc _, ?_⟩
 exact .inr (.inr (.inr (.inr (.inr (.inl ⟨hx, _, _, _, _, rfl, ⟨.inr hsz, (Blk.new w2 _ _).alloc _⟩, ⟨.inr (Nat.le_succ_of_le hsz), Blk.new1 w2 _ _ _⟩, (HA1.out.mono hka).mono (fun b t c h => ⟨h.1, (h.2.alloc _).alloc _⟩), HA2.out.mono (fun b t c h => ⟨h.1, (h.2.alloc _).alloc _⟩)⟩)))))
end
end Go.Proofs.YtldifaahmpecfaaGreatDoor
