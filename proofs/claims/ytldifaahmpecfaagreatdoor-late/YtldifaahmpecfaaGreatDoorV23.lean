import Derived.Test.YtldifaahmpecfaaGreatDoorV22
import Derived.Test.YtldifaahmpecfaaGreatDoorV7
namespace Go.Proofs.YtldifaahmpecfaaGreatDoor
set_option maxRecDepth 1000000
set_option maxHeartbeats 4000000
set_option linter.all false
section
open Go.RowKit
theorem actF (g : Nat) (hF : FActs g) (w : World) (D : Nat → Prop) (bk ob : Nat) (x : It) (n pl : Int) (nm : ByteArray) (a1 a2 a3 : Option Addr) (m1 m2 m3 p1 p2 p3 : Nat) (h : PItm (BD D w) (itemsIn (BD D w) g) x n pl nm (.slice a1 m1 p1) (.slice a2 m2 p2) (.slice a3 m3 p3)) :
  Calls Tryz.prog 167 #[.agg #[pt bk, pt ob], it7 (kindP x.kind) n pl nm (.slice a1 m1 p1) (.slice a2 m2 p2) (.slice a3 m3 p3)] w fun e w' => ∃ c, e = .returned c ∧ Kp w w' (fun _ => False) ∧ actR (BD (fun b => D b ∨ New w b) w') bk ob (Acts (BD (fun b => D b ∨ New w b) w') bk ob) x c := by
 have lift : ∀ (e : Ending) (w' : World), (∃ c, e = .returned c ∧ Kp w w' (fun _ => False) ∧ actR (BD (New w) w') bk ob (fun _ _ => False) x c) → ∃ c, e = .returned c ∧ Kp w w' (fun _ => False) ∧ actR (BD (fun b => D b ∨ New w b) w') bk ob (Acts (BD (fun b => D b ∨ New w b) w') bk ob) x c := by
  rintro e w' ⟨c, h1, h2, h3⟩
  exact ⟨c, h1, h2, actR_mono (BD_sub (fun b _ hb => .inr hb)) (fun _ _ h => h.elim) h3⟩
 rcases h.kd with hk | hk | hk | hk | hk | hk | hk | hk | hk | hk | hk
 ·obtain ⟨rfl, hn⟩ := h.num hk
  rw [hk]
  exact (fa_num w bk ob x hk hn pl nm a1 a2 a3 m1 m2 m3 p1 p2 p3 _).mono lift
 ·obtain ⟨j, hj, hp⟩ := h.pln hk
  rw [hk]
  exact (fa_plain w bk ob x hk j hj n pl hp nm a1 a2 a3 m1 m2 m3 p1 p2 p3 _).mono lift
 ·obtain ⟨hn, hs⟩ := h.name hk
  rw [hk]
  exact (fa_call w bk ob x hk n pl nm hn hs a1 a2 a3 m1 m2 m3 p1 p2 p3 _).mono lift
 ·rw [hk]; exact fa_if g hF w bk ob D x hk n pl nm a1 a2 a3 m1 m2 m3 p1 p2 p3 h.a h.b
 ·rw [hk]; exact fa_until g hF w bk ob D x hk n pl nm a1 a2 a3 m1 m2 m3 p1 p2 p3 h.a
 ·rw [hk]; exact fa_while g hF w bk ob D x hk n pl nm a1 a2 a3 m1 m2 m3 p1 p2 p3 h.a h.b
 ·rw [hk]; exact fa_do g hF w bk ob D x hk n pl nm a1 a2 a3 m1 m2 m3 p1 p2 p3 h.a
 ·rw [hk]; exact (fa_i w bk ob x hk n pl nm a1 a2 a3 m1 m2 m3 p1 p2 p3 _).mono lift
 ·rw [hk]; exact (fa_rec w bk ob x hk n pl nm a1 a2 a3 m1 m2 m3 p1 p2 p3 _).mono lift
 ·rw [hk]; exact (fa_exit w bk ob x hk n pl nm a1 a2 a3 m1 m2 m3 p1 p2 p3 _).mono lift
 ·obtain ⟨ws, h1, h2⟩ := h.toks
  obtain ⟨h3, h4, h5⟩ := h2 hk
  rw [hk]
  refine (fa_braces w bk ob D x hk n pl nm a1 a2 a3 m1 m2 m3 p1 p2 p3 ws h1 h3 h4 h5 (fun _ _ => False)).mono ?_
  rintro e w' ⟨c, h1, h2, h3⟩
  exact ⟨c, h1, h2, actR_mono (fun _ _ _ h => h) (fun _ _ h => h.elim) h3⟩
theorem seven (a0 a1 a2 a3 a4 a5 a6 : Value) (rest : List Value) (i j : Nat) : (a0 :: a1 :: a2 :: a3 :: a4 :: a5 :: a6 :: rest)[(i + 1) * 7 + j]? = rest[i * 7 + j]? := by
 rw [show (i + 1) * 7 + j = i * 7 + j + 1 + 1 + 1 + 1 + 1 + 1 + 1 by omega]; rfl
theorem itemsL_at {M : Mem} {P : Value → List It → Prop} : ∀ (l : List It) (xs : List Value), itemsL M P l xs → ∀ i (h : i < l.length), ∃ n pl nm tv va vb, PItm M P l[i] n pl nm tv va vb ∧
  xs[i * 7]? = some (.int .i64 (kindP l[i].kind)) ∧ xs[i * 7 + 1]? = some (.int .i64 n) ∧ xs[i * 7 + 2]? = some (.int .i64 pl) ∧ xs[i * 7 + 3]? = some (.string nm) ∧ xs[i * 7 + 4]? = some tv ∧ xs[i * 7 + 5]? = some va ∧ xs[i * 7 + 6]? = some vb
 | [], _, _, i, h => absurd h (by simp)
 | x :: l, xs, ⟨n, pl, nm, tv, va, vb, rest, h1, h2, h3⟩, 0, h => by
  subst h1; exact ⟨n, pl, nm, tv, va, vb, h2, by simp, by simp, by simp, by simp, by simp, by simp, by simp⟩
 | x :: l, xs, ⟨n, pl, nm, tv, va, vb, rest, h1, h2, h3⟩, i + 1, h => by
  subst h1
  obtain ⟨n', pl', nm', tv', va', vb', k0, k1⟩ := itemsL_at l rest h3 i (by simpa using h)
  refine ⟨n', pl', nm', tv', va', vb', k0, ?_⟩
  have e0 := seven (.int .i64 (kindP x.kind)) (.int .i64 n) (.int .i64 pl) (.string nm) tv va vb rest i 0
  simp only [Nat.add_zero] at e0
  rw [e0, seven, seven, seven, seven, seven, seven]
  exact k1
theorem actR_form {M : Mem} {bk ob : Nat} {P : Value → List It → Prop} {x : It} {c : Value} (h : actR M bk ob P x c) : ∃ n f cp, c = .func (.func n) f cp := by
 unfold actR at h
 rcases h with ⟨_, _, ab, nb, rfl, _⟩ | ⟨_, ab, act, j, rfl, _⟩ | ⟨_, ab, db, bb, nb, nm, rfl, _⟩ | ⟨_, b1, b2, va, vb, rfl, _⟩ | ⟨_, b1, va, rfl, _⟩ | ⟨_, b1, b2, va, vb, rfl, _⟩ | ⟨_, b1, va, rfl, _⟩ | ⟨_, rfl⟩ | ⟨_, ab, db, rfl, _⟩ | ⟨_, rfl⟩ | ⟨_, ab, db, sb, tb, tv, ws, rfl, _⟩ <;> exact ⟨_, _, _, rfl⟩
def FL (w : World) (D : Nat → Prop) (bk ob : Nat) (l : List It) (v : Value) (k : Nat) (wr : World) : Prop :=
 ∃ cs, Kp w wr (fun _ => False) ∧ Blk wr w.heap.size 193 #[pt bk, pt ob] ∧ wr.ownsRow 0 239 1 v cs.length cs ∧ (∀ b, own v b → w.heap.size + 1 ≤ b) ∧
  actsL (actR (BD (fun b => (D b ∨ New w b) ∧ ¬ own v b) wr) bk ob (Acts (BD (fun b => (D b ∨ New w b) ∧ ¬ own v b) wr) bk ob)) (l.take k) cs
theorem Tryz.infoAct : (Tryz.prog.info? 239).map (fun i => (i.zero, i.size, i.bytes)) = some (some .nilFunc, 1, 8) := by kernel_rfl
theorem actsF0 (g : Nat) (hF : FActs g) (w : World) (D : Nat → Prop) (hD : ∀ b, D b → b < w.heap.size) (bk ob : Nat) (v : Value) (l : List It) (hI : itemsIn (BD D w) (g + 1) v l) :
  Calls Tryz.prog 138 #[.agg #[pt bk, pt ob], v] w fun e w' => ∃ ao cap, e = .returned (.slice ao l.length cap) ∧ Kp w w' (fun _ => False) ∧ Acts (BD (fun b => D b ∨ New w b) w') bk ob (.slice ao l.length cap) l := by
 obtain ⟨xs, hrow, hits, hll⟩ := hI
 obtain ⟨ao, cap, rfl⟩ := hrow.form
 obtain ⟨i0, hi, hz0, hz1, hz2⟩ := info_parts Tryz.infoAct
 have hmf := mkFunc
 have HF := hide hF
 have HI := hide hits
 have HR := hide hrow
 clear hF hits hrow
 have H0 : FL w D bk ob l (.slice none 0 0) 0 (w.alloc (.cells #[pt bk, pt ob] 193)) :=
  ⟨[], (Kp.refl _ _).alloc _, Blk.new w _ _, World.ownsRow_nil _ _ _ _, fun b hb => by simp [own, Value.ownBlock] at hb, rfl⟩
 have HH := hide H0
 clear H0
 go_enter Tryz.func138, Tryz.ntmps138
 go_wp2
 go_loopw [5, 10] (fun v i wr => ∃ k : Nat, k ≤ l.length ∧ i = .int .i64 k ∧ FL w D bk ob l v k wr) (fun _ i _ => l.length - (intOf i).toNat)
 case atStart => exact ⟨0, Nat.zero_le _, rfl, HH.out⟩
 case round =>
  obtain ⟨k, hk, rfl, cs, hkp, hB, hrow, hnew, hA⟩ := hrel
  have hcl : cs.length = k := by rw [actsL_len _ _ hA]; simp; omega
  obtain ⟨ao2, cap2, hv2⟩ := row_slice hrow
  rw [hcl] at hv2 hrow
  subst hv2
  have HCL := hide hcl
  clear hcl
  by_cases hlt : k < l.length
  ·have hrw : wr.ownsRow 0 237 7 (.slice ao l.length cap) l.length xs := (rowZ_mono (fun b c h => BD_keep hkp (D' := D) (fun b _ hb => ⟨hb, by simp⟩) b _ c h) HR.out).row
   obtain ⟨gd, cap', hv, hcell⟩ := row_cell hrw (by omega)
   injection hv with hv h2 h3
   subst hv
   subst h3
   clear h2
   obtain ⟨n7, pl7, nm7, tv, va, vb, hit, x0, x1, x2, x3, x4, x5, x6⟩ := itemsL_at _ _ HI.out k hlt
   have d0 := hcell _ _ x0
   have d1 := hcell _ _ x1
   have d2 := hcell _ _ x2
   have d3 := hcell _ _ x3
   have d4 := hcell _ _ x4
   have d5 := hcell _ _ x5
   have d6 := hcell _ _ x6
   obtain ⟨ws5, hr5, -⟩ := hit.toks
   have hra := hit.a
   have hrb := hit.b
   obtain ⟨a5, p5, hv5⟩ := hr5.form
   rw [List.length_map] at hv5
   subst hv5
   have hfa : ∃ a m p, va = .slice a m p := by
    cases g with
    | zero => exact hra.elim
    | succ g => obtain ⟨_, hq, _⟩ := hra; obtain ⟨a, p, hv⟩ := hq.form; exact ⟨a, _, p, hv⟩
   have hfb : ∃ a m p, vb = .slice a m p := by
    cases g with
    | zero => exact hrb.elim
    | succ g => obtain ⟨_, hq, _⟩ := hrb; obtain ⟨a, p, hv⟩ := hq.form; exact ⟨a, _, p, hv⟩
   obtain ⟨a6, m6, p6, rfl⟩ := hfa
   obtain ⟨a7, m7, p7, rfl⟩ := hfb
   have s0 : wr.cell? ⟨w.heap.size, 0, none⟩ = some (pt bk) := hB.cell rfl
   have s1 : wr.cell? ⟨w.heap.size, 1, none⟩ = some (pt ob) := hB.cell rfl
   have hbl := hB.lt
   have HIT := hide hit
   clear hcell x0 x1 x2 x3 x4 x5 x6 hit hr5 hra hrb hrw
   have hkA : Kp w (wr.alloc (.cells #[.int .i64 (kindP l[k].kind), .int .i64 n7, .int .i64 pl7, .string nm7, .slice a5 ws5.length p5, .slice a6 m6 p6, .slice a7 m7 p7] 237)) (fun _ => False) := hkp.alloc _
   have hkeepA := BD_keep hkA (D := D) (D' := D) (fun b _ hb => ⟨hb, by simp⟩)
   have HC := hide (actF g HF.out _ D bk ob l[k] n7 pl7 nm7 a5 a6 a7 ws5.length m6 m7 p5 p6 p7 (HIT.out.mono hkeepA (fun v l h => itemsIn_mono hkeepA g v l h)))
   clear hkeepA
   go_wp2_with fail
   refine HC.out.mono ?_
   rintro e w1 ⟨c, rfl, hk1, hR⟩
   obtain ⟨fn, ff, fc, rfl⟩ := actR_form hR
   have HRr := hide hR
   have hsA : wr.heap.size + 1 ≤ w1.heap.size := by have := hk1.size; simpa using this
   have hkr : Kp wr w1 (fun _ => False) := ((Kp.refl wr (fun _ => False)).alloc _).trans hk1
   have hrow1 := hkr.row hrow (by simp)
   have hB1 := hkr.blk hB (by simp)
   have hkw1 := hkp.trans hkr
   have hownlt : ∀ b, own (.slice ao2 k cap2) b → b < wr.heap.size := fun b hb => own_lt hrow hb
   have hszw := hkp.size
   have HAa := hide hA
   clear hR HC hA d0 d1 d2 d3 d4 d5 d6 s0 s1 hrow hB HIT hkA
   go_wp2_with (first
    | (at_builtin; refine wpList_append_to _ rfl _ _ 189 rfl 239 i0 .nilFunc 1 8 Tryz.underlying189 hi hz0 hz1 hz2 rfl (by decide) _ _ _ rfl (hrow1.alloc _) ⟨w1.heap.size, 0, none⟩ 1 1 [.func (.func fn) ff fc] rfl rfl ?c1 ?c2 ?c3 ?c4 ?_)
    | go_in)
   case c1 => intro j u hj; match j, hj with | 0, hj => simp at hj; subst hj; simp [Addr.add]
   case c2 => intro u hu; simp at hu; subst hu; rfl
   case c3 => unfold maxLen; omega
   case c4 => omega
   intro v' w3 hown' hgrow hnx
   have hnx : ∀ b, own v' b → own (.slice ao2 k cap2) b ∨ w1.heap.size + 1 ≤ b := fun b hb => by
    rcases hnx b hb with h1 | h1
    ·exact .inl h1
    ·right; have : (w1.alloc (.cells #[.func (.func fn) ff fc] 239)).heap.size = w1.heap.size + 1 := by simp
     omega
   have hkg : Kp w1 w3 (fun b => own (.slice ao2 k cap2) b) := ((Kp.refl w1 (fun b => own (.slice ao2 k cap2) b)).alloc _).grown hgrow (fun b _ e => e)
   have hn0 : ∀ b, b ≤ w.heap.size → ¬ own (.slice ao2 k cap2) b := fun b hb e => by have := hnew b e; omega
   have hkw3 : Kp w w3 (fun _ => False) := by
    have := ((hkw1.mono (T := fun b => own (.slice ao2 k cap2) b) (fun _ _ e => e.elim)).trans hkg)
    exact this.mono (fun b hb e => hn0 b (by omega) e)
   have hB3 := hkg.blk hB1 (hn0 _ (Nat.le_refl _))
   have hnew' : ∀ b, own v' b → w.heap.size + 1 ≤ b := fun b hb => by
    rcases hnx b hb with h1 | h1
    ·exact hnew b h1
    ·omega
   have hkr3 : Kp wr w3 (fun b => own (.slice ao2 k cap2) b) := (hkr.mono (fun _ _ e => e.elim)).trans hkg
   have hka := BD_keep (D := fun b => (D b ∨ New w b) ∧ ¬ own (.slice ao2 k cap2) b) (D' := fun b => (D b ∨ New w b) ∧ ¬ own v' b) hkr3 (fun b hb h => ⟨⟨h.1, fun e => by
    rcases hnx b e with h1 | h1
    ·exact h.2 h1
    ·omega⟩, h.2⟩)
   have hkb := BD_keep (D := fun b => D b ∨ New (wr.alloc (.cells #[.int .i64 (kindP l[k].kind), .int .i64 n7, .int .i64 pl7, .string nm7, .slice a5 ws5.length p5, .slice a6 m6 p6, .slice a7 m7 p7] 237)) b) (D' := fun b => (D b ∨ New w b) ∧ ¬ own v' b) hkg (fun b hb h => by
    have hno : ¬ own (.slice ao2 k cap2) b := by
     intro e
     rcases h with h | h
     ·have := hD b h; have := hnew b e; omega
     ·have h : (wr.alloc _).heap.size ≤ b := h
      rw [World.size_alloc] at h
      have := hownlt b e; omega
    refine ⟨⟨?_, fun e => ?_⟩, hno⟩
    ·rcases h with h | h
     ·exact .inl h
     ·have h : (wr.alloc _).heap.size ≤ b := h
      rw [World.size_alloc] at h
      right; show w.heap.size ≤ b; omega
    ·rcases hnx b e with h1 | h1
     ·exact hno h1
     ·omega)
   have hTK : l.take (k + 1) = l.take k ++ [l[k]] := by rw [List.take_succ_eq_append_getElem hlt]
   have HN : FL w D bk ob l v' (k + 1) w3 := by
    refine ⟨cs ++ [.func (.func fn) ff fc], hkw3, hB3, by simp only [List.length_append, List.length_singleton]; rw [HCL.out]; exact hown', hnew', ?_⟩
    rw [hTK]
    exact actsL_app _ _ _ _ (actsL_imp (fun _ _ h => actR_mono hka (fun _ _ h => h.mono hka) h) _ _ HAa.out) ⟨_, [], rfl, actR_mono hkb (fun _ _ h => h.mono hkb) HRr.out, rfl⟩
   have HNN := hide HN
   clear hTK HN hka hkb hkr3 hB3 hkw3 hn0 hkg hnx hgrow hown' HAa HRr hrow1 hB1 hkw1 hk1 hkr hnew' hnew
   go_wp2
   go_roundw
   case rel => exact ⟨k + 1, by omega, by go_num, HNN.out⟩
   case measure => simp [intOf]; omega
  ·have hkl : k = l.length := by omega
   subst hkl
   have hTK : l.take l.length = l := List.take_length
   rw [hTK] at hA
   have HAa := hide hA
   clear hA hTK
   go_wp2
   go_ret
   have hsub := BD_sub (w := wr) (D := fun b => (D b ∨ New w b) ∧ ¬ own (.slice ao2 l.length cap2) b) (D' := fun b => D b ∨ New w b) (fun b _ h => h.1)
   have hr2 : wr.ownsRow 0 239 1 (.slice ao2 l.length cap2) cs.length cs := by rw [HCL.out]; exact hrow
   exact ⟨ao2, cap2, rfl, hkp, Acts.of (rowM.of hr2 (fun b hb => .inr (by have := hnew b hb; show w.heap.size ≤ b; omega))) (actsL_imp (fun _ _ h => actR_mono hsub (fun _ _ h => h.mono hsub) h) _ _ HAa.out)⟩
theorem actsF (g : Nat) (hF : FActs g) : FActs (g + 1) := by
 intro w D bk ob v l hI
 refine (actsF0 g hF w (fun b => D b ∧ b < w.heap.size) (fun b h => h.2) bk ob v l (itemsIn_mono (BD_sub (fun b hb h => ⟨h, hb⟩)) _ _ _ hI)).mono ?_
 rintro e w' ⟨ao, cap, rfl, h1, h2⟩
 exact ⟨ao, cap, rfl, h1, h2.mono (BD_sub (fun b _ h => h.elim (fun h => .inl h.1) .inr))⟩
theorem actsAll : ∀ g, FActs g
 | 0 => fun _ _ _ _ _ _ h => h.elim
 | g + 1 => actsF g (actsAll g)
end
section
open Go.RowKit
theorem St.step_steps (s : St) : s.step.steps = s.steps + 1 := by unfold St.step; split <;> rfl
theorem St.step_depth (s : St) : s.step.depth = s.depth := by unfold St.step; split <;> rfl
theorem St.put_steps (s : St) (n : Int) : (s.put n).steps = s.steps := by unfold St.put; split <;> rfl
theorem St.put_depth (s : St) (n : Int) : (s.put n).depth = s.depth := by unfold St.put; split <;> rfl
theorem St.word_steps (s : St) (k : Nat) : (s.word k).steps = s.steps := rfl
theorem St.word_depth (s : St) (k : Nat) : (s.word k).depth = s.depth := rfl
theorem St.err_steps (s : St) (k : Int) : (s.err k).steps = s.steps := rfl
theorem St.err_depth (s : St) (k : Int) : (s.err k).depth = s.depth := rfl
theorem St.set_steps (s : St) (t : Tok) (b : List It) : (s.set t b).steps = s.steps := rfl
theorem St.set_depth (s : St) (t : Tok) (b : List It) : (s.set t b).depth = s.depth := rfl
theorem St.test_steps (s : St) : s.test.1.steps = s.steps + 1 := by
 unfold St.test; split
 ·split
  ·exact s.step_steps
  ·exact s.step_steps
 ·exact s.step_steps
theorem St.test_depth (s : St) : s.test.1.depth = s.depth := by
 unfold St.test; split
 ·split
  ·exact s.step_depth
  ·exact s.step_depth
 ·exact s.step_depth
theorem St.count_keep {g : Nat} {s s' : St} {k : Nat} (h : s.count g k = some s') : s'.depth = s.depth ∧ s'.steps = s.steps := by
 unfold St.count at h
 repeat' split at h
 all_goals first
  | (cases h; done)
  | (injection h with h; subst h; exact ⟨rfl, rfl⟩)
theorem entered_keep {g : Nat} {s s' : St} {o : Option Nat} {i : Int} (h : (match o with | none => some s | some k => match s.defs[k]? with | none => none | some d => if d.id = i then s.count g k else some s) = some s') : s'.depth = s.depth ∧ s'.steps = s.steps := by
 repeat' split at h
 all_goals first
  | (cases h; done)
  | (injection h with h; subst h; exact ⟨rfl, rfl⟩)
  | exact St.count_keep h
def Kee (s s' : St) : Prop := s'.depth = s.depth ∧ s.steps ≤ s'.steps
section
variable (g : Nat) (f : Fr) (lp : List Int) (s : St)
theorem x_nil : xRun (g + 1) (jBody f lp []) s = some (s, false) := rfl
theorem x_cons (x : It) (l : List It) : xRun (g + 1) (jBody f lp (x :: l)) s = match xRun g (jItem f lp x) s with
  | none => none
  | some (s1, left) => if left = true ∨ s1.e ≠ 0 then some (s1, true) else xRun g (jBody f lp l) s1 := rfl
theorem x_if (x : It) (h : x.kind = 63) : xRun (g + 1) (jItem f lp x) s = if s.test.1.e ≠ 0 then some (s.test.1, true) else if s.test.2 = true then xRun g (jBody f lp x.a) s.test.1 else xRun g (jBody f lp x.b) s.test.1 := by
 conv => lhs; unfold xRun
 rw [if_neg (show ¬ (jItem f lp x).what = 0 from (by decide : ¬ (1 : Nat) = 0)), if_pos (show (jItem f lp x).what = 1 from rfl), if_pos (show (jItem f lp x).x.kind = 63 from h)]; rfl
theorem x_until (x : It) (h : x.kind = 117) : xRun (g + 1) (jItem f lp x) s = match xRun g (jBody f lp x.a) s with
  | none => none
  | some (s1, left) => if left = true then some (s1, true) else
   if s1.test.1.e ≠ 0 then some (s1.test.1, true) else if s1.test.2 = true then some (s1.test.1, false) else xRun g (jItem f lp x) s1.test.1 := by
 conv => lhs; unfold xRun
 rw [if_neg (show ¬ (jItem f lp x).what = 0 from (by decide : ¬ (1 : Nat) = 0)), if_pos (show (jItem f lp x).what = 1 from rfl), if_neg (show ¬ (jItem f lp x).x.kind = 63 from (by omega : ¬ x.kind = 63)), if_pos (show (jItem f lp x).x.kind = 117 from h)]; rfl
theorem x_while (x : It) (h : x.kind = 119) : xRun (g + 1) (jItem f lp x) s = match xRun g (jBody f lp x.a) s with
  | none => none
  | some (s1, left) => if left = true then some (s1, true) else
   if s1.test.1.e ≠ 0 then some (s1.test.1, true) else if s1.test.2 = false then some (s1.test.1, false) else
    match xRun g (jBody f lp x.b) s1.test.1 with
    | none => none
    | some (s3, left3) => if left3 = true then some (s3, true) else xRun g (jItem f lp x) s3 := by
 conv => lhs; unfold xRun
 rw [if_neg (show ¬ (jItem f lp x).what = 0 from (by decide : ¬ (1 : Nat) = 0)), if_pos (show (jItem f lp x).what = 1 from rfl), if_neg (show ¬ (jItem f lp x).x.kind = 63 from (by omega : ¬ x.kind = 63)), if_neg (show ¬ (jItem f lp x).x.kind = 117 from (by omega : ¬ x.kind = 117)), if_pos (show (jItem f lp x).x.kind = 119 from h)]; rfl
def xOne (x : It) (s : St) : Option (St × Bool) :=
 if x.kind = 110 then some (s.put x.n, decide ((s.put x.n).e ≠ 0))
 else if x.kind = 112 then
  match plainL.findIdx? (· == x.name) with
  | none => none
  | some k => some (s.word k, decide ((s.word k).e ≠ 0))
 else if x.kind = 105 then
  match lp with
  | [] => none
  | i :: _ => some (s.put i, decide ((s.put i).e ≠ 0))
 else if x.kind = 120 then some (s, true)
 else if x.kind = 114 then
  match xRun g (jEnter f) s with
  | none => none
  | some (s2, _) => some (s2, decide (s2.e ≠ 0))
 else if x.kind = 99 then
  match xRun g (jCall x.name) s with
  | none => none
  | some (s2, _) => some (s2, decide (s2.e ≠ 0))
 else if x.kind = 123 then
  if 20 ≤ s.depth then some (s.err 8, true) else
  match xRun g (jToks x.toks) { s with depth := s.depth + 1 } with
  | none => none
  | some (s2, _) => some ({ s2 with depth := s2.depth - 1 }, decide (s2.e ≠ 0))
 else if x.kind = 100 then
  match s.rs with
  | b :: m :: r => xRun g (jDo f lp b m x.a) { s with rs := r }
  | _ => some (s.err 6, true)
 else none
theorem x_one (x : It) (h1 : ¬ x.kind = 63) (h2 : ¬ x.kind = 117) (h3 : ¬ x.kind = 119) : xRun (g + 1) (jItem f lp x) s = if s.step.e ≠ 0 then some (s.step, true) else xOne g f lp x s.step := by
 conv => lhs; unfold xRun
 rw [if_neg (show ¬ (jItem f lp x).what = 0 from (by decide : ¬ (1 : Nat) = 0)), if_pos (show (jItem f lp x).what = 1 from rfl), if_neg (show ¬ (jItem f lp x).x.kind = 63 from h1), if_neg (show ¬ (jItem f lp x).x.kind = 117 from h2), if_neg (show ¬ (jItem f lp x).x.kind = 119 from h3)]; rfl
theorem x_do (n m : Int) (l : List It) : xRun (g + 1) (jDo f lp n m l) s = if n < m then
        if s.step.e ≠ 0 then some (s.step, true) else
        match xRun g (jBody f (n :: lp) l) s.step with
        | none => none
        | some (s2, left) => if left = true then some (s2, true) else xRun g (jDo f lp (n + 1) m l) s2
      else some (s, false) := rfl
def xCome (s : St) : Option St := match s.find f.name with
 | none => some s
 | some k => match s.defs[k]? with
  | none => none
  | some d => if d.id = f.id then s.count g k else some s
theorem x_enter : xRun (g + 1) (jEnter f) s = if 20 ≤ s.depth then some (s.err 8, true) else
      match xCome g f s with
      | none => none
      | some s1 => match xRun g (jBody f [] f.body) { s1 with depth := s1.depth + 1 } with
        | none => none
        | some (s2, _) => some ({ s2 with depth := s2.depth - 1 }, false) := rfl
theorem x_call (t : Tok) : xRun (g + 1) (jCall t) s = match s.defs.find? (fun d => d.name == t) with
      | none => none
      | some d => xRun g (jEnter ⟨d.id, d.name, d.body⟩) s := rfl
theorem x_tnil : xRun (g + 1) (jToks []) s = some (s, false) := rfl
def xTok (t : Tok) (s : St) : Option St := match numP t with
 | some n => if s.step.e ≠ 0 then some s.step else some (s.step.put n)
 | none => match plainL.findIdx? (· == t) with
  | some k => if s.step.e ≠ 0 then some s.step else some (s.step.word k)
  | none => if (keptL.any (· == t) || t == kSemi || t == kOpen || t == kClose) = true then some (s.err 4)
   else if s.known t = false then some (s.err 3)
   else if s.step.e ≠ 0 then some s.step else
   match xRun g (jCall t) s.step with
   | none => none
   | some (s2, _) => some s2
theorem x_tok (t : Tok) (r : List Tok) (he : s.e = 0) (ht : ¬ t = kColon) : xRun (g + 1) (jToks (t :: r)) s = match xTok g t s with
      | none => none
      | some s2 => xRun g (jToks r) s2 := by
  conv => lhs; unfold xRun
  rw [if_neg (show ¬ (jToks (t :: r)).what = 0 from (by decide : ¬ (5 : Nat) = 0)), if_neg (show ¬ (jToks (t :: r)).what = 1 from (by decide : ¬ (5 : Nat) = 1)), if_neg (show ¬ (jToks (t :: r)).what = 2 from (by decide : ¬ (5 : Nat) = 2)), if_neg (show ¬ (jToks (t :: r)).what = 3 from (by decide : ¬ (5 : Nat) = 3)), if_neg (show ¬ (jToks (t :: r)).what = 4 from (by decide : ¬ (5 : Nat) = 4))]
  show (if s.e ≠ 0 then _ else _) = _
  rw [if_neg (by simp [he]), if_neg ht]
  unfold xTok
  cases numP t with
  | some n =>
    dsimp only
    by_cases h : s.step.e ≠ 0
    · rw [if_pos h, if_pos h]
    · rw [if_neg h, if_neg h]
  | none =>
    dsimp only
    cases plainL.findIdx? (· == t) with
    | some k =>
      dsimp only
      by_cases h : s.step.e ≠ 0
      · rw [if_pos h, if_pos h]
      · rw [if_neg h, if_neg h]
    | none =>
      dsimp only
      by_cases h1 : (keptL.any (· == t) || t == kSemi || t == kOpen || t == kClose) = true
      · rw [if_pos h1, if_pos h1]
      · rw [if_neg h1, if_neg h1]
        by_cases h2 : s.known t = false
        · rw [if_pos h2, if_pos h2]
        · rw [if_neg h2, if_neg h2]
          by_cases h : s.step.e ≠ 0
          · rw [if_pos h, if_pos h]
          · rw [if_neg h, if_neg h]
            cases xRun g (jCall t) s.step <;> rfl
theorem x_terr (ts : List Tok) (he : s.e ≠ 0) : xRun (g + 1) (jToks ts) s = some (s, false) := by
 cases ts with
 | nil => rfl
 | cons t r =>
  conv => lhs; unfold xRun
  rw [if_neg (show ¬ (jToks (t :: r)).what = 0 from (by decide : ¬ (5 : Nat) = 0)), if_neg (show ¬ (jToks (t :: r)).what = 1 from (by decide : ¬ (5 : Nat) = 1)), if_neg (show ¬ (jToks (t :: r)).what = 2 from (by decide : ¬ (5 : Nat) = 2)), if_neg (show ¬ (jToks (t :: r)).what = 3 from (by decide : ¬ (5 : Nat) = 3)), if_neg (show ¬ (jToks (t :: r)).what = 4 from (by decide : ¬ (5 : Nat) = 4))]
  show (if s.e ≠ 0 then _ else _) = _
  rw [if_pos he]
theorem x_def (r : List Tok) (he : s.e = 0) : xRun (g + 1) (jToks (kColon :: r)) s = match pDef g s r with
          | none => none
          | some (.error e) => some (s.err e, false)
          | some (.ok (nm, b, r1)) => if s.step.e ≠ 0 then some (s.step, false) else xRun g (jToks r1) (s.step.set nm b) := by
  conv => lhs; unfold xRun
  rw [if_neg (show ¬ (jToks (kColon :: r)).what = 0 from (by decide : ¬ (5 : Nat) = 0)), if_neg (show ¬ (jToks (kColon :: r)).what = 1 from (by decide : ¬ (5 : Nat) = 1)), if_neg (show ¬ (jToks (kColon :: r)).what = 2 from (by decide : ¬ (5 : Nat) = 2)), if_neg (show ¬ (jToks (kColon :: r)).what = 3 from (by decide : ¬ (5 : Nat) = 3)), if_neg (show ¬ (jToks (kColon :: r)).what = 4 from (by decide : ¬ (5 : Nat) = 4))]
  show (if s.e ≠ 0 then _ else _) = _
  rw [if_neg (by simp [he]), if_pos rfl]
  cases pDef g s r <;> rfl
end
theorem xTok_keep {g : Nat} (ih : ∀ (j : XJ) (s s' : St) (left : Bool), xRun g j s = some (s', left) → Kee s s') {t : Tok} {s s' : St} (h : xTok g t s = some s') : Kee s s' := by
 unfold xTok at h
 repeat' split at h
 all_goals first
  | (cases h; done)
  | (injection h with h; subst h; simp only [Kee, true_and, St.step_steps, St.step_depth, St.put_steps, St.put_depth, St.word_steps, St.word_depth, St.err_steps, St.err_depth]; omega)
  | (have k := ih _ _ _ _ ‹xRun g _ _ = some _›; injection h with h; subst h; simp only [Kee, true_and, St.step_steps, St.step_depth] at k ⊢; omega)
theorem xOne_keep {g : Nat} (ih : ∀ (j : XJ) (s s' : St) (left : Bool), xRun g j s = some (s', left) → Kee s s') {f : Fr} {lp : List Int} {x : It} {s s' : St} {left : Bool} (h : xOne g f lp x s = some (s', left)) : Kee s s' := by
 unfold xOne at h
 repeat' split at h
 all_goals first
  | (cases h; done)
  | (injection h with h; injection h with h1 h2; subst h1; simp only [Kee, true_and, St.put_steps, St.put_depth, St.word_steps, St.word_depth, St.err_steps, St.err_depth]; omega)
  | (have k := ih _ _ _ _ h; simp only [Kee, true_and] at k ⊢; omega)
  | (have k := ih _ _ _ _ ‹xRun g _ _ = some _›; injection h with h; injection h with h1 h2; subst h1; simp only [Kee, true_and] at k ⊢; omega)
theorem xRun_keep : ∀ (g : Nat) (j : XJ) (s s' : St) (left : Bool), xRun g j s = some (s', left) → Kee s s' := by
 intro g
 induction g with
 | zero => intro j s s' left h; cases h
 | succ g ih =>
  intro j s s' left h
  unfold xRun at h
  by_cases h0 : j.what = 0
  ·rw [if_pos h0] at h
   split at h
   ·injection h with h; injection h with h1 h2; subst h1; exact ⟨rfl, Int.le_refl _⟩
   ·split at h
    ·cases h
    ·have k := ih _ _ _ _ ‹xRun g _ _ = some _›
     split at h
     ·injection h with h; injection h with h1 h2; subst h1; exact k
     ·have k2 := ih _ _ _ _ h
      simp only [Kee, true_and] at k k2 ⊢; omega
  rw [if_neg h0] at h
  by_cases h1 : j.what = 1
  ·rw [if_pos h1] at h
   by_cases q1 : j.x.kind = 63
   ·rw [if_pos q1] at h
    repeat' split at h
    ·injection h with h; injection h with h1 h2; subst h1; simp only [Kee, true_and, St.test_steps, St.test_depth]; omega
    ·have k := ih _ _ _ _ h; simp only [Kee, true_and, St.test_steps, St.test_depth] at k ⊢; omega
    ·have k := ih _ _ _ _ h; simp only [Kee, true_and, St.test_steps, St.test_depth] at k ⊢; omega
   rw [if_neg q1] at h
   by_cases q2 : j.x.kind = 117
   ·rw [if_pos q2] at h
    split at h
    ·cases h
    ·have k := ih _ _ _ _ ‹xRun g _ _ = some _›
     repeat' split at h
     ·injection h with h; injection h with h1 h2; subst h1; exact k
     ·injection h with h; injection h with h1 h2; subst h1; simp only [Kee, true_and, St.test_steps, St.test_depth] at k ⊢; omega
     ·injection h with h; injection h with h1 h2; subst h1; simp only [Kee, true_and, St.test_steps, St.test_depth] at k ⊢; omega
     ·have k2 := ih _ _ _ _ h; simp only [Kee, true_and, St.test_steps, St.test_depth] at k k2 ⊢; omega
   rw [if_neg q2] at h
   by_cases q3 : j.x.kind = 119
   ·rw [if_pos q3] at h
    split at h
    ·cases h
    ·have k := ih _ _ _ _ ‹xRun g _ _ = some _›
     split at h
     ·injection h with h; injection h with h1 h2; subst h1; exact k
     split at h
     ·injection h with h; injection h with h1 h2; subst h1; simp only [Kee, true_and, St.test_steps, St.test_depth] at k ⊢; omega
     split at h
     ·injection h with h; injection h with h1 h2; subst h1; simp only [Kee, true_and, St.test_steps, St.test_depth] at k ⊢; omega
     split at h
     ·cases h
     ·have k2 := ih _ _ _ _ ‹xRun g _ _ = some _›
      split at h
      ·injection h with h; injection h with h1 h2; subst h1; simp only [Kee, true_and, St.test_steps, St.test_depth] at k k2 ⊢; omega
      ·have k3 := ih _ _ _ _ h; simp only [Kee, true_and, St.test_steps, St.test_depth] at k k2 k3 ⊢; omega
   rw [if_neg q3] at h
   by_cases q4 : s.step.e ≠ 0
   ·rw [if_pos q4] at h
    injection h with h; injection h with h1 h2; subst h1; simp only [Kee, true_and, St.step_steps, St.step_depth]; omega
   rw [if_neg q4] at h
   have k := xOne_keep (f := j.f) (lp := j.lp) (x := j.x) (s := s.step) (s' := s') (left := left) ih h
   simp only [Kee, true_and, St.step_steps, St.step_depth] at k ⊢; omega
  rw [if_neg h1] at h
  by_cases h2 : j.what = 2
  ·rw [if_pos h2] at h
   split at h
   ·split at h
    ·injection h with h; injection h with h1 h2; subst h1; simp only [Kee, true_and, St.step_steps, St.step_depth]; omega
    split at h
    ·cases h
    ·have k := ih _ _ _ _ ‹xRun g _ _ = some _›
     split at h
     ·injection h with h; injection h with h1 h2; subst h1; simp only [Kee, true_and, St.step_steps, St.step_depth] at k ⊢; omega
     ·have k2 := ih _ _ _ _ h; simp only [Kee, true_and, St.step_steps, St.step_depth] at k k2 ⊢; omega
   ·injection h with h; injection h with h1 h2; subst h1; exact ⟨rfl, Int.le_refl _⟩
  rw [if_neg h2] at h
  by_cases h3 : j.what = 3
  ·rw [if_pos h3] at h
   by_cases q : 20 ≤ s.depth
   ·rw [if_pos q] at h
    injection h with h; injection h with h1 h2; subst h1; exact ⟨rfl, Int.le_refl _⟩
   rw [if_neg q] at h
   have h : (match xCome g j.f s with
    | none => none
    | some s1 => match xRun g (jBody j.f [] j.f.body) { s1 with depth := s1.depth + 1 } with
     | none => none
     | some (s2, _) => some ({ s2 with depth := s2.depth - 1 }, false)) = some (s', left) := h
   split at h
   ·cases h
   ·rename_i s1 hc
    have e := entered_keep (o := s.find j.f.name) hc
    split at h
    ·cases h
    ·have k := ih _ _ _ _ ‹xRun g _ _ = some _›
     injection h with h; injection h with h1 h2; subst h1
     simp only [Kee, true_and] at k ⊢; omega
  rw [if_neg h3] at h
  by_cases h4 : j.what = 4
  ·rw [if_pos h4] at h
   split at h
   ·cases h
   ·exact ih _ _ _ _ h
  rw [if_neg h4] at h
  split at h
  ·injection h with h; injection h with h1 h2; subst h1; exact ⟨rfl, Int.le_refl _⟩
  ·rename_i t r _
   by_cases he : s.e ≠ 0
   ·rw [if_pos he] at h
    injection h with h; injection h with h1 h2; subst h1; exact ⟨rfl, Int.le_refl _⟩
   have he : s.e = 0 := by simpa using he
   by_cases ht : t = kColon
   ·subst ht
    have hx := x_def g s r he
    have h : xRun (g + 1) (jToks (kColon :: r)) s = some (s', left) := h
    rw [hx] at h
    split at h
    ·cases h
    ·injection h with h; injection h with h1 h2; subst h1; exact ⟨rfl, Int.le_refl _⟩
    ·split at h
     ·injection h with h; injection h with h1 h2; subst h1; simp only [Kee, true_and, St.step_steps, St.step_depth]; omega
     ·have k := ih _ _ _ _ h; simp only [Kee, true_and, St.step_steps, St.step_depth, St.set_steps, St.set_depth] at k ⊢; omega
   ·have h : xRun (g + 1) (jToks (t :: r)) s = some (s', left) := h
    rw [x_tok g s t r he ht] at h
    split at h
    ·cases h
    ·have k := xTok_keep ih ‹xTok g _ _ = some _›
     have k2 := ih _ _ _ _ h
     simp only [Kee, true_and] at k k2 ⊢; omega
end
end Go.Proofs.YtldifaahmpecfaaGreatDoor
