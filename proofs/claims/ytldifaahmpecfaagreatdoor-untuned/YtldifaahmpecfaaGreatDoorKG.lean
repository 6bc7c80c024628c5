import Derived.Test.YtldifaahmpecfaaGreatDoorV23
import Derived.Test.YtldifaahmpecfaaGreatDoorKA
import Derived.Test.YtldifaahmpecfaaGreatDoorV43
import Derived.Test.YtldifaahmpecfaaGreatDoorV29
import Derived.Test.YtldifaahmpecfaaGreatDoorV44
import Derived.Handy
namespace Go.Proofs.YtldifaahmpecfaaGreatDoor
set_option maxRecDepth 1000000
set_option maxHeartbeats 8000000
set_option linter.all false
section
open Go.RowKit
def strip (d : Def) : Def := ⟨d.name, d.id, d.body, 0, false, []⟩
structure Sim (s s' : St) : Prop where
  rs : s.rs = s'.rs
  mem : s.mem = s'.mem
  defs : s.defs.map strip = s'.defs.map strip
  ids : s.ids = s'.ids
  e : s.e = s'.e
  steps : s.steps = s'.steps
  depth : s.depth = s'.depth
  out : s.out = s'.out
theorem Sim.refl (s : St) : Sim s s := ⟨rfl, rfl, rfl, rfl, rfl, rfl, rfl, rfl⟩
theorem Sim.symm {s s' : St} (h : Sim s s') : Sim s' s := ⟨h.rs.symm, h.mem.symm, h.defs.symm, h.ids.symm, h.e.symm, h.steps.symm, h.depth.symm, h.out.symm⟩
theorem Sim.trans {s s' s'' : St} (h : Sim s s') (g : Sim s' s'') : Sim s s'' := ⟨h.rs.trans g.rs, h.mem.trans g.mem, h.defs.trans g.defs, h.ids.trans g.ids, h.e.trans g.e, h.steps.trans g.steps, h.depth.trans g.depth, h.out.trans g.out⟩
theorem findIdx_map {α β : Type} (f : α → β) (p : β → Bool) (l : List α) : (l.map f).findIdx? p = l.findIdx? (fun a => p (f a)) := by rw [List.findIdx?_map]; rfl
section
variable {s s' : St} (h : Sim s s')
include h
theorem Sim.find (t : Tok) : s.find t = s'.find t := by
  have h1 := findIdx_map strip (fun d => d.name == t) s.defs
  have h2 := findIdx_map strip (fun d => d.name == t) s'.defs
  rw [h.defs, h2] at h1
  exact h1.symm
theorem Sim.known : s.known = s'.known := by funext t; unfold St.known; rw [h.find]
theorem Sim.len : s.defs.length = s'.defs.length := by have := congrArg List.length h.defs; simpa using this
theorem Sim.pDef (g : Nat) (r : List Tok) : pDef g s r = pDef g s' r := by
  cases r with
  | nil => rfl
  | cons t r => simp only [Go.Proofs.YtldifaahmpecfaaGreatDoor.pDef]; rw [h.known, h.len]
theorem Sim.step : Sim s.step s'.step := by
  unfold St.step
  rw [h.steps]
  split
  · exact ⟨h.rs, h.mem, h.defs, h.ids, h.e, by show s'.steps + 1 = _; rfl, h.depth, h.out⟩
  · exact ⟨h.rs, h.mem, h.defs, h.ids, rfl, rfl, h.depth, h.out⟩
theorem Sim.put (n : Int) : Sim (s.put n) (s'.put n) := by
  unfold St.put
  rw [h.rs]
  split
  · exact ⟨rfl, h.mem, h.defs, h.ids, h.e, h.steps, h.depth, h.out⟩
  · exact ⟨rfl, h.mem, h.defs, h.ids, rfl, h.steps, h.depth, h.out⟩
theorem Sim.word (k : Nat) : Sim (s.word k) (s'.word k) := by
  unfold St.word
  rw [h.rs, h.mem, h.out]
  exact ⟨rfl, rfl, h.defs, h.ids, rfl, h.steps, h.depth, rfl⟩
theorem Sim.err (e : Int) : Sim (s.err e) (s'.err e) := ⟨h.rs, h.mem, h.defs, h.ids, rfl, h.steps, h.depth, h.out⟩
theorem Sim.setRs (r : List Int) : Sim { s with rs := r } { s' with rs := r } := ⟨rfl, h.mem, h.defs, h.ids, h.e, h.steps, h.depth, h.out⟩
theorem Sim.deep (k : Int) : Sim { s with depth := s.depth + k } { s' with depth := s'.depth + k } := ⟨h.rs, h.mem, h.defs, h.ids, h.e, h.steps, by show s.depth + k = s'.depth + k; rw [h.depth], h.out⟩
theorem Sim.up1 : Sim { s with depth := s.depth - 1 } { s' with depth := s'.depth - 1 } := ⟨h.rs, h.mem, h.defs, h.ids, h.e, h.steps, by show s.depth - 1 = s'.depth - 1; rw [h.depth], h.out⟩
theorem Sim.test : Sim s.test.1 s'.test.1 ∧ s.test.2 = s'.test.2 := by
  have hs := h.step
  unfold St.test
  rw [hs.e, hs.rs]
  split
  · split
    · exact ⟨hs.err 6, rfl⟩
    · exact ⟨hs.setRs _, rfl⟩
  · exact ⟨hs, rfl⟩
end
theorem strip_slow (d : Def) : strip (slowD d) = strip d := rfl
theorem strip_map (t : Tok) (l : List Def) : (l.map fun d => if d.fast = true ∧ d.built.any (· == t) = true then slowD d else d).map strip = l.map strip := by
  rw [List.map_map]
  apply List.map_congr_left
  intro d _
  show strip (if d.fast = true ∧ d.built.any (· == t) = true then slowD d else d) = strip d
  split
  · rfl
  · rfl
theorem Sim.set {s s' : St} (h : Sim s s') (t : Tok) (b : List It) : Sim (s.set t b) (s'.set t b) := by
  have hf := h.find t
  refine ⟨h.rs, h.mem, ?_, by show wrap64 (s.ids + 1) = wrap64 (s'.ids + 1); rw [h.ids], h.e, h.steps, h.depth, h.out⟩
  unfold St.set
  simp only
  rw [hf, h.ids]
  cases s'.find t with
  | none => simp only [List.map_append, strip_map, h.defs]
  | some k => simp only [List.map_set, strip_map, h.defs]
theorem count_sim {g : Nat} {s s1 : St} {k : Nat} (h : s.count g k = some s1) : Sim s1 s := by
  unfold St.count at h
  split at h
  · cases h
  · rename_i d hd
    have key : ∀ d' : Def, strip d' = strip d → (s.defs.set k d').map strip = s.defs.map strip := by
      intro d' e
      rw [List.map_set, e]
      apply List.ext_getElem?
      intro i
      rw [List.getElem?_set]
      split
      · rename_i hi
        subst hi
        split
        · rw [List.getElem?_map, hd]; rfl
        · rename_i hl
          exfalso
          have hk := (List.getElem?_eq_some_iff.1 hd).1
          rw [List.length_map] at hl
          omega
      · rfl
    split at h
    · injection h with h; subst h; exact Sim.refl _
    · split at h
      · injection h with h; subst h
        exact ⟨rfl, rfl, key _ rfl, rfl, rfl, rfl, rfl, rfl⟩
      · split at h
        · cases h
        · injection h with h; subst h
          exact ⟨rfl, rfl, key _ rfl, rfl, rfl, rfl, rfl, rfl⟩
theorem come_sim {g : Nat} {f : Fr} {s s1 : St} (h : xCome g f s = some s1) : Sim s1 s := by
  unfold xCome at h
  split at h
  · injection h with h; subst h; exact Sim.refl _
  · split at h
    · cases h
    · split at h
      · exact count_sim h
      · injection h with h; subst h; exact Sim.refl _
theorem find_sim {s s' : St} (h : Sim s s') (t : Tok) {d : Def} (hd : s.defs.find? (fun d => d.name == t) = some d) : ∃ d', s'.defs.find? (fun d => d.name == t) = some d' ∧ d'.id = d.id ∧ d'.name = d.name ∧ d'.body = d.body := by
  have e : ∀ l : List Def, (l.map strip).find? (fun d => d.name == t) = (l.find? (fun d => d.name == t)).map strip := by
    intro l; rw [List.find?_map]; rfl
  have h1 := e s.defs
  have h2 := e s'.defs
  rw [h.defs, h2, hd] at h1
  cases hx : s'.defs.find? (fun d => d.name == t) with
  | none => rw [hx] at h1; cases h1
  | some d' =>
    rw [hx] at h1
    simp only [Option.map_some, Option.some.injEq, strip, Def.mk.injEq] at h1
    exact ⟨d', rfl, h1.2.1, h1.1, h1.2.2.1⟩
def SimR (g : Nat) : Prop := ∀ (j : XJ) (s s' s1 s1' : St) (l l' : Bool), Sim s s' → xRun g j s = some (s1, l) → xRun g j s' = some (s1', l') → Sim s1 s1' ∧ l = l'
theorem sim_one {g : Nat} (ih : SimR g) {f : Fr} {lp : List Int} {x : It} {s s' s1 s1' : St} {l l' : Bool} (hs : Sim s s') (h : xOne g f lp x s = some (s1, l)) (h' : xOne g f lp x s' = some (s1', l')) : Sim s1 s1' ∧ l = l' := by
  unfold xOne at h h'
  by_cases k1 : x.kind = 110
  · rw [if_pos k1] at h h'
    injection h with h; injection h with h1 h2; subst h1 h2
    injection h' with h'; injection h' with h1 h2; subst h1 h2
    exact ⟨hs.put _, by rw [(hs.put x.n).e]⟩
  rw [if_neg k1] at h h'
  by_cases k2 : x.kind = 112
  · rw [if_pos k2] at h h'
    split at h
    · cases h
    · rename_i k hk
      rw [hk] at h'
      injection h with h; injection h with h1 h2; subst h1 h2
      injection h' with h'; injection h' with h1 h2; subst h1 h2
      exact ⟨hs.word _, by rw [(hs.word k).e]⟩
  rw [if_neg k2] at h h'
  by_cases k3 : x.kind = 105
  · rw [if_pos k3] at h h'
    split at h
    · cases h
    · injection h with h; injection h with h1 h2; subst h1 h2
      injection h' with h'; injection h' with h1 h2; subst h1 h2
      rename_i i _
      exact ⟨hs.put _, by rw [(hs.put i).e]⟩
  rw [if_neg k3] at h h'
  by_cases k4 : x.kind = 120
  · rw [if_pos k4] at h h'
    injection h with h; injection h with h1 h2; subst h1 h2
    injection h' with h'; injection h' with h1 h2; subst h1 h2
    exact ⟨hs, rfl⟩
  rw [if_neg k4] at h h'
  by_cases k5 : x.kind = 114
  · rw [if_pos k5] at h h'
    split at h
    · cases h
    · rename_i s2 l2 hx
      split at h'
      · cases h'
      · rename_i s2' l2' hx'
        have q := ih _ _ _ _ _ _ _ hs hx hx'
        injection h with h; injection h with h1 h2; subst h1 h2
        injection h' with h'; injection h' with h1 h2; subst h1 h2
        exact ⟨q.1, by rw [q.1.e]⟩
  rw [if_neg k5] at h h'
  by_cases k6 : x.kind = 99
  · rw [if_pos k6] at h h'
    split at h
    · cases h
    · rename_i s2 l2 hx
      split at h'
      · cases h'
      · rename_i s2' l2' hx'
        have q := ih _ _ _ _ _ _ _ hs hx hx'
        injection h with h; injection h with h1 h2; subst h1 h2
        injection h' with h'; injection h' with h1 h2; subst h1 h2
        exact ⟨q.1, by rw [q.1.e]⟩
  rw [if_neg k6] at h h'
  by_cases k7 : x.kind = 123
  · rw [if_pos k7] at h h'
    rw [hs.depth] at h
    by_cases hd : 20 ≤ s'.depth
    · rw [if_pos hd] at h h'
      injection h with h; injection h with h1 h2; subst h1 h2
      injection h' with h'; injection h' with h1 h2; subst h1 h2
      exact ⟨hs.err _, rfl⟩
    · rw [if_neg hd] at h h'
      split at h
      · cases h
      · rename_i s2 l2 hx
        split at h'
        · cases h'
        · rename_i s2' l2' hx'
          rw [← hs.depth] at hx
          have q := ih _ _ _ _ _ _ _ (hs.deep 1) hx hx'
          injection h with h; injection h with h1 h2; subst h1 h2
          injection h' with h'; injection h' with h1 h2; subst h1 h2
          exact ⟨q.1.up1, by rw [q.1.e]⟩
  rw [if_neg k7] at h h'
  by_cases k8 : x.kind = 100
  · rw [if_pos k8] at h h'
    rw [hs.rs] at h
    split at h
    · rename_i b m r hr
      rw [hr] at h'
      exact ih _ _ _ _ _ _ _ (hs.setRs r) h h'
    · rename_i hr
      split at h'
      · rename_i b m r hr'
        exact absurd hr' (hr b m r)
      · injection h with h; injection h with h1 h2; subst h1 h2
        injection h' with h'; injection h' with h1 h2; subst h1 h2
        exact ⟨hs.err _, rfl⟩
  rw [if_neg k8] at h
  cases h
theorem sim_tok {g : Nat} (ih : SimR g) {t : Tok} {s s' s1 s1' : St} (hs : Sim s s') (h : xTok g t s = some s1) (h' : xTok g t s' = some s1') : Sim s1 s1' := by
  unfold xTok at h h'
  have hst := hs.step
  cases hn : numP t with
  | some n =>
    rw [hn] at h h'
    dsimp only at h h'
    rw [hst.e] at h
    split at h
    · rename_i he
      rw [if_pos he] at h'
      injection h with h; subst h; injection h' with h'; subst h'; exact hst
    · rename_i he
      rw [if_neg he] at h'
      injection h with h; subst h; injection h' with h'; subst h'; exact hst.put n
  | none =>
    rw [hn] at h h'
    dsimp only at h h'
    cases hk : plainL.findIdx? (· == t) with
    | some k =>
      rw [hk] at h h'
      dsimp only at h h'
      rw [hst.e] at h
      split at h
      · rename_i he
        rw [if_pos he] at h'
        injection h with h; subst h; injection h' with h'; subst h'; exact hst
      · rename_i he
        rw [if_neg he] at h'
        injection h with h; subst h; injection h' with h'; subst h'; exact hst.word k
    | none =>
      rw [hk] at h h'
      dsimp only at h h'
      by_cases c1 : (keptL.any (· == t) || t == kSemi || t == kOpen || t == kClose) = true
      · rw [if_pos c1] at h h'
        injection h with h; subst h; injection h' with h'; subst h'; exact hs.err 4
      rw [if_neg c1] at h h'
      rw [hs.known] at h
      by_cases c2 : s'.known t = false
      · rw [if_pos c2] at h h'
        injection h with h; subst h; injection h' with h'; subst h'; exact hs.err 3
      rw [if_neg c2] at h h'
      rw [hst.e] at h
      split at h
      · rename_i he
        rw [if_pos he] at h'
        injection h with h; subst h; injection h' with h'; subst h'; exact hst
      · rename_i he
        rw [if_neg he] at h'
        split at h
        · cases h
        · rename_i s2 l2 hx
          split at h'
          · cases h'
          · rename_i s2' l2' hx'
            have q := ih _ _ _ _ _ _ _ hst hx hx'
            injection h with h; subst h; injection h' with h'; subst h'; exact q.1
theorem ptoks {g : Nat} {j : XJ} (s : St) (h0 : ¬ j.what = 0) (h1 : ¬ j.what = 1) (h2 : ¬ j.what = 2) (h3 : ¬ j.what = 3) (h4 : ¬ j.what = 4) : xRun (g + 1) j s = xRun (g + 1) (jToks j.ts) s := by
  conv => lhs; unfold xRun
  conv => rhs; unfold xRun
  rw [if_neg h0, if_neg h1, if_neg h2, if_neg h3, if_neg h4]
  rfl
theorem sim_run : ∀ g, SimR g := by
  intro g
  induction g with
  | zero => intro j s s' s1 s1' l l' _ h _; cases h
  | succ g ih =>
    intro j s s' s1 s1' l l' hs h h'
    by_cases h5 : j.what = 0 ∨ j.what = 1 ∨ j.what = 2 ∨ j.what = 3 ∨ j.what = 4
    case neg =>
      rw [ptoks s (by omega) (by omega) (by omega) (by omega) (by omega)] at h
      rw [ptoks s' (by omega) (by omega) (by omega) (by omega) (by omega)] at h'
      generalize j.ts = ts at h h'
      clear h5
      cases ts with
      | nil =>
        rw [x_tnil] at h h'
        injection h with h; injection h with e1 e2; subst e1 e2
        injection h' with h'; injection h' with e1 e2; subst e1 e2
        exact ⟨hs, rfl⟩
      | cons t r =>
        by_cases he : s.e = 0
        case neg =>
          rw [x_terr _ _ _ he] at h
          rw [x_terr _ _ _ (by rw [← hs.e]; exact he)] at h'
          injection h with h; injection h with e1 e2; subst e1 e2
          injection h' with h'; injection h' with e1 e2; subst e1 e2
          exact ⟨hs, rfl⟩
        have he' : s'.e = 0 := by rw [← hs.e]; exact he
        by_cases hc : t = kColon
        · subst hc
          rw [x_def _ _ _ he] at h
          rw [x_def _ _ _ he', ← hs.pDef] at h'
          split at h
          · cases h
          · rename_i e hp
            rw [hp] at h'
            injection h with h; injection h with e1 e2; subst e1 e2
            injection h' with h'; injection h' with e1 e2; subst e1 e2
            exact ⟨hs.err _, rfl⟩
          · rename_i nm b r1 hp
            rw [hp] at h'
            dsimp only at h'
            rw [hs.step.e] at h
            split at h
            · rename_i c
              rw [if_pos c] at h'
              injection h with h; injection h with e1 e2; subst e1 e2
              injection h' with h'; injection h' with e1 e2; subst e1 e2
              exact ⟨hs.step, rfl⟩
            · rename_i c
              rw [if_neg c] at h'
              exact ih _ _ _ _ _ _ _ (hs.step.set nm b) h h'
        · rw [x_tok _ _ _ _ he hc] at h
          rw [x_tok _ _ _ _ he' hc] at h'
          split at h
          · cases h
          · rename_i s2 hx
            split at h'
            · cases h'
            · rename_i s2' hx'
              exact ih _ _ _ _ _ _ _ (sim_tok ih hs hx hx') h h'
    unfold xRun at h h'
    by_cases h0 : j.what = 0
    · rw [if_pos h0] at h h'
      cases hl : j.l with
      | nil =>
        rw [hl] at h h'
        injection h with h; injection h with e1 e2; subst e1 e2
        injection h' with h'; injection h' with e1 e2; subst e1 e2
        exact ⟨hs, rfl⟩
      | cons x l0 =>
        rw [hl] at h h'
        dsimp only at h h'
        split at h
        · cases h
        · rename_i a b hx
          split at h'
          · cases h'
          · rename_i a' b' hx'
            obtain ⟨q1, rfl⟩ := ih _ _ _ _ _ _ _ hs hx hx'
            rw [q1.e] at h
            by_cases c : b = true ∨ a'.e ≠ 0
            · rw [if_pos c] at h h'
              injection h with h; injection h with e1 e2; subst e1 e2
              injection h' with h'; injection h' with e1 e2; subst e1 e2
              exact ⟨q1, rfl⟩
            · rw [if_neg c] at h h'
              exact ih _ _ _ _ _ _ _ q1 h h'
    rw [if_neg h0] at h h'
    by_cases h1 : j.what = 1
    · rw [if_pos h1] at h h'
      have ht := hs.test
      by_cases q1 : j.x.kind = 63
      · rw [if_pos q1] at h h'
        rw [ht.1.e, ht.2] at h
        by_cases c1 : s'.test.1.e ≠ 0
        · rw [if_pos c1] at h h'
          injection h with h; injection h with e1 e2; subst e1 e2
          injection h' with h'; injection h' with e1 e2; subst e1 e2
          exact ⟨ht.1, rfl⟩
        rw [if_neg c1] at h h'
        by_cases c2 : s'.test.2 = true
        · rw [if_pos c2] at h h'
          exact ih _ _ _ _ _ _ _ ht.1 h h'
        · rw [if_neg c2] at h h'
          exact ih _ _ _ _ _ _ _ ht.1 h h'
      rw [if_neg q1] at h h'
      by_cases q2 : j.x.kind = 117
      · rw [if_pos q2] at h h'
        split at h
        · cases h
        · rename_i a b hx
          split at h'
          · cases h'
          · rename_i a' b' hx'
            obtain ⟨q, rfl⟩ := ih _ _ _ _ _ _ _ hs hx hx'
            have ta := q.test
            by_cases cb : b = true
            · rw [if_pos cb] at h h'
              injection h with h; injection h with e1 e2; subst e1 e2
              injection h' with h'; injection h' with e1 e2; subst e1 e2
              exact ⟨q, rfl⟩
            rw [if_neg cb] at h h'
            rw [ta.1.e, ta.2] at h
            by_cases c1 : a'.test.1.e ≠ 0
            · rw [if_pos c1] at h h'
              injection h with h; injection h with e1 e2; subst e1 e2
              injection h' with h'; injection h' with e1 e2; subst e1 e2
              exact ⟨ta.1, rfl⟩
            rw [if_neg c1] at h h'
            by_cases c2 : a'.test.2 = true
            · rw [if_pos c2] at h h'
              injection h with h; injection h with e1 e2; subst e1 e2
              injection h' with h'; injection h' with e1 e2; subst e1 e2
              exact ⟨ta.1, rfl⟩
            · rw [if_neg c2] at h h'
              exact ih _ _ _ _ _ _ _ ta.1 h h'
      rw [if_neg q2] at h h'
      by_cases q3 : j.x.kind = 119
      · rw [if_pos q3] at h h'
        split at h
        · cases h
        · rename_i a b hx
          split at h'
          · cases h'
          · rename_i a' b' hx'
            obtain ⟨q, rfl⟩ := ih _ _ _ _ _ _ _ hs hx hx'
            have ta := q.test
            by_cases cb : b = true
            · rw [if_pos cb] at h h'
              injection h with h; injection h with e1 e2; subst e1 e2
              injection h' with h'; injection h' with e1 e2; subst e1 e2
              exact ⟨q, rfl⟩
            rw [if_neg cb] at h h'
            rw [ta.1.e, ta.2] at h
            by_cases c1 : a'.test.1.e ≠ 0
            · rw [if_pos c1] at h h'
              injection h with h; injection h with e1 e2; subst e1 e2
              injection h' with h'; injection h' with e1 e2; subst e1 e2
              exact ⟨ta.1, rfl⟩
            rw [if_neg c1] at h h'
            by_cases c2 : a'.test.2 = false
            · rw [if_pos c2] at h h'
              injection h with h; injection h with e1 e2; subst e1 e2
              injection h' with h'; injection h' with e1 e2; subst e1 e2
              exact ⟨ta.1, rfl⟩
            rw [if_neg c2] at h h'
            split at h
            · cases h
            · rename_i a3 b3 hx3
              split at h'
              · cases h'
              · rename_i a3' b3' hx3'
                obtain ⟨q3, rfl⟩ := ih _ _ _ _ _ _ _ ta.1 hx3 hx3'
                by_cases cc : b3 = true
                · rw [if_pos cc] at h h'
                  injection h with h; injection h with e1 e2; subst e1 e2
                  injection h' with h'; injection h' with e1 e2; subst e1 e2
                  exact ⟨q3, rfl⟩
                · rw [if_neg cc] at h h'
                  exact ih _ _ _ _ _ _ _ q3 h h'
      rw [if_neg q3] at h h'
      have hst := hs.step
      rw [hst.e] at h
      by_cases c : s'.step.e ≠ 0
      · rw [if_pos c] at h h'
        injection h with h; injection h with e1 e2; subst e1 e2
        injection h' with h'; injection h' with e1 e2; subst e1 e2
        exact ⟨hst, rfl⟩
      · rw [if_neg c] at h h'
        exact sim_one ih (f := j.f) (lp := j.lp) (x := j.x) hst h h'
    rw [if_neg h1] at h h'
    by_cases h2 : j.what = 2
    · rw [if_pos h2] at h h'
      by_cases c0 : j.n < j.m
      · rw [if_pos c0] at h h'
        have hst := hs.step
        rw [hst.e] at h
        by_cases c : s'.step.e ≠ 0
        · rw [if_pos c] at h h'
          injection h with h; injection h with e1 e2; subst e1 e2
          injection h' with h'; injection h' with e1 e2; subst e1 e2
          exact ⟨hst, rfl⟩
        rw [if_neg c] at h h'
        split at h
        · cases h
        · rename_i a b hx
          split at h'
          · cases h'
          · rename_i a' b' hx'
            obtain ⟨q, rfl⟩ := ih _ _ _ _ _ _ _ hst hx hx'
            by_cases cb : b = true
            · rw [if_pos cb] at h h'
              injection h with h; injection h with e1 e2; subst e1 e2
              injection h' with h'; injection h' with e1 e2; subst e1 e2
              exact ⟨q, rfl⟩
            · rw [if_neg cb] at h h'
              exact ih _ _ _ _ _ _ _ q h h'
      · rw [if_neg c0] at h h'
        injection h with h; injection h with e1 e2; subst e1 e2
        injection h' with h'; injection h' with e1 e2; subst e1 e2
        exact ⟨hs, rfl⟩
    rw [if_neg h2] at h h'
    by_cases h3 : j.what = 3
    · rw [if_pos h3] at h h'
      rw [hs.depth] at h
      by_cases c0 : 20 ≤ s'.depth
      · rw [if_pos c0] at h h'
        injection h with h; injection h with e1 e2; subst e1 e2
        injection h' with h'; injection h' with e1 e2; subst e1 e2
        exact ⟨hs.err _, rfl⟩
      rw [if_neg c0] at h h'
      have h : (match xCome g j.f s with
        | none => none
        | some s1 => match xRun g (jBody j.f [] j.f.body) { s1 with depth := s1.depth + 1 } with
          | none => none
          | some (s2, _) => some ({ s2 with depth := s2.depth - 1 }, false)) = some (s1, l) := h
      have h' : (match xCome g j.f s' with
        | none => none
        | some s1 => match xRun g (jBody j.f [] j.f.body) { s1 with depth := s1.depth + 1 } with
          | none => none
          | some (s2, _) => some ({ s2 with depth := s2.depth - 1 }, false)) = some (s1', l') := h'
      split at h
      · cases h
      · rename_i a ha
        split at h'
        · cases h'
        · rename_i a' ha'
          have qa := (come_sim ha).trans (hs.trans (come_sim ha').symm)
          split at h
          · cases h
          · rename_i b lb hx
            split at h'
            · cases h'
            · rename_i b' lb' hx'
              have q := ih _ _ _ _ _ _ _ (qa.deep 1) hx hx'
              injection h with h; injection h with e1 e2; subst e1 e2
              injection h' with h'; injection h' with e1 e2; subst e1 e2
              exact ⟨q.1.up1, rfl⟩
    rw [if_neg h3] at h h'
    have h4 : j.what = 4 := by omega
    rw [if_pos h4] at h h'
    split at h
    · cases h
    · rename_i d hd
      obtain ⟨d', hd', e1, e2, e3⟩ := find_sim hs _ hd
      rw [hd'] at h'
      dsimp only at h'
      rw [e1, e2, e3] at h'
      exact ih _ _ _ _ _ _ _ hs h h'
theorem sim_runs (hm : ∀ {g g' : Nat}, g ≤ g' → ∀ {j : XJ} {s : St} {r : St × Bool}, xRun g j s = some r → xRun g' j s = some r) {g g' : Nat} {j : XJ} {s s' s1 s1' : St} {l l' : Bool} (hs : Sim s s') (h : xRun g j s = some (s1, l)) (h' : xRun g' j s' = some (s1', l')) : Sim s1 s1' ∧ l = l' :=
  sim_run (g + g') j s s' s1 s1' l l' hs (hm (by omega) h) (hm (by omega) h')
end
section
open Go.RowKit
structure Duo (PS : World → Nat → (Nat → Prop) → St → Prop) (B : Nat) (W w : World) (xb yb : Nat) (V U : Nat → Prop) (sx sy : St) : Prop where
  x : PS w xb V sx
  y : PS w yb U sy
  dis : ∀ k, V k → ¬ U k
  lo : ∀ k, V k → B ≤ k
  lo2 : ∀ k, U k → B ≤ k
  bel : Below B W w
  bl : B ≤ w.heap.size
theorem Duo.swap {PS : World → Nat → (Nat → Prop) → St → Prop} {B : Nat} {W w : World} {xb yb : Nat} {V U : Nat → Prop} {sx sy : St} (h : Duo PS B W w xb yb V U sx sy) : Duo PS B W w yb xb U V sy sx :=
  ⟨h.y, h.x, fun k h1 h2 => h.dis k h2 h1, h.lo2, h.lo, h.bel, h.bl⟩
theorem row_vals {w : World} {b0 e : Nat} {v : Value} {l : List Value} (h : w.ownsRow b0 e 1 v l.length l) :
    ∃ ao cap, v = .slice ao l.length cap ∧ ∀ i (hi : i < l.length), ∃ g, ao = some ⟨g, 0, none⟩ ∧ own v g ∧ b0 ≤ g ∧ g < w.heap.size ∧ w.cell? ⟨g, i, none⟩ = some l[i] := by
  have h0 := Joins.ownsRow_le h (Nat.zero_le _)
  obtain ⟨ao, cap, e⟩ := row_slice h0
  refine ⟨ao, cap, e, fun i hi => ?_⟩
  obtain ⟨g, capv, e1, hc⟩ := row_cell h0 (by omega)
  have ho : own v g := by rw [e1]; rfl
  have hl := h.lt g ho
  rw [e] at e1
  injection e1 with e1 _ _
  exact ⟨g, e1, ho, hl.1, hl.2, hc i l[i] (List.getElem?_eq_getElem hi)⟩
theorem cell_kpU {w w' : World} {S : Nat → Prop} {q j : Nat} {u : Value} (hk : Kp w w' S) (hq : ¬ S q) (hc : w.cell? ⟨q, j, none⟩ = some u) : w'.cell? ⟨q, j, none⟩ = some u := by
  have hlt := lt_of_cell hc
  have hb := hk.block q hlt hq
  unfold World.cell? at hc ⊢
  rw [hb]; exact hc
def Lies (w : World) (S : Nat → Prop) (ao : Option Addr) (l : List Value) : Prop := ∀ i (hi : i < l.length), ∃ g, ao = some ⟨g, 0, none⟩ ∧ g < w.heap.size ∧ ¬ S g ∧ w.cell? ⟨g, i, none⟩ = some l[i]
theorem Lies.kp {w w' : World} {S S' T : Nat → Prop} {ao : Option Addr} {l : List Value} (h : Lies w S ao l) (hk : Kp w w' T) (ht : ∀ k, T k → S k) (hs : ∀ k, k < w.heap.size → S' k → S k) : Lies w' S' ao l := by
  intro i hi
  obtain ⟨g, e, h1, h2, h3⟩ := h i hi
  exact ⟨g, e, Nat.lt_of_lt_of_le h1 hk.size, fun q => h2 (hs g h1 q), cell_kpU hk (fun q => h2 (ht g q)) h3⟩
section
variable {PS : World → Nat → (Nat → Prop) → St → Prop} {B : Nat} {W0 : World} (P : PCon B W0 PS)
include P
theorem Duo.ranX {W w w' : World} {xb yb : Nat} {V U V' : Nat → Prop} {sx sy sx' : St} (h : Duo PS B W w xb yb V U sx sy) (hto : To (fun _ => False) w w' V V') (hx : PS w' xb V' sx') : Duo PS B W w' xb yb V' U sx' sy := by
  have hB := h.bl
  have hU := P.lt _ _ _ _ h.y
  refine ⟨hx, P.frame _ _ _ _ _ _ h.y hto.kp (fun k hk e => ?_) (fun k hk e => ?_) hB, fun k hk hu => ?_, fun k hk => ?_, h.lo2, h.bel.trans (hto.kp.below hB (fun k hk e => ?_)), Nat.le_trans hB hto.kp.size⟩
  · rcases e with e | e
    · exact e
    · exact h.dis k e hk
  · rcases e with e | e
    · exact e
    · have := h.lo k e; omega
  · rcases hto.nx k hk with e | e
    · exact h.dis k e hu
    · have := hU k hu; omega
  · rcases hto.nx k hk with e | e
    · exact h.lo k e
    · omega
  · rcases e with e | e
    · exact e
    · have := h.lo k e; omega
theorem Duo.idle {W w w' : World} {xb yb : Nat} {V U : Nat → Prop} {sx sy : St} (h : Duo PS B W w xb yb V U sx sy) (hk : Kp w w' (fun _ => False)) : Duo PS B W w' xb yb V U sx sy :=
  ⟨P.frame _ _ _ _ _ _ h.x hk (fun _ _ e => e) (fun _ _ e => e) h.bl, P.frame _ _ _ _ _ _ h.y hk (fun _ _ e => e) (fun _ _ e => e) h.bl, h.dis, h.lo, h.lo2, h.bel.trans (hk.below h.bl (fun _ _ e => e)), Nat.le_trans h.bl hk.size⟩
theorem duoStack {W w : World} {xb yb : Nat} {V U : Nat → Prop} {sx sy : St} (h : Duo PS B W w xb yb V U sx sy) (hg : SGood sx) :
    Calls Tryz.prog 16 #[.pointer (some ⟨xb, 0, none⟩)] w fun e w' => ∃ ao cap, e = .returned (.slice ao sx.rs.length cap) ∧ ∃ V', Duo PS B W w' xb yb V' U sx sy ∧ Lies w' (fun k => V' k ∨ U k) ao (ints sx.rs.reverse) ∧ To (fun _ => False) w w' V V' := by
  refine (P.stack w xb V sx h.x hg).mono ?_
  rintro e w' ⟨v, rfl, hrow, V', hx, hto, hn⟩
  have el : sx.rs.length = (ints sx.rs.reverse).length := by simp [ints]
  rw [el] at hrow
  obtain ⟨ao, cap, rfl, hc⟩ := row_vals hrow
  have hU := P.lt _ _ _ _ h.y
  refine ⟨ao, cap, by rw [← el], V', h.ranX P hto hx, fun i hi => ?_, hto⟩
  obtain ⟨g, e1, e2, e3, e4, e5⟩ := hc i hi
  exact ⟨g, e1, e4, fun q => by rcases q with q | q; exact hn g e2 q; have := hU g q; omega, e5⟩
theorem duoWords {W w : World} {xb yb : Nat} {V U : Nat → Prop} {sx sy : St} (h : Duo PS B W w xb yb V U sx sy) :
    Calls Tryz.prog 29 #[.pointer (some ⟨xb, 0, none⟩)] w fun e w' => ∃ ao cap, ∃ L : List ByteArray, (texts L = wordsP sx ∧ L.length ≤ 9223372036854775807) ∧ e = .returned (.slice ao L.length cap) ∧ ∃ V', Duo PS B W w' xb yb V' U sx sy ∧ Lies w' (fun k => V' k ∨ U k) ao (L.map Value.string) ∧ To (fun _ => False) w w' V V' := by
  refine (P.words w xb V sx h.x).mono ?_
  rintro e w' ⟨v, rfl, ⟨L, hrow, hL⟩, V', hx, hto, hn⟩
  have el : L.length = (L.map Value.string).length := by simp
  have hll := row_slice_len (Joins.ownsRow_le hrow (Nat.zero_le _))
  rw [el] at hrow
  obtain ⟨ao, cap, rfl, hc⟩ := row_vals hrow
  have hU := P.lt _ _ _ _ h.y
  refine ⟨ao, cap, L, ⟨hL, hll⟩, by rw [← el], V', h.ranX P hto hx, fun i hi => ?_, hto⟩
  obtain ⟨g, e1, e2, e3, e4, e5⟩ := hc i hi
  exact ⟨g, e1, e4, fun q => by rcases q with q | q; exact hn g e2 q; have := hU g q; omega, e5⟩
end
theorem Lies.ran {w w' : World} {V U U' : Nat → Prop} {ao : Option Addr} {l : List Value} (h : Lies w (fun k => V k ∨ U k) ao l) (hto : To (fun _ => False) w w' U U') : Lies w' (fun k => V k ∨ U' k) ao l :=
  h.kp hto.kp (fun k e => by rcases e with e | e; exact e.elim; exact .inr e) (fun k hk e => by
    rcases e with e | e
    · exact .inl e
    · rcases hto.nx k e with q | q
      · exact .inr q
      · omega)
theorem sim_words {s s' : St} (h : Sim s s') : wordsP s = wordsP s' := by
  have e : ∀ l : List Def, (l.map strip).map Def.name = l.map Def.name := by intro l; rw [List.map_map]; rfl
  unfold wordsP
  rw [← e s.defs, h.defs, e]
end
section
open Go.RowKit
theorem texts_injU : ∀ {a b : List ByteArray}, texts a = texts b → a = b
  | [], [], _ => rfl
  | [], _ :: _, h => by simp [texts] at h
  | _ :: _, [], h => by simp [texts] at h
  | x :: a, y :: b, h => by
    simp only [texts, List.map_cons, List.cons.injEq] at h
    have h1 : x = y := ByteArray.ext (Array.ext' h.1)
    have h2 := texts_injU (a := a) (b := b) (by simpa [texts] using h.2)
    rw [h1, h2]
section
variable {PS : World → Nat → (Nat → Prop) → St → Prop} {B : Nat} {W0 : World} (P : PCon B W0 PS)
include P
theorem sameL {W w : World} {xb yb : Nat} {V U : Nat → Prop} {sx sy : St} (h : Duo PS B W w xb yb V U sx sy) (hs : Sim sx sy) (gx : SGood sx) (gy : SGood sy) :
    Calls Tryz.prog 20 #[.pointer (some ⟨xb, 0, none⟩), .pointer (some ⟨yb, 0, none⟩)] w fun e w' => e = .returned (.bool true) ∧ ∃ V' U', Duo PS B W w' xb yb V' U' sx sy := by
  have hrl : sx.rs.length ≤ 32 := gx.g.len
  have HS := hide hs
  have HGY := hide gy
  have H1 := hide (duoStack P h gx)
  clear hs gx gy h
  go_enter Tryz.func20, Tryz.ntmps20
  go_wp2_with fail
  refine H1.out.mono ?_
  rintro e w1 ⟨ao, ca, rfl, V1, hd1, hl1, hto1⟩
  have H2 := hide (duoStack P hd1.swap HGY.out)
  have HL1 := hide hl1
  clear hd1 hl1 hto1 H1
  go_wp2_with fail
  refine H2.out.mono ?_
  rintro e w2 ⟨bo, cb, rfl, U1, hd2, hl2, hto2⟩
  have HA := hide (HL1.out.ran hto2)
  have HD := hide hd2.swap
  have HB : Hid (Lies w2 (fun k => V1 k ∨ U1 k) bo (ints sx.rs.reverse)) := by
    unfold Hid; rw [HS.out.rs]; exact hl2.kp (Kp.refl _ (fun _ => False)) (fun _ e => e.elim) (fun _ _ e => e.symm)
  have hyl : sy.rs.length = sx.rs.length := by rw [HS.out.rs]
  rw [hyl]
  clear hd2 hl2 hto2 HL1 H2 hyl
  go_wp2
  go_loopw [7] (fun i wr => ∃ k : Nat, k ≤ sx.rs.length ∧ i = .int .i64 k ∧ Kp w2 wr (fun _ => False)) (fun i _ => sx.rs.length - (intOf i).toNat)
  case atStart => exact ⟨0, Nat.zero_le _, rfl, Kp.refl _ _⟩
  case round =>
    obtain ⟨k, hk, rfl, hkp⟩ := hrel
    by_cases hlt : k < sx.rs.length
    · obtain ⟨g, rfl, hg, -, c1⟩ := HA.out k (by simpa [ints] using hlt)
      obtain ⟨g2, rfl, hg2, -, c2⟩ := HB.out k (by simpa [ints] using hlt)
      have e1 : (ints sx.rs.reverse)[k]'(by simpa [ints] using hlt) = .int .i64 (sx.rs.reverse[k]'(by simpa using hlt)) := by simp [ints]
      rw [e1] at c1 c2
      have d1 := cell_kpU hkp (fun h => h) c1
      have d2 := cell_kpU hkp (fun h => h) c2
      have hsz := hkp.size
      have hg' : g < wr.heap.size := by omega
      have hg2' : g2 < wr.heap.size := by omega
      have HKP := hide hkp
      clear hkp c1 c2 e1 HA HB HD HS HGY
      go_wp2
      go_quiet (fail)
      go_wp2
      go_roundw
      case rel => exact ⟨k + 1, by omega, by go_num, HKP.out.drewN _⟩
      case measure => simp [intOf]; omega
    · have H3 := hide (duoWords P (HD.out.idle P hkp))
      clear hkp HA HB HD
      go_wp2_with fail
      refine H3.out.mono ?_
      rintro e w3 ⟨co, cc, L, ⟨hL, hLl⟩, rfl, V3, hd3, hl3, hto3⟩
      have H4 := hide (duoWords P hd3.swap)
      have HL3 := hide hl3
      have HLL := hide hL
      clear hd3 hl3 hto3 H3 hL
      go_wp2_with fail
      refine H4.out.mono ?_
      rintro e w4 ⟨po, cd, L', ⟨hL', -⟩, rfl, U3, hd4, hl4, hto4⟩
      have hLL : L' = L := texts_injU (by rw [hL', HLL.out, sim_words HS.out])
      subst hLL
      have HC := hide (HL3.out.ran hto4)
      have HD4 := hide hd4.swap
      have HDD := hide hl4
      clear hd4 hl4 hto4 HL3 H4 hL' HLL
      go_wp2
      go_loopw [10] (fun i wr => ∃ k : Nat, k ≤ L'.length ∧ i = .int .i64 k ∧ Kp w4 wr (fun _ => False)) (fun i _ => L'.length - (intOf i).toNat)
      case atStart => exact ⟨0, Nat.zero_le _, rfl, Kp.refl _ _⟩
      case round =>
        clear hrl
        obtain ⟨k, hk, rfl, hkp⟩ := hrel
        by_cases hlt : k < L'.length
        · obtain ⟨g, rfl, hg, -, c1⟩ := HC.out k (by simpa using hlt)
          obtain ⟨g2, rfl, hg2, -, c2⟩ := HDD.out k (by simpa using hlt)
          rw [List.getElem_map] at c1 c2
          have d1 := cell_kpU hkp (fun h => h) c1
          have d2 := cell_kpU hkp (fun h => h) c2
          have hsz := hkp.size
          have hg' : g < wr.heap.size := by omega
          have hg2' : g2 < wr.heap.size := by omega
          have HKP := hide hkp
          clear hkp c1 c2 HC HDD HD4 HS HGY
          go_wp2
          go_quiet (fail)
          go_wp2
          go_roundw
          case rel => exact ⟨k + 1, by omega, by go_num, HKP.out.drewN _⟩
          case measure => simp [intOf]; omega
        · have HD5 : Hid (∃ V U, Duo PS B W wr xb yb V U sx sy) := ⟨_, _, HD4.out.idle P hkp⟩
          clear hkp HC HDD HD4
          go_wp2
          go_loopw [11] (fun i wr => ∃ k : Nat, k ≤ 16 ∧ i = .int .i64 k ∧ ∃ V U, Duo PS B W wr xb yb V U sx sy) (fun i _ => 16 - (intOf i).toNat)
          case atStart => exact ⟨0, Nat.zero_le _, rfl, HD5.out⟩
          case round =>
            clear HD5
            obtain ⟨k, hk, rfl, V5, U5, hd5⟩ := hrel
            by_cases hlt : k < 16
            · have hcx : ∀ s : St, cellP s k = (s.mem k, 0) := fun s => by unfold cellP; rw [if_neg (by omega)]; simp
              have HC1 := P.cell wr xb V5 sx k hd5.x ⟨by omega, by omega⟩
              rw [hcx] at HC1
              have HC1 := hide HC1
              have HD5 := hide hd5
              have HCX := hide hcx
              clear hd5 hcx
              go_wp2_with fail
              refine HC1.out.mono ?_
              rintro e w6 ⟨rfl, V6, hx6, hto6⟩
              have hd6 := HD5.out.ranX P hto6 hx6
              have HC2 := P.cell w6 yb U5 sy k hd6.y ⟨by omega, by omega⟩
              rw [HCX.out, ← HS.out.mem] at HC2
              have HC2 := hide HC2
              have HD6 := hide hd6
              clear hx6 hto6 hd6 HC1 HD5 HCX
              go_wp2_with fail
              refine HC2.out.mono ?_
              rintro e w7 ⟨rfl, U7, hx7, hto7⟩
              have HD7 := hide (HD6.out.swap.ranX P hto7 hx7).swap
              clear hx7 hto7 HC2 HD6
              go_wp2
              go_roundw
              case rel => exact ⟨k + 1, by omega, by go_num, _, _, HD7.out⟩
              case measure => simp [intOf]; omega
            · have HD5 : Hid (∃ V U, Duo PS B W wr xb yb V U sx sy) := ⟨_, _, hd5⟩
              clear hd5
              go_wp2
              go_ret
              exact ⟨rfl, HD5.out⟩
end
end
section
open Go.RowKit
def LineIs (s : St) (t : ByteArray) (out : ByteArray) (er : Int) (s2 : St) : Prop :=
  (validB t.data.toList = true ∧ ∃ g s1 l, xRun g (jToks (Lib.fields t.data.toList)) (freshL s) = some (s1, l) ∧ out = s1.out ∧ er = s1.e ∧ s2 = endL s1) ∨
  (validB t.data.toList = false ∧ out = ⟨#[]⟩ ∧ er = 2 ∧ s2 = s)
theorem Sim.fresh {s s' : St} (h : Sim s s') : Sim (freshL s) (freshL s') := ⟨h.rs, h.mem, h.defs, h.ids, rfl, rfl, rfl, rfl⟩
theorem Sim.ended {s s' : St} (h : Sim s s') : Sim (endL s) (endL s') := by
  unfold endL
  rw [h.e]
  split
  · exact h
  · exact ⟨rfl, h.mem, h.defs, h.ids, rfl, h.steps, h.depth, h.out⟩
theorem line_sim {s s' : St} (h : Sim s s') {t out out' : ByteArray} {er er' : Int} {s2 s2' : St} (h1 : LineIs s t out er s2) (h2 : LineIs s' t out' er' s2') : out = out' ∧ er = er' ∧ Sim s2 s2' := by
  rcases h1 with ⟨hv, g, s1, l, hr, rfl, rfl, rfl⟩ | ⟨hv, rfl, rfl, rfl⟩
  · rcases h2 with ⟨_, g', s1', l', hr', rfl, rfl, rfl⟩ | ⟨hv', _⟩
    · have q := (sim_runs (fun {_ _} hg {_ _ _} h => xRun_mono hg h) h.fresh hr hr').1
      exact ⟨q.out, q.e, q.ended⟩
    · rw [hv] at hv'; cases hv'
  · rcases h2 with ⟨hv', _⟩ | ⟨_, rfl, rfl, rfl⟩
    · rw [hv] at hv'; cases hv'
    · exact ⟨rfl, rfl, h⟩
def badU (hot built : Int) : Prop := hot < 1 ∨ 1000 < hot ∨ built < 0 ∨ 3 < built
def TuneC (PS : World → Nat → (Nat → Prop) → St → Prop) : Prop := ∀ w xb V s hot built, PS w xb V s → In hot → In built →
  Calls Tryz.prog 19 #[.pointer (some ⟨xb, 0, none⟩), .int .i64 hot, .int .i64 built] w fun e w' => ∃ r : Int, e = .returned (.int .i64 r) ∧ (¬ badU hot built → r = 0) ∧ ∃ V' s', PS w' xb V' s' ∧ (WFs s → WFs s') ∧ Sim s' s ∧ To (fun _ => False) w w' V V'
section
variable {PS : World → Nat → (Nat → Prop) → St → Prop} {B : Nat} {W0 : World} (P : PCon B W0 PS)
include P
theorem line_any (w : World) (xb : Nat) (V : Nat → Prop) (s : St) (t : ByteArray) (hx : PS w xb V s) (hw : WFs s) :
    ∃ out er s2, WFs s2 ∧ LineIs s t out er s2 ∧ Calls Tryz.prog 15 #[.pointer (some ⟨xb, 0, none⟩), .string t] w fun e w' => e = .returned (.tuple #[.string out, .int .i64 er]) ∧ ∃ V', PS w' xb V' s2 ∧ To (fun _ => False) w w' V V' := by
  cases hv : validB t.data.toList with
  | true =>
    obtain ⟨g, s1, l, hr, hwf⟩ := line_total s hw t.data.toList (valid_fields hv)
    exact ⟨s1.out, s1.e, endL s1, run_wf hw hv hr, .inl ⟨hv, g, s1, l, hr, rfl, rfl, rfl⟩, P.line w xb V s s1 l g t hx hw hw.g hv hr⟩
  | false => exact ⟨⟨#[]⟩, 2, s, hw, .inr ⟨hv, rfl, rfl, rfl⟩, P.lineBad w xb V s t hx hv⟩
end
section
variable {PS : World → Nat → (Nat → Prop) → St → Prop}
def UAt (PS : World → Nat → (Nat → Prop) → St → Prop) (W wr : World) (xb yb : Nat) : Prop := ∃ V U sx sy, Duo PS W.heap.size W wr xb yb V U sx sy ∧ Sim sx sy ∧ WFs sx ∧ WFs sy
theorem untunedL (W : World) (P : PCon W.heap.size W PS) (T : TuneC PS) (la : Option Addr) (len cap : Nat) (ra : Option Addr) (lt cap2 : Nat) (hlen : len ≤ 8796093022208) (hlt0 : lt ≤ 4611686018427387904)
    (hlines : ∀ i, i < len → ∃ lb off t, la = some ⟨lb, off, none⟩ ∧ W.cell? ⟨lb, off + i, none⟩ = some (.string t))
    (hraw : ∀ i, i < lt → ∃ rb off c, ra = some ⟨rb, off, none⟩ ∧ W.cell? ⟨rb, off + i, none⟩ = some (.int .i64 c) ∧ In c) :
    Calls Tryz.prog 7 #[.slice la len cap, .slice ra lt cap2] W fun e w' => e = .returned (.bool true) ∧ Below W.heap.size W w' := by
  have HL := hide hlines
  have HR := hide hraw
  have HT := hide T
  clear hlines hraw T
  have HF := hide (freshK P W (Below.refl _ _) (Nat.le_refl _))
  go_enter Tryz.func7, Tryz.ntmps7
  go_wp2_with fail
  refine HF.out.mono ?_
  rintro e w1 ⟨xb, rfl, V, hx, hw, hk, hV⟩
  have HX := hide hx
  have HW := hide hw
  have HK := hide hk
  have HV := hide hV
  have HF2 := hide (freshK P w1 (hk.below (Nat.le_refl _) (fun _ _ h => h)) hk.size)
  clear hx hw hk hV HF
  go_wp2_with fail
  refine HF2.out.mono ?_
  rintro e w2 ⟨yb, rfl, U, hy, hw2, hk2, hU⟩
  have HD : Hid (UAt PS W w2 xb yb) := by
    refine ⟨V, U, fsC, fsC, ⟨P.frame _ _ _ _ _ _ HX.out hk2 (fun _ _ h => h) (fun _ _ h => h) HK.out.size, hy, fun k h1 h2 => ?_, HV.out, fun k h => Nat.le_trans HK.out.size (hU k h), (HK.out.trans hk2).below (Nat.le_refl _) (fun _ _ h => h), (HK.out.trans hk2).size⟩, Sim.refl _, HW.out, HW.out⟩
    have := P.lt _ _ _ _ HX.out k h1
    have := hU k h2
    omega
  clear hy hw2 hk2 hU HX HW HK HV HF2
  go_wp2
  go_loopw [7] (fun i wr => ∃ k : Nat, k ≤ len ∧ i = .int .i64 k ∧ UAt PS W wr xb yb) (fun i _ => len - (intOf i).toNat)
  case atStart => exact ⟨0, Nat.zero_le _, rfl, HD.out⟩
  case round =>
    clear HD
    obtain ⟨k, hk, rfl, V, U, sx, sy, hd, hs, wx, wy⟩ := hrel
    by_cases hlt : k < len
    · obtain ⟨lb, off, t, rfl, hc⟩ := HL.out k hlt
      have hlb := lt_of_cell hc
      clear HL
      -- what is done behind Tune, or without it
      have key : ∀ (w3 : World) (U3 : Nat → Prop) (sy3 : St), Duo PS W.heap.size W w3 xb yb V U3 sx sy3 → Sim sx sy3 → WFs sy3 → w3.cell? ⟨lb, off + k, none⟩ = some (.string t) ∧
          ∃ out er, Calls Tryz.prog 15 #[.pointer (some ⟨xb, 0, none⟩), .string t] w3 fun e w4 => e = .returned (.tuple #[.string out, .int .i64 er]) ∧ w4.cell? ⟨lb, off + k, none⟩ = some (.string t) ∧
            Calls Tryz.prog 15 #[.pointer (some ⟨yb, 0, none⟩), .string t] w4 fun e w5 => e = .returned (.tuple #[.string out, .int .i64 er]) ∧
              Calls Tryz.prog 20 #[.pointer (some ⟨xb, 0, none⟩), .pointer (some ⟨yb, 0, none⟩)] w5 fun e w6 => e = .returned (.bool true) ∧ UAt PS W w6 xb yb := by
        intro w3 U3 sy3 hd3 hs3 wy3
        refine ⟨(hd3.bel.cell (p := ⟨lb, off + k, none⟩) hlb).trans hc, ?_⟩
        obtain ⟨out, er, sx2, wx2, hl1, hc1⟩ := line_any P w3 xb V sx t hd3.x wx
        refine ⟨out, er, hc1.mono ?_⟩
        rintro e w4 ⟨rfl, V4, hx4, hto4⟩
        have hd4 := hd3.ranX P hto4 hx4
        refine ⟨rfl, (hd4.bel.cell (p := ⟨lb, off + k, none⟩) hlb).trans hc, ?_⟩
        obtain ⟨out', er', sy2, wy2, hl2, hc2⟩ := line_any P w4 yb U3 sy3 t hd4.y wy3
        obtain ⟨rfl, rfl, hs2⟩ := line_sim hs3 hl1 hl2
        refine hc2.mono ?_
        rintro e w5 ⟨rfl, U5, hy5, hto5⟩
        have hd5 := (hd4.swap.ranX P hto5 hy5).swap
        refine ⟨rfl, (sameL P hd5 hs2 wx2.g wy2.g).mono ?_⟩
        rintro e w6 ⟨rfl, V6, U6, hd6⟩
        exact ⟨rfl, V6, U6, sx2, sy2, hd6, hs2, wx2, wy2⟩
      have KEY := hide key
      have HD := hide hd
      have HS := hide hs
      have HWY := hide wy
      clear key hc hd hs wx wy
      by_cases ht : 2 * k + 1 < lt
      · obtain ⟨rb, ro, c1, rfl, hc1, hin1⟩ := HR.out (2 * k) (by omega)
        obtain ⟨rb', ro', c2, e', hc2, hin2⟩ := HR.out (2 * k + 1) ht
        injection e' with e'; injection e' with e1 e2; subst e1 e2
        have hrb := lt_of_cell hc1
        have d1 : wr.cell? ⟨rb, ro + 2 * k, none⟩ = some (.int .i64 c1) := (HD.out.bel.cell (p := ⟨rb, ro + 2 * k, none⟩) hrb).trans hc1
        have d2 : wr.cell? ⟨rb, ro + (2 * k + 1), none⟩ = some (.int .i64 c2) := (HD.out.bel.cell (p := ⟨rb, ro + (2 * k + 1), none⟩) hrb).trans hc2
        clear hc1 hc2 HR
        have HTU : Hid (∀ w', Kp wr w' (fun _ => False) → Calls Tryz.prog 19 #[.pointer (some ⟨yb, 0, none⟩), .int .i64 c1, .int .i64 c2] w' fun e w3 => ∃ r : Int, e = .returned (.int .i64 r) ∧ w3.cell? ⟨lb, off + k, none⟩ = some (.string t) ∧
          ∃ out er, Calls Tryz.prog 15 #[.pointer (some ⟨xb, 0, none⟩), .string t] w3 fun e w4 => e = .returned (.tuple #[.string out, .int .i64 er]) ∧ w4.cell? ⟨lb, off + k, none⟩ = some (.string t) ∧
            Calls Tryz.prog 15 #[.pointer (some ⟨yb, 0, none⟩), .string t] w4 fun e w5 => e = .returned (.tuple #[.string out, .int .i64 er]) ∧
              Calls Tryz.prog 20 #[.pointer (some ⟨xb, 0, none⟩), .pointer (some ⟨yb, 0, none⟩)] w5 fun e w6 => e = .returned (.bool true) ∧ UAt PS W w6 xb yb) := by
          unfold Hid
          intro w' hkw
          have hd' := HD.out.idle P hkw
          refine (HT.out w' yb U sy c1 c2 hd'.y hin1 hin2).mono ?_
          rintro e w3 ⟨r, rfl, _, U3, sy3, hy3, hwf3, hs3, hto3⟩
          exact ⟨r, rfl, KEY.out w3 U3 sy3 (hd'.swap.ranX P hto3 hy3).swap (HS.out.trans hs3.symm) (hwf3 HWY.out)⟩
        clear KEY HD HS HWY HT
        have z1 : IntKind.i64.wrap (2 * (k : Int)) = ((2 * k : Nat) : Int) := by
          rw [show 2 * (k : Int) = ((2 * k : Nat) : Int) by omega]
          rw [IntKind.wrap_i64]; omega
        have z2 : IntKind.i64.wrap (2 * (k : Int) + 1) = ((2 * k + 1 : Nat) : Int) := by
          rw [show 2 * (k : Int) + 1 = ((2 * k + 1 : Nat) : Int) by omega]
          rw [IntKind.wrap_i64]; omega
        go_wp2
        go_region_with (go_at_call 19; refine (HTU.out _ ?_).mono ?_; exact (Kp.refl _ _).drew; rintro e w3 ⟨r, rfl, k3, out, er, hq⟩; have HQ3 := hide hq; clear hq)
        all_goals (
          go_wp2_with fail
          refine HQ3.out.mono ?_
          rintro e w4 ⟨rfl, k4, hq⟩
          have HQ4 := hide hq
          clear hq k3 HQ3
          go_wp2_with fail
          refine HQ4.out.mono ?_
          rintro e w5 ⟨rfl, hq⟩
          have HQ5 := hide hq
          clear hq k4 HQ4
          go_wp2_with fail
          refine HQ5.out.mono ?_
          rintro e w6 ⟨rfl, hq⟩
          have HQ6 := hide hq
          clear hq HQ5
          go_wp2
          go_roundw
          case rel => exact ⟨k + 1, by omega, by go_num, HQ6.out⟩
          case measure => simp [intOf]; omega)
      · have HQ := hide (KEY.out wr U sy HD.out HS.out HWY.out)
        clear KEY HD HS HWY HT HR
        obtain ⟨k3, out, er, hq⟩ := HQ.out
        have HQ := hide hq
        clear hq
        go_wp2_with fail
        refine HQ.out.mono ?_
        rintro e w4 ⟨rfl, k4, hq⟩
        have HQ := hide hq
        clear hq k3
        go_wp2_with fail
        refine HQ.out.mono ?_
        rintro e w5 ⟨rfl, hq⟩
        have HQ := hide hq
        clear hq k4
        go_wp2_with fail
        refine HQ.out.mono ?_
        rintro e w6 ⟨rfl, hq⟩
        have HQ := hide hq
        clear hq
        go_wp2
        go_roundw
        case rel => exact ⟨k + 1, by omega, by go_num, HQ.out⟩
        case measure => simp [intOf]; omega
    · have HB : Hid (Below W.heap.size W wr) := hd.bel
      clear hd hs wx wy
      go_wp2
      go_ret
      exact ⟨rfl, HB.out⟩
end
end
section
open Go.RowKit
theorem tuneM (w : World) (v : Value) (hot built : Int) : Calls Tryz.prog 19 #[v, .int .i64 hot, .int .i64 built] w fun e w' => e = .returned (.int .i64 0) ∧ w' = w := by
  go_enter Tryz.func19, Tryz.ntmps19
  go_wp2
  go_ret
  exact ⟨rfl, rfl⟩
theorem tuneP (B : Nat) (W : World) : TuneC (PSes B W) := fun w xb V s hot built hx _ _ => (tuneM w _ hot built).mono (by
  rintro e w' ⟨rfl, rfl⟩
  exact ⟨0, rfl, fun _ => rfl, V, s, hx, fun h => h, Sim.refl _, To.refl _ _ _⟩)
end
end Go.Proofs.YtldifaahmpecfaaGreatDoor
