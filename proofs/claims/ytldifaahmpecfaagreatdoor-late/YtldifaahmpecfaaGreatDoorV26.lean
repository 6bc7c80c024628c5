import Derived.Test.YtldifaahmpecfaaGreatDoorV25
import Derived.Test.YtldifaahmpecfaaGreatDoorV15
import Derived.Test.YtldifaahmpecfaaGreatDoorV23
namespace Go.Proofs.YtldifaahmpecfaaGreatDoor
set_option maxRecDepth 1000000
set_option maxHeartbeats 4000000
set_option linter.all false
section
open Go.RowKit
def CLen (l : List It) (n : Nat) : Prop := ∀ g names, callsG g l = some names → names.length ≤ n
theorem CLen.mono {l : List It} {n m : Nat} (h : CLen l n) (hm : n ≤ m) : CLen l m := fun g names hg => Nat.le_trans (h g names hg) hm
theorem CLen.nil : CLen [] 0 := by
 intro g names h
 cases g with
 | zero => cases h
 | succ g => simp only [callsG] at h; injection h with h; subst h; simp
theorem calls_cons {g : Nat} {x : It} {l : List It} {names : List Tok} (h : callsG (g + 1) (x :: l) = some names) : ∃ a b c, callsG g x.a = some a ∧ callsG g x.b = some b ∧ callsG g l = some c ∧ names = (if x.kind = 99 then [x.name] else []) ++ a ++ b ++ c := by
 simp only [callsG] at h
 split at h
 ·rename_i a b c h1 h2 h3
  injection h with h
  exact ⟨a, b, c, h1, h2, h3, h.symm⟩
 ·cases h
theorem CLen.one {x : It} {na nb : Nat} (ha : CLen x.a na) (hb : CLen x.b nb) : CLen [x] (1 + na + nb) := by
 intro g names h
 cases g with
 | zero => cases h
 | succ g =>
  obtain ⟨a, b, c, h1, h2, h3, h4⟩ := calls_cons h
  have q1 := ha _ _ h1
  have q2 := hb _ _ h2
  have q3 := CLen.nil _ _ h3
  rw [h4]
  simp only [List.length_append]
  split <;> simp <;> omega
theorem CLen.one0 {x : It} {na nb : Nat} (hk : ¬ x.kind = 99) (ha : CLen x.a na) (hb : CLen x.b nb) : CLen [x] (na + nb) := by
 intro g names h
 cases g with
 | zero => cases h
 | succ g =>
  obtain ⟨a, b, c, h1, h2, h3, h4⟩ := calls_cons h
  have q1 := ha _ _ h1
  have q2 := hb _ _ h2
  have q3 := CLen.nil _ _ h3
  rw [h4, if_neg hk]
  simp only [List.length_append, List.length_nil]
  omega
theorem calls_app : ∀ (l l' : List It) (g : Nat) (names : List Tok), callsG g (l ++ l') = some names → ∃ n1 n2 g', callsG g l = some n1 ∧ callsG g' l' = some n2 ∧ names = n1 ++ n2
 | [], l', g, names, h => by
  cases g with
  | zero => cases h
  | succ g => exact ⟨[], names, g + 1, rfl, h, rfl⟩
 | x :: l, l', g, names, h => by
  cases g with
  | zero => cases h
  | succ g =>
   obtain ⟨a, b, c, h1, h2, h3, h4⟩ := calls_cons (l := l ++ l') h
   obtain ⟨n1, n2, g', h5, h6, h7⟩ := calls_app l l' g c h3
   refine ⟨(if x.kind = 99 then [x.name] else []) ++ a ++ b ++ n1, n2, g', ?_, h6, by rw [h4, h7]; simp⟩
   simp only [callsG, h1, h2, h5]
theorem CLen.app {l l' : List It} {n n' : Nat} (h : CLen l n) (h' : CLen l' n') : CLen (l ++ l') (n + n') := by
 intro g names hg
 obtain ⟨n1, n2, g', h1, h2, h3⟩ := calls_app l l' g names hg
 rw [h3, List.length_append]
 exact Nat.add_le_add (h _ _ h1) (h' _ _ h2)
theorem braces_len : ∀ (r : List Tok) (ts r' : List Tok), pBraces r = .ok (ts, r') → r'.length ≤ r.length
 | [], _, _, h => by cases h
 | t :: r, ts, r', h => by
  unfold pBraces at h
  split at h
  ·cases h
  split at h
  ·injection h with h; injection h with h1 h2; subst h2; simp
  split at h
  ·cases h
  ·rename_i ts1 r1 h1
   injection h with h; injection h with h2 h3; subst h3
   have := braces_len r _ _ h1
   simp; omega
theorem pOne_calls {known : Tok → Bool} {lo : Nat} {t : Tok} {x : It} (h : pOne known lo t = .ok x) : x.a = [] ∧ x.b = [] := by
 unfold pOne at h
 repeat' split at h
 all_goals first
  | (cases h; done)
  | (injection h with h; subst h; exact ⟨rfl, rfl⟩)
def PLen (item : Bool) (r : List Tok) (xs : List It) (r' : List Tok) : Prop := ∃ n, CLen xs n ∧ r'.length + n ≤ r.length + (if item = true then 1 else 0) ∧ r'.length ≤ r.length
theorem PLen.out {item : Bool} {r : List Tok} {xs : List It} {r' : List Tok} (h : PLen item r xs r') : ∃ n, CLen xs n ∧ r'.length + n ≤ r.length + (if item = true then 1 else 0) ∧ r'.length ≤ r.length := h
theorem pRead_calls (known : Tok → Bool) : ∀ (g : Nat) (j : PJ) (r : List Tok) (xs : List It) (t : Tok) (r' : List Tok), pRead known g j r = some (.ok (xs, t, r')) → PLen j.item r xs r' := by
 intro g
 induction g with
 | zero => intro j r xs t r' h; cases h
 | succ g ih =>
  intro j r xs t r' h
  unfold pRead at h
  cases hj : j.item with
  | false =>
   rw [if_pos hj] at h
   split at h
   ·cases h
   ·rename_i t1 r1
    split at h
    ·injection h with h; injection h with h; injection h with h1 h2; injection h2 with h2 h3
     subst h1; subst h3
     exact ⟨0, CLen.nil, by simp, by simp⟩
    ·split at h
     ·cases h
     ·cases h
     ·rename_i xs1 t2 r2 h1
      have k1 := ih _ _ _ _ _ h1
      split at h
      ·cases h
      ·cases h
      ·rename_i ys t3 r3 h2
       have k2 := ih _ _ _ _ _ h2
       injection h with h; injection h with h; injection h with e1 e2; injection e2 with e2 e3
       subst e1; subst e3
       obtain ⟨n1, c1, d1, e1'⟩ := k1
       obtain ⟨n2, c2, d2, e2'⟩ := k2
       rw [hj] at d2
       simp only [if_true] at d1
       simp only [Bool.false_eq_true, if_false] at d2
       exact ⟨n1 + n2, c1.app c2, by simp; omega, by first | omega | (simp; omega)⟩
  | true =>
   rw [if_neg (by rw [hj]; decide)] at h
   split at h
   ·split at h
    ·cases h
    ·cases h
    ·rename_i a t1 r1 h1
     obtain ⟨n1, c1, d1, e1'⟩ := ih _ _ _ _ _ h1
     simp only [Bool.false_eq_true, if_false] at d1
     split at h
     ·split at h
      ·cases h
      ·cases h
      ·rename_i b t2 r2 h2
       obtain ⟨n2, c2, d2, e2'⟩ := ih _ _ _ _ _ h2
       simp only [Bool.false_eq_true, if_false] at d2
       injection h with h; injection h with h; injection h with e1 e2; injection e2 with e2 e3
       subst e1; subst e3
       exact ⟨n1 + n2, CLen.one0 (by simp) c1 c2, by simp; omega, by first | omega | (simp; omega)⟩
     ·injection h with h; injection h with h; injection h with e1 e2; injection e2 with e2 e3
      subst e1; subst e3
      exact ⟨n1 + 0, CLen.one0 (by simp) c1 CLen.nil, by simp; omega, by first | omega | (simp; omega)⟩
   ·split at h
    ·split at h
     ·cases h
     ·cases h
     ·rename_i a t1 r1 h1
      obtain ⟨n1, c1, d1, e1'⟩ := ih _ _ _ _ _ h1
      simp only [Bool.false_eq_true, if_false] at d1
      split at h
      ·split at h
       ·cases h
       ·cases h
       ·rename_i b t2 r2 h2
        obtain ⟨n2, c2, d2, e2'⟩ := ih _ _ _ _ _ h2
        simp only [Bool.false_eq_true, if_false] at d2
        injection h with h; injection h with h; injection h with e1 e2; injection e2 with e2 e3
        subst e1; subst e3
        exact ⟨n1 + n2, CLen.one0 (by simp) c1 c2, by simp; omega, by first | omega | (simp; omega)⟩
      ·injection h with h; injection h with h; injection h with e1 e2; injection e2 with e2 e3
       subst e1; subst e3
       exact ⟨n1 + 0, CLen.one0 (by simp) c1 CLen.nil, by simp; omega, by first | omega | (simp; omega)⟩
    ·split at h
     ·split at h
      ·cases h
      ·cases h
      ·rename_i a t1 r1 h1
       obtain ⟨n1, c1, d1, e1'⟩ := ih _ _ _ _ _ h1
       simp only [Bool.false_eq_true, if_false] at d1
       injection h with h; injection h with h; injection h with e1 e2; injection e2 with e2 e3
       subst e1; subst e3
       exact ⟨n1 + 0, CLen.one0 (by simp) c1 CLen.nil, by simp; omega, by first | omega | (simp; omega)⟩
     ·split at h
      ·split at h
       ·cases h
       ·rename_i ts r1 h1
        have := braces_len _ _ _ h1
        injection h with h; injection h with h; injection h with e1 e2; injection e2 with e2 e3
        subst e1; subst e3
        exact ⟨0 + 0, CLen.one0 (by simp) CLen.nil CLen.nil, by simp; omega, by first | omega | (simp; omega)⟩
      ·split at h
       ·cases h
       ·rename_i x h1
        obtain ⟨xa, xb⟩ := pOne_calls h1
        injection h with h; injection h with h; injection h with e1 e2; injection e2 with e2 e3
        subst e1; subst e3
        exact ⟨1 + 0 + 0, CLen.one (by rw [xa]; exact CLen.nil) (by rw [xb]; exact CLen.nil), by simp, by simp⟩
theorem pDefD_ok {g : Nat} {defs : List Def} {r : List Tok} {nm : Tok} {b : List It} {r1 : List Tok} (hl : r.length ≤ 1000) (h : pDefD g defs r = some (.ok (nm, b, r1))) : CBnd b ∧ (¬ findI defs nm < 0 ∨ (findI defs nm < 0 ∧ defs.length < 30)) := by
 cases r with
 | nil => cases h
 | cons t r =>
  unfold pDefD at h
  dsimp only at h
  split at h
  ·cases h
  split at h
  ·cases h
  rename_i h30
  split at h
  ·cases h
  ·cases h
  ·rename_i b' t' r' hr
   injection h with h; injection h with h; injection h with e1 e2; injection e2 with e2 e3
   subst e1; subst e2
   obtain ⟨n, c, d, -⟩ := pRead_calls _ _ _ _ _ _ _ hr
   simp only [Bool.false_eq_true, if_false] at d
   simp at hl
   refine ⟨c.mono (by omega), ?_⟩
   by_cases hf : findI defs t < 0
   ·right
    refine ⟨hf, ?_⟩
    rw [knownD_neg hf] at h30
    simp at h30
    exact h30
   ·exact .inl hf
end
section
open Go.RowKit
theorem pRead_mono (known : Tok → Bool) : ∀ (g : Nat) (j : PJ) (r : List Tok) (res : PRes), pRead known g j r = some res → pRead known (g + 1) j r = some res := by
 intro g
 induction g with
 | zero => intro j r res h; cases h
 | succ g ih =>
  intro j r res h
  unfold pRead at h ⊢
  by_cases hj : j.item = false
  ·rw [if_pos hj] at h ⊢
   cases r with
   | nil => exact h
   | cons t r1 =>
    dsimp only at h ⊢
    by_cases he : j.ends.any (· == t) = true
    ·rw [if_pos he] at h ⊢; exact h
    rw [if_neg he] at h ⊢
    cases hx : pRead known g ⟨true, j.loops, [], t⟩ r1 with
    | none => rw [hx] at h; cases h
    | some v =>
     rw [hx] at h; rw [ih _ _ _ hx]
     cases v with
     | error e => exact h
     | ok q =>
      obtain ⟨xs, t2, r2⟩ := q
      dsimp only at h ⊢
      cases hy : pRead known g j r2 with
      | none => rw [hy] at h; cases h
      | some v2 => rw [hy] at h; rw [ih _ _ _ hy]; exact h
  rw [if_neg hj] at h ⊢
  by_cases h1 : j.t = kIf
  ·rw [if_pos h1] at h ⊢
   cases hx : pRead known g ⟨false, j.loops, [kElse, kThen], []⟩ r with
   | none => rw [hx] at h; cases h
   | some v =>
    rw [hx] at h; rw [ih _ _ _ hx]
    cases v with
    | error e => exact h
    | ok q =>
     obtain ⟨a, t1, r1⟩ := q
     dsimp only at h ⊢
     by_cases h2 : t1 = kElse
     ·rw [if_pos h2] at h ⊢
      cases hy : pRead known g ⟨false, j.loops, [kThen], []⟩ r1 with
      | none => rw [hy] at h; cases h
      | some v2 => rw [hy] at h; rw [ih _ _ _ hy]; exact h
     ·rw [if_neg h2] at h ⊢; exact h
  rw [if_neg h1] at h ⊢
  by_cases h3 : j.t = kBegin
  ·rw [if_pos h3] at h ⊢
   cases hx : pRead known g ⟨false, j.loops, [kUntil, kWhile], []⟩ r with
   | none => rw [hx] at h; cases h
   | some v =>
    rw [hx] at h; rw [ih _ _ _ hx]
    cases v with
    | error e => exact h
    | ok q =>
     obtain ⟨a, t1, r1⟩ := q
     dsimp only at h ⊢
     by_cases h2 : t1 = kWhile
     ·rw [if_pos h2] at h ⊢
      cases hy : pRead known g ⟨false, j.loops, [kRepeat], []⟩ r1 with
      | none => rw [hy] at h; cases h
      | some v2 => rw [hy] at h; rw [ih _ _ _ hy]; exact h
     ·rw [if_neg h2] at h ⊢; exact h
  rw [if_neg h3] at h ⊢
  by_cases h4 : j.t = kDo
  ·rw [if_pos h4] at h ⊢
   cases hx : pRead known g ⟨false, j.loops + 1, [kLoop], []⟩ r with
   | none => rw [hx] at h; cases h
   | some v => rw [hx] at h; rw [ih _ _ _ hx]; exact h
  rw [if_neg h4] at h ⊢
  exact h
theorem pDef_mono {g : Nat} {s : St} {r : List Tok} {res : DRes} (h : pDef g s r = some res) : pDef (g + 1) s r = some res := by
 cases r with
 | nil => exact h
 | cons t r =>
  unfold pDef at h ⊢
  dsimp only at h ⊢
  by_cases h1 : isName t = false
  ·rw [if_pos h1] at h ⊢; exact h
  rw [if_neg h1] at h ⊢
  by_cases h2 : s.known t = false ∧ 30 ≤ s.defs.length
  ·rw [if_pos h2] at h ⊢; exact h
  rw [if_neg h2] at h ⊢
  cases hx : pRead s.known g ⟨false, 0, [kSemi], []⟩ r with
  | none => rw [hx] at h; cases h
  | some v => rw [hx] at h; rw [pRead_mono _ _ _ _ _ hx]; exact h
theorem callsG_mono : ∀ (g : Nat) (l : List It) (names : List Tok), callsG g l = some names → callsG (g + 1) l = some names := by
 intro g
 induction g with
 | zero => intro l names h; cases h
 | succ g ih =>
  intro l names h
  cases l with
  | nil => exact h
  | cons x l =>
   obtain ⟨a, b, c, h1, h2, h3, h4⟩ := calls_cons h
   rw [callsG, ih _ _ h1, ih _ _ h2, ih _ _ h3, h4]
theorem foldN_mono {f f' : Tok → Option (List Tok)} (hf : ∀ t x, f t = some x → f' t = some x) : ∀ (l res : List Tok), foldN f l = some res → foldN f' l = some res
 | [], res, h => h
 | t :: l, res, h => by
  unfold foldN at h ⊢
  split at h
  ·rename_i x y h1 h2
   rw [hf _ _ h1, foldN_mono hf l y h2]; exact h
  ·cases h
theorem buildsG_mono (defs : List Def) (g : Nat) : ∀ (n : Nat) (l : List It) (res : List Tok), buildsG defs g n l = some res → buildsG defs (g + 1) n l = some res
 | 0, l, res, h => h
 | n + 1, l, res, h => by
  unfold buildsG at h ⊢
  cases hc : callsG g l with
  | none => rw [hc] at h; cases h
  | some names =>
   rw [hc] at h; rw [callsG_mono _ _ _ hc]
   dsimp only at h ⊢
   refine foldN_mono (fun t x ht => ?_) names res h
   cases hb : bodyOf defs t with
   | none => rw [hb] at ht; cases ht
   | some b => rw [hb] at ht; exact buildsG_mono defs g n b x ht
theorem count_mono {g : Nat} {s s' : St} {k : Nat} (h : s.count g k = some s') : s.count (g + 1) k = some s' := by
 unfold St.count at h ⊢
 split at h
 ·cases h
 ·by_cases h1 : (‹Def› : Def).fast = true
  ·rw [if_pos h1] at h ⊢; exact h
  rw [if_neg h1] at h ⊢
  split at h
  ·rename_i h2; rw [if_pos h2]; exact h
  ·rename_i h2; rw [if_neg h2]
   split at h
   ·cases h
   ·rename_i bs hb; rw [buildsG_mono _ _ _ _ _ hb]; exact h
theorem xCome_mono {g : Nat} {f : Fr} {s s' : St} (h : xCome g f s = some s') : xCome (g + 1) f s = some s' := by
 unfold xCome at h ⊢
 split at h
 ·exact h
 ·split at h
  ·cases h
  ·split at h
   ·rename_i h1; rw [if_pos h1]; exact count_mono h
   ·rename_i h1; rw [if_neg h1]; exact h
end
section
open Go.RowKit
theorem xOne_mono {g : Nat} (ih : ∀ (j : XJ) (s : St) (r : St × Bool), xRun g j s = some r → xRun (g + 1) j s = some r) {f : Fr} {lp : List Int} {x : It} {s : St} {r : St × Bool} (h : xOne g f lp x s = some r) : xOne (g + 1) f lp x s = some r := by
 unfold xOne at h ⊢
 by_cases h1 : x.kind = 110
 ·rw [if_pos h1] at h ⊢; exact h
 rw [if_neg h1] at h ⊢
 by_cases h2 : x.kind = 112
 ·rw [if_pos h2] at h ⊢; exact h
 rw [if_neg h2] at h ⊢
 by_cases h3 : x.kind = 105
 ·rw [if_pos h3] at h ⊢; exact h
 rw [if_neg h3] at h ⊢
 by_cases h4 : x.kind = 120
 ·rw [if_pos h4] at h ⊢; exact h
 rw [if_neg h4] at h ⊢
 by_cases h5 : x.kind = 114
 ·rw [if_pos h5] at h ⊢
  cases hx : xRun g (jEnter f) s with
  | none => rw [hx] at h; cases h
  | some v => rw [hx] at h; rw [ih _ _ _ hx]; exact h
 rw [if_neg h5] at h ⊢
 by_cases h6 : x.kind = 99
 ·rw [if_pos h6] at h ⊢
  cases hx : xRun g (jCall x.name) s with
  | none => rw [hx] at h; cases h
  | some v => rw [hx] at h; rw [ih _ _ _ hx]; exact h
 rw [if_neg h6] at h ⊢
 by_cases h7 : x.kind = 123
 ·rw [if_pos h7] at h ⊢
  by_cases hd : 20 ≤ s.depth
  ·rw [if_pos hd] at h ⊢; exact h
  rw [if_neg hd] at h ⊢
  cases hx : xRun g (jToks x.toks) { s with depth := s.depth + 1 } with
  | none => rw [hx] at h; cases h
  | some v => rw [hx] at h; rw [ih _ _ _ hx]; exact h
 rw [if_neg h7] at h ⊢
 by_cases h8 : x.kind = 100
 ·rw [if_pos h8] at h ⊢
  split at h
  ·exact ih _ _ _ h
  ·exact h
 rw [if_neg h8] at h ⊢
 exact h
theorem xTok_mono {g : Nat} (ih : ∀ (j : XJ) (s : St) (r : St × Bool), xRun g j s = some r → xRun (g + 1) j s = some r) {t : Tok} {s s' : St} (h : xTok g t s = some s') : xTok (g + 1) t s = some s' := by
 unfold xTok at h ⊢
 cases hn : numP t with
 | some n => rw [hn] at h; exact h
 | none =>
  rw [hn] at h
  dsimp only at h ⊢
  cases hp : plainL.findIdx? (· == t) with
  | some k => rw [hp] at h; exact h
  | none =>
   rw [hp] at h
   dsimp only at h ⊢
   by_cases h1 : (keptL.any (· == t) || t == kSemi || t == kOpen || t == kClose) = true
   ·rw [if_pos h1] at h ⊢; exact h
   rw [if_neg h1] at h ⊢
   by_cases h2 : s.known t = false
   ·rw [if_pos h2] at h ⊢; exact h
   rw [if_neg h2] at h ⊢
   by_cases h3 : s.step.e ≠ 0
   ·rw [if_pos h3] at h ⊢; exact h
   rw [if_neg h3] at h ⊢
   cases hx : xRun g (jCall t) s.step with
   | none => rw [hx] at h; cases h
   | some v => rw [hx] at h; rw [ih _ _ _ hx]; exact h
theorem xRun_mono1 : ∀ (g : Nat) (j : XJ) (s : St) (r : St × Bool), xRun g j s = some r → xRun (g + 1) j s = some r := by
 intro g
 induction g with
 | zero => intro j s r h; cases h
 | succ g ih =>
  intro j s r h
  unfold xRun at h ⊢
  by_cases h0 : j.what = 0
  ·rw [if_pos h0] at h ⊢
   cases hl : j.l with
   | nil => rw [hl] at h; exact h
   | cons x l =>
    rw [hl] at h
    dsimp only at h ⊢
    cases hx : xRun g (jItem j.f j.lp x) s with
    | none => rw [hx] at h; cases h
    | some v =>
     obtain ⟨s1, left⟩ := v
     rw [hx] at h; rw [ih _ _ _ hx]
     dsimp only at h ⊢
     by_cases hc : left = true ∨ s1.e ≠ 0
     ·rw [if_pos hc] at h ⊢; exact h
     ·rw [if_neg hc] at h ⊢; exact ih _ _ _ h
  rw [if_neg h0] at h ⊢
  by_cases h1 : j.what = 1
  ·rw [if_pos h1] at h ⊢
   by_cases q1 : j.x.kind = 63
   ·rw [if_pos q1] at h ⊢
    by_cases e1 : s.test.1.e ≠ 0
    ·rw [if_pos e1] at h ⊢; exact h
    rw [if_neg e1] at h ⊢
    by_cases e2 : s.test.2 = true
    ·rw [if_pos e2] at h ⊢; exact ih _ _ _ h
    ·rw [if_neg e2] at h ⊢; exact ih _ _ _ h
   rw [if_neg q1] at h ⊢
   by_cases q2 : j.x.kind = 117
   ·rw [if_pos q2] at h ⊢
    cases hx : xRun g (jBody j.f j.lp j.x.a) s with
    | none => rw [hx] at h; cases h
    | some v =>
     obtain ⟨s1, left⟩ := v
     rw [hx] at h; rw [ih _ _ _ hx]
     dsimp only at h ⊢
     by_cases e0 : left = true
     ·rw [if_pos e0] at h ⊢; exact h
     rw [if_neg e0] at h ⊢
     by_cases e1 : s1.test.1.e ≠ 0
     ·rw [if_pos e1] at h ⊢; exact h
     rw [if_neg e1] at h ⊢
     by_cases e2 : s1.test.2 = true
     ·rw [if_pos e2] at h ⊢; exact h
     ·rw [if_neg e2] at h ⊢; exact ih _ _ _ h
   rw [if_neg q2] at h ⊢
   by_cases q3 : j.x.kind = 119
   ·rw [if_pos q3] at h ⊢
    cases hx : xRun g (jBody j.f j.lp j.x.a) s with
    | none => rw [hx] at h; cases h
    | some v =>
     obtain ⟨s1, left⟩ := v
     rw [hx] at h; rw [ih _ _ _ hx]
     dsimp only at h ⊢
     by_cases e0 : left = true
     ·rw [if_pos e0] at h ⊢; exact h
     rw [if_neg e0] at h ⊢
     by_cases e1 : s1.test.1.e ≠ 0
     ·rw [if_pos e1] at h ⊢; exact h
     rw [if_neg e1] at h ⊢
     by_cases e2 : s1.test.2 = false
     ·rw [if_pos e2] at h ⊢; exact h
     rw [if_neg e2] at h ⊢
     cases hy : xRun g (jBody j.f j.lp j.x.b) s1.test.1 with
     | none => rw [hy] at h; cases h
     | some v3 =>
      obtain ⟨s3, left3⟩ := v3
      rw [hy] at h; rw [ih _ _ _ hy]
      dsimp only at h ⊢
      by_cases e3 : left3 = true
      ·rw [if_pos e3] at h ⊢; exact h
      ·rw [if_neg e3] at h ⊢; exact ih _ _ _ h
   rw [if_neg q3] at h ⊢
   by_cases q4 : s.step.e ≠ 0
   ·rw [if_pos q4] at h ⊢; exact h
   rw [if_neg q4] at h ⊢
   exact xOne_mono (f := j.f) (lp := j.lp) (x := j.x) (s := s.step) (r := r) ih h
  rw [if_neg h1] at h ⊢
  by_cases h2 : j.what = 2
  ·rw [if_pos h2] at h ⊢
   by_cases e0 : j.n < j.m
   ·rw [if_pos e0] at h ⊢
    by_cases e1 : s.step.e ≠ 0
    ·rw [if_pos e1] at h ⊢; exact h
    rw [if_neg e1] at h ⊢
    cases hx : xRun g (jBody j.f (j.n :: j.lp) j.l) s.step with
    | none => rw [hx] at h; cases h
    | some v =>
     obtain ⟨s2, left⟩ := v
     rw [hx] at h; rw [ih _ _ _ hx]
     dsimp only at h ⊢
     by_cases e2 : left = true
     ·rw [if_pos e2] at h ⊢; exact h
     ·rw [if_neg e2] at h ⊢; exact ih _ _ _ h
   ·rw [if_neg e0] at h ⊢; exact h
  rw [if_neg h2] at h ⊢
  by_cases h3 : j.what = 3
  ·rw [if_pos h3] at h ⊢
   by_cases q : 20 ≤ s.depth
   ·rw [if_pos q] at h ⊢; exact h
   rw [if_neg q] at h ⊢
   have h : (match xCome g j.f s with
    | none => none
    | some s1 => match xRun g (jBody j.f [] j.f.body) { s1 with depth := s1.depth + 1 } with
     | none => none
     | some (s2, _) => some ({ s2 with depth := s2.depth - 1 }, false)) = some r := h
   show (match xCome (g + 1) j.f s with
    | none => none
    | some s1 => match xRun (g + 1) (jBody j.f [] j.f.body) { s1 with depth := s1.depth + 1 } with
     | none => none
     | some (s2, _) => some ({ s2 with depth := s2.depth - 1 }, false)) = some r
   cases hc : xCome g j.f s with
   | none => rw [hc] at h; cases h
   | some s1 =>
    rw [hc] at h; rw [xCome_mono hc]
    dsimp only at h ⊢
    cases hx : xRun g (jBody j.f [] j.f.body) { s1 with depth := s1.depth + 1 } with
    | none => rw [hx] at h; cases h
    | some v => rw [hx] at h; rw [ih _ _ _ hx]; exact h
  rw [if_neg h3] at h ⊢
  by_cases h4 : j.what = 4
  ·rw [if_pos h4] at h ⊢
   split at h
   ·cases h
   ·exact ih _ _ _ h
  rw [if_neg h4] at h ⊢
  cases hts : j.ts with
  | nil => rw [hts] at h; exact h
  | cons t r1 =>
   rw [hts] at h
   dsimp only at h ⊢
   by_cases he : s.e ≠ 0
   ·rw [if_pos he] at h ⊢; exact h
   have he0 : s.e = 0 := by simpa using he
   by_cases ht : t = kColon
   ·subst ht
    have h : xRun (g + 1) (jToks (kColon :: r1)) s = some r := h
    show xRun (g + 1 + 1) (jToks (kColon :: r1)) s = some r
    rw [x_def _ s r1 he0] at h ⊢
    cases hp : pDef g s r1 with
    | none => rw [hp] at h; cases h
    | some res =>
     rw [hp] at h; rw [pDef_mono hp]
     cases res with
     | error e => exact h
     | ok q =>
      obtain ⟨nm, b, r2⟩ := q
      dsimp only at h ⊢
      by_cases e1 : s.step.e ≠ 0
      ·rw [if_pos e1] at h ⊢; exact h
      ·rw [if_neg e1] at h ⊢; exact ih _ _ _ h
   ·have h : xRun (g + 1) (jToks (t :: r1)) s = some r := h
    show xRun (g + 1 + 1) (jToks (t :: r1)) s = some r
    rw [x_tok _ s t r1 he0 ht] at h ⊢
    cases hx : xTok g t s with
    | none => rw [hx] at h; cases h
    | some s2 => rw [hx] at h; rw [xTok_mono ih hx]; exact ih _ _ _ h
theorem xRun_mono {g g' : Nat} (hg : g ≤ g') {j : XJ} {s : St} {r : St × Bool} (h : xRun g j s = some r) : xRun g' j s = some r := by
 induction hg with
 | refl => exact h
 | step _ ih => exact xRun_mono1 _ _ _ _ ih
end
end Go.Proofs.YtldifaahmpecfaaGreatDoor
