import Derived.Test.YtldifaahmpecfaaGreatDoorV26
import Derived.Test.YtldifaahmpecfaaGreatDoorV27
import Derived.Test.YtldifaahmpecfaaGreatDoorV23
namespace Go.Proofs.YtldifaahmpecfaaGreatDoor
set_option maxRecDepth 1000000
set_option maxHeartbeats 4000000
set_option linter.all false
section
open Go.RowKit
def okIt (known : Tok → Prop) (sub : Bool → List It → Prop) (lo : Bool) (x : It) : Prop :=
 (((x.kind = 110 ∧ In x.n) ∨ x.kind = 114 ∨ x.kind = 120 ∨ (x.kind = 123 ∧ x.toks.length ≤ 1000) ∨ (x.kind = 112 ∧ (plainL.findIdx? (· == x.name)).isSome = true) ∨ (x.kind = 99 ∧ known x.name) ∨ (x.kind = 105 ∧ lo = true)) ∧ x.a = [] ∧ x.b = []) ∨
 ((x.kind = 63 ∨ x.kind = 117 ∨ x.kind = 119) ∧ sub lo x.a ∧ sub lo x.b) ∨ (x.kind = 100 ∧ sub true x.a ∧ x.b = [])
def wb (known : Tok → Prop) : Nat → Bool → List It → Prop
 | 0, _, l => l = []
 | g + 1, lo, l => ∀ x ∈ l, okIt known (wb known g) lo x
theorem okIt.mono {known known' : Tok → Prop} {sub sub' : Bool → List It → Prop} (hk : ∀ t, known t → known' t) (hs : ∀ lo l, sub lo l → sub' lo l) {lo : Bool} {x : It} (h : okIt known sub lo x) : okIt known' sub' lo x := by
 rcases h with ⟨h, h1, h2⟩ | ⟨h, h1, h2⟩ | ⟨h, h1, h2⟩
 ·refine .inl ⟨?_, h1, h2⟩
  rcases h with h | h | h | h | h | h | h
  ·exact .inl h
  ·exact .inr (.inl h)
  ·exact .inr (.inr (.inl h))
  ·exact .inr (.inr (.inr (.inl h)))
  ·exact .inr (.inr (.inr (.inr (.inl h))))
  ·exact .inr (.inr (.inr (.inr (.inr (.inl ⟨h.1, hk _ h.2⟩)))))
  ·exact .inr (.inr (.inr (.inr (.inr (.inr h)))))
 ·exact .inr (.inl ⟨h, hs _ _ h1, hs _ _ h2⟩)
 ·exact .inr (.inr ⟨h, hs _ _ h1, h2⟩)
theorem wb_known {known known' : Tok → Prop} (hk : ∀ t, known t → known' t) : ∀ (g : Nat) (lo : Bool) (l : List It), wb known g lo l → wb known' g lo l
 | 0, _, _, h => h
 | g + 1, _, _, h => fun x hx => (h x hx).mono hk (fun lo l => wb_known hk g lo l)
theorem wb_nil (known : Tok → Prop) : ∀ (g : Nat) (lo : Bool), wb known g lo []
 | 0, _ => rfl
 | _ + 1, _ => fun x hx => by cases hx
theorem wb_succ {known : Tok → Prop} : ∀ (g : Nat) (lo : Bool) (l : List It), wb known g lo l → wb known (g + 1) lo l
 | 0, lo, l, h => by have h : l = [] := h; subst h; exact wb_nil _ _ _
 | g + 1, _, _, h => fun x hx => (h x hx).mono (fun _ h => h) (fun lo l => wb_succ g lo l)
theorem wb_le {known : Tok → Prop} {g g' : Nat} (hg : g ≤ g') {lo : Bool} {l : List It} (h : wb known g lo l) : wb known g' lo l := by
 induction hg with
 | refl => exact h
 | step _ ih => exact wb_succ _ _ _ ih
theorem wb_app {known : Tok → Prop} {g g' : Nat} {lo : Bool} {l l' : List It} (h : wb known g lo l) (h' : wb known g' lo l') : wb known (g + g' + 1) lo (l ++ l') := by
 intro x hx
 rcases List.mem_append.1 hx with h1 | h1
 ·exact wb_le (g := g) (g' := g + g' + 1) (by omega) h x h1
 ·exact wb_le (g := g') (g' := g + g' + 1) (by omega) h' x h1
theorem callsG_le {g g' : Nat} (hg : g ≤ g') {l : List It} {names : List Tok} (h : callsG g l = some names) : callsG g' l = some names := by
 induction hg with
 | refl => exact h
 | step _ ih => exact callsG_mono _ _ _ ih
theorem calls_total {known : Tok → Prop} : ∀ (g : Nat) (lo : Bool) (l : List It), wb known g lo l → ∃ G names, callsG G l = some names ∧ ∀ n ∈ names, known n := by
 intro g
 induction g with
 | zero => intro lo l h; have h : l = [] := h; subst h; exact ⟨1, [], rfl, by simp⟩
 | succ g ih =>
  intro lo l
  induction l with
  | nil => intro _; exact ⟨1, [], rfl, by simp⟩
  | cons x l ihl =>
   intro h
   obtain ⟨G3, c, hc, kc⟩ := ihl (fun y hy => h y (by simp [hy]))
   have hx := h x (by simp)
   have key : ∃ G1 a G2 b, callsG G1 x.a = some a ∧ callsG G2 x.b = some b ∧ (∀ n ∈ a, known n) ∧ (∀ n ∈ b, known n) ∧ (x.kind = 99 → known x.name) := by
    rcases hx with ⟨h, h1, h2⟩ | ⟨h, h1, h2⟩ | ⟨h, h1, h2⟩
    ·refine ⟨1, [], 1, [], by rw [h1]; rfl, by rw [h2]; rfl, by simp, by simp, fun hk => ?_⟩
     rcases h with h | h | h | h | h | h | h
     ·omega
     ·omega
     ·omega
     ·omega
     ·omega
     ·exact h.2
     ·omega
    ·obtain ⟨G1, a, ha, ka⟩ := ih _ _ h1
     obtain ⟨G2, b, hb, kb⟩ := ih _ _ h2
     exact ⟨G1, a, G2, b, ha, hb, ka, kb, fun hk => by omega⟩
    ·obtain ⟨G1, a, ha, ka⟩ := ih _ _ h1
     exact ⟨G1, a, 1, [], ha, by rw [h2]; rfl, ka, by simp, fun hk => by omega⟩
   obtain ⟨G1, a, G2, b, ha, hb, ka, kb, kn⟩ := key
   refine ⟨G1 + G2 + G3 + 1, (if x.kind = 99 then [x.name] else []) ++ a ++ b ++ c, ?_, ?_⟩
   ·rw [callsG, callsG_le (by omega) ha, callsG_le (by omega) hb, callsG_le (by omega) hc]
   ·intro n hn
    simp only [List.mem_append] at hn
    rcases hn with ((hn | hn) | hn) | hn
    ·split at hn
     ·rename_i hk; simp at hn; rw [hn]; exact kn hk
     ·cases hn
    ·exact ka n hn
    ·exact kb n hn
    ·exact kc n hn
theorem buildsG_le {defs : List Def} {n : Nat} {g g' : Nat} (hg : g ≤ g') {l : List It} {res : List Tok} (h : buildsG defs g n l = some res) : buildsG defs g' n l = some res := by
 induction hg with
 | refl => exact h
 | step _ ih => exact buildsG_mono _ _ _ _ _ ih
def inDefs (defs : List Def) (t : Tok) : Prop := (defs.find? (fun d => d.name == t)).isSome = true
theorem builds_total {defs : List Def} {known : Tok → Prop} (hk : ∀ t, known t → inDefs defs t) (hd : ∀ d ∈ defs, ∃ g, wb known g false d.body) : ∀ (n : Nat) (lo : Bool) (g : Nat) (l : List It), wb known g lo l → ∃ G res, buildsG defs G n l = some res := by
 intro n
 induction n with
 | zero => intro lo g l _; exact ⟨0, [], rfl⟩
 | succ n ih =>
  intro lo g l h
  obtain ⟨G, names, hc, kn⟩ := calls_total g lo l h
  have key : ∀ (names : List Tok), (∀ t ∈ names, known t) → ∃ G res, foldN (fun t => match bodyOf defs t with | none => none | some b => buildsG defs G n b) names = some res := by
   intro names
   induction names with
   | nil => intro _; exact ⟨0, [], rfl⟩
   | cons t r ihr =>
    intro hk2
    obtain ⟨G2, y, hy⟩ := ihr (fun q hq => hk2 q (by simp [hq]))
    have hin := hk t (hk2 t (by simp))
    unfold inDefs at hin
    cases hf : defs.find? (fun d => d.name == t) with
    | none => rw [hf] at hin; cases hin
    | some d =>
     obtain ⟨gd, hgd⟩ := hd d (List.mem_of_find?_eq_some hf)
     obtain ⟨G1, x, hx⟩ := ih false gd d.body hgd
     have hb : bodyOf defs t = some d.body := by unfold bodyOf; rw [hf]; rfl
     refine ⟨G1 + G2, t :: x ++ y, ?_⟩
     have e1 : (match bodyOf defs t with | none => none | some b => buildsG defs (G1 + G2) n b) = some x := by rw [hb]; exact buildsG_le (by omega) hx
     have e2 : foldN (fun t => match bodyOf defs t with | none => none | some b => buildsG defs (G1 + G2) n b) r = some y := by
      refine foldN_mono (fun t x ht => ?_) r y hy
      cases hb2 : bodyOf defs t with
      | none => rw [hb2] at ht; cases ht
      | some b => rw [hb2] at ht; exact buildsG_le (by omega) ht
     unfold foldN
     rw [e1, e2]
  obtain ⟨G2, res, hres⟩ := key names kn
  refine ⟨G + G2, res, ?_⟩
  unfold buildsG
  rw [callsG_le (by omega) hc]
  dsimp only
  refine foldN_mono (fun t x ht => ?_) names res hres
  cases hb2 : bodyOf defs t with
  | none => rw [hb2] at ht; cases ht
  | some b => rw [hb2] at ht; exact buildsG_le (by omega) ht
def knows (s : St) (t : Tok) : Prop := s.known t = true
structure WFs (s : St) : Prop where
 g : SGood s
 d : ∀ d ∈ s.defs, ∃ g, wb (knows s) g false d.body
 st : s.e = 0 → s.steps ≤ 2000
theorem knows_def {s s' : St} (h : s'.defs = s.defs) {t : Tok} : knows s' t ↔ knows s t := by
 unfold knows St.known St.find; rw [h]
theorem known_names {defs defs' : List Def} (h : defs'.map Def.name = defs.map Def.name) (t : Tok) : (defs'.findIdx? (fun d => d.name == t)).isSome = (defs.findIdx? (fun d => d.name == t)).isSome := by
 have e : ∀ l : List Def, (l.findIdx? (fun d => d.name == t)).isSome = (l.map Def.name).any (· == t) := by
  intro l
  induction l with
  | nil => rfl
  | cons x l ih =>
   rw [List.findIdx?_cons]
   cases hx : (x.name == t) with
   | true => simp [hx]
   | false => simp [hx] at ih ⊢; rw [← ih]
 rw [e, e, h]
theorem known_in {s : St} {t : Tok} (h : knows s t) : inDefs s.defs t := by
 unfold knows St.known St.find at h
 unfold inDefs
 cases hf : s.defs.findIdx? (fun d => d.name == t) with
 | none => rw [hf] at h; cases h
 | some k =>
  obtain ⟨h1, h2, _⟩ := List.findIdx?_eq_some_iff_getElem.1 hf
  rw [List.find?_isSome]
  exact ⟨_, List.getElem_mem h1, h2⟩
theorem inDefs_set {defs : List Def} {k : Nat} {d' : Def} (hk : k < defs.length) (hn : d'.name = defs[k].name) {t : Tok} (h : inDefs defs t) : inDefs (defs.set k d') t := by
 unfold inDefs at h ⊢
 rw [List.find?_isSome] at h ⊢
 obtain ⟨d, hd, ht⟩ := h
 obtain ⟨i, hi, rfl⟩ := List.mem_iff_getElem.1 hd
 by_cases hik : i = k
 ·subst hik
  exact ⟨d', by rw [List.mem_iff_getElem]; exact ⟨i, by simpa using hi, by simp⟩, by rw [hn]; exact ht⟩
 ·exact ⟨defs[i], by rw [List.mem_iff_getElem]; exact ⟨i, by simpa using hi, by rw [List.getElem_set_ne (by omega)]⟩, ht⟩
theorem names_set {defs : List Def} {k : Nat} {d' : Def} (hk : k < defs.length) (hn : d'.name = defs[k].name) : (defs.set k d').map Def.name = defs.map Def.name := by
 rw [List.map_set, hn]
 have : (defs.map Def.name)[k]'(by simpa using hk) = defs[k].name := by simp
 rw [← this, List.set_getElem_self]
theorem count_total {s : St} (h : WFs s) {k : Nat} (hk : k < s.defs.length) : ∃ G s', s.count G k = some s' ∧ WFs s' ∧ (∀ t, knows s' t ↔ knows s t) := by
 have hset : ∀ (d' : Def), d'.name = s.defs[k].name → d'.body = s.defs[k].body → WFs { s with defs := s.defs.set k d' } ∧ (∀ t, knows { s with defs := s.defs.set k d' } t ↔ knows s t) := by
  intro d' hn hb
  have hkn : ∀ t, knows { s with defs := s.defs.set k d' } t ↔ knows s t := by
   intro t; unfold knows St.known St.find; dsimp only; rw [known_names (names_set hk hn)]
  have hg := h.g
  refine ⟨⟨⟨hg.g, hg.s0, hg.s1, hg.s2, hg.d0, hg.d1, hg.b0, hg.b1, cb_set hg hk hb⟩, fun d hd => ?_, h.st⟩, hkn⟩
  have : ∃ d0 ∈ s.defs, d0.body = d.body := by
   rcases List.mem_or_eq_of_mem_set hd with h1 | h1
   ·exact ⟨d, h1, rfl⟩
   ·exact ⟨s.defs[k], List.getElem_mem hk, by rw [h1, hb]⟩
  obtain ⟨d0, hd0, e⟩ := this
  obtain ⟨g, hg⟩ := h.d d0 hd0
  exact ⟨g, by rw [← e]; exact wb_known (fun t ht => (hkn t).2 ht) _ _ _ hg⟩
 by_cases hf : s.defs[k].fast = true
 ·refine ⟨0, s, ?_, h, fun _ => Iff.rfl⟩
  unfold St.count; rw [List.getElem?_eq_getElem hk]; dsimp only; rw [if_pos hf]
 by_cases hc : wrap64 (s.defs[k].count + 1) < s.hot
 ·obtain ⟨h1, h2⟩ := hset { s.defs[k] with count := wrap64 (s.defs[k].count + 1) } rfl rfl
  refine ⟨0, _, ?_, h1, h2⟩
  unfold St.count; rw [List.getElem?_eq_getElem hk]; dsimp only; rw [if_neg hf, if_pos hc]
 ·obtain ⟨gb, hgb⟩ := h.d s.defs[k] (List.getElem_mem hk)
  have hd2 : ∀ d ∈ s.defs.set k { s.defs[k] with count := wrap64 (s.defs[k].count + 1), fast := true }, ∃ g, wb (knows s) g false d.body := by
   intro d hd
   rcases List.mem_or_eq_of_mem_set hd with h1 | h1
   ·exact h.d d h1
   ·rw [h1]; exact h.d s.defs[k] (List.getElem_mem hk)
  have hk2 : ∀ t, knows s t → inDefs (s.defs.set k { s.defs[k] with count := wrap64 (s.defs[k].count + 1), fast := true }) t := fun t ht => inDefs_set (d' := { s.defs[k] with count := wrap64 (s.defs[k].count + 1), fast := true }) hk rfl (known_in ht)
  obtain ⟨G, bs, hbs⟩ := builds_total hk2 hd2 s.built.toNat false gb s.defs[k].body hgb
  obtain ⟨h1, h2⟩ := hset { s.defs[k] with count := wrap64 (s.defs[k].count + 1), fast := true, built := bs } rfl rfl
  refine ⟨G, _, ?_, h1, h2⟩
  unfold St.count; rw [List.getElem?_eq_getElem hk]; dsimp only; rw [if_neg hf, if_neg hc, hbs]
end
section
open Go.RowKit
def WordR (M : Mem) (bk ob : Nat) (l : List It) : Prop := ∃ va, M ob 191 #[va] ∧ Acts M bk ob va l ∧ ∃ G, wb (fun _ => True) G false l
theorem WordR.mono {M M' : Mem} {bk ob : Nat} {l : List It} (h : ∀ b t c, M b t c → M' b t c) (hw : WordR M bk ob l) : WordR M' bk ob l := by
 obtain ⟨va, h1, h2, h3⟩ := hw; exact ⟨va, h _ _ _ h1, h2.mono h, h3⟩
theorem forgeM (w : World) (D : Nat → Prop) (bk : Nat) (v : Value) (l : List It) (hI : Items (BD D w) v l) (hwb : ∃ G, wb (fun _ => True) G false l) :
  Calls Tryz.prog 109 #[pt bk, v] w fun e w' => e = .returned (pt w.heap.size) ∧ Kp w w' (fun _ => False) ∧ WordR (BD (fun b => D b ∨ New w b) w') bk w.heap.size l := by
 obtain ⟨g, hI⟩ := hI
 have hI := itemsIn_mono (M' := BD (fun b => D b ∧ b < w.heap.size) w) (BD_sub (fun b hb h => ⟨h, hb⟩)) _ _ _ hI
 have hka := (Kp.refl w (fun _ => False)).alloc (.cells #[.slice none 0 0] 191)
 have hC := (actsAll g).at bk w.heap.size hI hka _ (Kp.refl _ _)
 have hf : ∃ a m p, v = .slice a m p := by
  cases g with
  | zero => exact hI.elim
  | succ g => obtain ⟨_, hq, _⟩ := hI; obtain ⟨a, p, hv⟩ := hq.form; exact ⟨a, _, p, hv⟩
 obtain ⟨a9, m9, p9, rfl⟩ := hf
 have hC2 := (actsAll g) (w.alloc (.cells #[.slice none 0 0] 191)) (fun b => D b ∧ b < w.heap.size) bk w.heap.size (.slice a9 m9 p9) l (itemsIn_mono (BD_keep hka (fun b _ hb => ⟨hb, by simp⟩)) _ _ _ hI)
 have HC := hide hC2
 clear hC hC2 hI
 go_enter Tryz.func109, Tryz.ntmps109
 go_wp2_with fail
 refine HC.out.mono ?_
 rintro e w1 ⟨ao, cap, rfl, hk1, hA⟩
 have hb0 := hk1.blk (Blk.new w #[.slice none 0 0] 191) (by simp)
 have c0 : w1.cell? ⟨w.heap.size, 0, none⟩ = some (.slice none 0 0) := hb0.cell rfl
 have f0 := hb0.free 0
 have hlt := hb0.lt
 have hkp : Kp w w1 (fun _ => False) := hka.trans hk1
 have HA := hide hA
 clear hA hk1 HC
 go_wp2
 go_ret
 have hone := Kp.one w1 w.heap.size 0 (.slice ao l.length cap)
 have hkb := BD_keep (D := fun b => (D b ∧ b < w.heap.size) ∨ New (w.alloc (.cells #[.slice none 0 0] 191)) b) (D' := fun b => D b ∨ New w b) hone (fun b _ h => by
  rcases h with h | h
  ·exact ⟨.inl h.1, by show ¬ b = w.heap.size; omega⟩
  ·have h : (w.alloc _).heap.size ≤ b := h
   rw [World.size_alloc] at h
   exact ⟨.inr (by show w.heap.size ≤ b; omega), by show ¬ b = w.heap.size; omega⟩)
 refine ⟨rfl, hkp.set (a := ⟨w.heap.size, 0, none⟩) (fun h => absurd h (Nat.lt_irrefl _)) _, _, ⟨.inr (Nat.le_refl _), hb0.set 0 _⟩, HA.out.mono hkb, hwb⟩
end
section
open Go.RowKit
theorem pRead_le {known : Tok → Bool} {g g' : Nat} (hg : g ≤ g') {j : PJ} {r : List Tok} {res : PRes} (h : pRead known g j r = some res) : pRead known g' j r = some res := by
 induction hg with
 | refl => exact h
 | step _ ih => exact pRead_mono _ _ _ _ _ ih
def PTot (known : Tok → Bool) (j : PJ) (r : List Tok) : Prop := ∃ g res, pRead known g j r = some res
theorem pItem_total (known : Tok → Bool) (n : Nat) (hb : ∀ (r : List Tok), r.length ≤ n → ∀ lo ends t, PTot known ⟨false, lo, ends, t⟩ r) (r : List Tok) (hr : r.length ≤ n) (lo : Nat) (ends : List Tok) (t : Tok) : PTot known ⟨true, lo, ends, t⟩ r := by
 by_cases k1 : t = kIf
 ·obtain ⟨g1, res1, h1⟩ := hb r hr lo [kElse, kThen] []
  cases res1 with
  | error e =>
   refine ⟨g1 + 1, .error e, ?_⟩
   unfold pRead; rw [if_neg (by simp)]; dsimp only; rw [if_pos k1, h1]
  | ok q =>
   obtain ⟨a, t1, r1⟩ := q
   obtain ⟨_, _, _, hl1⟩ := pRead_calls _ _ _ _ _ _ _ h1
   by_cases k2 : t1 = kElse
   ·obtain ⟨g2, res2, h2⟩ := hb r1 (by omega) lo [kThen] []
    have h1' := pRead_le (g' := g1 + g2) (by omega) h1
    have h2' := pRead_le (g' := g1 + g2) (by omega) h2
    cases res2 with
    | error e =>
     refine ⟨g1 + g2 + 1, .error e, ?_⟩
     unfold pRead; rw [if_neg (by simp)]; dsimp only; rw [if_pos k1, h1']; dsimp only; rw [if_pos k2, h2']
    | ok q2 =>
     obtain ⟨b, t2, r2⟩ := q2
     refine ⟨g1 + g2 + 1, .ok ([⟨63, 0, [], a, b, []⟩], [], r2), ?_⟩
     unfold pRead; rw [if_neg (by simp)]; dsimp only; rw [if_pos k1, h1']; dsimp only; rw [if_pos k2, h2']
   ·refine ⟨g1 + 1, .ok ([⟨63, 0, [], a, [], []⟩], [], r1), ?_⟩
    unfold pRead; rw [if_neg (by simp)]; dsimp only; rw [if_pos k1, h1]; dsimp only; rw [if_neg k2]
 by_cases k3 : t = kBegin
 ·obtain ⟨g1, res1, h1⟩ := hb r hr lo [kUntil, kWhile] []
  cases res1 with
  | error e =>
   refine ⟨g1 + 1, .error e, ?_⟩
   unfold pRead; rw [if_neg (by simp)]; dsimp only; rw [if_neg k1, if_pos k3, h1]
  | ok q =>
   obtain ⟨a, t1, r1⟩ := q
   obtain ⟨_, _, _, hl1⟩ := pRead_calls _ _ _ _ _ _ _ h1
   by_cases k2 : t1 = kWhile
   ·obtain ⟨g2, res2, h2⟩ := hb r1 (by omega) lo [kRepeat] []
    have h1' := pRead_le (g' := g1 + g2) (by omega) h1
    have h2' := pRead_le (g' := g1 + g2) (by omega) h2
    cases res2 with
    | error e =>
     refine ⟨g1 + g2 + 1, .error e, ?_⟩
     unfold pRead; rw [if_neg (by simp)]; dsimp only; rw [if_neg k1, if_pos k3, h1']; dsimp only; rw [if_pos k2, h2']
    | ok q2 =>
     obtain ⟨b, t2, r2⟩ := q2
     refine ⟨g1 + g2 + 1, .ok ([⟨119, 0, [], a, b, []⟩], [], r2), ?_⟩
     unfold pRead; rw [if_neg (by simp)]; dsimp only; rw [if_neg k1, if_pos k3, h1']; dsimp only; rw [if_pos k2, h2']
   ·refine ⟨g1 + 1, .ok ([⟨117, 0, [], a, [], []⟩], [], r1), ?_⟩
    unfold pRead; rw [if_neg (by simp)]; dsimp only; rw [if_neg k1, if_pos k3, h1]; dsimp only; rw [if_neg k2]
 by_cases k4 : t = kDo
 ·obtain ⟨g1, res1, h1⟩ := hb r hr (lo + 1) [kLoop] []
  cases res1 with
  | error e =>
   refine ⟨g1 + 1, .error e, ?_⟩
   unfold pRead; rw [if_neg (by simp)]; dsimp only; rw [if_neg k1, if_neg k3, if_pos k4, h1]
  | ok q =>
   obtain ⟨a, t1, r1⟩ := q
   refine ⟨g1 + 1, .ok ([⟨100, 0, [], a, [], []⟩], [], r1), ?_⟩
   unfold pRead; rw [if_neg (by simp)]; dsimp only; rw [if_neg k1, if_neg k3, if_pos k4, h1]
 ·refine ⟨1, ?_⟩
  unfold pRead; rw [if_neg (by simp)]; dsimp only; rw [if_neg k1, if_neg k3, if_neg k4]
  repeat' split
  all_goals exact ⟨_, rfl⟩
theorem pRead_total (known : Tok → Bool) : ∀ n, (∀ (r : List Tok), r.length ≤ n → ∀ lo ends t, PTot known ⟨false, lo, ends, t⟩ r) ∧ (∀ (r : List Tok), r.length ≤ n → ∀ lo ends t, PTot known ⟨true, lo, ends, t⟩ r) := by
 intro n
 induction n with
 | zero =>
  have hb : ∀ (r : List Tok), r.length ≤ 0 → ∀ lo ends t, PTot known ⟨false, lo, ends, t⟩ r := by
   intro r hr lo ends t
   have : r = [] := List.eq_nil_of_length_eq_zero (by omega)
   subst this
   refine ⟨1, .error 4, ?_⟩
   unfold pRead; rfl
  exact ⟨hb, fun r hr lo ends t => pItem_total known 0 hb r hr lo ends t⟩
 | succ n ih =>
  have hb : ∀ (r : List Tok), r.length ≤ n + 1 → ∀ lo ends t, PTot known ⟨false, lo, ends, t⟩ r := by
   intro r hr lo ends t
   cases r with
   | nil => refine ⟨1, .error 4, ?_⟩; unfold pRead; rfl
   | cons t1 r1 =>
    have hr1 : r1.length ≤ n := by simp at hr; omega
    by_cases he : ends.any (· == t1) = true
    ·refine ⟨1, .ok ([], t1, r1), ?_⟩
     unfold pRead; rw [if_pos rfl]; dsimp only; rw [if_pos he]
    ·obtain ⟨g1, res1, h1⟩ := ih.2 r1 hr1 lo [] t1
     cases res1 with
     | error e =>
      refine ⟨g1 + 1, .error e, ?_⟩
      unfold pRead; rw [if_pos rfl]; dsimp only; rw [if_neg he, h1]
     | ok q =>
      obtain ⟨xs, t2, r2⟩ := q
      obtain ⟨_, _, _, hl2⟩ := pRead_calls _ _ _ _ _ _ _ h1
      obtain ⟨g2, res2, h2⟩ := ih.1 r2 (by omega) lo ends t
      have h1' := pRead_le (g' := g1 + g2) (by omega) h1
      have h2' := pRead_le (g' := g1 + g2) (by omega) h2
      cases res2 with
      | error e =>
       refine ⟨g1 + g2 + 1, .error e, ?_⟩
       unfold pRead; rw [if_pos rfl]; dsimp only; rw [if_neg he, h1']; dsimp only; rw [h2']
      | ok q2 =>
       obtain ⟨ys, t3, r3⟩ := q2
       refine ⟨g1 + g2 + 1, .ok (xs ++ ys, t3, r3), ?_⟩
       unfold pRead; rw [if_pos rfl]; dsimp only; rw [if_neg he, h1']; dsimp only; rw [h2']
  refine ⟨hb, fun r hr lo ends t => ?_⟩
  exact pItem_total known (n + 1) hb r hr lo ends t
theorem pDef_total (s : St) (r : List Tok) : ∃ g res, pDef g s r = some res := by
 cases r with
 | nil => exact ⟨0, _, rfl⟩
 | cons t r =>
  obtain ⟨g, res, h⟩ := (pRead_total s.known r.length).1 r (Nat.le_refl _) 0 [kSemi] []
  refine ⟨g, ?_⟩
  unfold pDef
  dsimp only
  split
  ·exact ⟨_, rfl⟩
  split
  ·exact ⟨_, rfl⟩
  rw [h]
  cases res with
  | error e => exact ⟨_, rfl⟩
  | ok q => exact ⟨_, rfl⟩
def kn (known : Tok → Bool) (t : Tok) : Prop := known t = true
theorem pOne_ok {known : Tok → Bool} {lo : Nat} {t : Tok} {x : It} (h : pOne known lo t = .ok x) (sub : Bool → List It → Prop) : okIt (kn known) sub (decide (0 < lo)) x := by
 unfold pOne at h
 split at h
 ·rename_i n hn
  injection h with h; subst h; exact .inl ⟨.inl ⟨rfl, numP_range hn⟩, rfl, rfl⟩
 split at h
 ·rename_i hp
  injection h with h; subst h
  refine .inl ⟨.inr (.inr (.inr (.inr (.inl ⟨rfl, ?_⟩)))), rfl, rfl⟩
  rw [List.findIdx?_isSome]; exact hp
 split at h
 ·rename_i hp
  injection h with h; subst h
  exact .inl ⟨.inr (.inr (.inr (.inr (.inr (.inr ⟨rfl, decide_eq_true hp.2⟩))))), rfl, rfl⟩
 split at h
 ·injection h with h; subst h; exact .inl ⟨.inr (.inl rfl), rfl, rfl⟩
 split at h
 ·injection h with h; subst h; exact .inl ⟨.inr (.inr (.inl rfl)), rfl, rfl⟩
 split at h
 ·cases h
 split at h
 ·rename_i hp
  injection h with h; subst h
  exact .inl ⟨.inr (.inr (.inr (.inr (.inr (.inl ⟨rfl, hp⟩))))), rfl, rfl⟩
 ·cases h
theorem wb_one {known : Tok → Prop} {lo : Bool} {x : It} {g : Nat} (h : okIt known (wb known g) lo x) : wb known (g + 1) lo [x] := by
 intro y hy; simp at hy; rw [hy]; exact h
theorem braces_toks : ∀ (r : List Tok) (ts r' : List Tok), pBraces r = .ok (ts, r') → ts.length ≤ r.length
 | [], _, _, h => by cases h
 | t :: r, ts, r', h => by
  unfold pBraces at h
  split at h
  ·cases h
  split at h
  ·injection h with h; injection h with h1 h2; subst h1; simp
  split at h
  ·cases h
  ·rename_i ts1 r1 h1
   injection h with h; injection h with h2 h3; subst h2
   have := braces_toks r _ _ h1
   simp; omega
theorem pRead_wb (known : Tok → Bool) : ∀ (g : Nat) (j : PJ) (r : List Tok) (xs : List It) (t : Tok) (r' : List Tok), r.length ≤ 1000 → pRead known g j r = some (.ok (xs, t, r')) → ∃ G, wb (kn known) G (decide (0 < j.loops)) xs := by
 intro g
 induction g with
 | zero => intro j r xs t r' _ h; cases h
 | succ g ih =>
  intro j r xs t r' hlen h
  unfold pRead at h
  cases hj : j.item with
  | false =>
   rw [if_pos hj] at h
   split at h
   ·cases h
   ·simp at hlen
    split at h
    ·injection h with h; injection h with h; injection h with h1 h2
     subst h1
     exact ⟨0, rfl⟩
    ·split at h
     ·cases h
     ·cases h
     ·rename_i xs1 t2 r2 h1
      obtain ⟨_, _, _, hl1⟩ := pRead_calls _ _ _ _ _ _ _ h1
      obtain ⟨G1, k1⟩ := ih _ _ _ _ _ (by omega) h1
      split at h
      ·cases h
      ·cases h
      ·rename_i ys t3 r3 h2
       obtain ⟨G2, k2⟩ := ih _ _ _ _ _ (by omega) h2
       injection h with h; injection h with h; injection h with e1 e2
       subst e1
       exact ⟨_, wb_app k1 k2⟩
  | true =>
   rw [if_neg (by rw [hj]; decide)] at h
   split at h
   ·split at h
    ·cases h
    ·cases h
    ·rename_i a t1 r1 h1
     obtain ⟨_, _, _, hl1⟩ := pRead_calls _ _ _ _ _ _ _ h1
     obtain ⟨G1, k1⟩ := ih _ _ _ _ _ hlen h1
     split at h
     ·split at h
      ·cases h
      ·cases h
      ·rename_i b t2 r2 h2
       obtain ⟨G2, k2⟩ := ih _ _ _ _ _ (by omega) h2
       injection h with h; injection h with h; injection h with e1 e2
       subst e1
       exact ⟨G1 + G2 + 1, wb_one (.inr (.inl ⟨.inl rfl, wb_le (by omega) k1, wb_le (by omega) k2⟩))⟩
     ·injection h with h; injection h with h; injection h with e1 e2
      subst e1
      exact ⟨G1 + 1, wb_one (.inr (.inl ⟨.inl rfl, k1, wb_nil _ _ _⟩))⟩
   ·split at h
    ·split at h
     ·cases h
     ·cases h
     ·rename_i a t1 r1 h1
      obtain ⟨_, _, _, hl1⟩ := pRead_calls _ _ _ _ _ _ _ h1
      obtain ⟨G1, k1⟩ := ih _ _ _ _ _ hlen h1
      split at h
      ·split at h
       ·cases h
       ·cases h
       ·rename_i b t2 r2 h2
        obtain ⟨G2, k2⟩ := ih _ _ _ _ _ (by omega) h2
        injection h with h; injection h with h; injection h with e1 e2
        subst e1
        exact ⟨G1 + G2 + 1, wb_one (.inr (.inl ⟨.inr (.inr rfl), wb_le (by omega) k1, wb_le (by omega) k2⟩))⟩
      ·injection h with h; injection h with h; injection h with e1 e2
       subst e1
       exact ⟨G1 + 1, wb_one (.inr (.inl ⟨.inr (.inl rfl), k1, wb_nil _ _ _⟩))⟩
    ·split at h
     ·split at h
      ·cases h
      ·cases h
      ·rename_i a t1 r1 h1
       obtain ⟨_, _, _, hl1⟩ := pRead_calls _ _ _ _ _ _ _ h1
       obtain ⟨G1, k1⟩ := ih _ _ _ _ _ hlen h1
       injection h with h; injection h with h; injection h with e1 e2
       subst e1
       have k1' : wb (kn known) G1 true a := by simpa using k1
       exact ⟨G1 + 1, wb_one (.inr (.inr ⟨rfl, k1', rfl⟩))⟩
     ·split at h
      ·split at h
       ·cases h
       ·rename_i ts r1 hbr
        have := braces_toks _ _ _ hbr
        injection h with h; injection h with h; injection h with e1 e2
        subst e1
        exact ⟨1, wb_one (.inl ⟨.inr (.inr (.inr (.inl ⟨rfl, by show ts.length ≤ 1000; omega⟩))), rfl, rfl⟩)⟩
      ·split at h
       ·cases h
       ·rename_i x h1
        injection h with h; injection h with h; injection h with e1 e2
        subst e1
        exact ⟨1, wb_one (pOne_ok h1 _)⟩
theorem pDef_wb {g : Nat} {s : St} {r : List Tok} {nm : Tok} {b : List It} {r1 : List Tok} (hl : r.length ≤ 1000) (h : pDef g s r = some (.ok (nm, b, r1))) : ∃ G, wb (knows s) G false b := by
 cases r with
 | nil => cases h
 | cons t r =>
  unfold pDef at h
  dsimp only at h
  split at h
  ·cases h
  split at h
  ·cases h
  split at h
  ·cases h
  ·cases h
  ·rename_i b' t' r' hr
   injection h with h; injection h with h; injection h with e1 e2; injection e2 with e2 e3
   subst e2
   exact pRead_wb _ _ _ _ _ _ _ (by simp at hl; omega) hr
end
section
open Go.RowKit
variable {K : Nat → Prop}
structure FrAt (K : Nat → Prop) (w : World) (fb : Nat) (f : Fr) (lp : List Int) (lv nv : Value) : Prop where
 blk : ∃ nm vb, Blk w fb 174 #[.int .i64 f.id, .string nm, vb, lv] ∧ nm.data.toList = f.name ∧ Body K w vb f.body
 row : w.ownsRow 0 3 1 lv lp.length (ints lp.reverse)
 ins : ∀ n ∈ lp, In n
 sep : ∀ k, own lv k → ¬ own nv k
abbrev FTo (yb fb : Nat) (w w' : World) (rs rs' : RS) (lv lv' : Value) : Prop := To (fun k => k = yb ∨ k = fb) w w' (fun k => (own rs.nv k ∨ own rs.d.dv k) ∨ own lv k) (fun k => (own rs'.nv k ∨ own rs'.d.dv k) ∨ own lv' k)
theorem RRel.ndef {w : World} {yb : Nat} {rs : RS} {s : St} (h : RRel K w yb rs s) {b : Nat} {t : TypeId} {c : Array Value} (hb : Blk w b t c) (h1 : t ≠ 65) (h2 : t ≠ 3) (h3 : t ≠ 95) : ¬ (b = yb ∨ (own rs.nv b ∨ own rs.d.dv b)) := by
 obtain ⟨ns, hi, _⟩ := h.inv
 obtain ⟨xs, hr, _⟩ := h.dr.ex
 rintro (e | e | e)
 ·subst e; exact h1 (hb.inj hi.blk).1
 ·exact h2 (row_type hi.row e hb)
 ·exact h3 (row_type hr e hb)
theorem FrAt.lv_ne {w : World} {yb fb : Nat} {rs : RS} {s : St} {f : Fr} {lp : List Int} {lv : Value} (h : RRel K w yb rs s) (hf : FrAt K w fb f lp lv rs.nv) {k : Nat} (hk : own lv k) : ¬ (k = yb ∨ (own rs.nv k ∨ own rs.d.dv k)) ∧ ¬ k = fb := by
 obtain ⟨ns, hi, _⟩ := h.inv
 obtain ⟨xs, hr, _⟩ := h.dr.ex
 obtain ⟨c, hc⟩ := row_blk hf.row hk
 obtain ⟨nm, vb, hb, _⟩ := hf.blk
 refine ⟨?_, fun e => by subst e; exact absurd (hc.inj hb).1 (by decide)⟩
 rintro (e | e | e)
 ·subst e; exact absurd (hc.inj hi.blk).1 (by decide)
 ·exact hf.sep k hk e
 ·exact absurd (row_type hr e hc) (by decide)
theorem FrAt.noB {w : World} {yb fb : Nat} {rs : RS} {s : St} {f : Fr} {lp : List Int} {lv : Value} (h : RRel K w yb rs s) (hf : FrAt K w fb f lp lv rs.nv) : NoB w (fun k => (k = yb ∨ k = fb) ∨ ((own rs.nv k ∨ own rs.d.dv k) ∨ own lv k)) := by
 intro b t c hb hc
 obtain ⟨nm, vb, hbf, _⟩ := hf.blk
 rcases hb with (e | e) | (e | e)
 ·exact h.noB b t c (.inl e) hc
 ·subst e; have := (hc.inj hbf).1; subst this; exact ⟨by decide, by decide⟩
 ·exact h.noB b t c (.inr e) hc
 ·have := row_type hf.row e hc; subst this; exact ⟨by decide, by decide⟩
theorem FrAt.sto {w w' : World} {yb fb : Nat} {rs rs' : RS} {s : St} {f : Fr} {lp : List Int} {lv : Value} (h : RRel K w yb rs s) (hf : FrAt K w fb f lp lv rs.nv) (hto : STo yb w w' rs rs') : FrAt K w' fb f lp lv rs'.nv ∧ FTo yb fb w w' rs rs' lv lv := by
 obtain ⟨nm, vb, hbf, hnm, hbd⟩ := hf.blk
 refine ⟨⟨⟨nm, vb, ?_, hnm, hbd.keep (Keeps.to hto h.noB _)⟩, ?_, hf.ins, fun k hk hn => ?_⟩, ⟨hto.kp.mono (fun k _ hk => ?_), fun k hk => ?_⟩⟩
 ·exact hto.kp.blk hbf (h.ndef hbf (by decide) (by decide) (by decide))
 ·exact hto.kp.row hf.row (fun k hk => (hf.lv_ne h hk).1)
 ·rcases hto.nx k (.inl hn) with h1 | h1
  ·exact (hf.lv_ne h hk).1 (.inr h1)
  ·have := own_lt hf.row hk; omega
 ·rcases hk with e | e
  ·exact .inl (.inl e)
  ·exact .inr (.inl e)
 ·rcases hk with e | e
  ·rcases hto.nx k e with h1 | h1
   ·exact .inl (.inl h1)
   ·exact .inr h1
  ·exact .inl (.inr e)
theorem FTo.refl (yb fb : Nat) (w : World) (rs : RS) (lv : Value) : FTo yb fb w w rs rs lv lv := To.refl _ _ _
structure FPost (K : Nat → Prop) (yb fb : Nat) (w w' : World) (rs : RS) (s' : St) (f : Fr) (lp : List Int) (lv : Value) : Prop where
 ex : ∃ rs' lv', RRel K w' yb rs' s' ∧ FrAt K w' fb f lp lv' rs'.nv ∧ FTo yb fb w w' rs rs' lv lv'
abbrev itV (x : It) (nm : ByteArray) (va vb vt : Value) : Value := .agg #[.int .u8 x.kind, .int .i64 x.n, .string nm, va, vb, vt]
def CB (K : Nat → Prop) (g : Nat) : Prop := ∀ (w : World) (yb fb : Nat) (rs : RS) (s s' : St) (f : Fr) (lp : List Int) (lv v : Value) (l : List It) (left : Bool), RRel K w yb rs s → s.e = 0 → FrAt K w fb f lp lv rs.nv → (lp.length : Int) ≤ s.steps → Body K w v l →
 xRun g (jBody f lp l) s = some (s', left) → Calls Tryz.prog 147 #[.pointer (some ⟨yb, 0, none⟩), .pointer (some ⟨fb, 0, none⟩), v] w fun e w' => e = .returned (.bool left) ∧ FPost K yb fb w w' rs s' f lp lv
def CI (K : Nat → Prop) (g : Nat) : Prop := ∀ (w : World) (yb fb : Nat) (rs : RS) (s s' : St) (f : Fr) (lp : List Int) (lv : Value) (x : It) (nm : ByteArray) (va vb vt : Value) (left : Bool), RRel K w yb rs s → s.e = 0 → FrAt K w fb f lp lv rs.nv → (lp.length : Int) ≤ s.steps →
 ItAt (Body K w) (Toks K w) x nm va vb vt → xRun g (jItem f lp x) s = some (s', left) → Calls Tryz.prog 170 #[.pointer (some ⟨yb, 0, none⟩), .pointer (some ⟨fb, 0, none⟩), itV x nm va vb vt] w fun e w' => e = .returned (.bool left) ∧ FPost K yb fb w w' rs s' f lp lv
def xLoop (g : Nat) (f : Fr) (lp : List Int) (l : List It) (s : St) : Option (St × Bool) := match s.rs with
 | b :: m :: r => xRun g (jDo f lp b m l) { s with rs := r }
 | _ => some (s.err 6, true)
def CL (K : Nat → Prop) (g : Nat) : Prop := ∀ (w : World) (yb fb : Nat) (rs : RS) (s s' : St) (f : Fr) (lp : List Int) (lv : Value) (x : It) (nm : ByteArray) (va vb vt : Value) (left : Bool), RRel K w yb rs s → s.e = 0 → FrAt K w fb f lp lv rs.nv → (lp.length : Int) ≤ s.steps →
 ItAt (Body K w) (Toks K w) x nm va vb vt → xLoop g f lp x.a s = some (s', left) → Calls Tryz.prog 196 #[.pointer (some ⟨yb, 0, none⟩), .pointer (some ⟨fb, 0, none⟩), itV x nm va vb vt] w fun e w' => e = .returned (.bool left) ∧ FPost K yb fb w w' rs s' f lp lv
def CE (K : Nat → Prop) (g : Nat) : Prop := ∀ (w : World) (yb fb : Nat) (rs : RS) (s s' : St) (f : Fr) (lv : Value) (left : Bool), RRel K w yb rs s → s.e = 0 → FrAt K w fb f [] lv rs.nv →
 xRun g (jEnter f) s = some (s', left) → Calls Tryz.prog 123 #[.pointer (some ⟨yb, 0, none⟩), .pointer (some ⟨fb, 0, none⟩)] w fun e w' => e = .returned (.tuple #[]) ∧ FPost K yb fb w w' rs s' f [] lv
def CC (K : Nat → Prop) (g : Nat) : Prop := ∀ (w : World) (yb : Nat) (rs : RS) (s s' : St) (tb : ByteArray) (left : Bool), RRel K w yb rs s → s.e = 0 →
 xRun g (jCall tb.data.toList) s = some (s', left) → Calls Tryz.prog 81 #[.pointer (some ⟨yb, 0, none⟩), .string tb] w fun e w' => e = .returned (.tuple #[]) ∧ ∃ rs', RRel K w' yb rs' s' ∧ STo yb w w' rs rs'
def CT (K : Nat → Prop) (g : Nat) : Prop := ∀ (w : World) (yb : Nat) (rs : RS) (s s' : St) (v : Value) (ts : List Tok) (left : Bool), RRel K w yb rs s → Toks K w v ts → ts.length ≤ 1000 →
 xRun g (jToks ts) s = some (s', left) → Calls Tryz.prog 56 #[.pointer (some ⟨yb, 0, none⟩), v] w fun e w' => e = .returned (.tuple #[]) ∧ ∃ rs', RRel K w' yb rs' s' ∧ STo yb w w' rs rs'
structure BodyAt (K : Nat → Prop) (g yb fb : Nat) (w wr : World) (rs : RS) (s' : St) (f : Fr) (lp : List Int) (lv v : Value) (l : List It) (left : Bool) (k : Nat) : Prop where
 ex : ∃ g' rsk lvk sk, g' ≤ g ∧ RRel K wr yb rsk sk ∧ sk.e = 0 ∧ FrAt K wr fb f lp lvk rsk.nv ∧ (lp.length : Int) ≤ sk.steps ∧ FTo yb fb w wr rs rsk lv lvk ∧ xRun g' (jBody f lp (l.drop k)) sk = some (s', left)
 body : Body K wr v l
end
end Go.Proofs.YtldifaahmpecfaaGreatDoor
