import Derived.Test.YtldifaahmpecfaaGreatDoorV34
namespace Go.Proofs.YtldifaahmpecfaaGreatDoor
set_option maxRecDepth 1000000
set_option maxHeartbeats 4000000
set_option linter.all false
section
open Go.RowKit
theorem isName_num {l : List UInt8} {n : Int} (h : numP l = some n) : isName l = false := by
 cases l with
 | nil => simp [numP] at h
 | cons c r =>
  have hc : ¬ (97 ≤ c.toNat ∧ c.toNat ≤ 122) := by
   simp only [numP] at h
   split at h
   ·rename_i e; subst e; decide
   ·split at h
    ·rename_i hd
     simp only [digitsB, Bool.and_eq_true, List.all_cons] at hd
     have := of_decide_eq_true hd.2.1
     omega
    ·cases h
  unfold isName
  have : (c :: r).all (fun c => decide (97 ≤ c.toNat ∧ c.toNat ≤ 122)) = false := by
   rw [List.all_cons, decide_eq_false hc]; rfl
  rw [this]; simp
theorem isName_kind {l : List UInt8} (h : ¬ kdOf l = 0) : isName l = false := by
 cases hn : numP l with
 | some n => exact isName_num hn
 | none =>
  have hk : kdOf l = (kindN l : Int) := by unfold kdOf; rw [hn]; rfl
  have h0 : kindN l ≠ 0 := by intro e; rw [hk, e] at h; exact h rfl
  have hs := kindN_at rfl h0
  have hm : l ∈ spellL := List.mem_of_getElem? hs
  simp only [spellL, List.mem_append] at hm
  rcases hm with hm | hm | hm | hm
  ·simp at hm
   subst hm; decide
  ·have : plainL.any (· == l) = true := List.any_eq_true.2 ⟨l, hm, by simp⟩
   unfold isName; rw [this]; simp
  ·simp at hm
   rcases hm with rfl | rfl | rfl | rfl <;> decide
  ·have : keptL.any (· == l) = true := List.any_eq_true.2 ⟨l, hm, by simp⟩
   unfold isName; rw [this]; simp
theorem isName_free {l : List UInt8} (hl : l ≠ []) (h : kdOf l = 0) : (!plainL.any (· == l) && !keptL.any (· == l)) = true := by
 have hn : numP l = none := by
  cases hn : numP l with
  | none => rfl
  | some n => unfold kdOf at h; rw [hn] at h; simp at h
 have hk : kindN l = 0 := by unfold kdOf at h; rw [hn] at h; simp at h; exact h
 have hs := in_spell hl hk
 have h1 : plainL.any (· == l) = false := by rw [List.any_eq_false]; intro x hx; rw [hs x (by simp [spellL, hx])]; decide
 have h2 : keptL.any (· == l) = false := by rw [List.any_eq_false]; intro x hx; rw [hs x (by simp [spellL, hx])]; decide
 rw [h1, h2]; rfl
theorem nameM (t : ByteArray) (w : World) (hsp : SpAt w) : Calls Tryz.prog 106 #[.string t] w fun e w' => e = .returned (.bool (isName t.data.toList)) ∧ w' = w := by
  by_cases hs : t.size < 1 ∨ (1 ≤ t.size ∧ 8 < t.size)
  · have H := hide (isName_len hs)
    rcases hs with h1 | ⟨h1, h2⟩
    all_goals
      go_enter Tryz.func106, Tryz.ntmps106
      go_wp2
      go_ret
      exact ⟨by rw [H.out]; rfl, rfl⟩
  · have h1 : 1 ≤ t.size := by omega
    have h8 : t.size ≤ 8 := by omega
    have hne : t.data.toList ≠ [] := by intro e; have : t.data.toList.length = 0 := by rw [e]; rfl
                                        have h2 : t.data.toList.length = t.size := rfl
                                        omega
    have hok : okW t := ⟨by rw [ByteArray.toList_eq]; exact hne, by omega⟩
    clear hs
    by_cases hk : kdOf t.data.toList = 0
    · have HA : Hid (∀ (ha : (t.data.toList.take t.size).all (fun c => decide (97 ≤ c.toNat ∧ c.toNat ≤ 122)) = true), isName t.data.toList = true) := by
        intro ha
        rw [isName_all h1 h8 ha]
        have := isName_free hne hk
        rw [ByteArray.toList_eq]; exact this
      have HB : Hid (∀ k (hk : k < t.size), ¬ (97 ≤ t[k].toNat ∧ t[k].toNat ≤ 122) → isName t.data.toList = false) := fun k hk h => isName_bad hk h
      have HK := hide (kindQ t w hok hsp)
      rw [hk] at HK
      clear hk
      go_enter Tryz.func106, Tryz.ntmps106
      go_wp2_with fail
      refine HK.out.mono ?_
      rintro e w1 ⟨rfl, rfl⟩
      clear HK
      go_wp2
      go_loop [19] (fun i => ∃ k : Nat, k ≤ t.size ∧ i = .int .i64 k ∧ (t.data.toList.take k).all (fun c => decide (97 ≤ c.toNat ∧ c.toNat ≤ 122)) = true) (fun i => t.size - (intOf i).toNat)
      case atStart => exact ⟨0, Nat.zero_le _, rfl, rfl⟩
      case round =>
        obtain ⟨k, hk, rfl, hall⟩ := hrel
        have HL := hide hall
        clear hall
        by_cases hlt : k < t.size
        · by_cases hd : 97 ≤ t[k].toNat ∧ t[k].toNat ≤ 122
          · obtain ⟨hd1, hd2⟩ := hd
            go_wp2
            go_round
            case rel =>
              refine ⟨k + 1, by omega, by go_num, ?_⟩
              rw [take_snoc t k hlt, List.all_append, HL.out]; simp [hd1, hd2]
            case measure => simp [intOf]; omega
          · have H := hide (HB.out k hlt hd)
            rcases (show t[k].toNat < 97 ∨ (97 ≤ t[k].toNat ∧ 122 < t[k].toNat) by omega) with q1 | ⟨q1, q2⟩
            all_goals
              clear hd
              go_wp2
              go_ret
              exact ⟨by rw [H.out]; rfl, rfl⟩
        · have hks : k = t.size := by omega
          have H := hide (HA.out (by have := HL.out; rwa [hks] at this))
          clear hks
          go_wp2
          go_ret
          exact ⟨by rw [H.out]; rfl, rfl⟩
    · have H := hide (isName_kind hk)
      have HK := hide (kindQ t w hok hsp)
      have hk2 : (kdOf t.data.toList != 0) = true := by simpa using hk
      generalize kdOf t.data.toList = K at HK hk2
      clear hk
      go_enter Tryz.func106, Tryz.ntmps106
      go_wp2_with fail
      refine HK.out.mono ?_
      rintro e w1 ⟨rfl, rfl⟩
      go_wp2
      go_ret
      exact ⟨by rw [H.out]; rfl, rfl⟩
end
section
open Go.RowKit
def DefS (bb ib nb bk mb : Nat) (nm : ByteArray) (iv : Value) (w : World) : Prop := w.cell? ⟨bb, 0, none⟩ = some (pt bk) ∧ w.cell? ⟨ib, 0, none⟩ = some iv ∧ w.cell? ⟨nb, 0, none⟩ = some (.string nm) ∧ w.cell? ⟨bk, 0, none⟩ = some (.map (some mb))
theorem defFn (w : World) (rb bb ib nb bk mb : Nat) (nm : ByteArray) (a : Option Addr) (n p : Nat) (Q : World → Prop) (hS : DefS bb ib nb bk mb nm (.slice a n p) w)
  (hc : ∀ w0, Kp w w0 (fun _ => False) → Calls Tryz.prog 109 #[pt bk, .slice a n p] w0 fun e w' => ∃ ob w2, e = .returned (pt ob) ∧ DefS bb ib nb bk mb nm (.slice a n p) w' ∧ DefS bb ib nb bk mb nm (.slice a n p) w2 ∧ (Instr.mapUpdate 104 (.map (some mb)) (.string nm) (pt ob)).run Tryz.prog w' = .ok () w2 ∧ Q w2) :
  Calls Tryz.prog 108 #[pt rb, pt bb, pt ib, pt nb] w fun e w' => e = .returned (.int .i64 0) ∧ Q w' := by
 obtain ⟨c1, c2, c3, c4⟩ := hS
 have HC := hide hc
 clear hc
 go_enter Tryz.func108, Tryz.ntmps108
 go_wp2
 go_region_held3 (fun w' => w'.cell? ⟨bb, 0, none⟩ = some (pt bk) ∧ w'.cell? ⟨ib, 0, none⟩ = some (.slice a n p) ∧ w'.cell? ⟨nb, 0, none⟩ = some (.string nm) ∧ w'.cell? ⟨bk, 0, none⟩ = some (.map (some mb))) (go_keep) (first
  | (go_at_call 109; refine (HC.out _ ?_).mono ?_; exact (Kp.refl _ _).drew; rintro e w1 ⟨ob, w2, rfl, ⟨d1, d2, d3, d4⟩, ⟨e1, e2, e3, e4⟩, hrun, hq⟩; have HQ := hide hq; clear hq))
 go_wp2
 go_ret
 exact ⟨rfl, HQ.out⟩
end
section
open Go.RowKit
abbrev nbP (d : Def) : Tok × List It := (d.name, d.body)
def putNB (l : List (Tok × List It)) (t : Tok) (b : List It) : List (Tok × List It) := match l.findIdx? (fun p => p.1 == t) with
 | some k => l.set k (t, b)
 | none => l ++ [(t, b)]
theorem find_nb (defs : List Def) (t : Tok) : defs.findIdx? (fun d => d.name == t) = (defs.map nbP).findIdx? (fun p => p.1 == t) := by
 rw [List.findIdx?_map]; rfl
theorem set_nb (s : St) (t : Tok) (b : List It) : (s.set t b).defs.map nbP = putNB (s.defs.map nbP) t b := by
 have hmap : (s.defs.map fun d => if d.fast = true ∧ d.built.any (· == t) = true then slowD d else d).map nbP = s.defs.map nbP := by
  rw [List.map_map]
  apply List.map_congr_left
  intro d _
  show nbP (if _ then _ else _) = nbP d
  split <;> rfl
 unfold putNB
 rw [← find_nb]
 unfold St.set St.find
 cases s.defs.findIdx? (fun d => d.name == t) with
 | none =>
  show ((s.defs.map _) ++ [_]).map nbP = _
  rw [List.map_append, hmap]; rfl
 | some k =>
  show ((s.defs.map _).set k _).map nbP = _
  rw [List.map_set, hmap]
theorem putNB_find (l : List (Tok × List It)) (t t' : Tok) (b : List It) (hne : ¬ t' = t) : (putNB l t b).findIdx? (fun p => p.1 == t') = l.findIdx? (fun p => p.1 == t') := by
 have hb : ((t, b).1 == t') = false := by rw [beq_eq_false_iff_ne]; exact fun e => hne e.symm
 unfold putNB
 cases hf : l.findIdx? (fun p => p.1 == t) with
 | none =>
  show (l ++ [(t, b)]).findIdx? _ = _
  rw [List.findIdx?_append]
  have : [(t, b)].findIdx? (fun p => p.1 == t') = none := by rw [List.findIdx?_eq_none_iff]; intro x hx; rw [List.mem_singleton.1 hx]; exact hb
  rw [this]; simp
 | some k =>
  show (l.set k (t, b)).findIdx? _ = _
  obtain ⟨hk, hp, _⟩ := List.findIdx?_eq_some_iff_getElem.1 hf
  have hkk : (l[k].1 == t') = false := by
   rw [beq_iff_eq.1 hp]; exact hb
  apply Option.ext
  intro i
  rw [List.findIdx?_eq_some_iff_getElem, List.findIdx?_eq_some_iff_getElem]
  constructor
  ·rintro ⟨hi, h1, h2⟩
   have hi' : i < l.length := by simpa using hi
   have hik : ¬ k = i := by rintro rfl; rw [List.getElem_set_self, hb] at h1; cases h1
   refine ⟨hi', by rw [List.getElem_set_ne hik] at h1; exact h1, fun j hj => ?_⟩
   by_cases hjk : k = j
   ·subst hjk; rw [hkk]; decide
   ·have := h2 j hj; rw [List.getElem_set_ne hjk] at this; exact this
  ·rintro ⟨hi, h1, h2⟩
   have hik : ¬ k = i := by rintro rfl; rw [hkk] at h1; cases h1
   refine ⟨by simpa using hi, by rw [List.getElem_set_ne hik]; exact h1, fun j hj => ?_⟩
   by_cases hjk : k = j
   ·subst hjk; rw [List.getElem_set_self, hb]; decide
   ·rw [List.getElem_set_ne hjk]; exact h2 j hj
def putObs (l : List (Tok × List It)) (obs : List Nat) (t : Tok) (ob : Nat) : List Nat := match l.findIdx? (fun p => p.1 == t) with
 | some k => obs.set k ob
 | none => obs ++ [ob]
theorem putNB_same (l : List (Tok × List It)) (obs : List Nat) (t : Tok) (b : List It) (ob : Nat) (hl : obs.length = l.length) : ∃ k, (putNB l t b).findIdx? (fun p => p.1 == t) = some k ∧ (putObs l obs t ob).getD k 0 = ob := by
 unfold putNB putObs
 cases hf : l.findIdx? (fun p => p.1 == t) with
 | none =>
  refine ⟨l.length, ?_, ?_⟩
  ·show (l ++ [(t, b)]).findIdx? _ = _
   rw [List.findIdx?_append, hf]
   simp [List.findIdx?_cons]
  ·show (obs ++ [ob]).getD l.length 0 = ob
   rw [← hl]; simp
 | some k =>
  obtain ⟨hk, hp, hn⟩ := List.findIdx?_eq_some_iff_getElem.1 hf
  refine ⟨k, ?_, ?_⟩
  ·show (l.set k (t, b)).findIdx? _ = _
   rw [List.findIdx?_eq_some_iff_getElem]
   refine ⟨by simpa using hk, by rw [List.getElem_set_self]; simp, fun j hj => ?_⟩
   rw [List.getElem_set_ne (by omega)]; exact hn j hj
  ·show (obs.set k ob).getD k 0 = ob
   simp [List.getD, hl, hk]
theorem putNB_len (l : List (Tok × List It)) (t : Tok) (b : List It) : (putNB l t b).length = if (l.findIdx? (fun p => p.1 == t)).isSome = true then l.length else l.length + 1 := by
 unfold putNB
 cases l.findIdx? (fun p => p.1 == t) <;> simp
theorem putObs_len (l : List (Tok × List It)) (obs : List Nat) (t : Tok) (b : List It) (ob : Nat) (hl : obs.length = l.length) : (putObs l obs t ob).length = (putNB l t b).length := by
 unfold putNB putObs
 cases l.findIdx? (fun p => p.1 == t) <;> simp [hl]
theorem putNB_at (l : List (Tok × List It)) (obs : List Nat) (t : Tok) (b : List It) (ob : Nat) (hl : obs.length = l.length) (k : Nat) (p : Tok × List It) (h : (putNB l t b)[k]? = some p) : (p.2 = b ∧ (putObs l obs t ob).getD k 0 = ob) ∨ (l[k]? = some p ∧ (putObs l obs t ob).getD k 0 = obs.getD k 0) := by
 unfold putNB at h
 unfold putObs
 cases hf : l.findIdx? (fun p => p.1 == t) with
 | none =>
  rw [hf] at h
  have h : (l ++ [(t, b)])[k]? = some p := h
  show (_ ∧ (obs ++ [ob]).getD k 0 = ob) ∨ (_ ∧ (obs ++ [ob]).getD k 0 = obs.getD k 0)
  rw [List.getElem?_append] at h
  split at h
  ·rename_i hk
   have hko : k < obs.length := by omega
   exact .inr ⟨h, by simp [List.getD, List.getElem?_append, hko]⟩
  ·rename_i hk
   have hk0 : k - l.length = 0 := by
    rcases Nat.eq_zero_or_pos (k - l.length) with e | e
    ·exact e
    ·rw [List.getElem?_eq_none (by simp; omega)] at h; cases h
   rw [hk0] at h
   have h : some (t, b) = some p := h
   injection h with h
   subst h
   have hke : k = obs.length := by omega
   exact .inl ⟨rfl, by rw [hke]; simp⟩
 | some k2 =>
  rw [hf] at h
  have h : (l.set k2 (t, b))[k]? = some p := h
  show (_ ∧ (obs.set k2 ob).getD k 0 = ob) ∨ (_ ∧ (obs.set k2 ob).getD k 0 = obs.getD k 0)
  obtain ⟨hk2, _, _⟩ := List.findIdx?_eq_some_iff_getElem.1 hf
  by_cases hkk : k2 = k
  ·subst hkk
   rw [List.getElem?_set_self hk2] at h
   injection h with h
   subst h
   exact .inl ⟨rfl, by simp [List.getD, hl, hk2]⟩
  ·rw [List.getElem?_set_ne hkk] at h
   exact .inr ⟨h, by simp [List.getD, List.getElem?_set_ne hkk]⟩
def WordsN (D : Nat → Prop) (w : World) (bk mb : Nat) (l : List (Tok × List It)) : Prop :=
 ∃ (obs : List Nat) (DD : DataW Value), obs.length = l.length ∧ w.ownsMap Tryz.prog 9 heldR mb l.length DD ∧ (Maps.size DD = l.length ∧ ∀ t : Tok, t.length ≤ maxLen → Maps.has DD (.string t) = (l.findIdx? (fun p => p.1 == t)).isSome) ∧ l.length ≤ 30 ∧
  (∀ t : Tok, t.length ≤ maxLen → DD.atKey (.string t) (.held (.pointer none)) = .held (.pointer ((l.findIdx? (fun p => p.1 == t)).map (fun k => (⟨obs.getD k 0, 0, none⟩ : Addr))))) ∧
  ∀ k (h : k < l.length), WordR (BD D w) bk (obs.getD k 0) l[k].2
theorem WordsR.toN {D : Nat → Prop} {w : World} {bk mb : Nat} {defs : List Def} (h : WordsR D w bk mb defs) : WordsN D w bk mb (defs.map nbP) := by
 obtain ⟨obs, DD, h1, h2, h3, h30, h4, h5⟩ := h
 refine ⟨obs, DD, by simpa using h1, by simpa using h2, ⟨by simpa using h3.1, fun t ht => by rw [← find_nb]; exact h3.2 t ht⟩, by simpa using h30, fun t ht => by rw [← find_nb]; exact h4 t ht, fun k hk => ?_⟩
 have hk' : k < defs.length := by simpa using hk
 have := h5 k hk'
 simpa using this
theorem WordsN.toR {D : Nat → Prop} {w : World} {bk mb : Nat} {defs : List Def} (h : WordsN D w bk mb (defs.map nbP)) : WordsR D w bk mb defs := by
 obtain ⟨obs, DD, h1, h2, h3, h30, h4, h5⟩ := h
 refine ⟨obs, DD, by simpa using h1, by simpa using h2, ⟨by simpa using h3.1, fun t ht => by rw [find_nb]; exact h3.2 t ht⟩, by simpa using h30, fun t ht => by rw [find_nb]; exact h4 t ht, fun k hk => ?_⟩
 have := h5 k (by simpa using hk)
 simpa using this
theorem own_tight {w : World} {b n : Nat} {DD : DataW Value} (h : w.ownsMap Tryz.prog 9 heldR b n DD) : w.ownsMap Tryz.prog 9 heldR b (Maps.size DD) DD := by
 obtain ⟨es, clock, h1, h2, h3, rfl⟩ := h
 refine ⟨es, clock, h1, h2, ?_, rfl⟩
 simp [Maps.size, length_sorted]
theorem WordsN.put {D : Nat → Prop} {w : World} {bk mb : Nat} {l : List (Tok × List It)} (h : WordsN D w bk mb l) (t : ByteArray) (ht : t.size ≤ 1000) (b : List It) (ob : Nat) (h30 : (l.findIdx? (fun p => p.1 == t.data.toList)).isSome = true ∨ l.length < 30) :
  ∃ w2, (Instr.mapUpdate 104 (.map (some mb)) (.string t) (pt ob)).run Tryz.prog w = .ok () w2 ∧ w.grownBy w2 (some mb) ∧ ∀ D', (∀ b t c, BD D w b t c → BD D' w2 b t c) → WordR (BD D' w2) bk ob b → WordsN D' w2 bk mb (putNB l t.data.toList b) := by
 obtain ⟨obs, DD, h1, h2, h3, hl30, h4, h5⟩ := h
 have hsz : t.size ≤ maxLen := Nat.le_trans ht (by decide)
 obtain ⟨w2, hrun, hm2, hg⟩ := h2.update (Maps.string_keyed Tryz.underlying9) Tryz.underlying104 (Nat.lt_of_le_of_lt hl30 (by decide)) (key := .string t) (val := pt ob) (kl := .string t.data.toList) (d := .held (pt ob)) (ps := []) (keyS t hsz) rfl
 have hkl : WideAt.IsKeyLit (.string t.data.toList) := trivial
 have htd := h2.tidy (Maps.string_keyed Tryz.underlying9)
 have hhas := h3.2 t.data.toList hsz
 have hlen : Maps.size (DD.put (.string t.data.toList) (.held (pt ob))) = (putNB l t.data.toList b).length := by
  rw [Maps.size_put htd, hhas, putNB_len, h3.1]
 refine ⟨w2, hrun, hg, fun D' hk hw => ?_⟩
 obtain ⟨k0, hk0, ho0⟩ := putNB_same l obs t.data.toList b ob h1
 refine ⟨putObs l obs t.data.toList ob, _, putObs_len l obs _ b ob h1, by rw [← hlen]; exact own_tight hm2, ⟨hlen, fun t' ht' => ?_⟩, ?_, fun t' ht' => ?_, fun k hk' => ?_⟩
 ·by_cases he : t' = t.data.toList
  ·subst he; rw [Maps.has_put_same htd.isMap hkl, hk0]; rfl
  ·rw [Maps.has_put_other (fun e => he (by injection e)), putNB_find _ _ _ _ he]; exact h3.2 t' ht'
 ·rw [putNB_len]
  split
  ·exact hl30
  ·rename_i hn
   rcases h30 with h | h
   ·exact absurd h hn
   ·omega
 ·by_cases he : t' = t.data.toList
  ·subst he; rw [Maps.atKey_put_same htd.isMap hkl, hk0]
   show _ = DataW.held (Value.pointer (some ⟨(putObs l obs t.data.toList ob).getD k0 0, 0, none⟩))
   rw [ho0]
  ·rw [Maps.atKey_put_other (fun e => he (by injection e)), putNB_find _ _ _ _ he, h4 t' ht']
   cases hf : l.findIdx? (fun p => p.1 == t') with
   | none => rfl
   | some k =>
    obtain ⟨hkl', hp, _⟩ := List.findIdx?_eq_some_iff_getElem.1 hf
    have hkeq : (putObs l obs t.data.toList ob).getD k 0 = obs.getD k 0 := by
     unfold putObs
     cases hf2 : l.findIdx? (fun p => p.1 == t.data.toList) with
     | none =>
      have hko : k < obs.length := by omega
      simp [List.getD, List.getElem?_append, hko]
     | some k2 =>
      obtain ⟨hk2, hp2, _⟩ := List.findIdx?_eq_some_iff_getElem.1 hf2
      have hne : ¬ k2 = k := by rintro rfl; exact he ((beq_iff_eq.1 hp).symm.trans (beq_iff_eq.1 hp2))
      simp [List.getD, List.getElem?_set_ne hne]
    show DataW.held (Value.pointer (some ⟨obs.getD k 0, 0, none⟩)) = DataW.held (Value.pointer (some ⟨(putObs l obs t.data.toList ob).getD k 0, 0, none⟩))
    rw [hkeq]
 ·have hg := List.getElem?_eq_getElem hk'
  rcases putNB_at l obs t.data.toList b ob h1 k _ hg with ⟨q1, q2⟩ | ⟨q1, q2⟩
  ·rw [q1, q2]; exact hw
  ·rw [q2]
   obtain ⟨hkl', he⟩ := List.getElem?_eq_some_iff.1 q1
   rw [← he]; exact (h5 k hkl').mono hk
end
section
open Go.RowKit
theorem ent_def : Ents 108 := ents_of Tryz.func108 (by kernel_rfl) (by kernel_rfl)
section
variable {B : Nat} {W w : World} {xb rb mb : Nat} {m : MS} {D : Nat → Prop} {s : St}
theorem PR.more {D' : Nat → Prop} (h : PR B W w xb rb mb m D s) (hd : ∀ k, D k → D' k) (hs : ∀ k, D' k → D k ∨ (k < w.heap.size ∧ k ≠ xb ∧ k ≠ rb ∧ ¬ own m.sv k ∧ ¬ own m.ov k)) : PR B W w xb rb mb m D' s :=
 ⟨h.inv, h.mem, h.out, h.st0, h.st1, h.st, h.dp, h.safe, h.bmb, h.book, h.words.keep (fun b _ _ hb => ⟨hd b hb.1, hb.2⟩) rfl, fun k hk => (hs k hk).elim (h.sep k) id, h.good⟩
theorem defP (h : PR B W w xb rb mb m D s) (bb ib nb : Nat) (nm : ByteArray) (hnm : nm.size ≤ 1000) (iv : Value) (l : List It) (h1 : Blk w bb 78 #[pt m.bk]) (h2 : Blk w ib 149 #[iv]) (h3 : Blk w nb 9 #[.string nm]) (hI : Items (BD D w) iv l) (hwb : ∃ G, wb (fun _ => True) G false l)
  (h30 : s.known nm.data.toList = true ∨ s.defs.length < 30) (hg : SGood (s.set nm.data.toList l)) :
  CallsV (.func (.func 108) #[] #[pt bb, pt ib, pt nb]) (pt rb) w fun e w' => e = .returned (.int .i64 0) ∧ PPost B W xb rb mb w m D (s.set nm.data.toList l) w' := by
 refine ⟨_, _, _, rfl, ent_def, ?_⟩
 show Calls Tryz.prog 108 #[pt rb, pt bb, pt ib, pt nb] w _
 obtain ⟨xs, hrow, -⟩ := hI.out
 obtain ⟨a, p, rfl⟩ := hrow.form
 obtain ⟨ns, hi, hn⟩ := h.inv
 have hml := h.words.ltm
 have cells : ∀ w', (∀ b t c, Blk w b t c → Blk w' b t c) → DefS bb ib nb m.bk mb nm (.slice a l.length p) w' := fun w' hk => ⟨(hk _ _ _ h1).cell rfl, (hk _ _ _ h2).cell rfl, (hk _ _ _ h3).cell rfl, (hk _ _ _ h.book).cell rfl⟩
 refine defFn w rb bb ib nb m.bk mb nm a l.length p _ (cells w (fun _ _ _ h => h)) (fun w0 hk0 => ?_)
 refine (forgeM w0 D m.bk _ l (hI.mono (BD_keep hk0 (fun b _ hb => ⟨hb, by simp⟩))) hwb).mono ?_
 rintro e w1 ⟨rfl, hk1, hwr⟩
 have hk01 := hk0.trans hk1
 obtain ⟨hr1, ht1⟩ := h.kp hk01
 have hNN := hr1.words.toN
 obtain ⟨w2, hrun, hgr, hput⟩ := hNN.put nm hnm l w0.heap.size (by
  rcases h30 with q | q
  ·left; rw [← find_nb]; exact q
  ·right; simpa using q)
 have hblk : ∀ b t c, Blk w1 b t c → Blk w2 b t c := fun b t c hb => hb.same (hgr.block b hb.lt (fun e => hr1.words.ne hb (Option.some.inj e).symm))
 refine ⟨w0.heap.size, w2, rfl, cells w1 (fun b t c hb => hk01.blk hb (by simp)), cells w2 (fun b t c hb => hblk b t c (hk01.blk hb (by simp))), hrun, ?_⟩
 have hsz1 := hk01.size
 have hsz0 := hk0.size
 have hk12 : Kp w1 w2 (fun k => k = mb) := (Kp.refl w1 (fun k => k = mb)).grown hgr (fun k _ e => (Option.some.inj e).symm)
 have hsz2 := hk12.size
 obtain ⟨ns1, hi1, hn1⟩ := hr1.inv
 have hnm1 : ∀ b t c, Blk w1 b t c → ¬ b = mb := fun b t c hb e => hr1.words.ne hb e.symm
 have hD1 : ∀ b t c, BD (fun b => D b ∨ New w0 b) w1 b t c → BD (fun b => D b ∨ (w.heap.size ≤ b ∧ b < w1.heap.size)) w2 b t c := fun b t c hb => ⟨hb.1.elim .inl (fun q => .inr ⟨by have q : w0.heap.size ≤ b := q; omega, hb.2.lt⟩), hblk b t c hb.2⟩
 have hwords := hput (fun b => D b ∨ (w.heap.size ≤ b ∧ b < w1.heap.size)) (fun b t c hb => ⟨.inl hb.1, hblk b t c hb.2⟩) (hwr.mono hD1)
 rw [← set_nb] at hwords
 have hs1 := hr1.safe
 refine ⟨m, fun b => D b ∨ (w.heap.size ≤ b ∧ b < w1.heap.size), ⟨⟨ns1, ⟨hblk _ _ _ hi1.xblk, hblk _ _ _ hi1.rblk, hk12.row hi1.srow (fun k hk e => by obtain ⟨c, hc⟩ := row_blk hi1.srow hk; exact hnm1 _ _ _ hc e), hk12.row hi1.orow (fun k hk e => by obtain ⟨c, hc⟩ := row_blk hi1.orow hk; exact hnm1 _ _ _ hc e), hi1.len⟩, hn1⟩, h.mem, h.out, h.st0, h.st1, h.st, h.dp, ⟨hs1.bel.trans (hk12.below hs1.bs (fun k hk e => by have := h.bmb; omega)), hs1.bx, hs1.br, hs1.bv, Nat.le_trans hs1.bs hsz2⟩, h.bmb, hblk _ _ _ hr1.book, hwords.toR, fun k hk => ?_, hg⟩, ?_⟩
 ·rcases hk with hk | hk
  ·obtain ⟨e0, e1⟩ := h.sep k hk
   exact ⟨by omega, e1⟩
  ·refine ⟨by omega, ?_, ?_, fun e => ?_, fun e => ?_⟩
   ·have := hi.xblk.lt; omega
   ·have := hi.rblk.lt; omega
   ·have := own_lt hi.srow e; omega
   ·have := own_lt hi.orow e; omega
 ·have t12 : To (fun k => (k = xb ∨ k = rb) ∨ k = mb) w1 w2 (fun k => own m.sv k ∨ own m.ov k) (fun k => own m.sv k ∨ own m.ov k) := ⟨hk12.mono (fun k _ e => .inl (.inr e)), fun k hk => .inl hk⟩
  exact ⟨ht1.wt.trans t12, fun k hk => .inl hk, fun k hk => hk.elim .inl (fun q => .inr q.1), rfl⟩
end
end
end Go.Proofs.YtldifaahmpecfaaGreatDoor
