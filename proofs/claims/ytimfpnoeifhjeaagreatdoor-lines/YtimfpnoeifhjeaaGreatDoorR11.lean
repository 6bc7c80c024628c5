import Derived.Test.YtimfpnoeifhjeaaGreatDoorT1
namespace Go.Proofs.YtimfpnoeifhjeaaGreatDoor
open Go.RowKit

def formB (l : List UInt8) : Bool := keptL.any (· == l) || l == [59] || l == [123] || l == [125]
def runTok (l : List UInt8) (rs : List Int) (mem : Nat → Int) (out : ByteArray) : Res :=
  match numP l with
  | some n => if rs.length < 32 then ⟨0, n :: rs, mem, out⟩ else ⟨7, [], mem, out⟩
  | none => match plainL.findIdx? (· == l) with
    | some k => plainP k rs mem out
    | none => if formB l = true then ⟨4, [], mem, out⟩ else ⟨3, [], mem, out⟩
def runToks : List (List UInt8) → List Int → (Nat → Int) → ByteArray → Res
  | [], rs, mem, out => ⟨0, rs, mem, out⟩
  | t :: ts, rs, mem, out => if (runTok t rs mem out).e = 0 then runToks ts (runTok t rs mem out).rs (runTok t rs mem out).mem (runTok t rs mem out).out else runTok t rs mem out

theorem runTok_fine {l : List UInt8} {rs : List Int} {mem : Nat → Int} {out : ByteArray} (h : Good rs mem out) : Fine (runTok l rs mem out) := by
  unfold runTok
  split
  · rename_i n hn
    split
    · rename_i hl
      refine ⟨?_, h.mems, by simp only [List.length_cons]; omega, h.osz⟩
      simp only [List.mem_cons, forall_eq_or_imp]
      exact ⟨numP_range hn, h.ins⟩
    · exact Fine.err h _
  · split
    · exact plain_fine _ h
    · split <;> exact Fine.err h _

/-- How a run of tokens stands: R is what it comes to. -/
structure TDone (R : Res) (s' : RS) (ns : List Int) : Prop where
  e : s'.e = R.e
  mem : s'.mem = R.mem
  out : s'.out = R.out
  ns : R.e = 0 → ns = R.rs.reverse

def TRel (w wr : World) (yb : Nat) (s : RS) (R : Res) (ls : List (List UInt8)) (k : Nat) : Prop :=
  ∃ s' ns, RInv wr yb s' ns ∧ RTo yb w wr s s' ∧
    ((s'.e = 0 ∧ s'.st = k ∧ ∃ rs', ns = rs'.reverse ∧ Good rs' s'.mem s'.out ∧ R = runToks (ls.drop k) rs' s'.mem s'.out) ∨ (s'.e ≠ 0 ∧ TDone R s' ns))

theorem own_disj {w : World} {b b' : Nat} {e e' : TypeId} {z z' : Nat} {v v' : Value} {n n' : Nat} {xs xs' : List Value} (h : w.ownsRow b e z v n xs) (h' : w.ownsRow b' e' z' v' n' xs') (ht : e ≠ e') {k : Nat} (hk : own v k) : ¬ own v' k := by
  intro hk'
  rcases h.2 with ⟨rfl, _⟩ | ⟨g, cap, cur, rfl, _, hgg, _⟩
  · simp [own, Value.ownBlock] at hk
  · rcases h'.2 with ⟨rfl, _⟩ | ⟨g', cap', cur', rfl, _, hgg', _⟩
    · simp [own, Value.ownBlock] at hk'
    · simp [own, Value.ownBlock] at hk hk'
      subst hk; subst hk'
      rw [hgg] at hgg'; injection hgg' with hgg'; injection hgg' with h1 h2; exact ht h2

/-- One token that goes well, or not. -/
theorem TRel.step {w wr w2 : World} {yb : Nat} {s s1 : RS} {R : Res} {ls : List (List UInt8)} {k : Nat} {rs' : List Int} (hk : k < ls.length) (hto : RTo yb w wr s s1) (hst : s1.st = (k : Int) + 1) (hg : Good rs' s1.mem s1.out) (hR : R = runToks (ls.drop k) rs' s1.mem s1.out)
    (hp : RPost wr w2 yb s1 (runTok ls[k] rs' s1.mem s1.out)) : TRel w w2 yb s R ls (k + 1) := by
  obtain ⟨s', ns, h1, h2, h3, h4, h5, h6, h7⟩ := hp.ex
  refine ⟨s', ns, h1, hto.trans h2, ?_⟩
  have hf := runTok_fine (l := ls[k]) hg
  rw [List.drop_eq_getElem_cons hk, runToks] at hR
  by_cases he : (runTok ls[k] rs' s1.mem s1.out).e = 0
  · rw [if_pos he] at hR
    refine .inl ⟨by rw [h3, he], by rw [h6, hst]; rfl, _, h7 he, ?_, ?_⟩
    · rw [h4, h5]; exact hf
    · rw [h4, h5]; exact hR
  · rw [if_neg he] at hR
    refine .inr ⟨by rw [h3]; exact he, ?_⟩
    rw [hR]
    exact ⟨h3, h4, h5, h7⟩

theorem addr_add (g j : Nat) : (⟨g, 0, none⟩ : Addr).add j = ⟨g, j, none⟩ := by unfold Addr.add; split <;> simp_all

/-- A token that may not stand there. -/
theorem TRel.stop {w w2 : World} {yb : Nat} {s s1 : RS} {R : Res} {ls : List (List UInt8)} {k : Nat} {rs' ns : List Int} {e : Int} (hk : k < ls.length) (he : e ≠ 0) (hi : RInv w2 yb s1 ns) (hto : RTo yb w w2 s s1) (hR : R = runToks (ls.drop k) rs' s1.mem s1.out)
    (hr : runTok ls[k] rs' s1.mem s1.out = ⟨e, [], s1.mem, s1.out⟩) : TRel w (w2.setCell ⟨yb, 21, none⟩ (.int .i64 e)) yb s R ls (k + 1) := by
  refine ⟨{ s1 with e := e }, ns, hi.setE e, hto.trans (RTo.set rfl _ _), .inr ⟨he, ?_⟩⟩
  rw [List.drop_eq_getElem_cons hk, runToks, hr, if_neg (by exact he)] at hR
  rw [hR]
  exact ⟨rfl, rfl, rfl, fun h => absurd h he⟩

set_option maxHeartbeats 400000 in
theorem findR (w : World) (yb : Nat) (s : RS) (ns : List Int) (t : ByteArray) (h : RInv w yb s ns) :
    Calls Tryz.prog 47 #[.pointer (some ⟨yb, 0, none⟩), .string t] w fun e w' => e = .returned (.int .i64 (-1)) ∧ w' = w := by
  have c1 : w.cell? ⟨yb, 17, none⟩ = some (.slice none 0 0) := h.blk.cell rfl
  go_enter Tryz.func47, Tryz.ntmps47
  go_wp2
  refine wp_loop_rounds 1 ?_
  rw [rounds_succ]
  go_wp2
  go_ret
  exact ⟨rfl, rfl⟩

theorem runTok_num {l : List UInt8} {n : Int} (h : numP l = some n) (rs : List Int) (mem : Nat → Int) (out : ByteArray) : runTok l rs mem out = if rs.length < 32 then ⟨0, n :: rs, mem, out⟩ else ⟨7, [], mem, out⟩ := by
  simp only [runTok, h]
theorem runTok_plain {l : List UInt8} {k : Nat} (h : numP l = none) (hk : plainL.findIdx? (· == l) = some k) (rs : List Int) (mem : Nat → Int) (out : ByteArray) : runTok l rs mem out = plainP k rs mem out := by
  simp only [runTok, h, hk]
theorem runTok_form {l : List UInt8} (h : numP l = none) (hk : plainL.findIdx? (· == l) = none) (hf : formB l = true) (rs : List Int) (mem : Nat → Int) (out : ByteArray) : runTok l rs mem out = ⟨4, [], mem, out⟩ := by
  simp only [runTok, h, hk, hf, if_true]
theorem runTok_word {l : List UInt8} (h : numP l = none) (hk : plainL.findIdx? (· == l) = none) (hf : formB l = false) (rs : List Int) (mem : Nat → Int) (out : ByteArray) : runTok l rs mem out = ⟨3, [], mem, out⟩ := by
  simp only [runTok, h, hk, hf]; rfl
theorem plain_any_some {l : List UInt8} {k : Nat} (hk : plainL.findIdx? (· == l) = some k) : plainL.any (· == l) = true ∧ plainL[k]? = some l := by
  obtain ⟨hlt, h1, _⟩ := List.findIdx?_eq_some_iff_getElem.1 hk
  refine ⟨List.any_eq_true.2 ⟨_, List.getElem_mem hlt, h1⟩, ?_⟩
  rw [List.getElem?_eq_getElem hlt]; simpa using h1
theorem plain_any_none {l : List UInt8} (hk : plainL.findIdx? (· == l) = none) : plainL.any (· == l) = false := by
  rw [List.findIdx?_eq_none_iff] at hk
  rw [List.any_eq_false]
  intro x hx
  rw [hk x hx]; decide

set_option maxRecDepth 1000000 in
set_option maxHeartbeats 2000000 in
theorem toksR (w : World) (yb : Nat) (s : RS) (rs : List Int) (v : Value) (ts : List ByteArray) (ls : List (List UInt8)) (h : RInv w yb s rs.reverse) (hg : Good rs s.mem s.out) (he : s.e = 0) (hst : s.st = 0)
    (hrow : w.ownsRow 0 9 1 v ts.length (ts.map Value.string)) (hls : ls = ts.map (fun t => t.data.toList)) (hl : ts.length ≤ 401) (hcol : ∀ t ∈ ts, (t.toList == [58]) = false) :
    Calls Tryz.prog 36 #[.pointer (some ⟨yb, 0, none⟩), v] w fun e w' => e = .returned (.tuple #[]) ∧ ∃ s' ns, RInv w' yb s' ns ∧ RTo yb w w' s s' ∧ TDone (runToks ls rs s.mem s.out) s' ns := by
  have hll : ls.length = ts.length := by rw [hls]; simp
  have hat : ∀ k (hk : k < ts.length), ls[k]'(by omega) = ts[k].toList := by intro k hk; subst hls; simp [ByteArray.toList_eq]
  obtain ⟨R, hR⟩ : ∃ R, R = runToks ls rs s.mem s.out := ⟨_, rfl⟩
  rw [← hR]
  have H0 : TRel w w yb s R ls 0 := ⟨s, _, h, To.refl _ _ _, .inl ⟨he, by rw [hst]; rfl, rs, rfl, hg, hR⟩⟩
  have HL : Hid (ls.length = ts.length) := hll
  have HA : Hid (∀ k (hk : k < ts.length), ls[k]? = some ts[k].toList) := by
    intro k hk; rw [List.getElem?_eq_getElem (by omega), hat k hk]
  have HC : Hid (∀ t ∈ ts, (t.toList == [58]) = false) := hcol
  have HK : Hid (∀ k, own v k → ¬ (k = yb ∨ own s.nv k)) := by
    rintro k hk (rfl | h2)
    · exact own_ne hrow h.blk (by decide) hk
    · exact own_disj hrow h.row (by decide) hk h2
  clear hls hR hg he hst hll hat hcol h
  obtain ⟨ao, cap, rfl⟩ : ∃ ao cap, v = .slice ao ts.length cap := by
    rcases hrow.2 with ⟨hv, h0⟩ | ⟨g, cap, _, hv, _⟩
    · exact ⟨none, 0, by rw [hv, h0]⟩
    · exact ⟨_, cap, hv⟩
  have HW : Hid (w.ownsRow 0 9 1 (.slice ao ts.length cap) ts.length (ts.map Value.string)) := hrow
  clear hrow
  go_enter Tryz.func36, Tryz.ntmps36
  go_wp2
  go_loopw [4] (fun i wr => ∃ k : Nat, k ≤ ts.length ∧ i = .int .i64 k ∧ TRel w wr yb s R ls k) (fun i _ => ts.length - (intOf i).toNat)
  case atStart => exact ⟨0, Nat.zero_le _, rfl, H0⟩
  case round =>
    obtain ⟨k, hk, rfl, s', ns, hi, hto, hcase⟩ := hrel
    have ce : wr.cell? ⟨yb, 21, none⟩ = some (.int .i64 s'.e) := hi.blk.cell rfl
    rcases hcase with ⟨he, hst, rs', rfl, hg, hR⟩ | ⟨he, hd⟩
    · rw [he] at ce
      by_cases hlt : k < ts.length
      · have hro := (To.kp hto).row HW.out HK.out
        obtain ⟨g, hao, ct⟩ : ∃ g, ao = some ⟨g, 0, none⟩ ∧ wr.cell? ⟨g, k, none⟩ = some (.string ts[k]) := by
          rcases hro.2 with ⟨_, h0⟩ | ⟨g, cap', cur, hv, _⟩
          · omega
          · injection hv with h1
            refine ⟨g, h1, ?_⟩
            have := hro.cells (g := g) (by rw [h1]; rfl) k (.string ts[k]) (by simp [hlt])
            rw [addr_add] at this; exact this
        clear hro
        subst hao
        obtain ⟨t, ht⟩ : ∃ t, t = ts[k] := ⟨_, rfl⟩
        have hc58 : (t.toList == [58]) = false := HC.out t (by rw [ht]; exact List.getElem_mem hlt)
        have HT : Hid (ls[k]? = some t.toList) := by rw [ht]; exact HA.out k hlt
        rw [← ht] at ct
        clear ht
        have hkl : k < ls.length := by have := HL.out; omega
        have HTk : Hid (ls[k] = t.toList) := by have := HT.out; rw [List.getElem?_eq_getElem hkl] at this; exact Option.some.inj this
        have HR : Hid (R = runToks (ls.drop k) rs' s'.mem s'.out) := hR
        clear hR
        have hlen := hi.len
        simp only [List.length_reverse] at hlen
        have hs0 : 0 ≤ s'.st := by rw [hst]; omega
        have hs1 : s'.st < 2000 := by rw [hst]; omega
        have HS : Hid (s'.st = (k : Int)) := hst
        clear hst
        rcases hnum : numP t.toList with _ | n
        · rcases hpl : plainL.findIdx? (· == t.toList) with _ | j
          · have hp1 : plainL.any (· == t.toList) = false := plain_any_none hpl
            go_wp2_with fail
            refine (numberR _ _).mono ?_
            rintro e w' ⟨rfl, hw⟩
            rw [hw, numV_none hnum]; clear hw
            go_wp2_with fail
            refine (isPlainR _ _).mono ?_
            rintro e w1 ⟨rfl, hk1⟩
            go_wp2_with fail
            refine (isKeptR _ _).mono ?_
            rintro e w2 ⟨rfl, hk2⟩
            have hi2 := (hi.kp hk1).kp hk2
            have hto2 : RTo yb w w2 s s' := hto.trans ((RTo.kp hk1).trans (RTo.kp hk2))
            clear hk1 hk2 hi hto ce ct
            cases b1 : keptL.any (· == t.toList)
            · cases b2 : (t.toList == [59])
              · cases b3 : (t.toList == [123])
                · cases b4 : (t.toList == [125])
                  · have HRT : Hid (∀ rs mem out, runTok t.toList rs mem out = ⟨3, [], mem, out⟩) := runTok_word hnum hpl (by simp [formB, b1, b2, b3, b4])
                    clear hnum hpl
                    go_wp2_with fail
                    refine (findR _ _ _ _ _ hi2).mono ?_
                    rintro e w' ⟨rfl, hw⟩
                    rw [hw]; clear hw
                    have ce := hi2.blk.cell (o := 21) rfl
                    have fe := hi2.blk.free 21
                    have HN : TRel w (w2.setCell ⟨yb, 21, none⟩ (.int .i64 3)) yb s R ls (k + 1) := TRel.stop hkl (by decide) hi2 hto2 HR.out (by rw [HTk.out, HRT.out])
                    clear hi2 hto2
                    go_wp2
                    go_roundw
                    case rel => exact ⟨k + 1, by omega, by go_num, HN⟩
                    case measure => simp [intOf]; omega
                  · have HRT : Hid (∀ rs mem out, runTok t.toList rs mem out = ⟨4, [], mem, out⟩) := runTok_form hnum hpl (by simp [formB, *])
                    clear hnum hpl
                    have ce := hi2.blk.cell (o := 21) rfl
                    have fe := hi2.blk.free 21
                    have HN : TRel w (w2.setCell ⟨yb, 21, none⟩ (.int .i64 4)) yb s R ls (k + 1) := TRel.stop hkl (by decide) hi2 hto2 HR.out (by rw [HTk.out, HRT.out])
                    clear hi2 hto2
                    go_wp2
                    go_roundw
                    case rel => exact ⟨k + 1, by omega, by go_num, HN⟩
                    case measure => simp [intOf]; omega
                · have HRT : Hid (∀ rs mem out, runTok t.toList rs mem out = ⟨4, [], mem, out⟩) := runTok_form hnum hpl (by simp [formB, *])
                  clear hnum hpl
                  have ce := hi2.blk.cell (o := 21) rfl
                  have fe := hi2.blk.free 21
                  have HN : TRel w (w2.setCell ⟨yb, 21, none⟩ (.int .i64 4)) yb s R ls (k + 1) := TRel.stop hkl (by decide) hi2 hto2 HR.out (by rw [HTk.out, HRT.out])
                  clear hi2 hto2
                  go_wp2
                  go_roundw
                  case rel => exact ⟨k + 1, by omega, by go_num, HN⟩
                  case measure => simp [intOf]; omega
              · have HRT : Hid (∀ rs mem out, runTok t.toList rs mem out = ⟨4, [], mem, out⟩) := runTok_form hnum hpl (by simp [formB, *])
                clear hnum hpl
                have ce := hi2.blk.cell (o := 21) rfl
                have fe := hi2.blk.free 21
                have HN : TRel w (w2.setCell ⟨yb, 21, none⟩ (.int .i64 4)) yb s R ls (k + 1) := TRel.stop hkl (by decide) hi2 hto2 HR.out (by rw [HTk.out, HRT.out])
                clear hi2 hto2
                go_wp2
                go_roundw
                case rel => exact ⟨k + 1, by omega, by go_num, HN⟩
                case measure => simp [intOf]; omega
            · have HRT : Hid (∀ rs mem out, runTok t.toList rs mem out = ⟨4, [], mem, out⟩) := runTok_form hnum hpl (by simp [formB, *])
              clear hnum hpl
              have ce := hi2.blk.cell (o := 21) rfl
              have fe := hi2.blk.free 21
              have HN : TRel w (w2.setCell ⟨yb, 21, none⟩ (.int .i64 4)) yb s R ls (k + 1) := TRel.stop hkl (by decide) hi2 hto2 HR.out (by rw [HTk.out, HRT.out])
              clear hi2 hto2
              go_wp2
              go_roundw
              case rel => exact ⟨k + 1, by omega, by go_num, HN⟩
              case measure => simp [intOf]; omega
          · have hp1 := (plain_any_some hpl).1
            have HP : Hid (plainL[j]? = some t.toList) := (plain_any_some hpl).2
            have HRT : Hid (∀ rs mem out, runTok t.toList rs mem out = plainP j rs mem out) := runTok_plain hnum hpl
            clear hpl
            go_wp2_with fail
            refine (numberR _ _).mono ?_
            rintro e w' ⟨rfl, hw⟩
            rw [hw, numV_none hnum]; clear hw
            go_wp2_with fail
            refine (isPlainR _ _).mono ?_
            rintro e w1 ⟨rfl, hk1⟩
            go_wp2_with fail
            refine (isKeptR _ _).mono ?_
            rintro e w2 ⟨rfl, hk2⟩
            have hi2 := (hi.kp hk1).kp hk2
            have hto2 : RTo yb w w2 s s' := hto.trans ((RTo.kp hk1).trans (RTo.kp hk2))
            clear hk1 hk2 hi hto ce ct

            clear hnum
            go_wp2_with fail
            refine (stepR _ _ _ _ hi2 he hs0 hs1).mono ?_
            rintro e w3 ⟨rfl, hi3, hto3⟩
            go_wp2_with fail
            refine (plainR_all j _ HP.out _ _ _ _ hi3 he hg.osz hg.ins).mono ?_
            rintro e w4 ⟨rfl, hp⟩
            have HN : TRel w w4 yb s R ls (k + 1) := TRel.step hkl (hto2.trans hto3) (by show s'.st + 1 = _; rw [HS.out]) hg HR.out (by rw [HTk.out, HRT.out]; exact hp)
            clear hp hi3 hto3 hi2 hto2
            go_wp2
            go_roundw
            case rel => exact ⟨k + 1, by omega, by go_num, HN⟩
            case measure => simp [intOf]; omega
        · have HRT : Hid (∀ rs mem out, runTok t.toList rs mem out = if rs.length < 32 then ⟨0, n :: rs, mem, out⟩ else ⟨7, [], mem, out⟩) := runTok_num hnum
          go_wp2_with fail
          refine (numberR _ _).mono ?_
          rintro e w' ⟨rfl, hw⟩
          rw [hw, numV_some hnum]; clear hw
          go_wp2_with fail
          refine (isPlainR _ _).mono ?_
          rintro e w1 ⟨rfl, hk1⟩
          go_wp2_with fail
          refine (isKeptR _ _).mono ?_
          rintro e w2 ⟨rfl, hk2⟩
          have hi2 := (hi.kp hk1).kp hk2
          have hto2 : RTo yb w w2 s s' := hto.trans ((RTo.kp hk1).trans (RTo.kp hk2))
          clear hk1 hk2 hi hto ce ct

          clear hnum
          go_wp2_with fail
          refine (stepR _ _ _ _ hi2 he hs0 hs1).mono ?_
          rintro e w3 ⟨rfl, hi3, hto3⟩
          by_cases h32 : rs'.length < 32
          · go_wp2_with fail
            refine (layR1 _ _ _ _ _ hi3 he h32).mono ?_
            rintro e w4 ⟨rfl, v4, hi4, hto4⟩
            have HN : TRel w w4 yb s R ls (k + 1) := TRel.step hkl (hto2.trans hto3) (by show s'.st + 1 = _; rw [HS.out]) hg HR.out
              (by rw [HTk.out, HRT.out, if_pos h32]; exact ⟨_, _, hi4, hto4, he, rfl, rfl, rfl, fun _ => rfl⟩)
            clear hi4 hto4 hi3 hto3 hi2 hto2
            go_wp2
            go_roundw
            case rel => exact ⟨k + 1, by omega, by go_num, HN⟩
            case measure => simp [intOf]; omega
          · go_wp2_with fail
            refine (layR_full _ _ _ _ _ hi3 he (by simp; omega)).mono ?_
            rintro e w4 ⟨rfl, hi4, hto4⟩
            have HN : TRel w w4 yb s R ls (k + 1) := TRel.step hkl (hto2.trans hto3) (by show s'.st + 1 = _; rw [HS.out]) hg HR.out
              (by rw [HTk.out, HRT.out, if_neg h32]; exact ⟨_, _, hi4, hto4, rfl, rfl, rfl, rfl, fun h => by cases h⟩)
            clear hi4 hto4 hi3 hto3 hi2 hto2
            go_wp2
            go_roundw
            case rel => exact ⟨k + 1, by omega, by go_num, HN⟩
            case measure => simp [intOf]; omega
      · have hd : TDone R s' rs'.reverse := by
          rw [hR, List.drop_of_length_le (by have := HL.out; omega)]; exact ⟨he, rfl, rfl, fun _ => rfl⟩
        have HD : Hid (TDone R s' rs'.reverse) := hd
        clear hd hR he hst
        go_wp2
        go_end0
        exact ⟨rfl, _, _, hi, hto, HD.out⟩
    · have he' : (s'.e == 0) = false := by simpa using he
      have HD : Hid (TDone R s' ns) := hd
      clear hd he
      by_cases hlt : k < ts.length
      all_goals
        go_wp2
        go_end0
        exact ⟨rfl, _, _, hi, hto, HD.out⟩
end Go.Proofs.YtimfpnoeifhjeaaGreatDoor
