import Derived.Test.YtldifaahmpecfaaGreatDoorV32
import Derived.Test.YtldifaahmpecfaaGreatDoorV1
namespace Go.Proofs.YtldifaahmpecfaaGreatDoor
set_option maxRecDepth 1000000
set_option maxHeartbeats 4000000
set_option linter.all false
section
open Go.RowKit
theorem layMk (w : World) (i : Int) : Calls Tryz.prog 62 #[.int .i64 i] w fun e w' => e = .returned (.func (.func 87) #[] #[pt w.heap.size]) ∧ w' = w.alloc (.cells #[.int .i64 i] 2) := by
 have hmf := mkFunc
 go_enter Tryz.func62, Tryz.ntmps62
 go_wp2
 go_ret
 exact ⟨rfl, rfl⟩
section
variable {B : Nat} {W w : World} {xb rb mb fb : Nat} {m : MS} {D : Nat → Prop} {s : St} {lv : Value} {lp : List Int}
theorem askF (h : PR B W w xb rb mb m D s) (he : s.e = 0) (hf : FrR B w fb rb m D lv 0 lp) :
  Calls Tryz.prog 207 #[pt fb] w fun e w' => e = .returned (.tuple #[.bool s.test.2, .int .i64 (sgl false s.test.1.e)]) ∧ FPo B W xb rb mb fb w m D lv lp s.test.1 w' := by
 have c0 : w.cell? ⟨fb, 0, none⟩ = some (pt rb) := hf.blk.cell rfl
 have HS := hide (askP h he)
 have HF : Hid (∀ w1, PPost B W xb rb mb w m D s.test.1 w1 → FPo B W xb rb mb fb w m D lv lp s.test.1 (w1.setCell ⟨fb, 2, none⟩ (.int .i64 s.test.1.e)) ∧ (∃ y, Blk w1 fb 197 #[pt rb, lv, .int .i64 y])) := fun w1 hp => FPo.heed h hf hp
 clear h he hf
 go_enter Tryz.func207, Tryz.ntmps207
 go_wp2_with fail
 refine HS.out.mono ?_
 rintro e w1 ⟨rfl, hp⟩
 obtain ⟨h1, ⟨y, h2⟩⟩ := HF.out w1 hp
 have H1 := hide h1
 clear h1 hp
 go_wp2_with fail
 refine (heedM _ fb s.test.1.e _ _ _ h2).mono ?_
 rintro e w2 ⟨rfl, rfl⟩
 go_wp2
 go_ret2
 exact ⟨rfl, H1.out⟩
theorem idxP (h : PR B W w xb rb mb m D s) (he : s.e = 0) (i : Int) (lp' : List Int) (hlp : lp = i :: lp') (hll : lp.length ≤ 9999) (hf : FrR B w fb rb m D lv 0 lp) (s' : St) (hs' : s' = if s.step.e = 0 then s.step.put i else s.step) :
  CallsV (.func (.func 191) #[] #[]) (pt fb) w fun e w' => e = .returned (.int .i64 (sgl false s'.e)) ∧ FPo B W xb rb mb fb w m D lv lp s' w' := by
 refine ⟨_, _, _, rfl, ent_idx, ?_⟩
 show Calls Tryz.prog 191 #[pt fb] w _
 have hmf := mkFunc
 have c0 : w.cell? ⟨fb, 0, none⟩ = some (pt rb) := hf.blk.cell rfl
 obtain ⟨g, cap, hv, hcell⟩ := row_cell hf.row (by rw [hlp]; simp)
 have ci : w.cell? ⟨g, lp'.length, none⟩ = some (.int .i64 i) := hcell _ _ (by rw [hlp]; simp [ints])
 have hlen : lp.length = lp'.length + 1 := by rw [hlp]; simp
 have c1 : w.cell? ⟨fb, 1, none⟩ = some (.slice (some ⟨g, 0, none⟩) (lp'.length + 1) cap) := by rw [← hlen, ← hv]; exact hf.blk.cell rfl
 have hin := hf.ins i (by rw [hlp]; simp)
 have hll2 : lp'.length + 1 ≤ 9999 := by omega
 have hrl : rb < w.heap.size := by obtain ⟨ns, hi, _⟩ := h.inv; exact hi.rblk.lt
 have HS : Hid (∀ w0 nb, Kp w w0 (fun _ => False) → w.heap.size ≤ nb → Blk w0 nb 2 #[.int .i64 i] → Calls Tryz.prog 61 #[pt rb, .func (.func 87) #[] #[pt nb]] w0 fun e w' => e = .returned (.int .i64 s'.e) ∧ PPost B W xb rb mb w m D s' w') := by
  intro w0 nb hkk hnb hnb0
  obtain ⟨h0, t0⟩ := h.kp hkk
  refine (stepP h0 he (.func (.func 87) #[] #[pt nb]) (s.step.put i) s' hs' (fun e w1 m1 p1 t1 => ?_)).mono ?_
  ·obtain ⟨ns, hi, _⟩ := h.inv
   refine layP p1 e i hin nb (t1.wt.kp.blk hnb0 ?_)
   rintro (((e | e) | e) | (e | e))
   ·have := hi.xblk.lt; omega
   ·have := hi.rblk.lt; omega
   ·have := h.words.ltm; omega
   ·have := own_lt hi.srow e; omega
   ·have := own_lt hi.orow e; omega
  ·rintro e w' ⟨rfl, hp⟩
   exact ⟨rfl, hp.step t0⟩
 have HF : Hid (∀ w1, PPost B W xb rb mb w m D s' w1 → FPo B W xb rb mb fb w m D lv lp s' (w1.setCell ⟨fb, 2, none⟩ (.int .i64 s'.e)) ∧ (∃ y, Blk w1 fb 197 #[pt rb, lv, .int .i64 y])) := fun w1 hp => FPo.heed h hf hp
 clear h he hf hs' hcell hlp hv hlen hll hin
 go_enter Tryz.func191, Tryz.ntmps191
 go_wp2
 go_quiet (fail)
 go_wp2
 go_region_held3 (fun w' => w'.cell? ⟨fb, 0, none⟩ = some (pt rb)) (go_keep) (first
  | (go_at_call 62; refine (layMk _ i).mono ?_; rintro e w5 ⟨rfl, rfl⟩)
  | (go_at_call 61; refine (HS.out _ w.heap.size ?_ ?_ ?_).mono ?_; exact ((((Kp.refl w _).drewN nq).drew).alloc _); exact Nat.le_refl _; exact Blk.new _ _ _; rintro e w1 ⟨rfl, hp⟩; obtain ⟨h1, ⟨y, h2⟩⟩ := HF.out w1 hp; have h4 : w1.cell? ⟨fb, 0, none⟩ = some (pt rb) := h2.cell rfl; have H1 := hide h1; have H2 := hide h2; clear h1 hp h2)
  | (go_at_call 205; refine (heedM _ fb s'.e _ _ _ H2.out).mono ?_; rintro e w2 ⟨rfl, rfl⟩; have k0 : (w1.setCell ⟨fb, 2, none⟩ (.int .i64 s'.e)).cell? ⟨fb, 0, none⟩ = some (pt rb) := (H2.out.set 2 _).cell rfl))
 go_wp2
 go_ret
 exact ⟨rfl, H1.out⟩
end
end
section
open Go.RowKit
theorem body_err : ∀ (g : Nat) (f : Fr) (lp : List Int) (l : List It) (s s' : St), s.e = 0 → xRun g (jBody f lp l) s = some (s', false) → s'.e = 0
 | 0, _, _, _, _, _, _, h => by cases h
 | g + 1, f, lp, [], s, s', he, h => by
  rw [x_nil] at h; injection h with h; injection h with h _; rw [← h]; exact he
 | g + 1, f, lp, x :: l, s, s', he, h => by
  rw [x_cons] at h
  split at h
  ·cases h
  ·rename_i s1 left1 h1
   split at h
   ·injection h with h; injection h with _ h; cases h
   ·rename_i hn
    have hn := not_or.1 hn
    exact body_err g f lp l s1 s' (by simpa using hn.2) h
theorem body_sgl {g : Nat} {f : Fr} {lp : List Int} {l : List It} {s s' : St} {left : Bool} (he : s.e = 0) (h : xRun g (jBody f lp l) s = some (s', left)) : sgl left s'.e = sig left := by
 cases left
 ·rw [body_err g f lp l s s' he h]; rfl
 ·rw [sgl_yes (.inl rfl)]; rfl
section
variable {B : Nat} {W w : World} {xb rb mb fb : Nat} {m : MS} {D : Nat → Prop} {s : St} {lv : Value} {lp : List Int}
theorem St.test_steps_le (s : St) (n : Int) (h : n ≤ s.steps) : n ≤ s.test.1.steps := by rw [s.test_steps]; omega
theorem ifP (g : Nat) (la lb : List It) (hB : QB B W g) (h : PR B W w xb rb mb m D s) (he : s.e = 0) (hf : FrR B w fb rb m D lv 0 lp) (hlp : (lp.length : Int) ≤ s.steps) (f : Fr) (ob b1 b2 : Nat) (oka : OkL lp la) (okb : OkL lp lb) (va vb : Value) (h1 : BD D w b1 189 #[va]) (h2 : BD D w b2 189 #[vb]) (ha : Acts (BD D w) m.bk ob va la) (hb : Acts (BD D w) m.bk ob vb lb) (hW : WordR (BD D w) m.bk ob f.body) (s' : St) (left : Bool)
  (hx : (if s.test.1.e ≠ 0 then some (s.test.1, true) else if s.test.2 = true then xRun g (jBody f lp la) s.test.1 else xRun g (jBody f lp lb) s.test.1) = some (s', left)) :
  CallsV (.func (.func 206) #[] #[pt b1, pt b2]) (pt fb) w fun e w' => e = .returned (.int .i64 (sgl left s'.e)) ∧ FPo B W xb rb mb fb w m D lv lp s' w' := by
 refine ⟨_, _, _, rfl, ent_choose, ?_⟩
 show Calls Tryz.prog 206 #[pt fb, pt b1, pt b2] w _
 have HA := hide (askF h he hf)
 have HKD : Hid (∀ w' m' D' lv', FT xb rb mb fb w w' m m' D D' lv lv' → (∀ b t c, BD D w b t c → BD D' w' b t c)) := fun w' m' D' lv' ht => hf.keepD h ht
 have HX := hide hx
 have Ha := hide ha
 have Hb := hide hb
 have HW := hide hW
 have H1 := hide h1
 have H2 := hide h2
 have hst := St.test_steps_le s _ hlp
 obtain ⟨ao, cao, rfl⟩ := ha.form
 obtain ⟨bo, cbo, rfl⟩ := hb.form
 clear h he hf hx ha hb hW h1 h2 hlp
 go_enter Tryz.func206, Tryz.ntmps206
 go_wp2_with fail
 refine HA.out.mono ?_
 rintro e w1 ⟨rfl, m1, D1, lv1, hr1, hf1, ht1⟩
 have kd := HKD.out _ _ _ _ ht1
 have c1 : w1.cell? ⟨b1, 0, none⟩ = some (.slice ao la.length cao) := (kd _ _ _ H1.out).2.cell rfl
 have c2 : w1.cell? ⟨b2, 0, none⟩ = some (.slice bo lb.length cbo) := (kd _ _ _ H2.out).2.cell rfl
 by_cases hte : s.test.1.e = 0
 ·rw [hte, sgl_no]
  have hx := HX.out
  rw [if_neg (by simpa using hte)] at hx
  rw [hte] at hf1
  have hW1 : WordR (BD D1 w1) m1.bk ob f.body := by rw [ht1.bk]; exact HW.out.mono kd
  have HT1 := hide ht1
  cases ht2 : s.test.2
  ·rw [ht2, if_neg (by decide)] at hx
   have HC := hide (hB w1 xb rb mb fb m1 D1 s.test.1 s' f lp lv1 ob _ lb left hr1 hte hf1 hst okb (by rw [ht1.bk]; exact Hb.out.mono kd) hW1 hx)
   have HSG := hide (body_sgl hte hx)
   clear hx kd hr1 hf1 hW1 ht1 HA
   go_wp2_with fail
   refine HC.out.mono ?_
   rintro e w2 ⟨rfl, hp⟩
   have HP := hide hp
   clear hp
   go_wp2
   go_ret
   rw [HSG.out]
   exact ⟨rfl, HP.out.step HT1.out⟩
  ·rw [ht2, if_pos rfl] at hx
   have HC := hide (hB w1 xb rb mb fb m1 D1 s.test.1 s' f lp lv1 ob _ la left hr1 hte hf1 hst oka (by rw [ht1.bk]; exact Ha.out.mono kd) hW1 hx)
   have HSG := hide (body_sgl hte hx)
   clear hx kd hr1 hf1 hW1 ht1 HA
   go_wp2_with fail
   refine HC.out.mono ?_
   rintro e w2 ⟨rfl, hp⟩
   have HP := hide hp
   clear hp
   go_wp2
   go_ret
   rw [HSG.out]
   exact ⟨rfl, HP.out.step HT1.out⟩
 ·rw [sgl_yes (.inr hte)]
  have hx := HX.out
  rw [if_pos hte] at hx
  injection hx with hx
  injection hx with hx1 hx2
  have HS1 := hide hx1
  have HS2 := hide hx2
  have HR := hide hr1
  have HF := hide hf1
  have HT := hide ht1
  clear hx1 hx2 hr1 hf1 ht1 kd hte
  go_wp2
  go_ret
  rw [← HS1.out, ← HS2.out, sgl_yes (.inl rfl)]
  exact ⟨rfl, m1, D1, lv1, HR.out, HF.out, HT.out⟩
end
end
section
open Go.RowKit
def stOf (w : World) (rb : Nat) : Int := match w.cell? ⟨rb, 2, none⟩ with
 | some (.int _ n) => n
 | _ => 0
theorem PR.stOf {B : Nat} {W w : World} {xb rb mb : Nat} {m : MS} {D : Nat → Prop} {s : St} (h : PR B W w xb rb mb m D s) (he : s.e = 0) : Go.Proofs.YtldifaahmpecfaaGreatDoor.stOf w rb = s.steps := by
 obtain ⟨ns, hi, _⟩ := h.inv
 have : w.cell? ⟨rb, 2, none⟩ = some (.int .i64 m.st) := hi.rblk.cell rfl
 unfold Go.Proofs.YtldifaahmpecfaaGreatDoor.stOf; rw [this, ← h.st he]
structure LAt (B : Nat) (W : World) (g xb rb mb fb : Nat) (w wr : World) (m : MS) (D : Nat → Prop) (s' : St) (f : Fr) (lp : List Int) (lv : Value) (x : It) (left : Bool) : Prop where
 ex : ∃ g' m1 D1 lv1 s1, g' ≤ g ∧ PR B W wr xb rb mb m1 D1 s1 ∧ s1.e = 0 ∧ FrR B wr fb rb m1 D1 lv1 0 lp ∧ (lp.length : Int) ≤ s1.steps ∧ FT xb rb mb fb w wr m m1 D D1 lv lv1 ∧ xRun g' (jItem f lp x) s1 = some (s', left) ∧ (∀ b t c, BD D w b t c → BD D1 wr b t c)
section
variable {B : Nat} {W w : World} {xb rb mb fb : Nat} {m : MS} {D : Nat → Prop} {s : St} {lv : Value} {lp : List Int}
theorem untilP (g : Nat) (hB : ∀ g', g' < g → QB B W g') (h : PR B W w xb rb mb m D s) (he : s.e = 0) (hf : FrR B w fb rb m D lv 0 lp) (hlp : (lp.length : Int) ≤ s.steps) (f : Fr) (ob b1 : Nat) (va : Value) (x : It) (hok : OkX lp x) (hk : x.kind = 117) (h1 : BD D w b1 189 #[va]) (ha : Acts (BD D w) m.bk ob va x.a) (hW : WordR (BD D w) m.bk ob f.body) (s' : St) (left : Bool)
  (hx : xRun g (jItem f lp x) s = some (s', left)) :
  CallsV (.func (.func 208) #[] #[pt b1]) (pt fb) w fun e w' => e = .returned (.int .i64 (sgl left s'.e)) ∧ FPo B W xb rb mb fb w m D lv lp s' w' := by
 refine ⟨_, _, _, rfl, ent_until, ?_⟩
 show Calls Tryz.prog 208 #[pt fb, pt b1] w _
 have h0 : Hid (LAt B W g xb rb mb fb w w m D s' f lp lv x left) := ⟨⟨g, m, D, lv, s, Nat.le_refl _, h, he, hf, hlp, FT.refl _ _ _ _ _ _ _ _, hx, fun _ _ _ h => h⟩⟩
 have HB := hide hB
 have Ha := hide ha
 have HW := hide hW
 have H1 := hide h1
 obtain ⟨ao, cao, rfl⟩ := ha.form
 clear hB h he hf hlp ha hW h1 hx
 go_enter Tryz.func208, Tryz.ntmps208
 go_wp2
 go_loopw [6] (fun _ wr => LAt B W g xb rb mb fb w wr m D s' f lp lv x left) (fun _ wr => (2002 - stOf wr rb).toNat)
 case atStart => exact h0.out
 case round =>
  obtain ⟨g', m1, D1, lv1, s1, hg, hr, he, hf, hlp, hto, hx, kd⟩ := hrel
  have hso := hr.stOf he
  have hs1 := hr.good.s2 he
  cases g' with
  | zero => cases hx
  | succ g' =>
   rw [x_until _ _ _ _ _ hk] at hx
   cases hb : xRun g' (jBody f lp x.a) s1 with
   | none => rw [hb] at hx; cases hx
   | some p =>
    obtain ⟨s2, left2⟩ := p
    rw [hb] at hx
    dsimp only at hx
    have c1 : wr.cell? ⟨b1, 0, none⟩ = some (.slice ao x.a.length cao) := (kd _ _ _ H1.out).2.cell rfl
    have HC := hide (HB.out g' (by omega) wr xb rb mb fb m1 D1 s1 s2 f lp lv1 ob _ x.a left2 hr he hf hlp (hok.ab (by omega)).1 (by rw [hto.bk]; exact Ha.out.mono kd) (by rw [hto.bk]; exact HW.out.mono kd) hb)
    have HKD : Hid (∀ w' m' D' lv', FT xb rb mb fb wr w' m1 m' D1 D' lv1 lv' → (∀ b t c, BD D1 wr b t c → BD D' w' b t c)) := fun w' m' D' lv' ht => hf.keepD hr ht
    have hst := (xRun_keep _ _ _ _ _ hb).2
    have HKd := hide kd
    have HTo := hide hto
    clear hr hf kd hto
    go_wp2_with fail
    refine HC.out.mono ?_
    rintro e w1 ⟨rfl, m2, D2, lv2, hr2, hf2, ht2⟩
    have kd2 := HKD.out _ _ _ _ ht2
    cases left2 with
    | true =>
     rw [if_pos rfl] at hx
     injection hx with hx; injection hx with q1 q2
     subst q1; subst q2
     have HR := hide hr2
     have HF := hide hf2
     have HT := hide (HTo.out.trans ht2)
     clear hr2 hf2 ht2 kd2 hb
     rw [show sig true = 1 from rfl]
     go_wp2
     go_ret
     rw [sgl_yes (.inl rfl)]
     exact ⟨rfl, m2, D2, lv2, HR.out, HF.out, HT.out⟩
    | false =>
     rw [if_neg (by decide)] at hx
     have he2 := body_err _ _ _ _ _ _ he hb
     rw [he2] at hf2
     rw [show sig false = 0 from rfl]
     have HA := hide (askF hr2 he2 hf2)
     have HKD2 : Hid (∀ w' m' D' lv', FT xb rb mb fb w1 w' m2 m' D2 D' lv2 lv' → (∀ b t c, BD D2 w1 b t c → BD D' w' b t c)) := fun w' m' D' lv' ht => hf2.keepD hr2 ht
     have HTo2 := hide (HTo.out.trans ht2)
     have HKd2 : Hid (∀ b t c, BD D w b t c → BD D2 w1 b t c) := fun b t c hh => kd2 b t c (HKd.out b t c hh)
     have hts := s2.test_steps
     have HX := hide hx
     clear hr2 hf2 ht2 kd2 hb hx HKD HC
     go_wp2_with fail
     refine HA.out.mono ?_
     rintro e w2 ⟨rfl, m3, D3, lv3, hr3, hf3, ht3⟩
     have kd3 := HKD2.out _ _ _ _ ht3
     have HT3 := hide (HTo2.out.trans ht3)
     have hx := HX.out
     by_cases hte : s2.test.1.e = 0
     ·rw [if_neg (by simpa using hte)] at hx
      rw [hte, sgl_no]
      cases htt : s2.test.2 with
      | true =>
       rw [htt, if_pos rfl] at hx
       injection hx with hx; injection hx with q1 q2
       have HQ1 := hide q1
       have HQ2 := hide q2
       have HR := hide hr3
       have HF := hide hf3
       have HTE := hide hte
       clear hr3 hf3 ht3 kd3 q1 q2 htt hte HX
       go_wp2
       go_ret
       rw [← HQ2.out, ← HQ1.out, HTE.out, sgl_no]
       exact ⟨rfl, m3, D3, lv3, HR.out, HF.out, HT3.out⟩
      | false =>
       rw [htt, if_neg (by decide)] at hx
       have hso3 := hr3.stOf hte
       have hs3 := hr3.good.s2 hte
       rw [hte] at hf3
       have HN : Hid (LAt B W g xb rb mb fb w w2 m D s' f lp lv x left) := ⟨⟨g', m3, D3, lv3, s2.test.1, by omega, hr3, hte, hf3, by omega, HT3.out, hx, fun b t c hh => kd3 b t c (HKd2.out b t c hh)⟩⟩
       clear hr3 hf3 ht3 kd3 htt HX hx
       go_wp2
       go_roundw
       case rel => exact HN.out
       case measure => rw [hso, hso3]; omega
     ·rw [if_pos hte] at hx
      injection hx with hx; injection hx with q1 q2
      rw [sgl_yes (.inr hte)]
      have HQ1 := hide q1
      have HQ2 := hide q2
      have HR := hide hr3
      have HF := hide hf3
      clear hr3 hf3 ht3 kd3 q1 q2 hte HX
      cases htt : s2.test.2
      ·clear htt
       go_wp2
       go_ret
       rw [← HQ2.out, ← HQ1.out, sgl_yes (.inl rfl)]
       exact ⟨rfl, m3, D3, lv3, HR.out, HF.out, HT3.out⟩
      ·clear htt
       go_wp2
       go_ret
       rw [← HQ2.out, ← HQ1.out, sgl_yes (.inl rfl)]
       exact ⟨rfl, m3, D3, lv3, HR.out, HF.out, HT3.out⟩
end
end
section
open Go.RowKit
section
variable {B : Nat} {W w : World} {xb rb mb fb : Nat} {m : MS} {D : Nat → Prop} {s : St} {lv : Value} {lp : List Int}
theorem whileP (g : Nat) (hB : ∀ g', g' < g → QB B W g') (h : PR B W w xb rb mb m D s) (he : s.e = 0) (hf : FrR B w fb rb m D lv 0 lp) (hlp : (lp.length : Int) ≤ s.steps) (f : Fr) (ob b1 b2 : Nat) (va vb : Value) (x : It) (hok : OkX lp x) (hk : x.kind = 119) (h1 : BD D w b1 189 #[va]) (h2 : BD D w b2 189 #[vb]) (ha : Acts (BD D w) m.bk ob va x.a) (hbb : Acts (BD D w) m.bk ob vb x.b) (hW : WordR (BD D w) m.bk ob f.body) (s' : St) (left : Bool)
  (hx : xRun g (jItem f lp x) s = some (s', left)) :
  CallsV (.func (.func 209) #[] #[pt b1, pt b2]) (pt fb) w fun e w' => e = .returned (.int .i64 (sgl left s'.e)) ∧ FPo B W xb rb mb fb w m D lv lp s' w' := by
 refine ⟨_, _, _, rfl, ent_while, ?_⟩
 show Calls Tryz.prog 209 #[pt fb, pt b1, pt b2] w _
 have h0 : Hid (LAt B W g xb rb mb fb w w m D s' f lp lv x left) := ⟨⟨g, m, D, lv, s, Nat.le_refl _, h, he, hf, hlp, FT.refl _ _ _ _ _ _ _ _, hx, fun _ _ _ h => h⟩⟩
 have HB := hide hB
 have Ha := hide ha
 have HW := hide hW
 have H1 := hide h1
 have Hb := hide hbb
 have H2 := hide h2
 obtain ⟨ao, cao, rfl⟩ := ha.form
 obtain ⟨bo, cbo, rfl⟩ := hbb.form
 clear hB h he hf hlp ha hbb hW h1 h2 hx
 go_enter Tryz.func209, Tryz.ntmps209
 go_wp2
 go_loopw [6] (fun _ wr => LAt B W g xb rb mb fb w wr m D s' f lp lv x left) (fun _ wr => (2002 - stOf wr rb).toNat)
 case atStart => exact h0.out
 case round =>
  obtain ⟨g', m1, D1, lv1, s1, hg, hr, he, hf, hlp, hto, hx, kd⟩ := hrel
  have hso := hr.stOf he
  have hs1 := hr.good.s2 he
  cases g' with
  | zero => cases hx
  | succ g' =>
   rw [x_while _ _ _ _ _ hk] at hx
   cases hb : xRun g' (jBody f lp x.a) s1 with
   | none => rw [hb] at hx; cases hx
   | some p =>
    obtain ⟨s2, left2⟩ := p
    rw [hb] at hx
    dsimp only at hx
    have c1 : wr.cell? ⟨b1, 0, none⟩ = some (.slice ao x.a.length cao) := (kd _ _ _ H1.out).2.cell rfl
    have HC := hide (HB.out g' (by omega) wr xb rb mb fb m1 D1 s1 s2 f lp lv1 ob _ x.a left2 hr he hf hlp (hok.ab (by omega)).1 (by rw [hto.bk]; exact Ha.out.mono kd) (by rw [hto.bk]; exact HW.out.mono kd) hb)
    have HKD : Hid (∀ w' m' D' lv', FT xb rb mb fb wr w' m1 m' D1 D' lv1 lv' → (∀ b t c, BD D1 wr b t c → BD D' w' b t c)) := fun w' m' D' lv' ht => hf.keepD hr ht
    have hst := (xRun_keep _ _ _ _ _ hb).2
    have HKd := hide kd
    have HTo := hide hto
    clear hr hf kd hto
    go_wp2_with fail
    refine HC.out.mono ?_
    rintro e w1 ⟨rfl, m2, D2, lv2, hr2, hf2, ht2⟩
    have kd2 := HKD.out _ _ _ _ ht2
    cases left2 with
    | true =>
     rw [if_pos rfl] at hx
     injection hx with hx; injection hx with q1 q2
     subst q1; subst q2
     have HR := hide hr2
     have HF := hide hf2
     have HT := hide (HTo.out.trans ht2)
     clear hr2 hf2 ht2 kd2 hb
     rw [show sig true = 1 from rfl]
     go_wp2
     go_ret
     rw [sgl_yes (.inl rfl)]
     exact ⟨rfl, m2, D2, lv2, HR.out, HF.out, HT.out⟩
    | false =>
     rw [if_neg (by decide)] at hx
     have he2 := body_err _ _ _ _ _ _ he hb
     rw [he2] at hf2
     rw [show sig false = 0 from rfl]
     have HA := hide (askF hr2 he2 hf2)
     have HKD2 : Hid (∀ w' m' D' lv', FT xb rb mb fb w1 w' m2 m' D2 D' lv2 lv' → (∀ b t c, BD D2 w1 b t c → BD D' w' b t c)) := fun w' m' D' lv' ht => hf2.keepD hr2 ht
     have HTo2 := hide (HTo.out.trans ht2)
     have HKd2 : Hid (∀ b t c, BD D w b t c → BD D2 w1 b t c) := fun b t c hh => kd2 b t c (HKd.out b t c hh)
     have hts := s2.test_steps
     have HX := hide hx
     clear hr2 hf2 ht2 kd2 hb hx HKD HC
     go_wp2_with fail
     refine HA.out.mono ?_
     rintro e w2 ⟨rfl, m3, D3, lv3, hr3, hf3, ht3⟩
     have kd3 := HKD2.out _ _ _ _ ht3
     have HT3 := hide (HTo2.out.trans ht3)
     have hx := HX.out
     by_cases hte : s2.test.1.e = 0
     ·rw [if_neg (by simpa using hte)] at hx
      rw [hte, sgl_no]
      cases htt : s2.test.2 with
      | false =>
       rw [htt, if_pos rfl] at hx
       injection hx with hx; injection hx with q1 q2
       have HQ1 := hide q1
       have HQ2 := hide q2
       have HR := hide hr3
       have HF := hide hf3
       have HTE := hide hte
       clear hr3 hf3 ht3 kd3 q1 q2 htt hte HX
       go_wp2
       go_ret
       rw [← HQ2.out, ← HQ1.out, HTE.out, sgl_no]
       exact ⟨rfl, m3, D3, lv3, HR.out, HF.out, HT3.out⟩
      | true =>
       rw [htt, if_neg (by decide)] at hx
       cases hb3 : xRun g' (jBody f lp x.b) s2.test.1 with
       | none => rw [hb3] at hx; cases hx
       | some p3 =>
        obtain ⟨s3, left3⟩ := p3
        rw [hb3] at hx
        dsimp only at hx
        rw [hte] at hf3
        have kdw : ∀ b t c, BD D w b t c → BD D3 w2 b t c := fun b t c hh => kd3 b t c (HKd2.out b t c hh)
        have c2 : w2.cell? ⟨b2, 0, none⟩ = some (.slice bo x.b.length cbo) := (kdw _ _ _ H2.out).2.cell rfl
        have HC3 := hide (HB.out g' (by omega) w2 xb rb mb fb m3 D3 s2.test.1 s3 f lp lv3 ob _ x.b left3 hr3 hte hf3 (by omega) (hok.ab (by omega)).2 (by rw [HT3.out.bk]; exact Hb.out.mono kdw) (by rw [HT3.out.bk]; exact HW.out.mono kdw) hb3)
        have HKD3 : Hid (∀ w' m' D' lv', FT xb rb mb fb w2 w' m3 m' D3 D' lv3 lv' → (∀ b t c, BD D3 w2 b t c → BD D' w' b t c)) := fun w' m' D' lv' ht => hf3.keepD hr3 ht
        have hst3 := (xRun_keep _ _ _ _ _ hb3).2
        have HKw := hide kdw
        clear hr3 hf3 ht3 kd3 kdw htt HX
        go_wp2_with fail
        refine HC3.out.mono ?_
        rintro e w3 ⟨rfl, m4, D4, lv4, hr4, hf4, ht4⟩
        have kd4 := HKD3.out _ _ _ _ ht4
        have HT4 := hide (HT3.out.trans ht4)
        cases left3 with
        | true =>
         rw [if_pos rfl] at hx
         injection hx with hx; injection hx with q1 q2
         subst q1; subst q2
         have HR := hide hr4
         have HF := hide hf4
         clear hr4 hf4 ht4 kd4 hb3
         rw [show sig true = 1 from rfl]
         go_wp2
         go_ret
         rw [sgl_yes (.inl rfl)]
         exact ⟨rfl, m4, D4, lv4, HR.out, HF.out, HT4.out⟩
        | false =>
         rw [if_neg (by decide)] at hx
         have he4 := body_err _ _ _ _ _ _ hte hb3
         have hso4 := hr4.stOf he4
         have hs4 := hr4.good.s2 he4
         rw [he4] at hf4
         rw [show sig false = 0 from rfl]
         have HN : Hid (LAt B W g xb rb mb fb w w3 m D s' f lp lv x left) := ⟨⟨g', m4, D4, lv4, s3, by omega, hr4, he4, hf4, by omega, HT4.out, hx, fun b t c hh => kd4 b t c (HKw.out b t c hh)⟩⟩
         clear hr4 hf4 ht4 kd4 hb3 hx
         go_wp2
         go_roundw
         case rel => exact HN.out
         case measure => rw [hso, hso4]; omega
     ·rw [if_pos hte] at hx
      injection hx with hx; injection hx with q1 q2
      rw [sgl_yes (.inr hte)]
      have HQ1 := hide q1
      have HQ2 := hide q2
      have HR := hide hr3
      have HF := hide hf3
      clear hr3 hf3 ht3 kd3 q1 q2 hte HX
      cases htt : s2.test.2
      ·clear htt
       go_wp2
       go_ret
       rw [← HQ2.out, ← HQ1.out, sgl_yes (.inl rfl)]
       exact ⟨rfl, m3, D3, lv3, HR.out, HF.out, HT3.out⟩
      ·clear htt
       go_wp2
       go_ret
       rw [← HQ2.out, ← HQ1.out, sgl_yes (.inl rfl)]
       exact ⟨rfl, m3, D3, lv3, HR.out, HF.out, HT3.out⟩
end
end
section
open Go.RowKit
section
variable {P : Program} (w : World)
theorem Blk.setRow {w : World} {b : Nat} {t : TypeId} {c : Array Value} (h : Blk w b t c) (c' : Array Value) : Blk (w.setRow b c') b t c' := by
 have hlt := h.lt
 unfold Blk at h ⊢
 have h' : w.heap[b] = .cells c t (0, 0) := by simpa [Array.getElem?_eq_getElem hlt] using h
 show (w.heap.modify b _)[b]? = _
 rw [Array.getElem?_eq_getElem (by simpa using hlt), Array.getElem_modify_self, h']
theorem run_append_keep (t ty e : TypeId) (i : TypeInfo) (z : Value) (size bytes : Nat) (ht : P.underlying t = some (.slice e)) (hi : P.info? e = some i) (hz : i.zero = some z)
  (hsize : i.size = size) (hby : i.bytes = bytes) (hzs : z.cells.size = size) (hsz : 0 < size)
  (v : Value) (n : Nat) (xs : List Value) (hown : w.ownsRow 0 e size v n xs)
  (a : Addr) (m c : Nat) (news : List Value) (hl : news.length = m * size) (hnews : ∀ j u, news[j]? = some u → w.cell? (a.add j) = some u) (h1 : ∀ u ∈ news, u.oneCell' = true)
  (h63 : n + m ≤ maxLen) (hbytes : (n + m) * bytes ≤ 140737488355328) :
  ∃ v' w', (Builtin.append_ #[t, t] ty #[v, .slice (some a) m c]).run P w = .ok v' w' ∧ w'.ownsRow 0 e size v' (n + m) (xs ++ news) ∧ w.grownBy w' v.ownBlock ∧
   ((∀ k, own v' k → own v k ∨ w.heap.size ≤ k) ∧ w'.ownsRow 0 e size v n xs ∧ (∀ (q j : Nat) (u : Value), w.cell? ⟨q, j, none⟩ = some u → w'.cell? ⟨q, j, none⟩ = some u ∨ ∃ x ∈ news, w'.cell? ⟨q, j, none⟩ = some x)) := by
 obtain ⟨v', w', hr, ho, hg, hn⟩ := run_append_to (P := P) w t ty e i z size bytes ht hi hz hsize hby hzs hsz v n xs hown a m c news hl hnews h1 h63 hbytes
 have same : ∀ (q j : Nat) (u : Value), v.ownBlock ≠ some q → w.cell? ⟨q, j, none⟩ = some u → w'.cell? ⟨q, j, none⟩ = some u := by
  intro q j u hq hc
  have hlt : q < w.heap.size := by
   rcases Nat.lt_or_ge q w.heap.size with h | h
   ·exact h
   ·unfold World.cell? at hc; rw [Array.getElem?_eq_none h] at hc; cases hc
  have e := hg.block q hlt (fun h => hq h.symm)
  unfold World.cell? at hc ⊢
  rw [e]; exact hc
 refine ⟨v', w', hr, ho, hg, hn, ?_⟩
 have hlx := hown.1
 rcases hown.2 with ⟨rfl, rfl⟩ | ⟨g, cap, cur, rfl, hbg, hgg, hnc, hcm, hcs, htake⟩
 ·exact ⟨⟨hlx, .inl ⟨rfl, rfl⟩⟩, fun q j u hc => .inl (same q j u (by simp [Value.ownBlock]) hc)⟩
 ·by_cases hroom : n + m ≤ cap
  ·have hfit : n * i.size + news.length ≤ cur.size := by rw [hl, hcs, hsize, ← Nat.add_mul]; exact Nat.mul_le_mul_right _ hroom
   have hr2 := run_append_room (P := P) w t ty e i ht hi g n cap cur hgg a m c news (by rw [hsize]; exact hl) hnews h1 hroom hfit
   rw [hr] at hr2; injection hr2 with e1 e2; subst e1
   rcases ho.2 with ⟨hv, _⟩ | ⟨g', cap', cur', hv, _, hgg', _, _, hcs', htk'⟩
   ·cases hv
   ·injection hv with q1 q2 q3
    injection q1 with q1
    injection q1 with q1
    subst q1
    subst q3
    refine ⟨⟨hlx, .inr ⟨g, cap, cur', rfl, hbg, hgg', hnc, hcm, hcs', ?_⟩⟩, fun q j u hc => ?_⟩
    rotate_left
    ·by_cases hq : q = g
     ·subst hq
      have hb : Blk w q e cur := hgg
      have hc0 : cur[j]? = some u := by unfold World.cell? at hc; rw [hgg] at hc; simpa using hc
      have hb' : Blk w' q e (cur.toList.take (n * i.size) ++ news ++ cur.toList.drop (n * i.size + news.length)).toArray := by
       rw [e2]; exact Blk.setRow hb _
      have hjl : j < cur.size := by
       rcases Nat.lt_or_ge j cur.size with h | h
       ·exact h
       ·rw [Array.getElem?_eq_none h] at hc0; cases hc0
      have hln : (cur.toList.take (n * i.size)).length = n * i.size := by simp; omega
      by_cases h2 : j < n * i.size
      ·left
       refine hb'.cell ?_
       rw [List.getElem?_toArray, List.append_assoc, List.getElem?_append_left (by omega), List.getElem?_take_of_lt h2]; simpa using hc0
      ·by_cases h3 : j < n * i.size + news.length
       ·right
        refine ⟨news[j - n * i.size]'(by omega), List.getElem_mem _, hb'.cell ?_⟩
        rw [List.getElem?_toArray, List.append_assoc, List.getElem?_append_right (by omega), hln, List.getElem?_append_left (by omega), List.getElem?_eq_getElem]
       ·left
        refine hb'.cell ?_
        rw [List.getElem?_toArray, List.getElem?_append_right (by simp; omega), List.getElem?_drop]
        have : n * i.size + news.length + (j - (cur.toList.take (n * i.size) ++ news).length) = j := by simp only [List.length_append, hln]; omega
        rw [this]; simpa using hc0
     ·exact .inl (same q j u (by simp [Value.ownBlock]; omega) hc)
    have h2 : (cur'.toList.take ((n + m) * size)).take (n * size) = (xs ++ news).take (n * size) := by rw [htk']
    have h3 : (xs ++ news).take (n * size) = xs := by rw [← hlx]; simp
    rw [List.take_take, Nat.min_eq_left (Nat.mul_le_mul_right _ (by omega)), h3] at h2
    exact h2
  ·subst hsize; subst hby
   have holds : ∀ j u, xs[j]? = some u → w.cell? ((⟨g, 0, none⟩ : Addr).add j) = some u := hown.cells (g := g) rfl
   have hr2 := run_append_grow (P := P) w t ty e i z ht hi hz ⟨g, 0, none⟩ n cap xs hown.1 holds a m c news hl hnews (by omega) (by simp only [maxLen] at h63; omega) (growslice_fits (by omega) hbytes)
   rw [hr] at hr2; injection hr2 with e1 e2; subst e2
   refine ⟨(World.ownsRow.alloc (w := w.drew) hown _), fun q j u hc => .inl ?_⟩
   have hlt : q < w.heap.size := by
    rcases Nat.lt_or_ge q w.heap.size with h | h
    ·exact h
    ·unfold World.cell? at hc; rw [Array.getElem?_eq_none h] at hc; cases hc
   have e := Below.heap_alloc w.drew (.cells (xs.toArray ++ news.toArray ++ Builtin.zeroCells z.cells (grownCap w (n + m) cap e - (n + m))) e) q hlt
   unfold World.cell? at hc ⊢
   rw [e]; exact hc
theorem wp_append_keep {o : Oper} {a : Act} {K : Act → World → Prop} {Q : Exit → Act → World → Prop} (s x : Operand) (t : TypeId)
  (ho : o.op = .call { callee := .builtin .append, args := #[s, x], argTypes := #[t, t] })
  (e : TypeId) (i : TypeInfo) (z : Value) (size bytes : Nat) (ht : P.underlying t = some (.slice e)) (hi : P.info? e = some i) (hz : i.zero = some z)
  (hsize : i.size = size) (hby : i.bytes = bytes) (hzs : z.cells.size = size) (hsz : 0 < size)
  (v : Value) (n : Nat) (xs : List Value) (hs : a.eval s = v) (hown : w.ownsRow 0 e size v n xs)
  (ad : Addr) (m c : Nat) (news : List Value) (hx : a.eval x = .slice (some ad) m c) (hl : news.length = m * size) (hnews : ∀ j u, news[j]? = some u → w.cell? (ad.add j) = some u) (h1 : ∀ u ∈ news, u.oneCell' = true)
  (h63 : n + m ≤ maxLen) (hbytes : (n + m) * bytes ≤ 140737488355328)
  (h : ∀ v' w', w'.ownsRow 0 e size v' (n + m) (xs ++ news) → w.grownBy w' v.ownBlock → ((∀ k, own v' k → own v k ∨ w.heap.size ≤ k) ∧ w'.ownsRow 0 e size v n xs ∧ (∀ (q j : Nat) (u : Value), w.cell? ⟨q, j, none⟩ = some u → w'.cell? ⟨q, j, none⟩ = some u ∨ ∃ x ∈ news, w'.cell? ⟨q, j, none⟩ = some x)) → K (a.put o.dst v') w') : o.wp P a w K Q := by
 obtain ⟨v', w', hr, h2, h3, h4⟩ := run_append_keep (P := P) w t o.type e i z size bytes ht hi hz hsize hby hzs hsz v n xs hown ad m c news hl hnews h1 h63 hbytes
 unfold Oper.wp execOp
 simp only [ho, resolve, invoke, builtin, Sem.run_bind, Sem.run_pure, Result.andThen_ok, List.map_toArray, List.map_cons, List.map_nil, hs, hx, hr]
 exact h v' w' h2 h3 h4
theorem wpList_append_keep {ops : Array Oper} {rest : List Oper} {o : Oper} {a : Act} {Q : Exit → Act → World → Prop} (hgd : o.guard = none) (s x : Operand) (t : TypeId)
  (ho : o.op = .call { callee := .builtin .append, args := #[s, x], argTypes := #[t, t] })
  (e : TypeId) (i : TypeInfo) (z : Value) (size bytes : Nat) (ht : P.underlying t = some (.slice e)) (hi : P.info? e = some i) (hz : i.zero = some z)
  (hsize : i.size = size) (hby : i.bytes = bytes) (hzs : z.cells.size = size) (hsz : 0 < size)
  (v : Value) (n : Nat) (xs : List Value) (hs : a.eval s = v) (hown : w.ownsRow 0 e size v n xs)
  (ad : Addr) (m c : Nat) (news : List Value) (hx : a.eval x = .slice (some ad) m c) (hl : news.length = m * size) (hnews : ∀ j u, news[j]? = some u → w.cell? (ad.add j) = some u) (h1 : ∀ u ∈ news, u.oneCell' = true)
  (h63 : n + m ≤ maxLen) (hbytes : (n + m) * bytes ≤ 140737488355328)
  (h : ∀ v' w', w'.ownsRow 0 e size v' (n + m) (xs ++ news) → w.grownBy w' v.ownBlock → ((∀ k, own v' k → own v k ∨ w.heap.size ≤ k) ∧ w'.ownsRow 0 e size v n xs ∧ (∀ (q j : Nat) (u : Value), w.cell? ⟨q, j, none⟩ = some u → w'.cell? ⟨q, j, none⟩ = some u ∨ ∃ x ∈ news, w'.cell? ⟨q, j, none⟩ = some x)) → wpList P ops Q rest (a.put o.dst v') w') : wpList P ops Q (o :: rest) a w :=
 wpList_plain hgd fun _ hK => wp_append_keep w s x t ho e i z size bytes ht hi hz hsize hby hzs hsz v n xs hs hown ad m c news hx hl hnews h1 h63 hbytes fun v' w' h2 h3 h4 => hK _ _ (h v' w' h2 h3 h4)
end
end
end Go.Proofs.YtldifaahmpecfaaGreatDoor
