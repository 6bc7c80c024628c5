import Derived.Test.YtldifaahmpecfaaGreatDoorV31
import Derived.Test.YtldifaahmpecfaaGreatDoorV23
import Derived.Test.YtldifaahmpecfaaGreatDoorV29
namespace Go.Proofs.YtldifaahmpecfaaGreatDoor
set_option maxRecDepth 1000000
set_option maxHeartbeats 4000000
set_option linter.all false
section
open Go.RowKit
structure Env (B : Nat) (W : World) : Prop where
 glo : Glo B W
 sp : SpAt W
 b1 : 1 < B
theorem Env.at {B : Nat} {W w : World} {xb rb mb : Nat} {m : MS} {D : Nat → Prop} {s : St} (h : Env B W) (hp : PR B W w xb rb mb m D s) : SpAt w := by
 obtain ⟨tt, fr, hx⟩ := h.sp
 exact ⟨tt, fr, (hp.safe.bel.block 1 h.b1).trans hx⟩
def FPo (B : Nat) (W : World) (xb rb mb fb : Nat) (w : World) (m : MS) (D : Nat → Prop) (lv : Value) (lp : List Int) (s' : St) (w' : World) : Prop :=
 ∃ m' D' lv', PR B W w' xb rb mb m' D' s' ∧ FrR B w' fb rb m' D' lv' s'.e lp ∧ FT xb rb mb fb w w' m m' D D' lv lv'
theorem FPo.step {B : Nat} {W : World} {xb rb mb fb : Nat} {w w1 w2 : World} {m m1 : MS} {D D1 : Nat → Prop} {lv lv1 : Value} {lp : List Int} {s' : St} (ht : FT xb rb mb fb w w1 m m1 D D1 lv lv1) (h : FPo B W xb rb mb fb w1 m1 D1 lv1 lp s' w2) : FPo B W xb rb mb fb w m D lv lp s' w2 := by
 obtain ⟨m', D', lv', h1, h2, h3⟩ := h; exact ⟨m', D', lv', h1, h2, ht.trans h3⟩
theorem FrR.keepD {B : Nat} {W w w' : World} {xb rb mb fb : Nat} {m m' : MS} {D D' : Nat → Prop} {s : St} {lv lv' : Value} {why : Int} {lp : List Int} (h : PR B W w xb rb mb m D s) (hf : FrR B w fb rb m D lv why lp) (ht : FT xb rb mb fb w w' m m' D D' lv lv') : ∀ b t c, BD D w b t c → BD D' w' b t c := by
 intro b t c hb
 obtain ⟨_, h1, h2, h3, h4⟩ := h.sep b hb.1
 refine ⟨ht.up b hb.1, ht.wt.kp.blk hb.2 ?_⟩
 rintro ((((e | e) | e) | e) | ((e | e) | e))
 ·exact h1 e
 ·exact h2 e
 ·exact h.words.ne hb.2 e.symm
 ·exact hf.nd (e ▸ hb.1)
 ·exact h3 e
 ·exact h4 e
 ·exact hf.nl b e hb.1
def OkL (lp : List Int) (l : List It) : Prop := ∃ G lo, wb (fun _ => True) G lo l ∧ (lo = true → lp ≠ [])
def OkX (lp : List Int) (x : It) : Prop := ∃ G lo, okIt (fun _ => True) (wb (fun _ => True) G) lo x ∧ (lo = true → lp ≠ [])
theorem OkL.mem {lp : List Int} {l : List It} (h : OkL lp l) {x : It} (hx : x ∈ l) : OkX lp x := by
 obtain ⟨G, lo, h1, h2⟩ := h
 cases G with
 | zero => have h1 : l = [] := h1; subst h1; cases hx
 | succ G => exact ⟨G, lo, h1 x hx, h2⟩
theorem OkX.ab {lp : List Int} {x : It} (h : OkX lp x) (hk : x.kind = 63 ∨ x.kind = 117 ∨ x.kind = 119) : OkL lp x.a ∧ OkL lp x.b := by
 obtain ⟨G, lo, h1, h2⟩ := h
 rcases h1 with ⟨q, _⟩ | ⟨_, q1, q2⟩ | ⟨q, _⟩
 ·exfalso; omega
 ·exact ⟨⟨G, lo, q1, h2⟩, ⟨G, lo, q2, h2⟩⟩
 ·exfalso; omega
theorem OkX.body {lp : List Int} {x : It} (h : OkX lp x) (hk : x.kind = 100) (n : Int) : OkL (n :: lp) x.a := by
 obtain ⟨G, lo, h1, h2⟩ := h
 rcases h1 with ⟨q, _⟩ | ⟨q, _⟩ | ⟨_, q1, _⟩
 ·exfalso; omega
 ·exfalso; omega
 ·exact ⟨G, true, q1, fun _ => by simp⟩
theorem OkX.idx {lp : List Int} {x : It} (h : OkX lp x) (hk : x.kind = 105) : lp ≠ [] := by
 obtain ⟨G, lo, h1, h2⟩ := h
 rcases h1 with ⟨q, _⟩ | ⟨q, _⟩ | ⟨q, _⟩
 ·rcases q with q | q | q | q | q | q | q
  all_goals first
   | exact h2 q.2
   | (exfalso; omega)
 ·exfalso; omega
 ·exfalso; omega
def QB (B : Nat) (W : World) (g : Nat) : Prop := ∀ (w : World) (xb rb mb fb : Nat) (m : MS) (D : Nat → Prop) (s s' : St) (f : Fr) (lp : List Int) (lv : Value) (ob : Nat) (v : Value) (l : List It) (left : Bool), PR B W w xb rb mb m D s → s.e = 0 → FrR B w fb rb m D lv 0 lp → (lp.length : Int) ≤ s.steps → OkL lp l → Acts (BD D w) m.bk ob v l → WordR (BD D w) m.bk ob f.body →
 xRun g (jBody f lp l) s = some (s', left) → Calls Tryz.prog 140 #[pt fb, v] w fun e w' => e = .returned (.int .i64 (sig left)) ∧ FPo B W xb rb mb fb w m D lv lp s' w'
def QI (B : Nat) (W : World) (g : Nat) : Prop := ∀ (w : World) (xb rb mb fb : Nat) (m : MS) (D : Nat → Prop) (s s' : St) (f : Fr) (lp : List Int) (lv : Value) (ob : Nat) (c : Value) (x : It) (left : Bool), PR B W w xb rb mb m D s → s.e = 0 → FrR B w fb rb m D lv 0 lp → (lp.length : Int) ≤ s.steps → OkX lp x → actR (BD D w) m.bk ob (Acts (BD D w) m.bk ob) x c → WordR (BD D w) m.bk ob f.body →
 xRun g (jItem f lp x) s = some (s', left) → CallsV c (pt fb) w fun e w' => e = .returned (.int .i64 (sgl left s'.e)) ∧ FPo B W xb rb mb fb w m D lv lp s' w'
def QW (B : Nat) (W : World) (g : Nat) : Prop := ∀ (w : World) (xb rb mb : Nat) (m : MS) (D : Nat → Prop) (s s' : St) (f : Fr) (ob : Nat) (left : Bool), PR B W w xb rb mb m D s → s.e = 0 → WordR (BD D w) m.bk ob f.body →
 xRun g (jBody f [] f.body) s = some (s', left) → Calls Tryz.prog 112 #[pt ob, pt rb] w fun e w' => e = .returned (.int .i64 s'.e) ∧ PPost B W xb rb mb w m D s' w'
def QT (B : Nat) (W : World) (g : Nat) : Prop := ∀ (w : World) (xb rb mb : Nat) (m : MS) (D : Nat → Prop) (s s' : St) (v : Value) (ws : List ByteArray) (left : Bool), PR B W w xb rb mb m D s → s.e = 0 → TokAt (Blk w) v ws → (∀ t ∈ ws, okW t) → ws.length ≤ 1000 →
 xRun g (jToks (texts ws)) s = some (s', left) → Calls Tryz.prog 39 #[pt m.bk, pt rb, v] w fun e w' => e = .returned (.int .i64 s'.e) ∧ PPost B W xb rb mb w m D s' w'
structure BAt (B : Nat) (W : World) (g xb rb mb fb : Nat) (w wr : World) (m : MS) (D : Nat → Prop) (s' : St) (f : Fr) (lp : List Int) (lv : Value) (ob : Nat) (v : Value) (l : List It) (left : Bool) (k : Nat) : Prop where
 ex : ∃ g' m1 D1 lv1 s1, g' ≤ g ∧ PR B W wr xb rb mb m1 D1 s1 ∧ s1.e = 0 ∧ FrR B wr fb rb m1 D1 lv1 0 lp ∧ (lp.length : Int) ≤ s1.steps ∧ FT xb rb mb fb w wr m m1 D D1 lv lv1 ∧ Acts (BD D1 wr) m1.bk ob v l ∧ WordR (BD D1 wr) m1.bk ob f.body ∧ xRun g' (jBody f lp (l.drop k)) s1 = some (s', left)
theorem runAllX {B : Nat} {W : World} (g : Nat) (hI : ∀ g', g' < g → QI B W g') : QB B W g := by
 intro w xb rb mb fb m D s s' f lp lv ob v l left hr he hf hlp hok hA hW hx
 have h0 : Hid (BAt B W g xb rb mb fb w w m D s' f lp lv ob v l left 0) := ⟨⟨g, m, D, lv, s, Nat.le_refl _, hr, he, hf, hlp, FT.refl _ _ _ _ _ _ _ _, hA, hW, hx⟩⟩
 obtain ⟨ao, cap, rfl⟩ := hA.form
 obtain ⟨cs, hrow, hcs⟩ := hA.out
 have hll : l.length ≤ 9223372036854775807 := by have := row_slice_len hrow.row; rw [actsL_len _ _ hcs] at this; exact this
 have HI := hide hI
 have HOK := hide hok
 clear hr he hf hlp hA hW hx hrow hI hcs hok
 go_enter Tryz.func140, Tryz.ntmps140
 go_wp2
 go_loopw [9] (fun i wr => ∃ k : Nat, k ≤ l.length ∧ i = .int .i64 k ∧ BAt B W g xb rb mb fb w wr m D s' f lp lv ob (.slice ao l.length cap) l left k) (fun i _ => l.length - (intOf i).toNat)
 case atStart => exact ⟨0, Nat.zero_le _, rfl, h0.out⟩
 case round =>
  obtain ⟨k, hk, rfl, ⟨g', m1, D1, lv1, s1, hg, hr, he, hf, hlp, hto, hA, hW, hx⟩⟩ := hrel
  by_cases hlt : k < l.length
  ·obtain ⟨cs, hrow, hcs⟩ := hA.out
   have hcl := actsL_len _ _ hcs
   obtain ⟨c, hc, hact⟩ := actsL_at _ _ hcs k hlt
   obtain ⟨gd, cap', hv, hcell⟩ := row_cell hrow.row (by omega)
   injection hv with e1 e2 e3
   subst e1
   clear e2 e3
   have c0 := hcell _ _ hc
   clear hcell hc hrow hcs hcl
   rw [List.drop_eq_getElem_cons hlt] at hx
   cases g' with
   | zero => cases hx
   | succ g' =>
    rw [x_cons] at hx
    split at hx
    ·cases hx
    ·rename_i s2 left2 hx1
     obtain ⟨fn, ff, fc, rfl, hen, hcall⟩ := HI.out g' (by omega) wr xb rb mb fb m1 D1 s1 s2 f lp lv1 ob c l[k] left2 hr he hf hlp (HOK.out.mem (List.getElem_mem hlt)) hact hW hx1
     unfold Ents at hen
     have HC := hide hcall
     have hst := (xRun_keep _ _ _ _ _ hx1).2
     have HKD : Hid (∀ w' m' D' lv', FT xb rb mb fb wr w' m1 m' D1 D' lv1 lv' → (∀ b t c, BD D1 wr b t c → BD D' w' b t c)) := fun w' m' D' lv' ht => hf.keepD hr ht
     have HAA := hide hA
     have HWW := hide hW
     clear hcall hact hA hW hr hf
     go_wp2_with fail
     refine HC.out.mono ?_
     rintro e w1 ⟨rfl, m2, D2, lv2, hr2, hf2, hto2⟩
     have hkd := HKD.out w1 m2 D2 lv2 hto2
     have HA2 : Hid (Acts (BD D2 w1) m2.bk ob (.slice (some ⟨gd, 0, none⟩) l.length cap) l) := by rw [hto2.bk]; exact HAA.out.mono hkd
     have HW2 : Hid (WordR (BD D2 w1) m2.bk ob f.body) := by rw [hto2.bk]; exact HWW.out.mono hkd
     have HR2 := hide hr2
     have HF2 := hide hf2
     have HT2 := hide (hto.trans hto2)
     clear hkd hr2 hf2 hto2 hto c0 HC hx1 hen
     by_cases hl2 : left2 = true ∨ s2.e ≠ 0
     ·rw [if_pos hl2] at hx
      injection hx with hx
      injection hx with hx1 hx2
      subst hx1
      subst hx2
      rw [sgl_yes hl2]
      clear hl2
      go_wp2
      go_ret
      exact ⟨rfl, m2, D2, lv2, HR2.out, HF2.out, HT2.out⟩
     ·rw [if_neg hl2] at hx
      have hn := not_or.1 hl2
      have hl : left2 = false := by simpa using hn.1
      have he2 : s2.e = 0 := by simpa using hn.2
      rw [hl, he2, sgl_no]
      have HX := hide hx
      clear hx hl2 hn hl
      go_wp2
      go_roundw
      case rel => exact ⟨k + 1, by omega, by go_num, ⟨⟨g', m2, D2, lv2, s2, by omega, HR2.out, he2, by have := HF2.out; rw [he2] at this; exact this, by omega, HT2.out, HA2.out, HW2.out, HX.out⟩⟩⟩
      case measure => simp [intOf]; omega
  ·rw [List.drop_of_length_le (by omega)] at hx
   cases g' with
   | zero => cases hx
   | succ g' =>
    rw [x_nil] at hx
    injection hx with hx
    injection hx with hx1 hx2
    subst hx1
    subst hx2
    go_wp2
    go_ret
    exact ⟨rfl, m1, D1, lv1, hr, by rw [he]; exact hf, hto⟩
end
section
open Go.RowKit
theorem ent_step : Ents 204 := ents_of Tryz.func204 (by kernel_rfl) (by kernel_rfl)
theorem ent_deep : Ents 139 := ents_of Tryz.func139 (by kernel_rfl) (by kernel_rfl)
theorem ent_run : Ents 112 := ents_of Tryz.func112 (by kernel_rfl) (by kernel_rfl)
theorem ent_callf : Ents 111 := ents_of Tryz.func111 (by kernel_rfl) (by kernel_rfl)
theorem ent_brf : Ents 213 := ents_of Tryz.func213 (by kernel_rfl) (by kernel_rfl)
theorem ent_choose : Ents 206 := ents_of Tryz.func206 (by kernel_rfl) (by kernel_rfl)
theorem ent_until : Ents 208 := ents_of Tryz.func208 (by kernel_rfl) (by kernel_rfl)
theorem ent_while : Ents 209 := ents_of Tryz.func209 (by kernel_rfl) (by kernel_rfl)
theorem ent_count : Ents 210 := ents_of Tryz.func210 (by kernel_rfl) (by kernel_rfl)
theorem ent_idx : Ents 191 := ents_of Tryz.func191 (by kernel_rfl) (by kernel_rfl)
theorem ent_exit : Ents 193 := ents_of Tryz.func193 (by kernel_rfl) (by kernel_rfl)
theorem ent_nothing : Ents 214 := ents_of Tryz.func214 (by kernel_rfl) (by kernel_rfl)
section
variable {B : Nat} {W w : World} {xb rb mb fb : Nat} {m : MS} {D : Nat → Prop} {s : St} {lv : Value} {lp : List Int}
theorem FPo.heed {w1 : World} {s' : St} (h : PR B W w xb rb mb m D s) (hf : FrR B w fb rb m D lv 0 lp) (hp : PPost B W xb rb mb w m D s' w1) : FPo B W xb rb mb fb w m D lv lp s' (w1.setCell ⟨fb, 2, none⟩ (.int .i64 s'.e)) ∧ ∃ y, Blk w1 fb 197 #[pt rb, lv, .int .i64 y] := by
 obtain ⟨m', D', h1, h2⟩ := hp
 obtain ⟨h3, h4⟩ := hf.sto h h2
 obtain ⟨h5, h6, h7⟩ := h3.setWhy h1 s'.e
 exact ⟨⟨m', D', lv, h5, h6, h4.trans h7⟩, _, h3.blk⟩
theorem stepItem (h : PR B W w xb rb mb m D s) (he : s.e = 0) (hf : FrR B w fb rb m D lv 0 lp) (ab n : Nat) (ff fc : Array Value) (hb : BD D w ab 121 #[.func (.func n) ff fc]) (s2 s' : St) (hs' : s' = if s.step.e = 0 then s2 else s.step)
  (hact : s.step.e = 0 → ∀ w1 m1, PR B W w1 xb rb mb m1 D s.step → PTo xb rb mb w w1 m m1 D D → CallsV (.func (.func n) ff fc) (pt rb) w1 fun e w' => e = .returned (.int .i64 s2.e) ∧ PPost B W xb rb mb w1 m1 D s2 w') :
  CallsV (fStep ab) (pt fb) w fun e w' => e = .returned (.int .i64 (sgl false s'.e)) ∧ FPo B W xb rb mb fb w m D lv lp s' w' := by
 refine ⟨_, _, _, rfl, ent_step, ?_⟩
 have c0 : w.cell? ⟨fb, 0, none⟩ = some (pt rb) := hf.blk.cell rfl
 have c1 : w.cell? ⟨ab, 0, none⟩ = some (.func (.func n) ff fc) := hb.2.cell rfl
 have hne : ¬ ab = fb := by rintro rfl; exact absurd (hb.2.inj hf.blk).1 (by decide)
 have HS : Hid (∀ w0, Kp w w0 (fun _ => False) → Calls Tryz.prog 61 #[pt rb, .func (.func n) ff fc] w0 fun e w' => e = .returned (.int .i64 s'.e) ∧ PPost B W xb rb mb w m D s' w') := by
  intro w0 hk
  obtain ⟨h0, t0⟩ := h.kp hk
  refine (stepP h0 he (.func (.func n) ff fc) s2 s' hs' (fun e w1 m1 p1 t1 => hact e w1 m1 p1 (t0.trans t1))).mono ?_
  rintro e w' ⟨rfl, hp⟩
  exact ⟨rfl, hp.step t0⟩
 have HF : Hid (∀ w1, PPost B W xb rb mb w m D s' w1 → FPo B W xb rb mb fb w m D lv lp s' (w1.setCell ⟨fb, 2, none⟩ (.int .i64 s'.e)) ∧ (∃ y, Blk w1 fb 197 #[pt rb, lv, .int .i64 y]) ∧ Blk w1 ab 121 #[.func (.func n) ff fc]) := by
  intro w1 hp
  obtain ⟨h1, h2⟩ := FPo.heed h hf hp
  obtain ⟨m', D', h3, h4⟩ := hp
  exact ⟨h1, h2, (h.keepD h4 _ _ _ hb).2⟩
 clear h he hf hb hs' hact
 show Calls Tryz.prog 204 #[pt fb, pt ab] w _
 go_enter Tryz.func204, Tryz.ntmps204
 go_wp2
 go_region_held3 (fun w' => w'.cell? ⟨fb, 0, none⟩ = some (pt rb) ∧ w'.cell? ⟨ab, 0, none⟩ = some (.func (.func n) ff fc)) (go_keep) (first
  | (go_at_call 61; refine (HS.out _ ?_).mono ?_; exact (Kp.refl _ _).drew; rintro e w1 ⟨rfl, hp⟩; obtain ⟨h1, ⟨y, h2⟩, h3⟩ := HF.out w1 hp; have h4 : w1.cell? ⟨fb, 0, none⟩ = some (pt rb) := h2.cell rfl; have h5 : w1.cell? ⟨ab, 0, none⟩ = some (.func (.func n) ff fc) := h3.cell rfl; have H1 := hide h1; have H2 := hide h2; have H3 := hide h3; clear h1 hp h2 h3)
  | (go_at_call 205; refine (heedM _ fb s'.e _ _ _ H2.out).mono ?_; rintro e w2 ⟨rfl, rfl⟩; have k0 : (w1.setCell ⟨fb, 2, none⟩ (.int .i64 s'.e)).cell? ⟨fb, 0, none⟩ = some (pt rb) := (H2.out.set 2 _).cell rfl; have k1 : (w1.setCell ⟨fb, 2, none⟩ (.int .i64 s'.e)).cell? ⟨ab, 0, none⟩ = some (.func (.func n) ff fc) := (H3.out.setOther (a := ⟨fb, 2, none⟩) hne _).cell rfl))
 go_wp2
 go_ret
 exact ⟨rfl, H1.out⟩
end
end
section
open Go.RowKit
section
variable {B : Nat} {W w : World} {xb rb mb : Nat} {m : MS} {D : Nat → Prop} {s : St}
theorem PR.setDp (h : PR B W w xb rb mb m D s) (n : Int) (h0 : 0 ≤ n) (h1 : n ≤ 20) : PR B W (w.setCell ⟨rb, 3, none⟩ (.int .i64 n)) xb rb mb { m with dp := n } D { s with depth := n } ∧ PTo xb rb mb w (w.setCell ⟨rb, 3, none⟩ (.int .i64 n)) m { m with dp := n } D D := by
 obtain ⟨ns, hi, hn⟩ := h.inv
 obtain ⟨h2, h3⟩ := hi.setDp n
 exact h.turn (s' := { s with depth := n }) h3 rfl ⟨ns, h2, hn⟩ h.mem h.out h.st0 h.st1 h.st rfl rfl (h.good.dep h0 h1)
theorem PR.toErr (h : PR B W w xb rb mb m D s) (k : Int) (hk : k ≠ 0) : PR B W w xb rb mb m D (s.err k) := by
 obtain ⟨ns, hi, hn⟩ := h.inv
 exact (h.turn (s' := s.err k) (To.refl _ _ _) rfl ⟨ns, hi, fun e => absurd e hk⟩ h.mem h.out h.st0 h.st1 (fun e => absurd e hk) h.dp rfl (h.good.err hk)).1
def deeper (s : St) (s2 : St) : St := if 20 ≤ s.depth then s.err 8 else { s2 with depth := s2.depth - 1 }
theorem deepP (h : PR B W w xb rb mb m D s) (db n : Nat) (ff fc : Array Value) (hb : BD D w db 121 #[.func (.func n) ff fc]) (s2 : St)
  (hact : ¬ 20 ≤ s.depth → s2.depth = s.depth + 1 ∧ ∀ w1 m1, PR B W w1 xb rb mb m1 D { s with depth := s.depth + 1 } → PTo xb rb mb w w1 m m1 D D → CallsV (.func (.func n) ff fc) (pt rb) w1 fun e w' => e = .returned (.int .i64 s2.e) ∧ PPost B W xb rb mb w1 m1 D s2 w') :
  CallsV (fDeep db) (pt rb) w fun e w' => e = .returned (.int .i64 (deeper s s2).e) ∧ PPost B W xb rb mb w m D (deeper s s2) w' := by
 refine ⟨_, _, _, rfl, ent_deep, ?_⟩
 show Calls Tryz.prog 139 #[pt rb, pt db] w _
 obtain ⟨ns, hi, hn⟩ := h.inv
 have hd0 := h.good.d0
 have hd1 := h.good.d1
 have cd : w.cell? ⟨rb, 3, none⟩ = some (.int .i64 s.depth) := by rw [← h.dp]; exact hi.rblk.cell rfl
 have fd := hi.rblk.free 3
 by_cases h20 : 20 ≤ s.depth
 ·rw [show s.depth = 20 by omega] at cd
  have HD : Hid (deeper s s2 = s.err 8) := if_pos h20
  have HE := hide (h.toErr 8 (by decide))
  clear hact h20 hd0 hd1 hi hn
  go_enter Tryz.func139, Tryz.ntmps139
  go_wp2
  go_ret
  rw [HD.out]
  exact ⟨rfl, m, D, HE.out, PTo.refl _ _ _ _ _ _⟩
 ·obtain ⟨hs2, hact⟩ := hact h20
  obtain ⟨h1, t1⟩ := h.setDp (s.depth + 1) (by omega) (by omega)
  have hb1 := (h.keepD t1 _ _ _ hb).2
  have cb : (w.setCell ⟨rb, 3, none⟩ (.int .i64 (s.depth + 1))).cell? ⟨db, 0, none⟩ = some (.func (.func n) ff fc) := hb1.cell rfl
  have hbr : ¬ db = rb := by rintro rfl; exact absurd (hb.2.inj hi.rblk).1 (by decide)
  have cb0 : w.cell? ⟨db, 0, none⟩ = some (.func (.func n) ff fc) := hb.2.cell rfl
  have HD : Hid (deeper s s2 = { s2 with depth := s2.depth - 1 }) := if_neg h20
  have hcall := hact _ _ h1 t1
  obtain ⟨fn, fff, ffc, hv, hen, hcall⟩ := hcall
  injection hv with hv1 hv2 hv3
  injection hv1 with hv1
  subst hv1; subst hv2; subst hv3
  unfold Ents at hen
  have HC := hide hcall
  have HT := hide t1
  clear hact hcall h1 t1 hb1 hi hn hb h
  go_enter Tryz.func139, Tryz.ntmps139
  go_wp2_with fail
  refine HC.out.mono ?_
  rintro e w1 ⟨rfl, m1, D1, hr1, ht1⟩
  obtain ⟨ns1, hi1, hn1⟩ := hr1.inv
  have cd1 : w1.cell? ⟨rb, 3, none⟩ = some (.int .i64 (s.depth + 1)) := by rw [← hs2, ← hr1.dp]; exact hi1.rblk.cell rfl
  have fd1 := hi1.rblk.free 3
  obtain ⟨h3, t3⟩ := hr1.setDp s.depth (by omega) (by omega)
  have H3 : Hid (PR B W (w1.setCell ⟨rb, 3, none⟩ (.int .i64 s.depth)) xb rb mb { m1 with dp := s.depth } D1 { s2 with depth := s2.depth - 1 }) := by rw [show s2.depth - 1 = s.depth by omega]; exact h3
  have HT3 := hide (HT.out.trans (ht1.trans t3))
  clear h3 t3 hr1 ht1 hi1 hn1 HC HT
  go_wp2
  go_ret
  rw [HD.out]
  exact ⟨rfl, _, D1, H3.out, HT3.out⟩
end
end
section
open Go.RowKit
theorem nil_own (k : Nat) : ¬ own (.slice none 0 0) k := by simp [own, Value.ownBlock]
theorem FT.toP {xb rb mb : Nat} {w w' : World} {m m' : MS} {D D' : Nat → Prop} {lv' : Value} {o : Obj} (h : FT xb rb mb w.heap.size (w.alloc o) w' m m' D D' (.slice none 0 0) lv') : PTo xb rb mb w w' m m' D D' := by
 have hk : Kp w w' (fun k => ((k = xb ∨ k = rb) ∨ k = mb) ∨ (own m.sv k ∨ own m.ov k)) := by
  have h1 : Kp w (w.alloc o) (fun k => (((k = xb ∨ k = rb) ∨ k = mb) ∨ k = w.heap.size) ∨ ((own m.sv k ∨ own m.ov k) ∨ own (.slice none 0 0) k)) := (Kp.refl w _).alloc o
  refine (h1.trans h.wt.kp).mono (fun k hlt hk => ?_)
  rcases hk with (hk | hk) | (hk | hk)
  ·exact .inl hk
  ·omega
  ·exact .inr hk
  ·exact absurd hk (nil_own k)
 refine ⟨⟨hk, fun k hk2 => ?_⟩, h.up, fun k hk2 => ?_, h.bk⟩
 ·rcases h.wt.nx k (.inl hk2) with (e | e) | e
  ·exact .inl e
  ·exact absurd e (nil_own k)
  ·right; rw [World.size_alloc] at e; omega
 ·rcases h.nw k hk2 with e | e
  ·exact .inl e
  ·right; rw [World.size_alloc] at e; omega
theorem wordRunX {B : Nat} {W : World} (g : Nat) (hB : QB B W g) : QW B W g := by
 intro w xb rb mb m D s s' f ob left hr he hW hx
 have hk0 := (Kp.refl w (fun _ => False)).alloc (.cells #[pt rb, .slice none 0 0, .int .i64 0] 197)
 obtain ⟨h1, t1⟩ := hr.kp hk0
 have hf : FrR B (w.alloc (.cells #[pt rb, .slice none 0 0, .int .i64 0] 197)) w.heap.size rb m D (.slice none 0 0) 0 [] :=
  ⟨Blk.new w _ _, World.ownsRow_nil _ _ _ _, by simp, fun k hk => absurd hk (nil_own k), fun hd => by have := (hr.sep _ hd).1; omega, fun k hk => absurd hk (nil_own k), hr.safe.bs, fun k hk => absurd hk (nil_own k)⟩
 obtain ⟨va, hob, hA, hwb⟩ := hW
 have hkd := hr.keepD t1
 have ca : (w.alloc (.cells #[pt rb, .slice none 0 0, .int .i64 0] 197)).cell? ⟨ob, 0, none⟩ = some va := (hkd _ _ _ hob).2.cell rfl
 have ca0 : w.cell? ⟨ob, 0, none⟩ = some va := hob.2.cell rfl
 have hol := hob.2.lt
 obtain ⟨ao, cap, rfl⟩ := hA.form
 have HC := hide (hB _ xb rb mb w.heap.size m D s s' f [] (.slice none 0 0) ob (.slice ao f.body.length cap) f.body left h1 he hf (by simp; exact hr.good.s0) (by obtain ⟨G, hG⟩ := hwb; exact ⟨G, false, hG, fun h => by cases h⟩) (hA.mono hkd) ⟨_, hkd _ _ _ hob, hA.mono hkd, hwb⟩ hx)
 clear hB hr he hx h1 t1 hf hob hA hkd hk0 hwb
 go_enter Tryz.func112, Tryz.ntmps112
 go_wp2_with fail
 refine HC.out.mono ?_
 rintro e w1 ⟨rfl, m1, D1, lv1, hr1, hf1, ht1⟩
 have cw : w1.cell? ⟨w.heap.size, 2, none⟩ = some (.int .i64 s'.e) := hf1.blk.cell rfl
 have H1 := hide hr1
 have H2 := hide ht1.toP
 clear hr1 hf1 ht1 HC
 go_wp2
 go_ret
 exact ⟨rfl, m1, D1, H1.out, H2.out⟩
theorem WordsR.same {D : Nat → Prop} {w : World} {bk mb : Nat} {defs defs' : List Def} (h : WordsR D w bk mb defs) (hn : defs'.map (fun d => (d.name, d.body)) = defs.map (fun d => (d.name, d.body))) : WordsR D w bk mb defs' := by
 have hl : defs'.length = defs.length := by have := congrArg List.length hn; simpa using this
 have hat : ∀ k (h1 : k < defs'.length) (h2 : k < defs.length), defs'[k].name = defs[k].name ∧ defs'[k].body = defs[k].body := by
  intro k h1 h2
  have := congrArg (fun l => l[k]?) hn
  simp [h1, h2] at this
  exact this
 have hf : ∀ t, defs'.findIdx? (fun d => d.name == t) = defs.findIdx? (fun d => d.name == t) := by
  intro t
  have e : ∀ l : List Def, l.findIdx? (fun d => d.name == t) = (l.map (fun d => (d.name, d.body))).findIdx? (fun p => p.1 == t) := by
   intro l; rw [List.findIdx?_map]; rfl
  rw [e, e, hn]
 obtain ⟨obs, DD, h1, h2, h3, h30, h4, h5⟩ := h
 refine ⟨obs, DD, by rw [hl]; exact h1, by rw [hl]; exact h2, ⟨by rw [hl]; exact h3.1, fun t ht => by rw [hf]; exact h3.2 t ht⟩, by rw [hl]; exact h30, fun t ht => by rw [hf]; exact h4 t ht, fun k hk => ?_⟩
 rw [(hat k hk (by omega)).2]; exact h5 k (by omega)
theorem set_same_map {defs : List Def} {k : Nat} {d : Def} (h : defs[k]? = some d) (d' : Def) (h1 : d'.name = d.name) (h2 : d'.body = d.body) : (defs.set k d').map (fun d => (d.name, d.body)) = defs.map (fun d => (d.name, d.body)) := by
 rw [List.map_set]
 apply List.ext_getElem?
 intro i
 rw [List.getElem?_set]
 split
 ·rename_i e
  subst e
  split
  ·simp [h, h1, h2]
  ·rename_i hlt; simp at hlt; rw [List.getElem?_eq_none hlt] at h; cases h
 ·rfl
theorem St.count_same {g : Nat} {s s' : St} {k : Nat} (h : s.count g k = some s') : s'.defs.map (fun d => (d.name, d.body)) = s.defs.map (fun d => (d.name, d.body)) ∧ s' = { s with defs := s'.defs } := by
 unfold St.count at h
 split at h
 ·cases h
 ·rename_i d hd
  split at h
  ·injection h with h; subst h; exact ⟨rfl, rfl⟩
  ·split at h
   ·injection h with h; subst h; exact ⟨set_same_map hd _ rfl rfl, rfl⟩
   ·split at h
    ·cases h
    ·injection h with h; subst h; exact ⟨set_same_map hd _ rfl rfl, rfl⟩
theorem xCome_same {g : Nat} {f : Fr} {s s' : St} (h : xCome g f s = some s') : s'.defs.map (fun d => (d.name, d.body)) = s.defs.map (fun d => (d.name, d.body)) ∧ s' = { s with defs := s'.defs } := by
 unfold xCome at h
 split at h
 ·injection h with h; subst h; exact ⟨rfl, rfl⟩
 ·split at h
  ·cases h
  ·split at h
   ·exact St.count_same h
   ·injection h with h; subst h; exact ⟨rfl, rfl⟩
end
section
open Go.RowKit
theorem SGood.same {s s' : St} (h : SGood s) (he : s' = { s with defs := s'.defs }) (hm : s'.defs.map (fun d => (d.name, d.body)) = s.defs.map (fun d => (d.name, d.body))) : SGood s' := by
 have hcb : ∀ d ∈ s'.defs, ∀ g names, callsG g d.body = some names → names.length ≤ 1000 := by
  intro d hd
  have : (d.name, d.body) ∈ s'.defs.map (fun d => (d.name, d.body)) := List.mem_map.2 ⟨d, hd, rfl⟩
  rw [hm] at this
  obtain ⟨d0, hd0, he0⟩ := List.mem_map.1 this
  injection he0 with _ hb
  rw [← hb]; exact h.cb d0 hd0
 rw [he]
 exact ⟨h.g, h.s0, h.s1, h.s2, h.d0, h.d1, h.b0, h.b1, hcb⟩
section
variable {B : Nat} {W w : World} {xb rb mb : Nat} {m : MS} {D : Nat → Prop} {s : St}
theorem PR.same {s' : St} (h : PR B W w xb rb mb m D s) (he : s' = { s with defs := s'.defs }) (hm : s'.defs.map (fun d => (d.name, d.body)) = s.defs.map (fun d => (d.name, d.body))) : PR B W w xb rb mb m D s' := by
 have hg := h.good.same he hm
 have hw := h.words.same hm
 obtain ⟨ns, hi, hn⟩ := h.inv
 have e1 : s'.e = s.e := by rw [he]
 have e2 : s'.rs = s.rs := by rw [he]
 exact ⟨⟨ns, hi, by rw [e1, e2]; exact hn⟩, by rw [he]; exact h.mem, by rw [he]; exact h.out, h.st0, h.st1, by rw [he]; exact h.st, by rw [he]; exact h.dp, h.safe, h.bmb, h.book, hw, h.sep, hg⟩
theorem enter_parts {g : Nat} {f : Fr} {s' : St} {left : Bool} (h : xRun (g + 1) (jEnter f) s = some (s', left)) (h20 : ¬ 20 ≤ s.depth) :
  ∃ (s1 s2 : St) (left2 : Bool), s1 = { s with defs := s1.defs } ∧ s1.defs.map (fun d => (d.name, d.body)) = s.defs.map (fun d => (d.name, d.body)) ∧ xRun g (jBody f [] f.body) { s1 with depth := s1.depth + 1 } = some (s2, left2) ∧ s' = { s2 with depth := s2.depth - 1 } ∧ s2.depth = s.depth + 1 := by
 rw [x_enter, if_neg h20] at h
 cases hc : xCome g f s with
 | none => rw [hc] at h; cases h
 | some s1 =>
  rw [hc] at h
  obtain ⟨s2, left2, hx, hs⟩ := enter_tail h
  obtain ⟨h1, h2⟩ := xCome_same hc
  refine ⟨s1, s2, left2, h2, h1, hx, hs, ?_⟩
  have := (xRun_keep _ _ _ _ _ hx).1
  rw [this]; show s1.depth + 1 = s.depth + 1; rw [h2]
theorem recP (g : Nat) (hW : QW B W g) (h : PR B W w xb rb mb m D s) (he : s.e = 0) (f : Fr) (ob db : Nat) (hb : BD D w db 121 #[.func (.func 112) #[pt ob] #[]]) (hw : WordR (BD D w) m.bk ob f.body) (s' : St) (left : Bool) (hx : xRun (g + 1) (jEnter f) s = some (s', left)) :
  CallsV (fDeep db) (pt rb) w fun e w' => e = .returned (.int .i64 s'.e) ∧ PPost B W xb rb mb w m D s' w' := by
 by_cases h20 : 20 ≤ s.depth
 ·have hs : s' = deeper s s := by
   rw [x_enter, if_pos h20] at hx
   injection hx with hx; injection hx with hx _
   rw [← hx]; unfold deeper; rw [if_pos h20]
  rw [hs]
  exact deepP h db _ _ _ hb s (fun h => absurd h20 h)
 ·obtain ⟨s1, s2, left2, q1, q2, q3, q4, q5⟩ := enter_parts hx h20
  have hs : s' = deeper s s2 := by unfold deeper; rw [if_neg h20]; exact q4
  rw [hs]
  refine deepP h db _ _ _ hb s2 (fun _ => ⟨q5, fun w1 m1 hr1 ht1 => ?_⟩)
  have hd1 : s1.depth = s.depth := by rw [q1]
  have hr2 : PR B W w1 xb rb mb m1 D { s1 with depth := s1.depth + 1 } := hr1.same (by rw [hd1, q1]) q2
  refine ⟨_, _, _, rfl, ent_run, ?_⟩
  refine hW w1 xb rb mb m1 D _ s2 f ob left2 hr2 (by show s1.e = 0; rw [q1]; exact he) ?_ q3
  rw [ht1.bk]; exact hw.mono (h.keepD ht1)
theorem callFn (w : World) (rb bb nb bk mb ob : Nat) (nm : ByteArray) (Q : Ending → World → Prop) (h1 : Blk w bb 78 #[pt bk]) (h2 : Blk w nb 9 #[.string nm]) (h3 : Blk w bk 106 #[.map (some mb)])
  (hrun : ∀ w0, Kp w w0 (fun _ => False) → (Instr.lookup 104 (.map (some mb)) (.string nm) false).run Tryz.prog w0 = .ok (pt ob) w0)
  (hc : ∀ w0, Kp w w0 (fun _ => False) → Calls Tryz.prog 112 #[pt ob, pt rb] w0 fun e w' => ∃ n, e = .returned (.int .i64 n) ∧ Q e w') :
  Calls Tryz.prog 111 #[pt rb, pt bb, pt nb] w Q := by
 have c1 : w.cell? ⟨bb, 0, none⟩ = some (pt bk) := h1.cell rfl
 have c2 : w.cell? ⟨nb, 0, none⟩ = some (.string nm) := h2.cell rfl
 have c3 : w.cell? ⟨bk, 0, none⟩ = some (.map (some mb)) := h3.cell rfl
 have HR := hide hrun
 have HC := hide hc
 have hr0 := hrun w (Kp.refl _ _)
 have hr1 := hrun w.drew (Kp.refl _ _).drew
 clear hrun hc HR
 go_enter Tryz.func111, Tryz.ntmps111
 go_wp2
 go_region_with (go_at_call 112; refine (HC.out _ ?_).mono ?_; exact (Kp.refl _ _).drew; rintro e w1 ⟨n, rfl, hq⟩; have HQ := hide hq; clear hq)
 all_goals go_wp2
 all_goals go_ret
 all_goals exact HQ.out
theorem lookM {w : World} {D : Nat → Prop} {bk mb : Nat} {defs : List Def} (h : WordsR D w bk mb defs) (nm : ByteArray) (hs : nm.size ≤ 1000) (d : Def) (hd : defs.find? (fun d => d.name == nm.data.toList) = some d) :
  ∃ ob, WordR (BD D w) bk ob d.body ∧ ∀ w0, w0.heap[mb]? = w.heap[mb]? → (Instr.lookup 104 (.map (some mb)) (.string nm) false).run Tryz.prog w0 = .ok (pt ob) w0 := by
 obtain ⟨obs, DD, h1, h2, h3, h30, h4, h5⟩ := h
 have hsz : nm.size ≤ maxLen := Nat.le_trans hs (by decide)
 have hl := h4 nm.data.toList hsz
 cases hf : defs.findIdx? (fun d => d.name == nm.data.toList) with
 | none =>
  rw [List.findIdx?_eq_none_iff] at hf
  have := hf d (List.mem_of_find?_eq_some hd)
  have h6 := List.find?_some hd
  rw [this] at h6; cases h6
 | some k =>
  obtain ⟨hk, _, _⟩ := List.findIdx?_eq_some_iff_getElem.1 hf
  have hdk : d = defs[k] := by
   have := List.find?_eq_some_iff_getElem.1 hd
   obtain ⟨hp, i, hi, hx, hn⟩ := this
   obtain ⟨hk1, hk2, hk3⟩ := List.findIdx?_eq_some_iff_getElem.1 hf
   have : i = k := by
    rcases Nat.lt_trichotomy i k with h | h | h
    ·exact absurd (by rw [hx]; exact hp) (hk3 i h)
    ·exact h
    ·have := hn k h; rw [hk2] at this; cases this
   subst this; exact hx.symm
  rw [hf] at hl
  refine ⟨obs.getD k 0, by rw [hdk]; exact h5 k hk, fun w0 e0 => look_run (ownsMap_same h2 e0) nm hsz hl⟩
theorem callP (g : Nat) (hW : QW B W g) (h : PR B W w xb rb mb m D s) (he : s.e = 0) (db bb nb : Nat) (nm : ByteArray) (hs : nm.size ≤ 1000) (hb : BD D w db 121 #[.func (.func 111) #[] #[pt bb, pt nb]]) (h1 : BD D w bb 78 #[pt m.bk]) (h2 : BD D w nb 9 #[.string nm]) (s' : St) (left : Bool) (hx : xRun (g + 1 + 1) (jCall nm.data.toList) s = some (s', left)) :
  CallsV (fDeep db) (pt rb) w fun e w' => e = .returned (.int .i64 s'.e) ∧ PPost B W xb rb mb w m D s' w' := by
 rw [x_call] at hx
 cases hd : s.defs.find? (fun d => d.name == nm.data.toList) with
 | none => rw [hd] at hx; cases hx
 | some d =>
  rw [hd] at hx
  dsimp only at hx
  by_cases h20 : 20 ≤ s.depth
  ·have hs : s' = deeper s s := by
    rw [x_enter, if_pos h20] at hx
    injection hx with hx; injection hx with hx _
    rw [← hx]; unfold deeper; rw [if_pos h20]
   rw [hs]
   exact deepP h db _ _ _ hb s (fun h => absurd h20 h)
  ·obtain ⟨s1, s2, left2, q1, q2, q3, q4, q5⟩ := enter_parts hx h20
   have hs' : s' = deeper s s2 := by unfold deeper; rw [if_neg h20]; exact q4
   rw [hs']
   refine deepP h db _ _ _ hb s2 (fun _ => ⟨q5, fun w1 m1 hr1 ht1 => ?_⟩)
   have hd1 : s1.depth = s.depth := by rw [q1]
   have hr2 : PR B W w1 xb rb mb m1 D { s1 with depth := s1.depth + 1 } := hr1.same (by rw [hd1, q1]) q2
   obtain ⟨ob, hob, hlk⟩ := lookM hr1.words nm hs d hd
   have kd := h.keepD ht1
   have hmlt := hr1.words.ltm
   refine ⟨_, _, _, rfl, ent_callf, ?_⟩
   show Calls Tryz.prog 111 #[pt rb, pt bb, pt nb] w1 _
   refine callFn w1 rb bb nb m.bk mb ob nm _ (kd _ _ _ h1).2 (kd _ _ _ h2).2 (by rw [← ht1.bk]; exact hr1.book) (fun w0 hk => hlk w0 (hk.block mb hmlt (by simp))) (fun w0 hk => ?_)
   obtain ⟨hr3, ht3⟩ := hr2.kp hk
   refine (hW w0 xb rb mb m1 D _ s2 ⟨d.id, d.name, d.body⟩ ob left2 hr3 (by show s1.e = 0; rw [q1]; exact he) (hob.mono (hr2.keepD ht3)) q3).mono ?_
   rintro e w' ⟨rfl, hp⟩
   exact ⟨_, rfl, rfl, hp.step ht3⟩
end
end
section
open Go.RowKit
theorem braceFn (w : World) (rb sb tb bk ob : Nat) (tv : Value) (a : Option Addr) (n p : Nat) (htv : tv = .slice a n p) (Q : Ending → World → Prop) (h1 : Blk w sb 193 #[pt bk, pt ob]) (h2 : Blk w tb 47 #[tv])
  (hc : ∀ w0, Kp w w0 (fun _ => False) → Calls Tryz.prog 39 #[pt bk, pt rb, tv] w0 fun e w' => ∃ n, e = .returned (.int .i64 n) ∧ Q e w') :
  Calls Tryz.prog 213 #[pt rb, pt sb, pt tb] w Q := by
 subst htv
 have c1 : w.cell? ⟨sb, 0, none⟩ = some (pt bk) := h1.cell rfl
 have c2 : w.cell? ⟨tb, 0, none⟩ = some (.slice a n p) := h2.cell rfl
 have c3 : w.cell? ⟨sb, 1, none⟩ = some (pt ob) := h1.cell rfl
 have HC := hide hc
 clear hc
 go_enter Tryz.func213, Tryz.ntmps213
 go_wp2_with fail
 refine (HC.out _ (Kp.refl _ _)).mono ?_
 rintro e w1 ⟨n, rfl, hq⟩
 have HQ := hide hq
 clear hq
 go_wp2
 exact HQ.out
section
variable {B : Nat} {W w : World} {xb rb mb fb : Nat} {m : MS} {D : Nat → Prop} {s : St} {lv : Value} {lp : List Int}
theorem bracesP (g : Nat) (hT : QT B W g) (h : PR B W w xb rb mb m D s) (he : s.e = 0) (db sb tb ob : Nat) (tv : Value) (ws : List ByteArray) (hb : BD D w db 121 #[.func (.func 213) #[] #[pt sb, pt tb]]) (h1 : BD D w sb 193 #[pt m.bk, pt ob]) (h2 : BD D w tb 47 #[tv]) (h3 : rowM (BD D w) 9 tv (ws.map Value.string)) (ho : ∀ t ∈ ws, okW t) (hl : ws.length ≤ 1000) (s2 : St) (left : Bool)
  (hx : ¬ 20 ≤ s.depth → xRun g (jToks (texts ws)) { s with depth := s.depth + 1 } = some (s2, left)) :
  CallsV (fDeep db) (pt rb) w fun e w' => e = .returned (.int .i64 (deeper s s2).e) ∧ PPost B W xb rb mb w m D (deeper s s2) w' := by
 refine deepP h db _ _ _ hb s2 (fun h20 => ⟨(xRun_keep _ _ _ _ _ (hx h20)).1, fun w1 m1 hr1 ht1 => ?_⟩)
 have kd := h.keepD ht1
 refine ⟨_, _, _, rfl, ent_brf, ?_⟩
 show Calls Tryz.prog 213 #[pt rb, pt sb, pt tb] w1 _
 obtain ⟨a, p, hv⟩ := h3.form
 refine braceFn w1 rb sb tb m.bk ob tv a _ p hv _ (kd _ _ _ h1).2 (kd _ _ _ h2).2 (fun w0 hk => ?_)
 obtain ⟨hr3, ht3⟩ := hr1.kp hk
 have hrow := (rowM_mono (fun b t c hb => (hr1.keepD ht3) b t c (kd b t c hb)) h3)
 have htok : TokAt (Blk w0) tv ws := by
  rcases hrow with ⟨h4, h5⟩ | ⟨gd, cap, cur, h4, h5, h6, h7, h8, h9⟩
  ·refine .inl ⟨by simpa using h5, none, 0, h4⟩
  ·refine .inr ⟨gd, 0, cap, cur, by rw [h4]; simp, h5.2, by simpa using h6, by omega, by omega, fun i hi => ?_⟩
   have hi2 : i < (ws.map Value.string).length := by simpa using hi
   have : (cur.toList.take ((ws.map Value.string).length * 1))[i]? = (ws.map Value.string)[i]? := by rw [h9]
   rw [List.getElem?_take_of_lt (by omega)] at this
   simp only [Nat.zero_add]
   rw [← Array.getElem?_toList, this]; simp [hi]
 rw [← ht1.bk]
 refine (hT w0 xb rb mb m1 D _ s2 tv ws left hr3 he htok ho hl (hx h20)).mono ?_
 rintro e w' ⟨rfl, hp⟩
 exact ⟨_, rfl, rfl, hp.step ht3⟩
theorem nothingP (h : PR B W w xb rb mb m D s) (he : s.e = 0) : CallsV (.func (.func 214) #[] #[]) (pt rb) w fun e w' => e = .returned (.int .i64 s.e) ∧ PPost B W xb rb mb w m D s w' := by
 refine ⟨_, _, _, rfl, ent_nothing, ?_⟩
 show Calls Tryz.prog 214 #[pt rb] w _
 rw [he]
 have H := hide h
 clear h he
 go_enter Tryz.func214, Tryz.ntmps214
 go_wp2
 go_ret
 exact ⟨rfl, m, D, H.out, PTo.refl _ _ _ _ _ _⟩
theorem exitP (h : PR B W w xb rb mb m D s) (he : s.e = 0) (hf : FrR B w fb rb m D lv 0 lp) :
  CallsV (.func (.func 193) #[] #[]) (pt fb) w fun e w' => e = .returned (.int .i64 1) ∧ FPo B W xb rb mb fb w m D lv lp s.step w' := by
 refine ⟨_, _, _, rfl, ent_exit, ?_⟩
 show Calls Tryz.prog 193 #[pt fb] w _
 have c0 : w.cell? ⟨fb, 0, none⟩ = some (pt rb) := hf.blk.cell rfl
 have hmf := mkFunc
 have HS : Hid (∀ w0, Kp w w0 (fun _ => False) → Calls Tryz.prog 61 #[pt rb, .func (.func 214) #[] #[]] w0 fun e w' => e = .returned (.int .i64 s.step.e) ∧ PPost B W xb rb mb w m D s.step w') := by
  intro w0 hk
  obtain ⟨h0, t0⟩ := h.kp hk
  refine (stepP h0 he (.func (.func 214) #[] #[]) s.step s.step (by split <;> rfl) (fun e w1 m1 p1 t1 => nothingP p1 e)).mono ?_
  rintro e w' ⟨rfl, hp⟩
  exact ⟨rfl, hp.step t0⟩
 have HF : Hid (∀ w1, PPost B W xb rb mb w m D s.step w1 → FPo B W xb rb mb fb w m D lv lp s.step (w1.setCell ⟨fb, 2, none⟩ (.int .i64 s.step.e)) ∧ (∃ y, Blk w1 fb 197 #[pt rb, lv, .int .i64 y])) := fun w1 hp => FPo.heed h hf hp
 clear h he hf
 go_enter Tryz.func193, Tryz.ntmps193
 go_wp2_with fail
 refine (HS.out _ (Kp.refl _ _)).mono ?_
 rintro e w1 ⟨rfl, hp⟩
 obtain ⟨h1, ⟨y, h2⟩⟩ := HF.out w1 hp
 have H1 := hide h1
 clear h1 hp
 go_wp2_with fail
 refine (heedM _ fb s.step.e _ _ _ h2).mono ?_
 rintro e w2 ⟨rfl, rfl⟩
 go_wp2
 go_ret
 exact ⟨rfl, H1.out⟩
end
end
end Go.Proofs.YtldifaahmpecfaaGreatDoor
