import Derived.Test.YtldifaahmpecfaaGreatDoorV6
import Derived.Test.YtldifaahmpecfaaGreatDoorV7
import Derived.Test.YtldifaahmpecfaaGreatDoorV4
namespace Go.Proofs.YtldifaahmpecfaaGreatDoor
set_option maxRecDepth 1000000
set_option maxHeartbeats 4000000
set_option linter.all false
section
open Go.RowKit
variable {K : Nat → Prop}
theorem hide {p : Prop} (h : p) : Hid p := h
def toksIn (S : Nat → Prop) (w : World) (v : Value) (ts : List Tok) : Prop :=
 ∃ ws : List ByteArray, w.ownsRow 0 9 1 v ws.length (ws.map Value.string) ∧ ws.map (fun t => t.data.toList) = ts ∧ ∀ b, own v b → S b
def itsIn (P : Value → List It → Prop) (Q : Value → List Tok → Prop) : List It → List Value → Prop
 | [], xs => xs = []
 | x :: l, xs => ∃ nm va vb vt rest, xs = .int .u8 x.kind :: .int .i64 x.n :: .string nm :: va :: vb :: vt :: rest ∧ nm.data.toList = x.name ∧ P va x.a ∧ P vb x.b ∧ Q vt x.toks ∧ (In x.n ∧ x.toks.length ≤ 1000) ∧ itsIn P Q l rest
def bodyIn (S : Nat → Prop) (w : World) : Nat → Value → List It → Prop
 | 0, _, _ => False
 | g + 1, v, l => ∃ xs, w.ownsRow 0 212 6 v l.length xs ∧ (∀ b, own v b → S b) ∧ itsIn (bodyIn S w g) (toksIn S w) l xs
theorem itsIn_imp {P P' : Value → List It → Prop} {Q Q' : Value → List Tok → Prop} (hp : ∀ v l, P v l → P' v l) (hq : ∀ v l, Q v l → Q' v l) : ∀ (l : List It) (xs : List Value), itsIn P Q l xs → itsIn P' Q' l xs
 | [], _, h => h
 | _ :: l, _, ⟨nm, va, vb, vt, rest, h1, h2, h3, h4, h5, h6, h7⟩ => ⟨nm, va, vb, vt, rest, h1, h2, hp _ _ h3, hp _ _ h4, hq _ _ h5, h6, itsIn_imp hp hq l rest h7⟩
theorem itsIn_app {P : Value → List It → Prop} {Q : Value → List Tok → Prop} : ∀ (l l' : List It) (xs xs' : List Value), itsIn P Q l xs → itsIn P Q l' xs' → itsIn P Q (l ++ l') (xs ++ xs')
 | [], _, _, _, h, h' => by have h : _ = _ := h; subst h; exact h'
 | _ :: l, l', _, xs', ⟨nm, va, vb, vt, rest, h1, h2, h3, h4, h5, h6, h7⟩, h' => ⟨nm, va, vb, vt, rest ++ xs', by rw [h1]; rfl, h2, h3, h4, h5, h6, itsIn_app l l' rest xs' h7 h'⟩
structure ItAt (P : Value → List It → Prop) (Q : Value → List Tok → Prop) (x : It) (nm : ByteArray) (va vb vt : Value) : Prop where
 nm : nm.data.toList = x.name
 a : P va x.a
 b : P vb x.b
 t : Q vt x.toks
 n : In x.n ∧ x.toks.length ≤ 1000
theorem itsIn_at {P : Value → List It → Prop} {Q : Value → List Tok → Prop} : ∀ (l : List It) (xs : List Value), itsIn P Q l xs → ∀ i (h : i < l.length), ∃ nm va vb vt, ItAt P Q l[i] nm va vb vt ∧
  xs[i * 6]? = some (.int .u8 l[i].kind) ∧ xs[i * 6 + 1]? = some (.int .i64 l[i].n) ∧ xs[i * 6 + 2]? = some (.string nm) ∧ xs[i * 6 + 3]? = some va ∧ xs[i * 6 + 4]? = some vb ∧ xs[i * 6 + 5]? = some vt
 | [], _, _, i, h => absurd h (by simp)
 | x :: l, xs, ⟨nm, va, vb, vt, rest, h1, h2, h3, h4, h5, h6, h7⟩, 0, h => by
  subst h1; exact ⟨nm, va, vb, vt, ⟨h2, h3, h4, h5, h6⟩, by simp, by simp, by simp, by simp, by simp, by simp⟩
 | x :: l, xs, ⟨nm, va, vb, vt, rest, h1, h2, h3, h4, h5, h6, h7⟩, i + 1, h => by
  subst h1
  obtain ⟨nm', va', vb', vt', k0, k1⟩ := itsIn_at l rest h7 i (by simpa using h)
  refine ⟨nm', va', vb', vt', k0, ?_⟩
  have e6 : ∀ j, (Value.int .u8 x.kind :: .int .i64 x.n :: .string nm :: va :: vb :: vt :: rest)[(i + 1) * 6 + j]? = rest[i * 6 + j]? := by
   intro j; rw [show (i + 1) * 6 + j = i * 6 + j + 1 + 1 + 1 + 1 + 1 + 1 by omega]; rfl
  have e0 := e6 0
  simp only [Nat.add_zero] at e0
  rw [e0, e6, e6, e6, e6, e6]
  exact k1
theorem row_keep {w w' : World} {e : TypeId} {z : Nat} {v : Value} {n : Nat} {xs : List Value} (h : w.ownsRow 0 e z v n xs) (hk : ∀ b c, own v b → Blk w b e c → Blk w' b e c) : w'.ownsRow 0 e z v n xs := by
 refine ⟨h.1, ?_⟩
 rcases h.2 with h0 | ⟨g, cap, cur, rfl, hb, hgg, rest⟩
 ·exact .inl h0
 ·exact .inr ⟨g, cap, cur, rfl, hb, hk g cur rfl hgg, rest⟩
theorem row_blk {w : World} {e : TypeId} {z : Nat} {v : Value} {n : Nat} {xs : List Value} (h : w.ownsRow 0 e z v n xs) {b : Nat} (hb : own v b) : ∃ c, Blk w b e c := by
 rcases h.2 with ⟨rfl, _⟩ | ⟨g, cap, cur, rfl, _, hgg, _⟩
 ·simp [own, Value.ownBlock] at hb
 ·simp [own, Value.ownBlock] at hb; subst hb; exact ⟨_, hgg⟩
theorem row_type {w : World} {e t : TypeId} {z : Nat} {v : Value} {n : Nat} {xs : List Value} {c : Array Value} (h : w.ownsRow 0 e z v n xs) {b : Nat} (hb : own v b) (hc : Blk w b t c) : t = e := by
 obtain ⟨c', hc'⟩ := row_blk h hb
 exact (hc.inj hc').1
def Keeps (S S' : Nat → Prop) (w w' : World) : Prop := ∀ b t c, S b → Blk w b t c → t = 212 ∨ t = 9 → Blk w' b t c ∧ S' b
theorem toksIn_keep {S S' : Nat → Prop} {w w' : World} (hk : Keeps S S' w w') {v : Value} {ts : List Tok} (h : toksIn S w v ts) : toksIn S' w' v ts := by
 obtain ⟨ws, h1, h2, h3⟩ := h
 refine ⟨ws, row_keep h1 (fun b c hb hc => (hk b _ c (h3 b hb) hc (.inr rfl)).1), h2, fun b hb => ?_⟩
 obtain ⟨c, hc⟩ := row_blk h1 hb
 exact (hk b _ c (h3 b hb) hc (.inr rfl)).2
theorem bodyIn_keep {S S' : Nat → Prop} {w w' : World} (hk : Keeps S S' w w') : ∀ (g : Nat) (v : Value) (l : List It), bodyIn S w g v l → bodyIn S' w' g v l
 | 0, _, _, h => h
 | g + 1, v, l, ⟨xs, h1, h2, h3⟩ => by
  refine ⟨xs, row_keep h1 (fun b c hb hc => (hk b _ c (h2 b hb) hc (.inl rfl)).1), fun b hb => ?_, itsIn_imp (bodyIn_keep hk g) (fun _ _ => toksIn_keep hk) _ _ h3⟩
  obtain ⟨c, hc⟩ := row_blk h1 hb
  exact (hk b _ c (h2 b hb) hc (.inl rfl)).2
theorem bodyIn_succ {S : Nat → Prop} {w : World} : ∀ (g : Nat) (v : Value) (l : List It), bodyIn S w g v l → bodyIn S w (g + 1) v l
 | 0, _, _, h => h.elim
 | g + 1, v, l, ⟨xs, h1, h2, h3⟩ => ⟨xs, h1, h2, itsIn_imp (bodyIn_succ g) (fun _ _ h => h) _ _ h3⟩
theorem bodyIn_le {S : Nat → Prop} {w : World} {g g' : Nat} (hg : g ≤ g') {v : Value} {l : List It} (h : bodyIn S w g v l) : bodyIn S w g' v l := by
 induction hg with
 | refl => exact h
 | step _ ih => exact bodyIn_succ _ _ _ ih
def BodyS (S : Nat → Prop) (w : World) (v : Value) (l : List It) : Prop := ∃ g, bodyIn S w g v l
def nK (K : Nat → Prop) (b : Nat) : Prop := ¬ K b
abbrev Body (K : Nat → Prop) (w : World) (v : Value) (l : List It) : Prop := BodyS (nK K) w v l
abbrev Toks (K : Nat → Prop) (w : World) (v : Value) (ts : List Tok) : Prop := toksIn (nK K) w v ts
theorem BodyS.keep {S S' : Nat → Prop} {w w' : World} {v : Value} {l : List It} (h : BodyS S w v l) (hk : Keeps S S' w w') : BodyS S' w' v l := by
 obtain ⟨g, h⟩ := h; exact ⟨g, bodyIn_keep hk g v l h⟩
theorem BodyS.nil (S : Nat → Prop) (w : World) : BodyS S w (.slice none 0 0) [] :=
 ⟨1, [], World.ownsRow_nil _ _ _ _, fun b hb => by simp [own, Value.ownBlock] at hb, rfl⟩
theorem toksIn.nil (S : Nat → Prop) (w : World) : toksIn S w (.slice none 0 0) [] :=
 ⟨[], World.ownsRow_nil _ _ _ _, rfl, fun b hb => by simp [own, Value.ownBlock] at hb⟩
theorem its_lift {S : Nat → Prop} {w : World} : ∀ (l : List It) (xs : List Value), itsIn (BodyS S w) (toksIn S w) l xs → ∃ g, itsIn (bodyIn S w g) (toksIn S w) l xs
 | [], _, h => ⟨0, h⟩
 | _ :: l, _, ⟨nm, va, vb, vt, rest, h1, h2, ⟨g1, h3⟩, ⟨g2, h4⟩, h5, h6, h7⟩ => by
  obtain ⟨g3, h7⟩ := its_lift l rest h7
  refine ⟨g1 + g2 + g3, nm, va, vb, vt, rest, h1, h2, bodyIn_le (by omega) h3, bodyIn_le (by omega) h4, h5, h6, itsIn_imp (fun _ _ => bodyIn_le (by omega)) (fun _ _ h => h) _ _ h7⟩
theorem BodyS.of {S : Nat → Prop} {w : World} {v : Value} {l : List It} {xs : List Value} (h1 : w.ownsRow 0 212 6 v l.length xs) (h2 : ∀ b, own v b → S b) (h3 : itsIn (BodyS S w) (toksIn S w) l xs) : BodyS S w v l := by
 obtain ⟨g, h⟩ := its_lift l xs h3
 exact ⟨g + 1, xs, h1, h2, h⟩
theorem BodyS.out {S : Nat → Prop} {w : World} {v : Value} {l : List It} (h : BodyS S w v l) : ∃ xs, w.ownsRow 0 212 6 v l.length xs ∧ (∀ b, own v b → S b) ∧ itsIn (BodyS S w) (toksIn S w) l xs := by
 obtain ⟨g, h⟩ := h
 cases g with
 | zero => exact h.elim
 | succ g =>
  obtain ⟨xs, h1, h2, h3⟩ := h
  exact ⟨xs, h1, h2, itsIn_imp (fun _ _ h => ⟨g, h⟩) (fun _ _ h => h) _ _ h3⟩
def NoB (w : World) (V : Nat → Prop) : Prop := ∀ b t c, V b → Blk w b t c → t ≠ 212 ∧ t ≠ 9
theorem Keeps.kp {w w' : World} {V : Nat → Prop} (h : Kp w w' V) (hn : NoB w V) (S : Nat → Prop) : Keeps S S w w' := by
 intro b t c hs hb ht
 refine ⟨h.blk hb (fun hv => ?_), hs⟩
 have := hn b t c hv hb
 rcases ht with ht | ht
 ·exact this.1 ht
 ·exact this.2 ht
theorem Keeps.to {F : Nat → Prop} {w w' : World} {V V' : Nat → Prop} (h : To F w w' V V') (hn : NoB w (fun k => F k ∨ V k)) (S : Nat → Prop) : Keeps S S w w' := Keeps.kp h.kp hn S
theorem Keeps.kpF {w w' : World} (h : Kp w w' (fun _ => False)) (S : Nat → Prop) : Keeps S S w w' := Keeps.kp h (fun _ _ _ h => h.elim) S
theorem BodyS.mono {S S' : Nat → Prop} {w : World} {v : Value} {l : List It} (h : BodyS S w v l) (hs : ∀ b, b < w.heap.size → S b → S' b) : BodyS S' w v l :=
 h.keep (fun b _ _ h1 h2 _ => ⟨h2, hs b h2.lt h1⟩)
theorem toksIn.mono {S S' : Nat → Prop} {w : World} {v : Value} {l : List Tok} (h : toksIn S w v l) (hs : ∀ b, b < w.heap.size → S b → S' b) : toksIn S' w v l :=
 toksIn_keep (fun b _ _ h1 h2 _ => ⟨h2, hs b h2.lt h1⟩) h
end
section
open Go.RowKit
theorem unhide {p : Prop} (h : Hid p) : p := h
structure Glo (B : Nat) (W : World) : Prop where
 pow : Lib.TabBelow Tryz.prog B W "internal/strconv.uint64pow10" .u64 Lib.pow10Tab
 asc : Lib.TabBelow Tryz.prog B W "strings.asciiSpace" .u8 Lib.asciiSpaceTab
 bs : B ≤ W.heap.size
structure Safe (B : Nat) (W w : World) (xb rb : Nat) (m : MS) : Prop where
 bel : Below B W w
 bx : B ≤ xb
 br : B ≤ rb
 bv : ∀ k, own m.sv k ∨ own m.ov k → B ≤ k
 bs : B ≤ w.heap.size
theorem Safe.to {B : Nat} {W w w' : World} {xb rb : Nat} {m m' : MS} (h : Safe B W w xb rb m) (ht : MTo xb rb w w' m m') : Safe B W w' xb rb m' := by
 have hkp := To.kp ht
 refine ⟨?_, h.bx, h.br, fun k hk => ?_, Nat.le_trans h.bs hkp.size⟩
 ·refine h.bel.trans ⟨hkp.os, hkp.tape, hkp.output, hkp.size, fun k hk => hkp.block k (Nat.lt_of_lt_of_le hk h.bs) ?_⟩
  rintro ((h1 | h1) | h1)
  ·have := h.bx; omega
  ·have := h.br; omega
  ·have := h.bv k h1; omega
 ·rcases To.nx ht k hk with h1 | h1
  ·exact h.bv k h1
  ·have := h.bs; omega
theorem Safe.kp {B : Nat} {W w w' : World} {xb rb : Nat} {m : MS} (h : Safe B W w xb rb m) (hk : Kp w w' (fun _ => False)) : Safe B W w' xb rb m := h.to (MTo.kp hk)
theorem sh_dot (B : Nat) (W : World) (w : World) (xb rb fb : Nat) (m : MS) (a : Int) (r : List Int) (h : MInv w xb rb m (a :: r).reverse) (hf : Blk w fb 148 #[.func (.func 102) #[] #[]]) (ho : m.out.size ≤ 300) (h0 : -9223372036854775808 ≤ a) (h1 : a ≤ 9223372036854775807) (hS : Safe B W w xb rb m) (hG : Glo B W) :
  Calls Tryz.prog 134 #[.pointer (some ⟨rb, 0, none⟩), .pointer (some ⟨fb, 0, none⟩)] w fun e w' => e = .returned (.int .i64 (prtP m.mem m.out r (dot a)).e) ∧ MPost w w' xb rb m (prtP m.mem m.out r (dot a)) := by
 have H0 : Hid (-9223372036854775808 ≤ a) := h0
 have H1 : Hid (a ≤ 9223372036854775807) := h1
 clear h0 h1
 have hsz : (dot a).size ≤ 1000 := by have := itoa_len a H0.out H1.out; show (dot a).data.size ≤ 1000; simp [dot]; omega
 have hps : 0 < (dot a).size := by show 0 < (dot a).data.size; simp [dot]
 go_enter Tryz.func134, Tryz.ntmps134
 go_wp2_with fail
 refine (takeM1 _ _ _ _ _ _ h).mono ?_
 rintro e w1 ⟨v', rfl, hi1, ht1⟩
 have hf1 := ht1.blk hf (by rintro (h1 | h1); exact absurd (hf.inj (h1 ▸ h.xblk)).1 (by decide); exact absurd (hf.inj (h1 ▸ h.rblk)).1 (by decide)) (by rintro (h1 | h1); exact own_ne h.srow hf (by decide) h1; exact own_ne h.orow hf (by decide) h1)
 have c1 : w1.cell? ⟨fb, 0, none⟩ = some (.func (.func 102) #[] #[]) := hf1.cell rfl
 have hfl := hf1.lt
 go_wp2_with fail
 refine (digitsM _ _ H0.out H1.out (by exact (hG.pow.on ((hS.to ht1).kp ((Kp.refl _ _).alloc _)).bel).here)).mono ?_
 rintro e w2 ⟨g, cap, rfl, hc, hk⟩
 have hi2 := (hi1.alloc (.cells #[.int .i64 a, .int .i64 0, .int .i64 0] 180)).kp hk
 have ht2 : MTo xb rb w w2 m { m with sv := v' } := ht1.trans ((MTo.kp ((Kp.refl _ _).alloc _)).trans (MTo.kp hk))
 have HC := hide hc
 clear hc hk c1 hf1
 by_cases hl : 300 < m.out.size + (dot a).size
 ·go_wp2_with fail
  refine (printM_full _ _ _ _ _ _ _ _ hi2 ho hsz hl).mono ?_
  rintro e w' ⟨rfl, hw⟩
  rw [hw]; clear hw
  have HR : Hid (prtP m.mem m.out r (dot a) = ⟨11, [], m.mem, m.out⟩) := if_pos hl
  clear hl
  go_wp2
  go_ret
  rw [HR.out]
  exact ⟨rfl, MPost.err ht2 hi2 rfl rfl rfl (by decide)⟩
 ·go_wp2_with fail
  refine (printM_ok _ _ _ _ _ _ _ _ hi2 hps (by show m.out.size + _ ≤ 300; omega) (unhide HC)).mono ?_
  rintro e w3 ⟨rfl, v3, hi3, ht3⟩
  have HR : Hid (prtP m.mem m.out r (dot a) = ⟨0, r, m.mem, m.out ++ dot a⟩) := if_neg hl
  clear hl
  go_wp2
  go_ret
  rw [HR.out]
  exact ⟨rfl, _, _, hi3, ht2.trans ht3, rfl, rfl, rfl, fun _ => rfl⟩
theorem sh_emit (w : World) (xb rb fb : Nat) (m : MS) (a : Int) (r : List Int) (h : MInv w xb rb m (a :: r).reverse) (hf : Blk w fb 148 #[.func (.func 103) #[] #[]]) (ho : m.out.size ≤ 300) :
  Calls Tryz.prog 134 #[.pointer (some ⟨rb, 0, none⟩), .pointer (some ⟨fb, 0, none⟩)] w fun e w' => e = .returned (.int .i64 (prtP m.mem m.out r (chR a)).e) ∧ MPost w w' xb rb m (prtP m.mem m.out r (chR a)) := by
 have hsz : (chR a).size ≤ 1000 := by show (1 : Nat) ≤ 1000; omega
 have hps : 0 < (chR a).size := by show (0 : Nat) < 1; omega
 go_enter Tryz.func134, Tryz.ntmps134
 go_wp2_with fail
 refine (takeM1 _ _ _ _ _ _ h).mono ?_
 rintro e w1 ⟨v', rfl, hi1, ht1⟩
 have hf1 := ht1.blk hf (by rintro (h1 | h1); exact absurd (hf.inj (h1 ▸ h.xblk)).1 (by decide); exact absurd (hf.inj (h1 ▸ h.rblk)).1 (by decide)) (by rintro (h1 | h1); exact own_ne h.srow hf (by decide) h1; exact own_ne h.orow hf (by decide) h1)
 have c1 : w1.cell? ⟨fb, 0, none⟩ = some (.func (.func 103) #[] #[]) := hf1.cell rfl
 have hfl := hf1.lt
 go_wp2_with fail
 refine (charM _ _).mono ?_
 rintro e w2 ⟨g, cap, rfl, hc, hk⟩
 have hi2 := (hi1.alloc (.cells #[.int .i64 a, .int .i64 0, .int .i64 0] 180)).kp hk
 have ht2 : MTo xb rb w w2 m { m with sv := v' } := ht1.trans ((MTo.kp ((Kp.refl _ _).alloc _)).trans (MTo.kp hk))
 have HC := hide hc
 clear hc hk c1 hf1
 by_cases hl : 300 < m.out.size + (chR a).size
 ·go_wp2_with fail
  refine (printM_full _ _ _ _ _ _ _ _ hi2 ho hsz hl).mono ?_
  rintro e w' ⟨rfl, hw⟩
  rw [hw]; clear hw
  have HR : Hid (prtP m.mem m.out r (chR a) = ⟨11, [], m.mem, m.out⟩) := if_pos hl
  clear hl
  go_wp2
  go_ret
  rw [HR.out]
  exact ⟨rfl, MPost.err ht2 hi2 rfl rfl rfl (by decide)⟩
 ·go_wp2_with fail
  refine (printM_ok _ _ _ _ _ _ _ _ hi2 hps (by show m.out.size + _ ≤ 300; omega) (unhide HC)).mono ?_
  rintro e w3 ⟨rfl, v3, hi3, ht3⟩
  have HR : Hid (prtP m.mem m.out r (chR a) = ⟨0, r, m.mem, m.out ++ chR a⟩) := if_neg hl
  clear hl
  go_wp2
  go_ret
  rw [HR.out]
  exact ⟨rfl, _, _, hi3, ht2.trans ht3, rfl, rfl, rfl, fun _ => rfl⟩
end
section
open Go.RowKit
def placesV (ps : List Nat) : List Value := ps.map (fun p : Nat => Value.int .i64 (p : Int))
def picked (xs : List Int) (ps : List Nat) : List Int := ps.map fun p => xs.getD p 0
theorem row_cellM {w : World} {b e : Nat} {v : Value} {n : Nat} {xs : List Value} (h : w.ownsRow b e 1 v n xs) {k : Nat} (hk : k < n) : ∃ g cap, v = .slice (some ⟨g, 0, none⟩) n cap ∧ ∀ u, xs[k]? = some u → w.cell? ⟨g, k, none⟩ = some u := by
 rcases h.2 with ⟨_, h0⟩ | ⟨g, cap, cur, hv, _⟩
 ·omega
 ·refine ⟨g, cap, hv, fun u hu => ?_⟩
  have := h.cells (g := g) (by rw [hv]; rfl) k u hu
  rw [addr_add2] at this; exact this
theorem tk_cell {w : World} {tb : Nat} {xs : List Int} (h : Blk w tb 180 #[.int .i64 (xs.getD 0 0), .int .i64 (xs.getD 1 0), .int .i64 (xs.getD 2 0)]) (p : Nat) (hp : p < 3) : w.cell? ⟨tb, p, none⟩ = some (.int .i64 (xs.getD p 0)) := by
 have : p = 0 ∨ p = 1 ∨ p = 2 := by omega
 rcases this with h1 | h1 | h1 <;> subst h1 <;> exact h.cell rfl
theorem reM (w : World) (xb rb cb pb : Nat) (m : MS) (r xs : List Int) (ps : List Nat) (pv : Value) (h : MInv w xb rb m (r ++ xs)) (h1 : 1 ≤ xs.length) (h3 : xs.length ≤ 3)
  (hc : Blk w cb 3 #[.int .i64 xs.length]) (hp : Blk w pb 34 #[pv]) (hpv : w.ownsRow 0 3 1 pv ps.length (placesV ps)) (hps : ∀ p ∈ ps, p < 3) (hpl : ps.length ≤ 3) :
  Calls Tryz.prog 133 #[.pointer (some ⟨rb, 0, none⟩), .pointer (some ⟨cb, 0, none⟩), .pointer (some ⟨pb, 0, none⟩)] w fun e w' =>
   (r.length + ps.length ≤ 32 → e = .returned (.int .i64 0) ∧ MPost w w' xb rb m ⟨0, (r ++ picked xs ps).reverse, m.mem, m.out⟩) ∧
   (32 < r.length + ps.length → e = .returned (.int .i64 7) ∧ MPost w w' xb rb m ⟨7, [], m.mem, m.out⟩) := by
 have c0 : w.cell? ⟨cb, 0, none⟩ = some (.int .i64 xs.length) := hc.cell rfl
 obtain ⟨i0, hi, hz0, hz1, hz2⟩ := info_parts Tryz.info2
 have hlen := h.len
 simp only [List.length_append] at hlen
 go_enter Tryz.func133, Tryz.ntmps133
 go_wp2_with fail
 refine (takeM _ _ _ _ r xs h h1 h3).mono ?_
 rintro e w1 ⟨v', rfl, hi1, ht1⟩
 have hp1 := ht1.blk hp (by rintro (h1 | h1); exact absurd (hp.inj (h1 ▸ h.xblk)).1 (by decide); exact absurd (hp.inj (h1 ▸ h.rblk)).1 (by decide)) (by rintro (h1 | h1); exact own_ne h.srow hp (by decide) h1; exact own_ne h.orow hp (by decide) h1)
 have hpv1 := (To.kp ht1).row hpv (by
  rintro k hk ((h1 | h1) | (h1 | h1))
  ·subst h1; exact own_ne hpv h.xblk (by decide) hk
  ·subst h1; exact own_ne hpv h.rblk (by decide) hk
  ·exact own_disj2 hpv h.srow (by decide) hk h1
  ·exact own_disj2 hpv h.orow (by decide) hk h1)
 obtain ⟨po, pc, rfl⟩ := form_of hpv1
 have c1 : w1.cell? ⟨pb, 0, none⟩ = some (.slice po ps.length pc) := hp1.cell rfl
 have hpb := hp1.lt
 have HP := hide hpv1
 have HI := hide hi1
 have HQ := hide hps
 clear hpv hpv1 hp c0 hi1 hps hp1
 go_wp2
 have hT := Blk.new w1 #[.int .i64 (xs.getD 0 0), .int .i64 (xs.getD 1 0), .int .i64 (xs.getD 2 0)] 180
 have HT := hide hT
 clear hT
 go_loopw [7, 21] (fun v i wr => ∃ k : Nat, k ≤ ps.length ∧ i = .int .i64 k ∧ wr.ownsRow (w1.heap.size + 1) 2 1 v k (ints ((picked xs ps).take k)) ∧ Kp (w1.alloc (.cells #[.int .i64 (xs.getD 0 0), .int .i64 (xs.getD 1 0), .int .i64 (xs.getD 2 0)] 180)) wr (fun _ => False) ∧ (k = 0 → v = .slice none 0 0))
  (fun _ i _ => ps.length - (intOf i).toNat)
 case atStart => exact ⟨0, Nat.zero_le _, rfl, World.ownsRow_nil _ _ _ _, Kp.refl _ _, fun _ => rfl⟩
 case round =>
  obtain ⟨k, hk, rfl, hown, hkp, hnil⟩ := hrel
  by_cases hlt : k < ps.length
  ·obtain ⟨g, cap', hpo, hcell⟩ := row_cellM (hkp.row ((HP.out).alloc _) (by simp)) hlt
   injection hpo with hpo h2 h3
   subst hpo
   subst h3
   clear h2
   have hpk : ps[k] < 3 := HQ.out _ (List.getElem_mem hlt)
   have ct := tk_cell (hkp.blk HT.out (by simp)) ps[k] hpk
   have cp : wr.cell? ⟨g, k, none⟩ = some (.int .i64 (ps[k] : Int)) := hcell _ (by simp [placesV, hlt])
   clear hcell
   obtain ⟨q, hq⟩ : ∃ q, q = ps[k] := ⟨_, rfl⟩
   rw [← hq] at ct cp hpk
   obtain ⟨x, hx⟩ : ∃ x, x = xs.getD q 0 := ⟨_, rfl⟩
   rw [← hx] at ct
   have HX : Hid (ints ((picked xs ps).take (k + 1)) = ints ((picked xs ps).take k) ++ [.int .i64 x]) := by
    unfold Hid
    rw [List.take_succ_eq_append_getElem (by simp [picked]; exact hlt)]
    simp [ints, picked, hx, hq]
   clear hq hx
   have hsz := hkp.size
   simp only [World.size_alloc] at hsz
   go_wp2_with (first
    | (at_builtin; refine wpList_append_own _ rfl _ _ 74 rfl (w1.heap.size + 1) 2 i0 (.int .i64 0) 1 8 Tryz.underlying74 hi hz0 hz1 hz2 rfl (by decide) _ _ _ rfl (hown.alloc _) ⟨wr.heap.size, 0, none⟩ 1 1 [.int .i64 x] rfl rfl ?c1 ?c2 ?c3 ?c4 ?c5 ?_)
    | go_in)
   case c1 => intro j u hj; match j, hj with | 0, hj => simp at hj; subst hj; simp [Addr.add]
   case c2 => first | rfl | (intro u hu; simp at hu; subst hu; rfl)
   case c3 => unfold maxLen; omega
   case c4 => omega
   case c5 => first | omega | (simp; omega)
   intro v2 w2 hown2 hgrow _
   have hkp2 : Kp (w1.alloc (.cells #[.int .i64 (xs.getD 0 0), .int .i64 (xs.getD 1 0), .int .i64 (xs.getD 2 0)] 180)) w2 (fun _ => False) := (hkp.alloc _).grown hgrow (fun b hb e => by have := (hown.lt b e).1; simp at hb; omega)
   rw [← HX.out] at hown2
   have HO := hide hown2
   have HK := hide hkp2
   clear hown hown2 hgrow hkp hkp2 ct cp
   go_wp2
   go_roundw
   case rel => first | exact ⟨k + 1, by omega, by go_num, HO.out, HK.out, fun h => by omega⟩ | ((repeat apply Exists.intro); exact ⟨⟨k + 1, by omega, by go_num, HO.out, HK.out, fun h => by omega⟩, rfl⟩)
   case measure => simp [intOf]; omega
  ·have hkl : k = ps.length := by omega
   subst hkl
   have hys : (picked xs ps).take ps.length = picked xs ps := List.take_of_length_le (by simp [picked])
   rw [hys] at hown
   have hyl : (picked xs ps).length = ps.length := by simp [picked]
   have hiW : MInv wr xb rb { m with sv := v' } r := (HI.out.alloc _).kp hkp
   have htW : MTo xb rb w wr m { m with sv := v' } := ht1.trans ((MTo.kp ((Kp.refl _ _).alloc _)).trans (MTo.kp hkp))
   have HW := hide hiW
   clear hkp hiW hys
   by_cases h0 : ps.length = 0
   ·have hv := hnil h0
    subst hv
    have hp0 : picked xs ps = [] := List.eq_nil_of_length_eq_zero (by omega)
    have HP0 := hide hp0
    have hpn : ps = [] := List.eq_nil_of_length_eq_zero h0
    clear hp0 hown hnil
    go_wp2_with fail
    refine (putM_nil _ _ _ _ _ HW.out).mono ?_
    rintro e w3 ⟨rfl, hi3, ht3⟩
    go_wp2
    go_ret
    refine ⟨fun _ => ⟨rfl, _, _, hi3, htW.trans ht3, rfl, rfl, rfl, fun _ => ?_⟩, fun h => by have := hlen; omega⟩
    rw [HP0.out]; simp
   ·obtain ⟨g, cap, rfl⟩ := Joins.ownsRow_form hown (by omega)
    have hcells := hown.cells (g := g) rfl
    have HC := hide hcells
    clear hown hcells hnil
    by_cases hbig : 32 < r.length + ps.length
    ·go_wp2_with fail
     refine (putM_full _ _ _ _ _ _ _ _ HW.out (by omega) hbig).mono ?_
     rintro e w' ⟨rfl, hw⟩
     rw [hw]; clear hw
     go_wp2
     go_ret
     exact ⟨fun h => by omega, fun _ => ⟨rfl, MPost.err htW HW.out rfl rfl rfl (by decide)⟩⟩
    ·go_wp2_with fail
     rw [← hyl]
     refine (putM_ok _ _ _ _ r (picked xs ps) g cap HW.out (by omega) HC.out (by omega)).mono ?_
     rintro e w3 ⟨rfl, v3, hi3, ht3⟩
     rw [hyl]
     go_wp2
     go_ret
     exact ⟨fun _ => ⟨rfl, _, _, hi3, htW.trans ht3, rfl, rfl, rfl, fun _ => by simp⟩, fun h => by omega⟩
end
section
open Go.RowKit
def Ents (n : Nat) : Prop := ∀ (a : Array Value) (w : World), (callFunc n a).run Tryz.prog w = .ok (.enter n a) w
def CallsV (v arg : Value) (w : World) (Q : Ending → World → Prop) : Prop :=
 ∃ n first cap, v = .func (.func n) first cap ∧ Ents n ∧ Calls Tryz.prog n (first.push arg ++ cap) w Q
theorem CallsV.mono {v arg : Value} {w : World} {Q Q' : Ending → World → Prop} (h : CallsV v arg w Q) (hq : ∀ e w', Q e w' → Q' e w') : CallsV v arg w Q' := by
 obtain ⟨n, f, c, h1, h2, h3⟩ := h
 exact ⟨n, f, c, h1, h2, h3.mono hq⟩
theorem ents_of {n : Nat} {f : Func} (h : Tryz.prog.funcs[n]? = some f) (h1 : (f.name == "runtime.NumGoroutine") = false) (h2 : f.body.isNone = false) : Ents n := by
 intro a w
 have h1' : ¬ f.name = "runtime.NumGoroutine" := by simpa using h1
 have h2' : ¬ f.body = none := by intro e; rw [e] at h2; cases h2
 simp [callFunc, h, h1', h2', go_sem]
theorem ent_lay : Ents 87 := ents_of Tryz.func87 (by kernel_rfl) (by kernel_rfl)
theorem MInv.setSt {w : World} {xb rb : Nat} {m : MS} {ns : List Int} (h : MInv w xb rb m ns) (s : Int) :
    MInv (w.setCell ⟨rb, 2, none⟩ (.int .i64 s)) xb rb { m with st := s } ns ∧ MTo xb rb w (w.setCell ⟨rb, 2, none⟩ (.int .i64 s)) m { m with st := s } :=
  ⟨⟨h.xblk.setOther h.ne _, h.rblk.set 2 _, ownsRow_setCell_other h.srow (own_ne h.srow h.rblk (by decide)) _, ownsRow_setCell_other h.orow (own_ne h.orow h.rblk (by decide)) _, h.len⟩,
   ⟨(Kp.refl _ _).set (fun _ => .inl (.inr rfl)) _, fun _ hk => .inl hk⟩⟩
theorem MInv.setDp {w : World} {xb rb : Nat} {m : MS} {ns : List Int} (h : MInv w xb rb m ns) (s : Int) :
    MInv (w.setCell ⟨rb, 3, none⟩ (.int .i64 s)) xb rb { m with dp := s } ns ∧ MTo xb rb w (w.setCell ⟨rb, 3, none⟩ (.int .i64 s)) m { m with dp := s } :=
  ⟨⟨h.xblk.setOther h.ne _, h.rblk.set 3 _, ownsRow_setCell_other h.srow (own_ne h.srow h.rblk (by decide)) _, ownsRow_setCell_other h.orow (own_ne h.orow h.rblk (by decide)) _, h.len⟩,
   ⟨(Kp.refl _ _).set (fun _ => .inl (.inr rfl)) _, fun _ hk => .inl hk⟩⟩
theorem burn_ok (w : World) (xb rb : Nat) (m : MS) (ns : List Int) (h : MInv w xb rb m ns) (h0 : 0 ≤ m.st) (h1 : m.st < 2000) :
  Calls Tryz.prog 86 #[.pointer (some ⟨rb, 0, none⟩)] w fun e w' => e = .returned (.int .i64 0) ∧ w' = w.setCell ⟨rb, 2, none⟩ (.int .i64 (m.st + 1)) := by
 have c1 : w.cell? ⟨rb, 2, none⟩ = some (.int .i64 m.st) := h.rblk.cell rfl
 have f1 := h.rblk.free 2
 go_enter Tryz.func86, Tryz.ntmps86
 go_wp2
 go_ret
 exact ⟨rfl, rfl⟩
theorem burn_no (w : World) (xb rb : Nat) (m : MS) (ns : List Int) (h : MInv w xb rb m ns) (h1 : ¬ m.st < 2000) :
  Calls Tryz.prog 86 #[.pointer (some ⟨rb, 0, none⟩)] w fun e w' => e = .returned (.int .i64 12) ∧ w' = w := by
 have c1 : w.cell? ⟨rb, 2, none⟩ = some (.int .i64 m.st) := h.rblk.cell rfl
 go_enter Tryz.func86, Tryz.ntmps86
 go_wp2
 go_ret
 exact ⟨rfl, rfl⟩
theorem stepV_no (w : World) (xb rb : Nat) (m : MS) (ns : List Int) (v : Value) (h : MInv w xb rb m ns) (h1 : ¬ m.st < 2000) :
  Calls Tryz.prog 61 #[.pointer (some ⟨rb, 0, none⟩), v] w fun e w' => e = .returned (.int .i64 12) ∧ w' = w := by
 have HB := hide (burn_no w xb rb m ns h h1)
 go_enter Tryz.func61, Tryz.ntmps61
 go_wp2_with fail
 refine HB.out.mono ?_
 rintro e w' ⟨rfl, rfl⟩
 go_wp2
 go_ret
 exact ⟨rfl, rfl⟩
theorem stepV (w : World) (xb rb : Nat) (m : MS) (ns : List Int) (v : Value) (Q : Int → World → Prop) (h : MInv w xb rb m ns) (h0 : 0 ≤ m.st) (h1 : m.st < 2000)
  (hc : CallsV v (.pointer (some ⟨rb, 0, none⟩)) (w.setCell ⟨rb, 2, none⟩ (.int .i64 (m.st + 1))) fun e w' => ∃ n, e = .returned (.int .i64 n) ∧ Q n w') :
  Calls Tryz.prog 61 #[.pointer (some ⟨rb, 0, none⟩), v] w fun e w' => ∃ n, e = .returned (.int .i64 n) ∧ Q n w' := by
 have HB := hide (burn_ok w xb rb m ns h h0 h1)
 obtain ⟨n, first, cap, rfl, hen, hc⟩ := hc
 unfold Ents at hen
 have HC := hide hc
 clear hc
 go_enter Tryz.func61, Tryz.ntmps61
 go_wp2_with fail
 refine HB.out.mono ?_
 rintro e w' ⟨rfl, rfl⟩
 go_wp2_with fail
 refine HC.out.mono ?_
 rintro e w2 ⟨n, rfl, hp⟩
 go_wp2
 go_ret
 exact ⟨n, rfl, hp⟩
end
end Go.Proofs.YtldifaahmpecfaaGreatDoor
