import Derived.Test.YtldifaahmpecfaaGreatDoorV42
import Derived.Handy
namespace Go.Proofs.YtldifaahmpecfaaGreatDoor
set_option maxRecDepth 1000000
set_option maxHeartbeats 4000000
set_option linter.all false
section
open Go.RowKit
variable {K : Nat → Prop}
theorem Kp.newS {w w1 w2 : World} {S : Nat → Prop} (h : Kp w w1 (fun _ => False)) (hk : Kp w1 w2 S) (hb : ∀ b, S b → w.heap.size ≤ b) : Kp w w2 (fun _ => False) :=
 ⟨hk.os.trans h.os, hk.tape.trans h.tape, hk.output.trans h.output, Nat.le_trans h.size hk.size, fun k hlt hn => (hk.block k (Nat.lt_of_lt_of_le hlt h.size) (fun hS => by have := hb k hS; omega)).trans (h.block k hlt hn)⟩
structure NamesAt (w wr : World) (v : Value) (l : List Tok) : Prop where
 ex : ∃ L : List ByteArray, wr.ownsRow 0 9 1 v L.length (L.map Value.string) ∧ texts L = l
 new : ∀ b, own v b → w.heap.size ≤ b
 kp : Kp w wr (fun _ => False)
theorem NamesAt.nil (w : World) : NamesAt w w (.slice none 0 0) [] := ⟨⟨[], World.ownsRow_nil _ _ _ _, rfl⟩, fun b hb => by simp [own, Value.ownBlock] at hb, Kp.refl _ _⟩
theorem NamesAt.more {w wr w1 : World} {v v' : Value} {l : List Tok} {L : List ByteArray} {t : ByteArray} {o : Obj} (hL : texts L = l) (hnew : ∀ b, own v b → w.heap.size ≤ b) (hkp : Kp w wr (fun _ => False))
  (hown : w1.ownsRow 0 9 1 v' (L.length + 1) (L.map Value.string ++ [.string t])) (hg : (wr.alloc o).grownBy w1 v.ownBlock) (hnx : ∀ k, own v' k → own v k ∨ wr.heap.size + 1 ≤ k) : NamesAt w w1 v' (l ++ [t.data.toList]) := by
 refine ⟨⟨L ++ [t], by simpa using hown, by rw [← hL]; simp [texts]⟩, fun b hb => ?_, (hkp.alloc o).grown hg (fun b hb e => ?_)⟩
 ·rcases hnx b hb with h | h
  ·exact hnew b h
  ·have := hkp.size; omega
 ·have := hnew b e; omega
theorem wordsX (w : World) (yb : Nat) (rs : RS) (s : St) (h : Ses K w yb rs s) :
  Calls Tryz.prog 30 #[.pointer (some ⟨yb, 0, none⟩)] w fun e w' => ∃ v, e = .returned v ∧ NamesAt w w' v (wordsP s) := by
 have hdl := h.rel.dr.len
 have HS := hide h
 obtain ⟨i0, hi, hz0, hz1, hz2⟩ := info_parts Tryz.info9
 clear h
 go_enter Tryz.func30, Tryz.ntmps30
 go_wp2
 go_loopw [3, 4] (fun v i wr => ∃ k : Nat, k ≤ s.defs.length ∧ i = .int .i64 k ∧ NamesAt w wr v ((s.defs.take k).map Def.name)) (fun _ i _ => s.defs.length - (intOf i).toNat)
 case atStart => exact ⟨0, Nat.zero_le _, rfl, by simpa using NamesAt.nil w⟩
 case round =>
  obtain ⟨k, hk, rfl, ⟨⟨L, hrow, hL⟩, hnew, hkp⟩⟩ := hrel
  have hS := HS.out.kpF hkp
  have hLl : L.length ≤ 30 := by have := congrArg List.length hL; rw [texts_len] at this; simp at this; omega
  have HL := hide hL
  clear hL
  by_cases hlt : k < s.defs.length
  ·obtain ⟨gd, capd, xs, nm, vb, vt, hD⟩ := hS.rel.dr.cells k hlt
   have cy : wr.cell? ⟨yb, 17, none⟩ = some (.slice (some ⟨gd, 0, none⟩) s.defs.length capd) := by rw [← hD.dv]; exact hS.inv.blk.cell rfl
   have k0 := hD.cell _ _ hD.x0
   have hyl := hS.inv.blk.lt
   have HNM := hide hD.at_.nm
   obtain ⟨ao, cap, rfl⟩ := row_slice hrow
   clear hD hS
   go_wp2_with (first
    | (at_builtin; refine wpList_append_to _ rfl _ _ 47 rfl 9 i0 (.string ByteArray.empty) 1 16 Tryz.underlying47 hi hz0 hz1 hz2 rfl (by decide) _ _ _ rfl (hrow.alloc _) ⟨wr.heap.size, 0, none⟩ 1 1 [.string nm] rfl rfl ?c1 ?c2 ?c3 ?c4 ?_)
    | go_in)
   case c1 => intro j u hj; match j, hj with | 0, hj => simp at hj; subst hj; simp [Addr.add]
   case c2 => intro u hu; simp at hu; subst hu; rfl
   case c3 => unfold maxLen; omega
   case c4 => omega
   intro v1 w1 hown hgrow hnx
   have HN0 := NamesAt.more HL.out hnew hkp hown hgrow (fun q hq => (hnx q hq).imp (fun h => h) (fun h => by simpa using h))
   have HN : Hid (NamesAt w w1 v1 ((s.defs.take (k + 1)).map Def.name)) := by
    unfold Hid
    rw [List.take_succ_eq_append_getElem hlt, List.map_append]
    rw [HNM.out] at HN0
    exact HN0
   clear HN0 hown hgrow hnx hrow hnew hkp cy k0
   go_wp2
   go_roundw
   case rel => exact ⟨k + 1, by omega, by go_num, HN.out⟩
   case measure => simp [intOf]; omega
  ·have cy0 : wr.cell? ⟨yb, 17, none⟩ = some rs.d.dv := hS.inv.blk.cell rfl
   obtain ⟨xsd, hrd, -⟩ := hS.rel.dr.ex
   obtain ⟨aod, capd, hvd⟩ := row_slice hrd
   rw [hvd] at cy0
   have HLL : Hid (texts L = s.defs.map Def.name) := by have := HL.out; rw [List.take_of_length_le (by omega)] at this; exact this
   clear hrd hvd hS
   go_wp2_with fail
   refine (sortedX wr _ L hrow (by omega)).mono ?_
   rintro e w2 ⟨rfl, ⟨L2, hrow2, hL2⟩, hkp2⟩
   have HN : Hid (NamesAt w w2 _ (wordsP s)) := ⟨⟨L2, hrow2, by rw [hL2, HLL.out]; rfl⟩, hnew, hkp.newS hkp2 hnew⟩
   clear hrow2 hL2 hkp2 hrow hnew hkp
   go_wp2
   go_ret
   exact ⟨_, rfl, HN.out⟩
end
section
open Go.RowKit
def endL (s1 : St) : St := if s1.e = 0 then s1 else { s1 with rs := [] }
structure PCon (B : Nat) (W0 : World) (PS : World → Nat → (Nat → Prop) → St → Prop) : Prop where
 lt : ∀ w xb V s, PS w xb V s → ∀ k, V k → k < w.heap.size
 frame : ∀ w w' S xb V s, PS w xb V s → Kp w w' S → (∀ k, V k → ¬ S k) → (∀ k, k < B → ¬ S k) → B ≤ w.heap.size → PS w' xb V s
 new : ∀ w, Below B W0 w → B ≤ w.heap.size → Calls Tryz.prog 21 #[] w fun e w' => ∃ xb V, e = .returned (.pointer (some ⟨xb, 0, none⟩)) ∧ PS w' xb V st0 ∧ Kp w w' (fun _ => False) ∧ ∀ k, V k → w.heap.size ≤ k
 line : ∀ w xb V s s1 left g (t : ByteArray), PS w xb V s → WFs s → SGood s → validB t.data.toList = true → xRun g (jToks (Lib.fields t.data.toList)) (freshL s) = some (s1, left) →
  Calls Tryz.prog 15 #[.pointer (some ⟨xb, 0, none⟩), .string t] w fun e w' => e = .returned (.tuple #[.string s1.out, .int .i64 s1.e]) ∧ ∃ V', PS w' xb V' (endL s1) ∧ To (fun _ => False) w w' V V'
 lineBad : ∀ w xb V s (t : ByteArray), PS w xb V s → validB t.data.toList = false →
  Calls Tryz.prog 15 #[.pointer (some ⟨xb, 0, none⟩), .string t] w fun e w' => e = .returned (.tuple #[.string ⟨#[]⟩, .int .i64 2]) ∧ ∃ V', PS w' xb V' s ∧ To (fun _ => False) w w' V V'
 stack : ∀ w xb V s, PS w xb V s → SGood s → Calls Tryz.prog 16 #[.pointer (some ⟨xb, 0, none⟩)] w fun e w' => ∃ v, e = .returned v ∧ w'.ownsRow w.heap.size 3 1 v s.rs.length (ints s.rs.reverse) ∧ ∃ V', PS w' xb V' s ∧ To (fun _ => False) w w' V V' ∧ ∀ k, own v k → ¬ V' k
 cell : ∀ w xb V s n, PS w xb V s → In n → Calls Tryz.prog 36 #[.pointer (some ⟨xb, 0, none⟩), .int .i64 n] w fun e w' => e = .returned (.tuple #[.int .i64 (cellP s n).1, .int .i64 (cellP s n).2]) ∧ ∃ V', PS w' xb V' s ∧ To (fun _ => False) w w' V V'
 words : ∀ w xb V s, PS w xb V s → Calls Tryz.prog 29 #[.pointer (some ⟨xb, 0, none⟩)] w fun e w' => ∃ v, e = .returned v ∧ (∃ L : List ByteArray, w'.ownsRow w.heap.size 9 1 v L.length (L.map Value.string) ∧ texts L = wordsP s) ∧ ∃ V', PS w' xb V' s ∧ To (fun _ => False) w w' V V' ∧ ∀ k, own v k → ¬ V' k
def cx (i : Nat) : Nat := 2 * i + 3
def cy (i : Nat) : Nat := 2 * i + 4
theorem cx_cy (i j : Nat) : cx i ≠ cy j := by unfold cx cy; omega
theorem cx_inj {i j : Nat} (h : cx i = cx j) : i = j := by unfold cx at h; omega
theorem cy_inj {i j : Nat} (h : cy i = cy j) : i = j := by unfold cy at h; omega
def paint (c : Nat → Nat) (n a : Nat) : Nat → Nat := fun b => if b < n then c b else a
def barK (c : Nat → Nat) (w : World) (a : Nat) : Nat → Prop := fun b => b < w.heap.size ∧ c b ≠ a
structure Mv (A : Nat → Prop) (c : Nat → Nat) (w : World) (c' : Nat → Nat) (w' : World) : Prop where
 kp : Kp w w' (fun b => A (c b))
 old : ∀ b, b < w.heap.size → c' b = c b
 new : ∀ b, w.heap.size ≤ b → A (c' b)
theorem Mv.trans {A : Nat → Prop} {c c1 c2 : Nat → Nat} {w w1 w2 : World} (h : Mv A c w c1 w1) (g : Mv A c1 w1 c2 w2) : Mv A c w c2 w2 := by
 refine ⟨⟨g.kp.os.trans h.kp.os, g.kp.tape.trans h.kp.tape, g.kp.output.trans h.kp.output, Nat.le_trans h.kp.size g.kp.size, fun k hk hn => ?_⟩, fun b hb => ?_, fun b hb => ?_⟩
 ·refine (g.kp.block k (Nat.lt_of_lt_of_le hk h.kp.size) (fun e => hn ?_)).trans (h.kp.block k hk hn)
  have e : A (c1 k) := e
  rw [h.old k hk] at e; exact e
 ·rw [g.old b (Nat.lt_of_lt_of_le hb h.kp.size), h.old b hb]
 ·by_cases hlt : b < w1.heap.size
  ·rw [g.old b hlt]; exact h.new b hb
  ·exact g.new b (by omega)
theorem Mv.mono {A B : Nat → Prop} {c c1 : Nat → Nat} {w w1 : World} (h : Mv A c w c1 w1) (hAB : ∀ a, A a → B a) : Mv B c w c1 w1 :=
 ⟨h.kp.mono (fun k _ hk => hAB _ hk), h.old, fun b hb => hAB _ (h.new b hb)⟩
theorem Mv.paint {c : Nat → Nat} {w w' : World} {a : Nat} (hk : Kp w w' (fun b => c b = a)) : Mv (fun x => x = a) c w (Go.Proofs.YtldifaahmpecfaaGreatDoor.paint c w.heap.size a) w' :=
 ⟨hk, fun b hb => if_pos hb, fun b hb => if_neg (by omega)⟩
structure Pr where
 pb : Nat
 xb : Nat
 yb : Nat
 V : Nat → Prop
 sx : St
 rs : RS
 s : St
structure PrIn (B : Nat) (PS : World → Nat → (Nat → Prop) → St → Prop) (c : Nat → Nat) (w : World) (i : Nat) (p : Pr) : Prop where
 blk : Blk w p.pb 59 #[.pointer (some ⟨p.xb, 0, none⟩), .pointer (some ⟨p.yb, 0, none⟩)]
 cp : c p.pb = 0
 x : PS w p.xb p.V p.sx
 cv : ∀ k, p.V k → c k = cx i
 y : Ses (barK c w (cy i)) w p.yb p.rs p.s
 cyb : c p.yb = cy i
 cn : ∀ k, own p.rs.nv k → c k = cy i
 cd : ∀ k, own p.rs.d.dv k → c k = cy i
 low : ∀ b, b < B → c b = 0
 bl : B ≤ w.heap.size
section
variable {PS : World → Nat → (Nat → Prop) → St → Prop} {B : Nat} {W0 : World} (P : PCon B W0 PS)
include P
theorem PrIn.other {A : Nat → Prop} {c c' : Nat → Nat} {w w' : World} {i : Nat} {p : Pr} (h : PrIn B PS c w i p) (hm : Mv A c w c' w') (h0 : ¬ A 0) (h1 : ¬ A (cx i)) (h2 : ¬ A (cy i)) : PrIn B PS c' w' i p := by
 have hlt := hm.old
 have hk := hm.kp
 have hvl := P.lt _ _ _ _ h.x
 have hyl := h.y.inv.blk.lt
 have hnl : ∀ k, own p.rs.nv k → k < w.heap.size := fun k hk => own_lt h.y.inv.row hk
 have hdl : ∀ k, own p.rs.d.dv k → k < w.heap.size := fun k hk => by obtain ⟨xs, hr, _⟩ := h.y.rel.dr.ex; exact own_lt hr hk
 refine ⟨hk.blk h.blk (fun e => ?_), ?_, P.frame _ _ _ _ _ _ h.x hk (fun k hv e => ?_) (fun k hk e => h0 (by have e : A (c k) := e; rw [h.low k hk] at e; exact e)) h.bl, fun k hv => ?_, ?_, ?_, fun k hv => ?_, fun k hv => ?_, fun b hb => by rw [hlt b (Nat.lt_of_lt_of_le hb h.bl)]; exact h.low b hb, Nat.le_trans h.bl hk.size⟩
 ·have e : A (c p.pb) := e
  rw [h.cp] at e; exact h0 e
 ·rw [hlt _ h.blk.lt]; exact h.cp
 ·have e : A (c k) := e
  rw [h.cv k hv] at e; exact h1 e
 ·rw [hlt k (hvl k hv)]; exact h.cv k hv
 ·refine h.y.move hk (fun b hb e => ⟨hb, fun e2 => ?_⟩) (fun e => ?_) (fun b hb e => ?_) (fun b hb e => ?_) (fun b hb => ?_) (fun b hb => hb.1)
  ·have e : A (c b) := e
   rw [e2] at e; exact h2 e
  ·have e : A (c p.yb) := e
   rw [h.cyb] at e; exact h2 e
  ·have e : A (c b) := e
   rw [h.cn b hb] at e; exact h2 e
  ·have e : A (c b) := e
   rw [h.cd b hb] at e; exact h2 e
  ·by_cases hlt2 : b < w.heap.size
   ·left; refine ⟨hlt2, ?_⟩; have := hb.2; rw [hlt b hlt2] at this; exact this
   ·right; omega
 ·rw [hlt _ hyl]; exact h.cyb
 ·rw [hlt k (hnl k hv)]; exact h.cn k hv
 ·rw [hlt k (hdl k hv)]; exact h.cd k hv
theorem PrIn.ranX {c : Nat → Nat} {w w' : World} {i : Nat} {p : Pr} {V' : Nat → Prop} {s' : St} (h : PrIn B PS c w i p) (hto : To (fun _ => False) w w' p.V V') (hx : PS w' p.xb V' s') :
  PrIn B PS (paint c w.heap.size (cx i)) w' i { p with V := V', sx := s' } ∧ Mv (fun a => a = cx i) c w (paint c w.heap.size (cx i)) w' := by
 have hk : Kp w w' (fun b => c b = cx i) := hto.kp.mono (fun k _ hk => by rcases hk with e | e; exact e.elim; exact h.cv k e)
 have hm := Mv.paint hk
 have hlt := hm.old
 have hyl := h.y.inv.blk.lt
 have hnl : ∀ k, own p.rs.nv k → k < w.heap.size := fun k hk => own_lt h.y.inv.row hk
 have hdl : ∀ k, own p.rs.d.dv k → k < w.heap.size := fun k hk => by obtain ⟨xs, hr, _⟩ := h.y.rel.dr.ex; exact own_lt hr hk
 have hxy : cx i ≠ cy i := cx_cy i i
 refine ⟨⟨hk.blk h.blk (fun e => ?_), ?_, hx, fun k hv => ?_, ?_, ?_, fun k hv => ?_, fun k hv => ?_, fun b hb => by rw [hlt b (Nat.lt_of_lt_of_le hb h.bl)]; exact h.low b hb, Nat.le_trans h.bl hk.size⟩, hm⟩
 ·have e : c p.pb = cx i := e
  rw [h.cp] at e; unfold cx at e; omega
 ·rw [hlt _ h.blk.lt]; exact h.cp
 ·rcases hto.nx k hv with h1 | h1
  ·rw [hlt k (P.lt _ _ _ _ h.x k h1)]; exact h.cv k h1
  ·exact hm.new k h1
 ·refine h.y.move hk (fun b hb e => ⟨hb, fun e2 => ?_⟩) (fun e => ?_) (fun b hb e => ?_) (fun b hb e => ?_) (fun b hb => ?_) (fun b hb => hb.1)
  ·have e : c b = cx i := e
   rw [e2] at e; exact hxy e.symm
  ·have e : c p.yb = cx i := e
   rw [h.cyb] at e; exact hxy e.symm
  ·have e : c b = cx i := e
   rw [h.cn b hb] at e; exact hxy e.symm
  ·have e : c b = cx i := e
   rw [h.cd b hb] at e; exact hxy e.symm
  ·by_cases hlt2 : b < w.heap.size
   ·left; refine ⟨hlt2, ?_⟩; have := hb.2; rw [hlt b hlt2] at this; exact this
   ·right; omega
 ·rw [hlt _ hyl]; exact h.cyb
 ·rw [hlt k (hnl k hv)]; exact h.cn k hv
 ·rw [hlt k (hdl k hv)]; exact h.cd k hv
theorem PrIn.ranY {c : Nat → Nat} {w w' : World} {i : Nat} {p : Pr} {rs' : RS} {s' : St} (h : PrIn B PS c w i p) (hto : STo p.yb w w' p.rs rs') (hy : Ses (barK c w (cy i)) w' p.yb rs' s') :
  PrIn B PS (paint c w.heap.size (cy i)) w' i { p with rs := rs', s := s' } ∧ Mv (fun a => a = cy i) c w (paint c w.heap.size (cy i)) w' := by
 have hk : Kp w w' (fun b => c b = cy i) := hto.kp.mono (fun k _ hk => by
  rcases hk with e | e | e
  ·rw [e]; exact h.cyb
  ·exact h.cn k e
  ·exact h.cd k e)
 have hm := Mv.paint hk
 have hlt := hm.old
 have hvl := P.lt _ _ _ _ h.x
 have hxy : cx i ≠ cy i := cx_cy i i
 have key : ∀ k, (own rs'.nv k ∨ own rs'.d.dv k) → paint c w.heap.size (cy i) k = cy i := by
  intro k hv
  rcases hto.nx k hv with h1 | h1
  ·have hkl : k < w.heap.size := by
    rcases h1 with h1 | h1
    ·exact own_lt h.y.inv.row h1
    ·obtain ⟨xs, hr, _⟩ := h.y.rel.dr.ex; exact own_lt hr h1
   rw [hlt k hkl]
   rcases h1 with h1 | h1
   ·exact h.cn k h1
   ·exact h.cd k h1
  ·exact hm.new k h1
 refine ⟨⟨hk.blk h.blk (fun e => ?_), ?_, P.frame _ _ _ _ _ _ h.x hk (fun k hv e => ?_) (fun k hk e => by have e : c k = cy i := e; rw [h.low k hk] at e; unfold cy at e; omega) h.bl, fun k hv => ?_, ?_, ?_, fun k hv => key k (.inl hv), fun k hv => key k (.inr hv), fun b hb => by rw [hlt b (Nat.lt_of_lt_of_le hb h.bl)]; exact h.low b hb, Nat.le_trans h.bl hk.size⟩, hm⟩
 ·have e : c p.pb = cy i := e
  rw [h.cp] at e; unfold cy at e; omega
 ·rw [hlt _ h.blk.lt]; exact h.cp
 ·have e : c k = cy i := e
  rw [h.cv k hv] at e; exact hxy e
 ·rw [hlt k (hvl k hv)]; exact h.cv k hv
 ·refine hy.less (fun b hb => ?_)
  by_cases hlt2 : b < w.heap.size
  ·refine ⟨hlt2, ?_⟩; have := hb.2; rw [hlt b hlt2] at this; exact this
  ·exact absurd (hm.new b (by omega)) hb.2
 ·rw [hlt _ h.y.inv.blk.lt]; exact h.cyb
end
end
section
open Go.RowKit
section
variable {B : Nat} {W w w' : World} {xb bk mb : Nat} {sv : Value} {D V : Nat → Prop} {s : St}
theorem good_fresh (h : SGood s) : SGood (freshL s) :=
 ⟨⟨h.g.ins, h.g.mems, h.g.len, by show (0 : Nat) ≤ 300; decide⟩, by show (0 : Int) ≤ 0; decide, by show (0 : Int) ≤ 2001; decide, fun _ => by show (0 : Int) ≤ 2000; decide, by show (0 : Int) ≤ 0; decide, by show (0 : Int) ≤ 20; decide, h.b0, h.b1, h.cb⟩
theorem PSn.start (h : PSn B W w xb bk mb sv D V s) (hg : SGood s) (hk : Kp w w' (fun _ => False)) (hr : Blk w' w.heap.size 100 (runCells xb)) :
  PR B W w' xb w.heap.size mb ⟨sv, s.mem, .slice none 0 0, 0, ⟨#[]⟩, 0, bk⟩ D (freshL s) := by
 have h1 := h.kp hk
 have nov : ∀ k, ¬ own (.slice none 0 0) k := fun k e => by simp [own, Value.ownBlock] at e
 refine ⟨⟨s.rs.reverse, ⟨h1.xblk, hr, h1.srow, World.ownsRow_nil _ _ _ _, by rw [List.length_reverse]; exact h.len⟩, fun _ => rfl⟩, rfl, rfl, by show (0 : Int) ≤ 0; decide, by show (0 : Int) ≤ 2000; decide, fun _ => rfl, rfl, ⟨h1.bel, h.bx, h.bs, fun k e => e.elim (h.bv k) (fun q => absurd q (nov k)), h1.bs⟩, h.bmb, h1.book, h1.words, fun k e => ?_, good_fresh hg⟩
 obtain ⟨e0, e1, e2⟩ := h.sep k e
 exact ⟨Nat.lt_of_lt_of_le e0 hk.size, e1, by show k ≠ w.heap.size; omega, e2, nov k⟩
theorem lineOk (hE : Env B W) (h : PSn B W w xb bk mb sv D V s) (hg : SGood s) (t : ByteArray) (hv : validB t.data.toList = true) (g : Nat) (s1 : St) (left : Bool) (hx : xRun g (jToks (Lib.fields t.data.toList)) (freshL s) = some (s1, left)) :
  Calls Tryz.prog 15 #[pt xb, .string t] w fun e w' => e = .returned (.tuple #[.string s1.out, .int .i64 s1.e]) ∧ ∃ V', PSes B W w' xb V' (endL s1) ∧ To (fun _ => False) w w' V V' := by
 refine (lineW hE.glo w xb bk sv s.mem t hv h.bel h.bs h.xblk s1.e (fun m' w3 => ∃ D', PR B W w3 xb w.heap.size mb m' D' s1 ∧ Kp w w3 V ∧ m'.bk = bk ∧ (∀ k, own m'.sv k → own sv k ∨ w.heap.size ≤ k) ∧ (∀ k, D' k → D k ∨ w.heap.size ≤ k)) ?_).mono ?_
 ·intro w1 n v ws hk hb hT htx hok hl
  have h1 := h.start hg hk hb
  refine ((allX hE g).2.2.2 w1 xb w.heap.size mb _ D (freshL s) s1 _ ws left h1 rfl hT hok hl (by rw [htx]; exact hx)).mono ?_
  rintro e w' ⟨rfl, m', D', hr, ht⟩
  obtain ⟨ns, hi, _⟩ := hr.inv
  refine ⟨m', ns, rfl, ht.bk, hi, D', hr, ?_, ht.bk, fun k e => ?_, fun k e => ?_⟩
  ·have hkp := ht.wt.kp
   refine ⟨hkp.os.trans hk.os, hkp.tape.trans hk.tape, hkp.output.trans hk.output, Nat.le_trans hk.size hkp.size, fun k hlt hn => ?_⟩
   refine (hkp.block k (Nat.lt_of_lt_of_le hlt hk.size) ?_).trans (hk.block k hlt (by simp))
   rintro (((e | e) | e) | (e | e))
   ·exact hn ((h.vs k).2 (.inl e))
   ·omega
   ·exact hn ((h.vs k).2 (.inr (.inr (.inl e))))
   ·exact hn ((h.vs k).2 (.inr (.inr (.inr (.inl e)))))
   ·simp [own, Value.ownBlock] at e
  ·rcases ht.wt.nx k (.inl e) with (q | q) | q
   ·exact .inl q
   ·simp [own, Value.ownBlock] at q
   ·exact .inr (Nat.le_trans hk.size q)
  ·rcases ht.nw k e with q | q
   ·exact .inl q
   ·exact .inr (Nat.le_trans hk.size q)
 ·rintro e w' ⟨m', w3, ⟨D', hr, hkp, hbk, hsv, hD'⟩, rfl, hw⟩
  refine ⟨by rw [hr.out], ?_⟩
  obtain ⟨ns, hi, hns⟩ := hr.inv
  have hVn : ∀ (sv' : Value), (∀ k, own sv' k → own m'.sv k) → ∀ k, (k = xb ∨ k = bk ∨ k = mb ∨ own sv' k ∨ D' k) → V k ∨ w.heap.size ≤ k := by
   rintro sv' hs' k (e | e | e | e | e)
   ·exact .inl ((h.vs k).2 (.inl e))
   ·exact .inl ((h.vs k).2 (.inr (.inl e)))
   ·exact .inl ((h.vs k).2 (.inr (.inr (.inl e))))
   ·rcases hsv k (hs' k e) with q | q
    ·exact .inl ((h.vs k).2 (.inr (.inr (.inr (.inl q)))))
    ·exact .inr q
   ·rcases hD' k e with q | q
    ·exact .inl ((h.vs k).2 (.inr (.inr (.inr (.inr q)))))
    ·exact .inr q
  have hbook : Blk w3 bk 106 #[.map (some mb)] := by have := hr.book; rw [hbk] at this; exact this
  have hwords : WordsR D' w3 bk mb s1.defs := by have := hr.words; rw [hbk] at this; exact this
  have hxb : Blk w3 xb 80 (marr bk m'.sv s1.mem) := by have := hi.xblk; rw [hbk, hr.mem] at this; exact this
  by_cases he : s1.e = 0
  ·rw [if_pos he] at hw
   subst hw
   have hee : endL s1 = s1 := by unfold endL; rw [if_pos he]
   rw [hee]
   refine ⟨fun k => k = xb ∨ k = bk ∨ k = mb ∨ own m'.sv k ∨ D' k, ⟨bk, mb, m'.sv, D', ⟨hxb, ?_, ?_, hr.safe.bel, hr.safe.bx, fun k e => hr.safe.bv k (.inl e), hr.safe.bs, hr.bmb, hbook, hwords, fun k e => ?_, fun k => Iff.rfl⟩⟩, ⟨hkp.mono (fun k _ e => .inr e), hVn m'.sv (fun _ e => e)⟩⟩
   ·rw [← hns he]; exact hi.srow
   ·have := hi.len; rw [hns he, List.length_reverse] at this; exact this
   ·obtain ⟨q0, q1, q2, q3, q4⟩ := hr.sep k e
    exact ⟨q0, q1, q3⟩
  ·rw [if_neg he] at hw
   subst hw
   have hee : endL s1 = { s1 with rs := [] } := by unfold endL; rw [if_neg he]
   rw [hee]
   have hk5 : Kp w3 (w3.setCell ⟨xb, 0, none⟩ (.slice none 0 0)) (fun k => k = xb) := Kp.one _ _ _ _
   have nov : ∀ k, ¬ own (.slice none 0 0) k := fun k e => by simp [own, Value.ownBlock] at e
   refine ⟨fun k => k = xb ∨ k = bk ∨ k = mb ∨ own (.slice none 0 0) k ∨ D' k, ⟨bk, mb, .slice none 0 0, D', ⟨hxb.set 0 _, World.ownsRow_nil _ _ _ _, by show (0 : Nat) ≤ 32; decide, hr.safe.bel.trans (hk5.below hr.safe.bs (fun k hk e => by have := hr.safe.bx; omega)), hr.safe.bx, fun k e => absurd e (nov k), Nat.le_trans hr.safe.bs hk5.size, hr.bmb, hk5.blk hbook (fun e => by subst e; exact absurd (hbook.inj hi.xblk).1 (by decide)), hwords.keep (BD_keep hk5 (fun b _ e => ⟨e, (hr.sep b e).2.1⟩)) (hk5.block mb hwords.ltm (fun e => hwords.ne hi.xblk e)), fun k e => ?_, fun k => Iff.rfl⟩⟩, ⟨?_, hVn (.slice none 0 0) (fun k e => absurd e (nov k))⟩⟩
   ·obtain ⟨q0, q1, q2, q3, q4⟩ := hr.sep k e
    exact ⟨Nat.lt_of_lt_of_le q0 hk5.size, q1, nov k⟩
   ·refine ⟨hk5.os.trans hkp.os, hk5.tape.trans hkp.tape, hk5.output.trans hkp.output, Nat.le_trans hkp.size hk5.size, fun k hlt hn => ?_⟩
    exact (hk5.block k (Nat.lt_of_lt_of_le hlt hkp.size) (fun e => hn (.inr ((h.vs k).2 (.inl e))))).trans (hkp.block k hlt (fun e => hn (.inr e)))
end
end
end Go.Proofs.YtldifaahmpecfaaGreatDoor
