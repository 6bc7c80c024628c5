import Derived.Test.YteainaiebcphlaaGreatDoorV27
namespace Go.Proofs.YteainaiebcphlaaGreatDoor
set_option maxRecDepth 1000000
set_option maxHeartbeats 4000000
set_option linter.all false
section
open Go.RowKit
def endL (s1:St):St:=if s1.e=0 then s1 else { s1 with rs:=[] }
structure PCon (B:Nat) (W0:World) (PS:World->Nat->(Nat->Prop)->St->Prop):Prop where
 lt:∀ w xb V s,PS w xb V s->∀ k,V k->k < w.heap.size
 frame:∀ w w' S xb V s,PS w xb V s->Kp w w' S->(∀ k,V k->¬ S k)->(∀ k,k < B->¬ S k)->B<=w.heap.size->PS w' xb V s
 new:∀ w,Below B W0 w->B<=w.heap.size->Calls Tryz.prog 27 #[] w fun e w'=>∃ xb V,e=.returned (.pointer (some ⟨xb,0,none⟩))/\PS w' xb V st0/\Kp w w' (fun _=>False)/\∀ k,V k->w.heap.size<=k
 line:∀ w xb V s s1 left g (t:ByteArray),PS w xb V s->WFs s->SGood s->validB t.data.toList=true->xRun g (jToks (Lib.fields t.data.toList)) (freshL s)=some (s1,left) ->
  Calls Tryz.prog 18 #[.pointer (some ⟨xb,0,none⟩),.string t] w fun e w'=>e=.returned (.tuple #[.string s1.out,.int .i64 s1.e])/\∃ V',PS w' xb V' (endL s1)/\To (fun _=>False) w w' V V'
 lineBad:∀ w xb V s (t:ByteArray),PS w xb V s->validB t.data.toList=false ->
  Calls Tryz.prog 18 #[.pointer (some ⟨xb,0,none⟩),.string t] w fun e w'=>e=.returned (.tuple #[.string ⟨#[]⟩,.int .i64 2])/\∃ V',PS w' xb V' s/\To (fun _=>False) w w' V V'
 stack:∀ w xb V s,PS w xb V s->SGood s->Calls Tryz.prog 19 #[.pointer (some ⟨xb,0,none⟩)] w fun e w'=>∃ v,e=.returned v/\w'.ownsRow w.heap.size 3 1 v s.rs.length (ints s.rs.reverse)/\∃ V',PS w' xb V' s/\To (fun _=>False) w w' V V'/\∀ k,own v k->¬ V' k
 cell:∀ w xb V s n,PS w xb V s->In n->Calls Tryz.prog 39 #[.pointer (some ⟨xb,0,none⟩),.int .i64 n] w fun e w'=>e=.returned (.tuple #[.int .i64 (cellP s n).1,.int .i64 (cellP s n).2])/\∃ V',PS w' xb V' s/\To (fun _=>False) w w' V V'
 words:∀ w xb V s,PS w xb V s->Calls Tryz.prog 33 #[.pointer (some ⟨xb,0,none⟩)] w fun e w'=>∃ v,e=.returned v/\(∃ L:List ByteArray,w'.ownsRow w.heap.size 9 1 v L.length (L.map Value.string)/\texts L=wordsP s)/\∃ V',PS w' xb V' s/\To (fun _=>False) w w' V V'/\∀ k,own v k->¬ V' k
def cx (i:Nat):Nat:=2 * i+3
def cy (i:Nat):Nat:=2 * i+4
theorem cx_cy (i j:Nat):cx i ≠ cy j:=by unfold cx cy;omega
theorem cx_inj {i j:Nat} (h:cx i=cx j):i=j:=by unfold cx at h;omega
theorem cy_inj {i j:Nat} (h:cy i=cy j):i=j:=by unfold cy at h;omega
def paint (c:Nat->Nat) (n a:Nat):Nat->Nat:=fun b=>if b < n then c b else a
def barK (c:Nat->Nat) (w:World) (a:Nat):Nat->Prop:=fun b=>b < w.heap.size/\c b ≠ a
structure Mv (A:Nat->Prop) (c:Nat->Nat) (w:World) (c':Nat->Nat) (w':World):Prop where
 kp:Kp w w' (fun b=>A (c b))
 old:∀ b,b < w.heap.size->c' b=c b
 new:∀ b,w.heap.size<=b->A (c' b)
theorem Mv.trans {A:Nat->Prop} {c c1 c2:Nat->Nat} {w w1 w2:World} (h:Mv A c w c1 w1) (g:Mv A c1 w1 c2 w2):Mv A c w c2 w2:=by
 refine⟨⟨g.kp.os.trans h.kp.os,g.kp.tape.trans h.kp.tape,g.kp.output.trans h.kp.output,Nat.le_trans h.kp.size g.kp.size,fun k hk hn=>?_⟩,fun b hb=>?_,fun b hb=>?_⟩
 ·refine (g.kp.block k (Nat.lt_of_lt_of_le hk h.kp.size) (fun e=>hn ?_)).trans (h.kp.block k hk hn);have e:A (c1 k):=e;rw[h.old k hk] at e;exact e
 ·rw[g.old b (Nat.lt_of_lt_of_le hb h.kp.size),h.old b hb]
 ·by_cases hlt:b < w1.heap.size
  ·rw[g.old b hlt];exact h.new b hb
  ·exact g.new b (by omega)
theorem Mv.mono {A B:Nat->Prop} {c c1:Nat->Nat} {w w1:World} (h:Mv A c w c1 w1) (hAB:∀ a,A a->B a):Mv B c w c1 w1:=
 ⟨h.kp.mono (fun k _ hk=>hAB _ hk),h.old,fun b hb=>hAB _ (h.new b hb)⟩
theorem Mv.paint {c:Nat->Nat} {w w':World} {a:Nat} (hk:Kp w w' (fun b=>c b=a)):Mv (fun x=>x=a) c w (Go.Proofs.YteainaiebcphlaaGreatDoor.paint c w.heap.size a) w':=
 ⟨hk,fun b hb=>if_pos hb,fun b hb=>if_neg (by omega)⟩
structure Pr where
 pb:Nat
 xb:Nat
 yb:Nat
 V:Nat->Prop
 sx:St
 rs:RS
 s:St
structure PrIn (B:Nat) (PS:World->Nat->(Nat->Prop)->St->Prop) (c:Nat->Nat) (w:World) (i:Nat) (p:Pr):Prop where
 blk:Blk w p.pb 61 #[.pointer (some ⟨p.xb,0,none⟩),.pointer (some ⟨p.yb,0,none⟩)]
 cp:c p.pb=0
 x:PS w p.xb p.V p.sx
 cv:∀ k,p.V k->c k=cx i
 y:Ses (barK c w (cy i)) w p.yb p.rs p.s
 cyb:c p.yb=cy i
 cn:∀ k,own p.rs.nv k->c k=cy i
 cd:∀ k,own p.rs.d.dv k->c k=cy i
 low:∀ b,b < B->c b=0
 bl:B<=w.heap.size
section
variable {PS:World->Nat->(Nat->Prop)->St->Prop} {B:Nat} {W0:World} (P:PCon B W0 PS)
include P
theorem PrIn.other {A:Nat->Prop} {c c':Nat->Nat} {w w':World} {i:Nat} {p:Pr} (h:PrIn B PS c w i p) (hm:Mv A c w c' w') (h0:¬ A 0) (h1:¬ A (cx i)) (h2:¬ A (cy i)):PrIn B PS c' w' i p:=by
 have hlt:=hm.old;have hk:=hm.kp;have hvl:=P.lt _ _ _ _ h.x;have hyl:=h.y.inv.blk.lt;have hnl:∀ k,own p.rs.nv k->k < w.heap.size:=fun k hk=>own_lt h.y.inv.row hk;have hdl:∀ k,own p.rs.d.dv k->k < w.heap.size:=fun k hk=>by obtain⟨xs,hr,_⟩:=h.y.rel.dr.ex;exact own_lt hr hk
 refine⟨hk.blk h.blk (fun e=>?_),?_,P.frame _ _ _ _ _ _ h.x hk (fun k hv e=>?_) (fun k hk e=>h0 (by have e:A (c k):=e;rw[h.low k hk] at e;exact e)) h.bl,fun k hv=>?_,?_,?_,fun k hv=>?_,fun k hv=>?_,fun b hb=>by rw[hlt b (Nat.lt_of_lt_of_le hb h.bl)];exact h.low b hb,Nat.le_trans h.bl hk.size⟩
 ·have e:A (c p.pb):=e;rw[h.cp] at e;exact h0 e
 ·rw[hlt _ h.blk.lt];exact h.cp
 ·have e:A (c k):=e;rw[h.cv k hv] at e;exact h1 e
 ·rw[hlt k (hvl k hv)];exact h.cv k hv
 ·refine h.y.move hk (fun b hb e=>⟨hb,fun e2=>?_⟩) (fun e=>?_) (fun b hb e=>?_) (fun b hb e=>?_) (fun b hb=>?_) (fun b hb=>hb.1)
  ·have e:A (c b):=e;rw[e2] at e;exact h2 e
  ·have e:A (c p.yb):=e;rw[h.cyb] at e;exact h2 e
  ·have e:A (c b):=e;rw[h.cn b hb] at e;exact h2 e
  ·have e:A (c b):=e;rw[h.cd b hb] at e;exact h2 e
  ·by_cases hlt2:b < w.heap.size
   ·left;refine⟨hlt2,?_⟩;have:=hb.2;rw[hlt b hlt2] at this;exact this
   ·right;omega
 ·rw[hlt _ hyl];exact h.cyb
 ·rw[hlt k (hnl k hv)];exact h.cn k hv
 ·rw[hlt k (hdl k hv)];exact h.cd k hv
theorem PrIn.ranX {c:Nat->Nat} {w w':World} {i:Nat} {p:Pr} {V':Nat->Prop} {s':St} (h:PrIn B PS c w i p) (hto:To (fun _=>False) w w' p.V V') (hx:PS w' p.xb V' s'):
  PrIn B PS (paint c w.heap.size (cx i)) w' i { p with V:=V',sx:=s' }/\Mv (fun a=>a=cx i) c w (paint c w.heap.size (cx i)) w':=by
 have hk:Kp w w' (fun b=>c b=cx i):=hto.kp.mono (fun k _ hk=>by rcases hk with e|e;exact e.elim;exact h.cv k e);have hm:=Mv.paint hk;have hlt:=hm.old;have hyl:=h.y.inv.blk.lt;have hnl:∀ k,own p.rs.nv k->k < w.heap.size:=fun k hk=>own_lt h.y.inv.row hk;have hdl:∀ k,own p.rs.d.dv k->k < w.heap.size:=fun k hk=>by obtain⟨xs,hr,_⟩:=h.y.rel.dr.ex;exact own_lt hr hk
 have hxy:cx i ≠ cy i:=cx_cy i i;refine⟨⟨hk.blk h.blk (fun e=>?_),?_,hx,fun k hv=>?_,?_,?_,fun k hv=>?_,fun k hv=>?_,fun b hb=>by rw[hlt b (Nat.lt_of_lt_of_le hb h.bl)];exact h.low b hb,Nat.le_trans h.bl hk.size⟩,hm⟩
 ·have e:c p.pb=cx i:=e;rw[h.cp] at e;unfold cx at e;omega
 ·rw[hlt _ h.blk.lt];exact h.cp
 ·rcases hto.nx k hv with h1|h1
  ·rw[hlt k (P.lt _ _ _ _ h.x k h1)];exact h.cv k h1
  ·exact hm.new k h1
 ·refine h.y.move hk (fun b hb e=>⟨hb,fun e2=>?_⟩) (fun e=>?_) (fun b hb e=>?_) (fun b hb e=>?_) (fun b hb=>?_) (fun b hb=>hb.1)
  ·have e:c b=cx i:=e;rw[e2] at e;exact hxy e.symm
  ·have e:c p.yb=cx i:=e;rw[h.cyb] at e;exact hxy e.symm
  ·have e:c b=cx i:=e;rw[h.cn b hb] at e;exact hxy e.symm
  ·have e:c b=cx i:=e;rw[h.cd b hb] at e;exact hxy e.symm
  ·by_cases hlt2:b < w.heap.size
   ·left;refine⟨hlt2,?_⟩;have:=hb.2;rw[hlt b hlt2] at this;exact this
   ·right;omega
 ·rw[hlt _ hyl];exact h.cyb
 ·rw[hlt k (hnl k hv)];exact h.cn k hv
 ·rw[hlt k (hdl k hv)];exact h.cd k hv
theorem PrIn.ranY {c:Nat->Nat} {w w':World} {i:Nat} {p:Pr} {rs':RS} {s':St} (h:PrIn B PS c w i p) (hto:STo p.yb w w' p.rs rs') (hy:Ses (barK c w (cy i)) w' p.yb rs' s'):
  PrIn B PS (paint c w.heap.size (cy i)) w' i { p with rs:=rs',s:=s' }/\Mv (fun a=>a=cy i) c w (paint c w.heap.size (cy i)) w':=by
 have hk:Kp w w' (fun b=>c b=cy i):=hto.kp.mono (fun k _ hk=>by
  rcases hk with e|e|e
  ·rw[e];exact h.cyb
  ·exact h.cn k e
  ·exact h.cd k e)
 have hm:=Mv.paint hk;have hlt:=hm.old;have hvl:=P.lt _ _ _ _ h.x;have hxy:cx i ≠ cy i:=cx_cy i i;have key:∀ k,(own rs'.nv k\/own rs'.d.dv k)->paint c w.heap.size (cy i) k=cy i:=by
  intro k hv;rcases hto.nx k hv with h1|h1
  ·have hkl:k < w.heap.size:=by
    rcases h1 with h1|h1
    ·exact own_lt h.y.inv.row h1
    ·obtain⟨xs,hr,_⟩:=h.y.rel.dr.ex;exact own_lt hr h1
   rw[hlt k hkl];rcases h1 with h1|h1
   ·exact h.cn k h1
   ·exact h.cd k h1
  ·exact hm.new k h1
 refine⟨⟨hk.blk h.blk (fun e=>?_),?_,P.frame _ _ _ _ _ _ h.x hk (fun k hv e=>?_) (fun k hk e=>by have e:c k=cy i:=e;rw[h.low k hk] at e;unfold cy at e;omega) h.bl,fun k hv=>?_,?_,?_,fun k hv=>key k (.inl hv),fun k hv=>key k (.inr hv),fun b hb=>by rw[hlt b (Nat.lt_of_lt_of_le hb h.bl)];exact h.low b hb,Nat.le_trans h.bl hk.size⟩,hm⟩
 ·have e:c p.pb=cy i:=e;rw[h.cp] at e;unfold cy at e;omega
 ·rw[hlt _ h.blk.lt];exact h.cp
 ·have e:c k=cy i:=e;rw[h.cv k hv] at e;exact hxy e
 ·rw[hlt k (hvl k hv)];exact h.cv k hv
 ·refine hy.less (fun b hb=>?_);by_cases hlt2:b < w.heap.size
  ·refine⟨hlt2,?_⟩;have:=hb.2;rw[hlt b hlt2] at this;exact this
  ·exact absurd (hm.new b (by omega)) hb.2
 ·rw[hlt _ h.y.inv.blk.lt];exact h.cyb
end
end
end Go.Proofs.YteainaiebcphlaaGreatDoor
