import Derived.Test.YteainaiebcphlaaGreatDoorV46
import Derived.Deep.LoopGhost
namespace Go.Proofs.YteainaiebcphlaaGreatDoor
set_option maxRecDepth 1000000
set_option maxHeartbeats 4000000
set_option linter.all false
section
open Go.RowKit
theorem Tryz.infoPair:(Tryz.prog.info? 55).map (fun i=>(i.zero,i.size,i.bytes))=some (some (.pointer none),1,8):=by kernel_rfl
section
variable {PS:World->Nat->(Nat->Prop)->St->Prop} {B:Nat} {W0:World} (P:PCon B W0 PS)
include P
theorem WIn.added {c:Nat->Nat} {w w1 w5:World} {wb xb pb:Nat} {psv psv' kv:Value} {n:Int} {ps:List Pr} {kept:List Ke} {V:Nat->Prop} (h:WIn PS B c w wb psv kv n ps kept)
  (hx:PS w1 xb V st0) (hk1:Kp w w1 (fun _=>False)) (hV:∀ k,V k->w.heap.size<=k)
  (hpb:w1.heap.size < pb) (hpblk:Blk w5 pb 61 #[.pointer (some ⟨xb,0,none⟩),.pointer (some ⟨w1.heap.size,0,none⟩)])
  (hk5:Kp (w1.alloc (.cells rs0.arr 67)) w5 (fun b=>b=wb\/own psv b))
  (hblk:Blk w5 wb 28 #[psv',.int .i64 n,kv]) (hrow:w5.ownsRow 0 55 1 psv' (ps.length+1) (ptrsP ps ++ [.pointer (some ⟨pb,0,none⟩)])) (hnx:∀ k,own psv' k->own psv k\/pb < k):
  (∃ c',WIn PS B c' w5 wb psv' kv n (ps ++ [⟨pb,xb,w1.heap.size,V,st0,rs0,st0⟩]) kept)/\Below B w w5:=by
 classical
 have hVl:=P.lt _ _ _ _ hx;have hka:Kp w (w1.alloc (.cells rs0.arr 67)) (fun _=>False):=hk1.alloc _;have hsz1:=hk1.size;have hsz2:(w1.alloc (.cells rs0.arr 67)).heap.size=w1.heap.size+1:=by simp
 have hkp:Kp w w5 (fun b=>b=wb\/own psv b):=(hka.mono (fun _ _ h=>h.elim)).trans hk5;have hk2:Kp w w5 (fun b=>c b=2):=hkp.mono (fun b _ hb=>by
  rcases hb with e|e
  ·rw[e];exact h.cw
  ·exact h.cr b e)
 have hm:=Mv.paint hk2;have p2:∀ i (hi:i < ps.length),PrIn B PS (paint c w.heap.size 2) w5 i ps[i]:=fun i hi=>(h.pin i hi).other P hm (by decide) (cx_two i) (cy_two i)
 let c3:Nat->Nat:=fun b=>if V b then cx ps.length else if b=w1.heap.size then cy ps.length else if b=pb then 0 else paint c w.heap.size 2 b
 have hwl:=h.blk.lt;have old:∀ b,b < w.heap.size->c3 b=c b:=fun b hb=>by
  show (if V b then _ else _)=_;rw[if_neg (fun hv=>by have:=hV b hv;omega),if_neg (by omega),if_neg (by omega)];exact hm.old b hb
 have gV:∀ b,V b->c3 b=cx ps.length:=fun b hb=>if_pos hb;have gy:c3 w1.heap.size=cy ps.length:=by
  show (if V _ then _ else _)=_;rw[if_neg (fun hv=>by have:=hVl _ hv;omega),if_pos rfl]
 have gp:c3 pb=0:=by
  show (if V _ then _ else _)=_;rw[if_neg (fun hv=>by have:=hVl _ hv;omega),if_neg (by omega),if_pos rfl]
 have npb:¬ own psv' pb:=fun hv=>by exact absurd (row_type hrow hv hpblk) (by decide)
 have nrow:∀ k,own psv' k->c3 k=2:=fun k hk=>by
  rcases hnx k hk with h1|h1
  ·rw[old k (own_lt h.row h1)];exact h.cr k h1
  ·show (if V k then _ else _)=_;rw[if_neg (fun hv=>by have:=hVl k hv;omega),if_neg (by omega),if_neg (by omega)];exact hm.new k (by omega)
 have p3:∀ i (hi:i < ps.length),PrIn B PS c3 w5 i ps[i]:=fun i hi=>(p2 i hi).re P (fun b hb=>by
  have hge:w.heap.size<=b:=by
   rcases Nat.lt_or_ge b w.heap.size with hlt|hge
   ·exact absurd ((old b hlt).trans (hm.old b hlt).symm) hb
   ·exact hge
  have hb2:paint c w.heap.size 2 b=2:=hm.new b hge;refine⟨by rw[hb2];decide,by rw[hb2];exact fun e=>cy_two i e.symm,fun hv=>?_⟩;have:=(p2 i hi).cv b hv;rw[hb2] at this;exact cx_two i this.symm)
 have nkr:∀ k,own kv k->¬ (k=wb\/own psv k):=by
  rintro k hk (e|e)
  ·subst e;exact own_ne h.krow h.blk (by decide) hk
  ·obtain⟨cc,hcc⟩:=row_blk h.krow hk;exact absurd (row_type h.row e hcc) (by decide)
 have hyb:Blk (w1.alloc (.cells rs0.arr 67)) w1.heap.size 67 rs0.arr:=Blk.new _ _ _;have nS:¬ (w1.heap.size=wb\/own psv w1.heap.size):=by
  rintro (e|e)
  ·omega
  ·have:=own_lt h.row e;omega
 have hnil:∀ k,own rs0.nv k->False:=fun k hk=>by simp[own,Value.ownBlock,rs0] at hk
 have hnil2:∀ k,own rs0.d.dv k->False:=fun k hk=>by simp[own,Value.ownBlock,rs0] at hk
 have hS0:Ses (fun b=>b < w1.heap.size) (w1.alloc (.cells rs0.arr 67)) w1.heap.size rs0 st0:=Ses.first w1 (fun b hb=>by rw[hsz2];exact Nat.lt_succ_of_lt hb)
 have hS5:Ses (barK c3 w5 (cy ps.length)) w5 w1.heap.size rs0 st0:=by
  refine hS0.move hk5 (fun b hb hS=>?_) nS (fun b hb=>(hnil b hb).elim) (fun b hb=>(hnil2 b hb).elim) (fun b hb=>?_) (fun b hb=>hb.1)
  ·rcases hS with e|e
   ·rw[e];show wb < w1.heap.size;omega
   ·have:=own_lt h.row e;show b < w1.heap.size;omega
  ·by_cases hlt:b < w1.heap.size
   ·exact .inl hlt
   ·by_cases he:b=w1.heap.size
    ·subst he;exact absurd gy hb.2
    ·right;rw[hsz2];omega
 have hx5:PS w5 xb V st0:=by
  have hxa:=P.frame _ _ (fun _=>False) _ _ _ hx (((Kp.refl w1 _).alloc (.cells rs0.arr 67))) (fun _ _ h=>h) (fun _ _ h=>h) (Nat.le_trans h.bl hsz1);refine P.frame _ _ _ _ _ _ hxa hk5 (fun k hk hS=>?_) (fun k hk hS=>?_) (by rw[hsz2];have:=h.bl;omega)
  ·have:=hV k hk;rcases hS with e|e
   ·omega
   ·have:=own_lt h.row e;omega
  ·have hc:=h.low k hk;rcases hS with e|e
   ·rw[e,h.cw] at hc;omega
   ·rw[h.cr k e] at hc;omega
 have low3:∀ b,b < B->c3 b=0:=fun b hb=>by rw[old b (Nat.lt_of_lt_of_le hb h.bl)];exact h.low b hb
 have bl5:B<=w5.heap.size:=Nat.le_trans h.bl hkp.size;refine⟨⟨c3,hblk,by rw[old _ hwl];exact h.cw,by simpa [ptrsP] using hrow,nrow,hkp.row h.krow nkr,fun k hk=>by rw[old _ (own_lt h.krow hk)];exact h.ck k hk,fun i hi=>?_,fun i hi=>?_,fun i hi=>?_,fun i hi=>?_,low3,bl5⟩,hk2.below h.bl (fun k hk e=>by have e:c k=2:=e;rw[h.low k hk] at e;omega)⟩
 ·by_cases hlt:i < ps.length
  ·rw[List.getElem_append_left hlt];exact p3 i hlt
  ·have hie:i=ps.length:=by simp at hi;omega
   subst hie;rw[List.getElem_append_right (Nat.le_refl _)];simp only[Nat.sub_self,List.getElem_cons_zero];exact⟨hpblk,gp,hx5,gV,hS5,gy,fun k hk=>(hnil k hk).elim,fun k hk=>(hnil2 k hk).elim,low3,bl5⟩
 ·by_cases hlt:i < ps.length
  ·rw[List.getElem_append_left hlt];exact h.same i hlt
  ·have hie:i=ps.length:=by simp at hi;omega
   subst hie;rw[List.getElem_append_right (Nat.le_refl _)];simp
 ·by_cases hlt:i < ps.length
  ·rw[List.getElem_append_left hlt];exact h.wf i hlt
  ·have hie:i=ps.length:=by simp at hi;omega
   subst hie;rw[List.getElem_append_right (Nat.le_refl _)]
   simpa using WFs.first
 ·exact ((h.ke i hi).mv hm (by decide)).re (fun b hb=>by
   have hlt:b < w.heap.size:=by
    rcases Nat.lt_or_ge b w.heap.size with hlt|hge
    ·exact hlt
    ·have:=hm.new b hge;omega
   rw[old b hlt,<-hm.old b hlt];exact hb)
end
end
section
open Go.RowKit
section
variable {PS:World->Nat->(Nat->Prop)->St->Prop} {B:Nat} {W0:World} (P:PCon B W0 PS)
include P
theorem stepNew (c:Nat->Nat) (w:World) (wb:Nat) (psv kv:Value) (n:Int) (ps:List Pr) (kept:List Ke) (A N M:Int) (S:ByteArray) (h:WIn PS B c w wb psv kv n ps kept) (hb0:Below B W0 w) (hn2:ps.length<=4398046511104):
  Calls Tryz.prog 14 #[.pointer (some ⟨wb,0,none⟩),.agg #[.int .i64 1,.int .i64 A,.int .i64 N,.int .i64 M,.string S]] w fun e w'=>e=.returned (.bool true)/\StepPost PS B w w' wb ps.length kept.length:=by
 obtain⟨i0,hi,hz0,hz1,hz2⟩:=info_parts Tryz.infoPair;have hwl:=h.blk.lt;go_enter Tryz.func14,Tryz.ntmps14
 go_wp2_with fail
 have hk0:Kp w (w.alloc (.cells #[.int .i64 1,.int .i64 A,.int .i64 N,.int .i64 M,.string S] 30)) (fun _=>False):=(Kp.refl _ _).alloc _;refine (P.new _ (hb0.trans (Kp.low P hk0 h.bl)) (Nat.le_trans h.bl hk0.size)).mono ?_;rintro e w1 ⟨xb,V,rfl,hx,hk1,hV⟩;have hk01:=hk0.trans hk1;have hV1:∀ k,V k->w.heap.size<=k:=fun k hk=>Nat.le_trans hk0.size (hV k hk);clear hk1 hV
 go_wp2_with fail
 refine (freshX _).mono ?_;rintro e w2 ⟨rfl,hw2⟩;have hk2:Kp w w2 (fun _=>False):=by rw[hw2];exact hk01.alloc _
 have hs2:w2.heap.size=w1.heap.size+1:=by rw[hw2];simp
 have hB2:=hk2.blk h.blk (fun h=>h);have hr2:=hk2.row h.row (fun _ _ h=>h);obtain⟨ao,cap,hv⟩:=row_slice h.row;have c0:w2.cell? ⟨wb,0,none⟩=some psv:=hB2.cell rfl;rw[hv] at c0 hr2;have hr3:=hr2.alloc (.cells #[.pointer (some ⟨xb,0,none⟩),.pointer (some ⟨w1.heap.size,0,none⟩)] 61);have hwl2:=hB2.lt;have HH:=hide h;have HX:=hide hx;have HK01:=hide hk01;have HV1:=hide hV1;have HW2:=hide hw2;have HS2:=hide hs2;have HV:=hide hv;have HB2:=hide hB2;clear h hx hk01 hV1 hw2 hs2 hv hr2 hk2 hk0 hB2
 go_wp2_with (first
  | (at_builtin;refine wpList_append_to _ rfl _ _ 25 rfl 55 i0 (.pointer none) 1 8 Tryz.underlying25 hi hz0 hz1 hz2 rfl (by decide) _ _ _ rfl (hr3.alloc _) ⟨w2.heap.size+1,0,none⟩ 1 1 [.pointer (some ⟨w2.heap.size,0,none⟩)] rfl rfl ?c1 ?c2 ?c3 ?c4 ?_)
  | go_in)
 case c1=>
  intro j u hj
  match j,hj with
  | 0,hj=>
   simp at hj;subst hj;rw[addr_add];have:=(Blk.new (w2.alloc (.cells #[.pointer (some ⟨xb,0,none⟩),.pointer (some ⟨w1.heap.size,0,none⟩)] 61)) #[.pointer (some ⟨w2.heap.size,0,none⟩)] 55).cell (o:=0) rfl;rw[show (w2.alloc (.cells #[.pointer (some ⟨xb,0,none⟩),.pointer (some ⟨w1.heap.size,0,none⟩)] 61)).heap.size=w2.heap.size+1 by simp] at this;exact this
 case c2=>intro u hu;simp at hu;subst hu;rfl
 case c3=>unfold maxLen;omega
 case c4=>omega
 intro v' w4 hown hgrow hnx;obtain⟨a4,p4,rfl⟩:=row_slice hown;have hk24:Kp w2 w4 (fun b=>own psv b):=(((Kp.refl w2 _).alloc (.cells #[.pointer (some ⟨xb,0,none⟩),.pointer (some ⟨w1.heap.size,0,none⟩)] 61)).alloc (.cells #[.pointer (some ⟨w2.heap.size,0,none⟩)] 55)).grown hgrow (fun b _ e=>by rw[HV.out];exact e);have hnwb:¬ own psv wb:=own_ne HH.out.row HH.out.blk (by decide);have hB4:=hk24.blk HB2.out hnwb;have q0:w4.cell? ⟨wb,0,none⟩=some psv:=hB4.cell rfl;have q1:=hB4.free 0;rw[HV.out] at q0;have hsz:w2.heap.size=w1.heap.size+1:=HS2.out;have hpb4:Blk w4 w2.heap.size 61 #[.pointer (some ⟨xb,0,none⟩),.pointer (some ⟨w1.heap.size,0,none⟩)]:=by
  have hb3:Blk ((w2.alloc (.cells #[.pointer (some ⟨xb,0,none⟩),.pointer (some ⟨w1.heap.size,0,none⟩)] 61)).alloc (.cells #[.pointer (some ⟨w2.heap.size,0,none⟩)] 55)) w2.heap.size 61 #[.pointer (some ⟨xb,0,none⟩),.pointer (some ⟨w1.heap.size,0,none⟩)]:=(Blk.new w2 _ _).alloc _;refine hb3.same (hgrow.block _ (by simp;omega) (fun e=>?_));have ho:own psv w2.heap.size:=by rw[HV.out];exact e.symm
  have h1:=own_lt HH.out.row ho;have h2:=HK01.out.size;omega
 have HFIN:Hid (StepPost PS B w (w4.setCell ⟨wb,0,none⟩ (.slice a4 (ps.length+1) p4)) wb ps.length kept.length):=by
  have hk5:Kp (w1.alloc (.cells rs0.arr 67)) (w4.setCell ⟨wb,0,none⟩ (.slice a4 (ps.length+1) p4)) (fun b=>b=wb\/own psv b):=by
   rw[<-HW2.out];exact (hk24.mono (fun _ _ h=>.inr h)).set (a:=⟨wb,0,none⟩) (fun _=>.inl rfl) _
  have hwne:w2.heap.size ≠ wb:=by have:=HH.out.blk.lt;have:=HK01.out.size;omega
  obtain⟨⟨c',hW⟩,hbel⟩:=HH.out.added P HX.out HK01.out HV1.out (pb:=w2.heap.size) (by omega) (hpb4.setOther hwne _) hk5 (hB4.set 0 _)
   (ownsRow_setCell_other hown (a:=⟨wb,0,none⟩) (own_ne hown hB4 (by decide)) _)
   (fun k hk=>by
    rcases hnx k hk with h1|h1
    ·left;rw[HV.out];exact h1
    ·right;first|omega|(simp at h1;omega))
  exact⟨_,_,_,_,_,_,hW,by simp,by omega,hbel⟩
 clear hown hgrow hnx hk24 hB4 hpb4 hsz;go_wp2;go_ret;exact⟨rfl,HFIN.out⟩
end
end
section
open Go.RowKit
structure Scr (W:World) (b off:Nat) (i:Nat) (K A N M:Int) (S:ByteArray):Prop where
 c0:W.cell? ⟨b,off+i * 5,none⟩=some (.int .i64 K)
 c1:W.cell? ⟨b,off+i * 5+1,none⟩=some (.int .i64 A)
 c2:W.cell? ⟨b,off+i * 5+2,none⟩=some (.int .i64 N)
 c3:W.cell? ⟨b,off+i * 5+3,none⟩=some (.int .i64 M)
 c4:W.cell? ⟨b,off+i * 5+4,none⟩=some (.string S)
 a:In A
 n:In N
section
variable {PS:World->Nat->(Nat->Prop)->St->Prop} {B:Nat} {W0:World} (P:PCon B W0 PS)
include P
theorem stepL (c:Nat->Nat) (w:World) (wb:Nat) (psv kv:Value) (n:Int) (ps:List Pr) (kept:List Ke) (K A N M:Int) (S:ByteArray) (h:WIn PS B c w wb psv kv n ps kept) (hb0:Below B W0 w) (hK:K<=5) (hA:In A) (hN:In N) (hn2:ps.length<=4398046511104) (hkl:kept.length<=1000000000):
  Calls Tryz.prog 14 #[.pointer (some ⟨wb,0,none⟩),.agg #[.int .i64 K,.int .i64 A,.int .i64 N,.int .i64 M,.string S]] w fun e w'=>e=.returned (.bool true)/\StepPost PS B w w' wb ps.length kept.length:=by
 by_cases k1:K=1
 ·subst k1;exact stepNew P c w wb psv kv n ps kept A N M S h hb0 hn2
 by_cases hz:ps.length=0
 ·have:ps=[]:=List.eq_nil_of_length_eq_zero hz;subst this;exact stepNone P c w wb psv kv n kept K A N M S h (by simpa using k1)
 by_cases k2:K=2
 ·subst k2;exact stepLine P c w wb psv kv n ps kept A N M S h hA (by omega) hn2
 by_cases k3:K=3
 ·subst k3;exact stepStack P c w wb psv kv n ps kept A N M S h hA (by omega) hn2 hkl
 by_cases k4:K=4
 ·subst k4;exact stepCell P c w wb psv kv n ps kept A N M S h hA hN (by omega) hn2
 by_cases k5:K=5
 ·subst k5;exact stepWords P c w wb psv kv n ps kept A N M S h hA (by omega) hn2 hkl
 ·exact stepOther P c w wb psv kv n ps kept K A N M S h (by omega) hA (by omega) hn2
def URel (PS:World->Nat->(Nat->Prop)->St->Prop) (B:Nat) (W wr:World) (wb k:Nat):Prop:=∃ c psv kv n ps kept,WIn PS B c wr wb psv kv n ps kept/\ps.length<=k/\kept.length<=4 * k/\Below B W wr
theorem WIn.first (w1:World) (hB:B<=w1.heap.size):WIn PS B (fun b=>if b < B then 0 else 2) (w1.alloc (.cells #[.slice none 0 0,.int .i64 0,.slice none 0 0] 28)) w1.heap.size (.slice none 0 0) (.slice none 0 0) 0 [] []:=
 ⟨Blk.new _ _ _,if_neg (by omega),World.ownsRow_nil _ _ _ _,fun k hk=>by simp[own,Value.ownBlock] at hk,World.ownsRow_nil _ _ _ _,fun k hk=>by simp[own,Value.ownBlock] at hk,fun i hi=>by simp at hi,fun i hi=>by simp at hi,fun i hi=>by simp at hi,fun i hi=>by simp at hi,fun b hb=>if_pos hb,by simp;omega⟩
end
section
variable {PS:World->Nat->(Nat->Prop)->St->Prop}
theorem upToL (W:World) (P:PCon W.heap.size W PS) (b off len cap:Nat) (hb:b < W.heap.size) (hlen:len<=2000000) (hS:∀ i,i < len->∃ K A N M S,Scr W b off i K A N M S)
  (hH:Calls Tryz.prog 13 #[.int .i64 5] W fun e w'=>e=.returned (.bool true)/\Below W.heap.size W w'):
  Calls Tryz.prog 15 #[.slice (some ⟨b,off,none⟩) len cap,.int .i64 5] W fun e w'=>e=.returned (.int .i64 (-1))/\Below W.heap.size W w':=by
 have HS:=hide hS;clear hS;go_enter Tryz.func15,Tryz.ntmps15
 go_wp2_with fail
 refine hH.mono ?_;rintro e w1 ⟨rfl,hb1⟩;have HW0:Hid (URel PS W.heap.size W (w1.alloc (.cells #[.slice none 0 0,.int .i64 0,.slice none 0 0] 28)) w1.heap.size 0):=
  ⟨_,_,_,_,_,_,WIn.first P w1 hb1.size,by simp,by simp,hb1.alloc hb1.size _⟩
 clear hb1 hH;go_wp2
 go_loopw [7] (fun i wr=>∃ k:Nat,k<=len/\i=.int .i64 k/\URel PS W.heap.size W wr w1.heap.size k) (fun i _=>len - (intOf i).toNat)
 case atStart=>exact⟨0,Nat.zero_le _,rfl,HW0.out⟩
 case round=>
  clear HW0;obtain⟨k,hk,rfl,c,psv,kv,n,ps,kept,hw,hpl,hkl,hbel⟩:=hrel;by_cases hlt:k < len
  ·obtain⟨K,A,N,M,S,hs⟩:=HS.out k hlt;have d0:wr.cell? ⟨b,off+k * 5,none⟩=some (.int .i64 K):=(hbel.cell (p:=⟨b,off+k * 5,none⟩) hb).trans hs.c0;have d1:wr.cell? ⟨b,off+k * 5+1,none⟩=some (.int .i64 A):=(hbel.cell (p:=⟨b,off+k * 5+1,none⟩) hb).trans hs.c1;have d2:wr.cell? ⟨b,off+k * 5+2,none⟩=some (.int .i64 N):=(hbel.cell (p:=⟨b,off+k * 5+2,none⟩) hb).trans hs.c2;have d3:wr.cell? ⟨b,off+k * 5+3,none⟩=some (.int .i64 M):=(hbel.cell (p:=⟨b,off+k * 5+3,none⟩) hb).trans hs.c3;have d4:wr.cell? ⟨b,off+k * 5+4,none⟩=some (.string S):=(hbel.cell (p:=⟨b,off+k * 5+4,none⟩) hb).trans hs.c4;by_cases hK:K<=5
   ·have HST:=hide (stepL P c wr w1.heap.size psv kv n ps kept K A N M S hw hbel hK hs.a hs.n (by omega) (by omega));have HBEL:=hide hbel;have hK5:¬ 5 < K:=by omega
    clear hw hbel hs hK
    go_wp2_with fail
    refine HST.out.mono ?_;rintro e w2 ⟨rfl,c2,psv2,kv2,n2,ps2,kept2,hw2,hpl2,hkl2,hbel2⟩;have HB2:Hid (Below W.heap.size W w2):=HBEL.out.trans hbel2;have HW2:=hide hw2;have HSTI:=hide (stillL w2 w1.heap.size psv2 kv2 n2 kept2 hw2.blk hw2.krow (by omega) (fun i hi=>(hw2.ke i hi).rd));clear hw2 hbel2 HBEL HST d0 d1 d2 d3 d4
    go_wp2_with fail
    refine HSTI.out.mono ?_;rintro e w3 ⟨rfl,hk3⟩;have HR:Hid (URel PS W.heap.size W w3 w1.heap.size (k+1)):=⟨_,_,_,_,_,_,HW2.out.idle P hk3,by omega,by omega,HB2.out.trans (Kp.low P hk3 HW2.out.bl)⟩;clear hk3 HW2 HB2 HSTI;go_wp2
    go_roundw
    case rel=>exact⟨k+1,by omega,by go_num,HR.out⟩
    case measure=>simp[intOf];omega
   ·have HR:Hid (URel PS W.heap.size W wr w1.heap.size (k+1)):=⟨_,_,_,_,_,_,hw,by omega,by omega,hbel⟩;have hK5:5 < K:=by omega
    clear hw hbel hs hK;go_wp2
    go_roundw
    case rel=>exact⟨k+1,by omega,by go_num,HR.out⟩
    case measure=>simp[intOf];omega
  ·have HB2:=hide hbel;clear hw hbel;go_wp2;go_ret;exact⟨rfl,HB2.out⟩
end
end
end Go.Proofs.YteainaiebcphlaaGreatDoor
