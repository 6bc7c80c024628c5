import Derived.Test.YteainaiebcphlaaGreatDoorQ14
import Derived.Laws.IdiomRangeMap
import Derived.Deep.RegionLaw
import Derived.Test.YteainaiebcphlaaGreatDoorQ17
import Derived.Handy
namespace Go.Proofs.YteainaiebcphlaaGreatDoor
set_option maxRecDepth 1000000
set_option maxHeartbeats 4000000
set_option linter.all false
open Go.Proofs.Tryz
section
open Go.RowKit
theorem jR {key:Value}{kl:Lit}(h:keyOf prog 9 key=some kl):∃x:ByteArray,key=.string x/\kl=.string x.data.toList:=by
 cases key <;> simp[keyOf,underlying9,mapKey] at h
 exact⟨_,rfl,h.2.symm⟩
theorem s6 {P:Program}{w:World}(w':World){ops:Array Oper}{o:Oper}{a:Act}{K:Act->World->Prop}{Q:Exit->Act->World->Prop}{E:Prop}(hg:o.guard=none)(m x:Operand)(t k:TypeId)(hop:o.op=Op.call {callee:=Callee.builtin Builtin.delete,args:=#[m,x],argTypes:=#[t,k]})(vm vx:Value)
  (hm:a.eval m=vm) (hx:a.eval x=vx) (hrun:∀ty,(Builtin.delete_ #[t,k] ty #[vm,vx]).run P w=.ok (.tuple #[]) w') (h:K (a.put o.dst (.tuple #[])) w'):if Region.wanted o (yielded ops a.tmps)=true then Oper.wp P o a w K Q else E:=by
 have hw:Region.wanted o (yielded ops a.tmps)=true:=by simp[Region.wanted,hg]
 rw[ag hw];unfold Oper.wp;simp[execOp,hop,resolve,invoke,builtin,hm,hx,hrun,Result.andThen];exact h
def mL (X:XV)(k:Nat):XV:=⟨λi=>if i=k then false else X.fa i,λi=>if i=k then 0 else X.ct i,λi j=>i≠k/\X.P i j,λi j=>i≠k/\X.H i j⟩
def OP (X:XV)(k:Nat)(L:Nat->Prop):XV:=⟨X.fa,X.ct,X.P,λi j=>X.H i j/\(i=k->L j)⟩
section
variable {D:GD}{w:World}{bk ob:Nat}{f:Fr}{n k:Nat}{fr:Nat->Fr}{oo:Nat->Nat}{X:XV}{q:Nat->Prop}
theorem Dn {w:World}{c:WC}(hW:kQ D w bk)(hr:D.r ob f)(hc:dH D w bk ob f c)(hX:EX D w bk n fr oo (OP X k (λ_=>False)) q)(hk:k<n)(ho:oo k=ob)(hf:fr k=f):fT D D w ((((w.setCell ⟨ob,4,none⟩ (.bool false)).setCell ⟨ob,5,none⟩ (.int .i64 0)).setCell ⟨ob,3,none⟩ c.sv).setCell ⟨ob,7,none⟩ (.map none)) bk/\Kp w ((((w.setCell ⟨ob,4,none⟩ (.bool false)).setCell ⟨ob,5,none⟩ (.int .i64 0)).setCell ⟨ob,3,none⟩ c.sv).setCell ⟨ob,7,none⟩ (.map none)) (λk=>k=ob)/\EX D ((((w.setCell ⟨ob,4,none⟩ (.bool false)).setCell ⟨ob,5,none⟩ (.int .i64 0)).setCell ⟨ob,3,none⟩ c.sv).setCell ⟨ob,7,none⟩ (.map none)) bk n fr oo (mL X k) q:=by
 have hkp:Kp w ((((w.setCell ⟨ob,4,none⟩ (.bool false)).setCell ⟨ob,5,none⟩ (.int .i64 0)).setCell ⟨ob,3,none⟩ c.sv).setCell ⟨ob,7,none⟩ (.map none)) (λk=>k=ob):=
  ((((Kp.refl w (λk=>k=ob)).set (a:=⟨ob,4,none⟩) (λ_=>rfl) _).set (a:=⟨ob,5,none⟩) (λ_=>rfl) _).set (a:=⟨ob,3,none⟩) (λ_=>rfl) _).set (a:=⟨ob,7,none⟩) (λ_=>rfl) _
 have hbd:=Er hW.ud (λk e=>by have e:k=ob:=e;rw[e];exact hc.u) hkp;have hnew:dH D ((((w.setCell ⟨ob,4,none⟩ (.bool false)).setCell ⟨ob,5,none⟩ (.int .i64 0)).setCell ⟨ob,3,none⟩ c.sv).setCell ⟨ob,7,none⟩ (.map none)) bk ob f {c with fa:=false,ct:=0,av:=c.sv,pm:=none}:=⟨((((hc.blk.set 4 _).set 5 _).set 3 _).set 7 _),hc.nm,hc.ns,hc.it.mono hbd,hc.sl.mono hbd (λ_ _ h=>h),hc.sl.mono hbd (λ_ _ h=>h),(λb e=>by cases e),hc.wm.frame hkp (wD.refl _ _) (λb hb e=>hc.wm.gW hb hc.blk e),hc.wn,hc.u,hc.wf⟩;refine⟨hW.word hr hc hkp hnew rfl rfl rfl rfl rfl,hkp,?_⟩;subst ho hf;obtain⟨c0,hc0,a1,a2,a3,a4,a5⟩:=hX.wc k hk;have:=hc0.inj hc;subst this;refine hX.word hW hk hc hkp hnew (by simp[mL]) (by simp[mL]) (.inl ⟨rfl,λj _ h=>h.1 rfl⟩) (λe=>((a4 e).same (λb hb=>hkp.block b (hc.wm.lt hb) (hc.wm.gW hb hc.blk))).iff (λj _=>?_)) a5 (λj hj e=>⟨by simp[mL,OP,e],by simp[mL,OP,e],λi _=>⟨λh=>⟨e,h⟩,λh=>h.2⟩,λi _=>?_,Iff.rfl⟩)
 ·exact⟨λh=>⟨h.2,h.1⟩,λh=>⟨h.2,h.1⟩⟩
 ·exact⟨λh=>⟨h.2,h.1⟩,λh=>⟨h.2,h.1⟩⟩
structure yH (D:GD)(bk n:Nat)(fr:Nat->Fr)(oo:Nat->Nat)(X:XV)(q:Nat->Prop)(k pb r m:Nat)(DD:DataW Value)(w wr:World)(left:Lit->Bool)(cnt:Nat):Prop where
 rg:wr.ranges prog 9 bQ pb r m DD left cnt
 sub:∀kl,left kl=true->Maps.has DD kl=true
 kp:Kp w wr (FU D w bk)
 pr:fT D D w wr bk
 ex:EX D wr bk n fr oo (OP X k (λj=>left (.string (fr j).name)=true)) q
theorem yH.yI {pb r m cnt:Nat}{DD:DataW Value}{wr:World}{left:Lit->Bool}(h:yH D bk n fr oo X q k pb r m DD w wr left cnt)(hW:kQ D w bk):kQ D wr bk:=hW.next h.kp.size h.pr
theorem gM {left:Lit->Bool}(nd:∀i j,i<n->j<n->(fr i).name=(fr j).name->i=j){i j:Nat}(hi:i<n)(hj:j<n):(left (.string (fr i).name) && !(Lit.string (fr i).name).sameKey (.string (fr j).name))=true<->(left (.string (fr i).name)=true/\i≠j):=by
 by_cases e:i=j
 ·subst e;simp[Lit.sameKey]
 ·have:(Lit.string (fr i).name).sameKey (.string (fr j).name)=false:=Maps.sameKey_ne (λq=>e (nd i j hi hj (by injection q)));rw[this];simp[e]
theorem IX (hW:kQ D w bk)(hX:EX D w bk n fr oo X q)(hk:k<n)(ho:oo k=ob)(hf:fr k=f)(QM:∀j,j<n->X.H k j->X.P k j):
  Calls prog 60 #[pt ob] w λe w'=>e=.returned (.tuple #[])/\Kp w w' (FU D w bk)/\fT D D w w' bk/\EX D w' bk n fr oo (mL X k) q:=by
 have hr:D.r ob f:=by rw[<-ho,<-hf];exact hX.r k hk
 obtain⟨c,hc,a1,a2,a3,a4,a5⟩:=hX.wc k hk;rw[ho,hf] at hc;have hu:∀k,k=ob->FU D w bk k:=λk e=>by rw[e];exact .inl ⟨f,hr⟩
 have c7:w.cell? ⟨ob,7,none⟩=some (.map c.pm):=hc.blk.cell rfl;obtain⟨s0,m0,p0,QN⟩:∃a m p,c.sv=.slice a m p:=by obtain⟨a,p,e⟩:=hc.sl.form;exact⟨a,_,p,e⟩
 rcases a3 with⟨QO,hno⟩|⟨pb,DD,QO,⟨m,hown⟩,hhas,hE⟩
 ·rw[QO] at c7;have bC:=(Kp.refl w (λ_=>False)).alloc (.mapIter none 0 #[] 0);obtain⟨hp0,hW0⟩:=hW.kp bC;have OQ:EX D (w.alloc (.mapIter none 0 #[] 0)) bk n fr oo (OP X k (λ_=>False)) q:=(hX.kp bC).iff (λ_ _=>rfl) (λ_ _=>rfl) (λ_ _ _ _=>Iff.rfl) (λi j hi hj _=>⟨λh=>⟨h,λe=>hno j hj (QM j hj (e▸h))⟩,λh=>h.1⟩);obtain⟨c1,hc1⟩:=hW0.ok ob f hr;obtain⟨c0,e1,e2,e3,e4,e5,hc0⟩:=hp0 ob f c hr hc;have hcc:=hc0.inj hc1;subst hcc;obtain⟨nY,hkp,hex⟩:=Dn hW0 hr hc0 OQ hk ho hf;have d2:(w.alloc (.mapIter none 0 #[] 0)).cell? ⟨ob,2,none⟩=some (.slice s0 m0 p0):=by rw[<-QN,<-e4];exact hc0.blk.cell rfl
  have d3:(w.alloc (.mapIter none 0 #[] 0)).cell? ⟨ob,3,none⟩=some c0.av:=hc0.blk.cell rfl;have d4:(w.alloc (.mapIter none 0 #[] 0)).cell? ⟨ob,4,none⟩=some (.bool c0.fa):=hc0.blk.cell rfl;have d5:(w.alloc (.mapIter none 0 #[] 0)).cell? ⟨ob,5,none⟩=some (.int .i64 c0.ct):=hc0.blk.cell rfl;have d7:(w.alloc (.mapIter none 0 #[] 0)).cell? ⟨ob,7,none⟩=some (.map c0.pm):=hc0.blk.cell rfl;have g2:=hc0.blk.free 2;have g3:=hc0.blk.free 3;have g4:=hc0.blk.free 4;have g5:=hc0.blk.free 5;have g7:=hc0.blk.free 7;rw[show c0.sv=.slice s0 m0 p0 by rw[e4];exact QN] at nY hkp hex;have HP:=az (hp0.trans (λ_ _ h=>h) nY);have HX:=az hex;have HK:Hid (Kp w _ (FU D w bk)):=((bC.mono (T:=FU D w bk) (λ_ _ e=>e.elim)).trans (hkp.mono (λk _ e=>hu k e)));have hrg:=run_range_nilMap (P:=prog) w 104 9 107 underlying104;have hnx:∀ty,(Instr.next (.pointer (some ⟨w.heap.size,0,none⟩)) false ty).run prog (w.alloc (.mapIter none 0 #[] 0))=_:=λty=>run_next_nilMap w ty 0 0 #[];clear hW hc hp0 hW0 hc0 hc1 nY hkp bC e1 e2 e3 e4 e5 QN hu QO hX OQ hex a1 a2 a4 a5 hno QM ho hf hk;go_enter func60,ntmps60;go_wp2;refine wp_loop_rounds 1 ?_;rw[rounds_succ];go_wp2;refine bodyPost_end (results_none rfl _ _ _) rfl ?_;exact⟨rfl,HK.out,HP.out,HX.out⟩
 ·rw[QO] at c7;obtain⟨hpu,hpt,_⟩:=hc.pm pb QO;have DV:Hid (EX D w bk n fr oo (OP X k (λj=>Maps.has DD (.string (fr j).name)=true)) q):=hX.iff (λ_ _=>rfl) (λ_ _=>rfl) (λ_ _ _ _=>Iff.rfl) (λi j hi hj _=>⟨λh=>⟨h,λe=>(hhas j hj).2 (QM j hj (e▸h))⟩,λh=>h.1⟩);have wN:=az hX.nd;have HW:=az hW;have HC:=az hc;have HE:=az hE;have HR:=az hX.r;clear hW hc hE hX hhas QM a1 a2 a4 a5;go_enter func60,ntmps60
  go_wp2_with (first
   | (at_range;refine wpList_range_own _ rfl _ 104 rfl 9 107 (Maps.string_keyed underlying9) underlying104 _ pb m _ rfl hown ?_;intro w0 hrg0 hg0 hs0)
   | go_in)
  go_frame
  go_loopw [3] (λ_ wr=>∃left cnt,yH D bk n fr oo X q k pb w.heap.size m DD w wr left cnt) (λ_ wr=>wr.rangeLeft pb w.heap.size)
  case atStart=>
   have bC:Kp w w0 (λ_=>False):=(Kp.refl w _).grown hg0 (λk _ e=>by cases e);exact⟨_,_,⟨hrg0,λ_ h=>h,bC.mono (λ_ _ e=>e.elim),(HW.out.kp bC).1,DV.out.kp bC⟩⟩
  case round=>
   clear DV;obtain⟨left,cnt,bK⟩:=hrel;have xR:=bK.yI HW.out;have hrg:=bK.rg
   go_wp2_with (first
    | (at_next;refine wpList_next_ranges _ rfl _ rfl 9 (Maps.string_keyed underlying9) bQ Value.string (λv:Value=>v) (λkey kl h=>(jR h).imp (λ_ q=>q.1)) (λv _ _=>⟨v,rfl⟩) pb w.heap.size m _ _ _ rfl hrg ?_ ?_)
    | go_in)
   ·intro hc0 hl0;have hXr:EX D wr bk n fr oo (OP X k (λ_=>False)) q:=bK.ex.iff (λ_ _=>rfl) (λ_ _=>rfl) (λ_ _ _ _=>Iff.rfl) (λi j hi hj _=>⟨λh=>⟨h.1,λe=>by have this:left (.string (fr j).name)=true:=h.2 e;rw[hl0] at this;cases this⟩,λh=>⟨h.1,λe=>(h.2 e).elim⟩⟩);obtain⟨c1,hc1⟩:=xR.ok ob f hr;obtain⟨c2,e1,e2,e3,e4,e5,hc2⟩:=bK.pr ob f c hr HC.out;have hcc:=hc2.inj hc1;subst hcc;obtain⟨nY,hkp,hex⟩:=Dn xR hr hc2 hXr hk ho hf;have d2:wr.cell? ⟨ob,2,none⟩=some (.slice s0 m0 p0):=by rw[<-QN,<-e4];exact hc2.blk.cell rfl
    have d3:wr.cell? ⟨ob,3,none⟩=some c2.av:=hc2.blk.cell rfl;have d4:wr.cell? ⟨ob,4,none⟩=some (.bool c2.fa):=hc2.blk.cell rfl;have d5:wr.cell? ⟨ob,5,none⟩=some (.int .i64 c2.ct):=hc2.blk.cell rfl;have d7:wr.cell? ⟨ob,7,none⟩=some (.map c2.pm):=hc2.blk.cell rfl;have g2:=hc2.blk.free 2;have g3:=hc2.blk.free 3;have g4:=hc2.blk.free 4;have g5:=hc2.blk.free 5;have g7:=hc2.blk.free 7;rw[show c2.sv=.slice s0 m0 p0 by rw[e4];exact QN] at nY hkp hex;have HP:=az (bK.pr.trans (λ_ _ h=>h) nY);have HX:=az hex;have HK:Hid (Kp w _ (FU D w bk)):=bK.kp.trans (hkp.mono (λk _ e=>hu k e));clear nY hkp bK xR hrg hc1 hc2 e1 e2 e3 e4 e5 hc0 hl0 hown hg0 hs0 hrg0 hXr hex ho hf hk;go_wp2;refine bodyPost_end (results_none rfl _ _ _) rfl ?_;exact⟨rfl,HK.out,HP.out,HX.out⟩
   ·intro x v kl yd yp w1 cnt1 hkey hlk hv hat hrg1 hlt hg1 hs1 hen;obtain⟨j,hj,rfl,kW⟩:=HE.out kl (bK.sub kl hlk);have hr2:=HR.out j hj;obtain⟨o2,og⟩:∃o2,oo j=o2:=⟨_,rfl⟩;obtain⟨f2,hf2⟩:∃f2,fr j=f2:=⟨_,rfl⟩;rw[og] at kW;rw[og,hf2] at hr2;have hvv:v=pt o2:=by
     have h1:=hat (.held (.pointer none));rw[kW] at h1;have h2:some (DataW.held v,[])=some (yd,yp):=hv;have h3:DataW.held v=yd:=congrArg Prod.fst (Option.some.inj h2);have h4:DataW.held (pt o2)=yd:=h1;rw[<-h3] at h4;exact(DataW.held.inj h4).symm
    subst hvv;have X8:w.heap.size<wr.heap.size:=hrg.lt;have hk1:Kp wr w1 (λk=>k=w.heap.size):=(Kp.refl wr _).grown hg1 (λk _ e=>(Option.some.inj e).symm);have uU:∀k,D.u k->¬k=w.heap.size:=λk hk e=>by have:=HW.out.lt k hk;omega
    have hnd:∀k,D.d k->¬k=w.heap.size:=λk hd e=>by have:=HW.out.dl k hd;omega
    obtain⟨hp1,hW1⟩:=xR.out hk1.drew uU hnd;have hX1:=bK.ex.out hk1.drew uU hnd;obtain⟨c2,hc2,_,_,_,b4,b5⟩:=hX1.wc j hj;rw[og,hf2] at hc2;obtain⟨c1,hc1⟩:=hW1.ok ob f hr;have hpa:=bK.pr.trans (λ_ _ h=>h) hp1;have hka:Kp w w1.drew (FU D w bk):=((bK.kp.mono (T:=λk=>FU D w bk k\/k=w.heap.size) (λ_ _ e=>.inl e)).trans (hk1.drew.mono (λ_ _ e=>.inr e))).mono (λk hk e=>e.elim id (λe=>by omega));have d8:w1.cell? ⟨o2,8,none⟩=some (.map c2.wm):=hc2.blk.cell rfl;have d0:w1.cell? ⟨ob,0,none⟩=some (.string c1.nm):=hc1.blk.cell rfl;have hdel:∃w2,(∀ty,(Builtin.delete_ #[104,9] ty #[.map c2.wm,.string c1.nm]).run prog w1.drew=.ok (.tuple #[]) w2)/\yH D bk n fr oo X q k pb w.heap.size m DD w w2 (λz=>left z && !z.sameKey (.string (fr j).name)) cnt1:=by
     cases BW:c2.wm with
     | none=>
      refine⟨w1.drew,λty=>Maps.drop_nil (Maps.string_keyed underlying9) underlying104 (DW c1.nm (ai hc1.ns (by decide))) ty,⟨fJ hrg1 rfl rfl,λk hk=>bK.sub k (by simp at hk;exact hk.1),hka,hpa,hX1.iff (λ_ _=>rfl) (λ_ _=>rfl) (λ_ _ _ _=>Iff.rfl) (λi j' hi hj' hq=>?_)⟩⟩;by_cases ej:j'=j
      ·subst ej;have hb:=b4 hq;rw[BW] at hb;rcases hb with⟨_,hb⟩|⟨_,_,hb,_⟩
       ·exact⟨λh=>ax h (hb i hi),λh=>ax ⟨h.1,λe=>((gM wN.out hj' hj').1 (h.2 e)).1⟩ (hb i hi)⟩
       ·cases hb
      ·exact⟨λh=>⟨h.1,λe=>(gM wN.out hj' hj).2 ⟨h.2 e,ej⟩⟩,λh=>⟨h.1,λe=>((gM wN.out hj' hj).1 (h.2 e)).1⟩⟩
     | some b2=>
      obtain⟨hu2,ht2,_⟩:=hc2.wm b2 BW;have hqj:¬q j:=λe=>by rw[b5 e] at BW;cases BW
      have hm2:=b4 hqj;rw[BW] at hm2;obtain⟨w2,hrun,hk2,hs2,zj⟩:=hm2.del wN.out k hk c1.nm (by rw[hc1.nm,hf]) hc1.ns;have Ig:EX D w2 bk n fr oo (OP X k (λi=>(left (.string (fr i).name) && !(Lit.string (fr i).name).sameKey (.string (fr j).name))=true)) q:=hX1.Es hW1 hj (by rw[og,hf2];exact hc2) BW hk2 zj rfl rfl rfl (λi hi=>⟨λh=>⟨h.1.1,λe=>ax e h.2⟩,λh=>by
        have hik:i≠k:=λe=>((gM wN.out hj hj).1 (h.2 e)).2 rfl;exact⟨⟨h.1,λe=>ax e hik⟩,hik⟩⟩) (λi j' hi hj' ej=>⟨λh=>⟨h.1,λe=>(gM wN.out hj' hj).2 ⟨h.2 e,ej⟩⟩,λh=>⟨h.1,λe=>((gM wN.out hj' hj).1 (h.2 e)).1⟩⟩)
      have hne:¬pb=b2:=by rintro rfl;rw[hpt] at ht2;cases ht2
      have s5:=HW.out.lt b2 hu2;have hpl:=HW.out.lt pb hpu;have hs1:wr.heap.size<=w1.drew.heap.size:=hk1.size;have hw1:=bK.kp.size;obtain⟨VC,Z5⟩:=zj.PG HR.out;refine⟨w2,hrun,⟨fJ (fJ hrg1 (w':=w1.drew) rfl rfl) (hk2.block pb (by omega) hne) (hk2.block w.heap.size (by omega) (by show ¬_=_;omega)),λk hk=>bK.sub k (by simp at hk;exact hk.1),?_,hpa.trans (λ_ _ h=>h) (hW1.Es hr2 hc2 BW hk2 Z5),Ig⟩⟩;exact hka.trans (hk2.mono (λk _ e=>by
       have e:k=b2:=e;rw[e];exact FU.back HW.out hpa (.inr ⟨o2,f2,c2,hr2,hc2,BW⟩)))
    obtain⟨w2,hrun,IY⟩:=hdel;have HN:=az IY;have uW:=IY.rg.left_eq;have wO:=hrg.left_eq;clear IY hpa hka hp1 hW1 hc1 hc2 hk1 uU hnd bK xR hrg hrg1 hg1 hs1 hat kW hv hkey hlk hX1 b4 b5 og hf2 hr2 ho hf;go_wp2
    go_region_law (refine s6 w2 rfl (.tmp 16) (.tmp 20) 104 9 rfl (.map c2.wm) (.string c1.nm) rfl rfl hrun ?_)
    all_goals go_wp2
    all_goals go_roundw
    all_goals first
     | exact⟨_,_,HN.out⟩
     | (rw[uW,wO];exact hlt)
end
def lX (D:GD)(w w':World)(bk ob:Nat):Prop:=∀o f c,D.r o f->dH D w bk o f c->∃c',(o≠ob->c'.gn=c.gn)/\(o=ob->c'.gn=true)/\dH D w' bk o f c'
theorem lX.yI {D:GD}{w w':World}{bk ob:Nat}(h:kQ D w bk)(hk:w.heap.size<=w'.heap.size)(hp:lX D w w' bk ob):kQ D w' bk:=
 ⟨λo f hr=>by obtain⟨c,hc⟩:=h.ok o f hr;obtain⟨c',_,_,h'⟩:=hp o f c hr hc;exact⟨c',h'⟩,h.fn,h.ud,λk hk'=>aj (h.lt k hk') hk,λk hk'=>aj (h.dl k hk') hk⟩
theorem lX.then {D:GD}{w w1 w2:World}{bk ob:Nat}(h:lX D w w1 bk ob)(g:fT D D w1 w2 bk):lX D w w2 bk ob:=λo f c hr hc=>by
 obtain⟨c1,a1,a2,h1⟩:=h o f c hr hc;obtain⟨c2,b1,_,_,_,_,h2⟩:=g o f c1 hr h1;exact⟨c2,λe=>b1.trans (a1 e),λe=>b1.trans (a2 e),h2⟩
section
variable {D:GD}{w:World}{bk ob:Nat}{f:Fr}{n k:Nat}{fr:Nat->Fr}{oo:Nat->Nat}{X:XV}{q:Nat->Prop}
theorem VD {c:WC}(hW:kQ D w bk)(hr:D.r ob f)(hc:dH D w bk ob f c):lX D w ((w.setCell ⟨ob,6,none⟩ (.bool true)).setCell ⟨ob,8,none⟩ (.map none)) bk ob/\Kp w ((w.setCell ⟨ob,6,none⟩ (.bool true)).setCell ⟨ob,8,none⟩ (.map none)) (λk=>k=ob)/\dH D ((w.setCell ⟨ob,6,none⟩ (.bool true)).setCell ⟨ob,8,none⟩ (.map none)) bk ob f {c with gn:=true,wm:=none}:=by
 have hk:Kp w ((w.setCell ⟨ob,6,none⟩ (.bool true)).setCell ⟨ob,8,none⟩ (.map none)) (λk=>k=ob):=
  ((Kp.refl w (λk=>k=ob)).set (a:=⟨ob,6,none⟩) (λ_=>rfl) _).set (a:=⟨ob,8,none⟩) (λ_=>rfl) _
 have hbd:=Er hW.ud (λk e=>by have e:k=ob:=e;rw[e];exact hc.u) hk;have hc':dH D ((w.setCell ⟨ob,6,none⟩ (.bool true)).setCell ⟨ob,8,none⟩ (.map none)) bk ob f {c with gn:=true,wm:=none}:=⟨(hc.blk.set 6 _).set 8 _,hc.nm,hc.ns,hc.it.mono hbd,hc.sl.mono hbd (λ_ _ h=>h),hc.ac.mono hbd (λ_ _ h=>h),hc.pm.frame hk (wD.refl _ _) (λb hb e=>hc.pm.gW hb hc.blk e),(λb e=>by cases e),(λe=>by cases e),hc.u,hc.wf⟩;refine⟨λo g c0 cZ hc0=>?_,hk,hc'⟩;by_cases ho:o=ob
 ·subst ho;have:=hW.fn o g f cZ hr;subst this;exact⟨_,λe=>ax rfl e,λ_=>rfl,hc'⟩
 ·exact⟨c0,λ_=>rfl,λe=>ax e ho,hc0.frame hk (wD.refl _ _) hbd ho (λb hb e=>hc0.pm.gW hb hc.blk e) (λb hb e=>hc0.wm.gW hb hc.blk e)⟩
theorem EX.gone {c:WC}(hX:EX D w bk n fr oo X (λ_=>False))(hW:kQ D w bk)(hk:k<n)(ho:oo k=ob)(hf:fr k=f)(hc:dH D w bk ob f c){w':World}(hkp:Kp w w' (λk=>k=ob))(hc':dH D w' bk ob f {c with gn:=true,wm:=none}):EX D w' bk n fr oo X (λi=>i=k):=by
 subst ho hf;obtain⟨c0,hc0,a1,a2,a3,a4,a5⟩:=hX.wc k hk;have:=hc0.inj hc;subst this;exact hX.word hW hk hc hkp hc' a1 a2 (a3.same (λb hb=>hkp.block b (hc.pm.lt hb) (hc.pm.gW hb hc.blk))) (λe=>ax rfl e) (λ_=>rfl) (λj hj e=>⟨rfl,rfl,λ_ _=>Iff.rfl,λ_ _=>Iff.rfl,⟨λq=>ax q e,λq=>q.elim⟩⟩)
open Classical in
noncomputable def qN (X:XV)(A:Nat->Prop):XV:=⟨λi=>if A i then false else X.fa i,λi=>if A i then 0 else X.ct i,λi j=>¬A i/\X.P i j,λi j=>¬A i/\X.H i j⟩
theorem EX.Z6 {A:Nat->Prop}(h:EX D w bk n fr oo X q)(hA:∀i,i<n->¬A i):EX D w bk n fr oo (qN X A) q:=
 h.iff (λi hi=>af (hA i hi)) (λi hi=>af (hA i hi)) (λi _ hi _=>⟨λh=>⟨hA i hi,h⟩,λh=>h.2⟩) (λi _ hi _ _=>⟨λh=>⟨hA i hi,h⟩,λh=>h.2⟩)
theorem EX.Z7 {A A':Nat->Prop}(h:EX D w bk n fr oo (mL (qN X A) k) q)(hA:∀i,i<n->(A' i<->A i\/i=k)):EX D w bk n fr oo (qN X A') q:=by
 have key:∀i,i<n->(qN X A').fa i=(mL (qN X A) k).fa i/\(qN X A').ct i=(mL (qN X A) k).ct i:=λi hi=>by
  by_cases e2:A' i
  ·have h1:(qN X A').fa i=false/\(qN X A').ct i=0:=⟨ag e2,ag e2⟩;rw[h1.1,h1.2];by_cases e:i=k
   ·exact⟨(ag e).symm,(ag e).symm⟩
   ·have e3:A i:=((hA i hi).1 e2).resolve_right e;exact⟨((af e).trans (ag e3)).symm,((af e).trans (ag e3)).symm⟩
  ·have h1:(qN X A').fa i=X.fa i/\(qN X A').ct i=X.ct i:=⟨af e2,af e2⟩;rw[h1.1,h1.2];have e:¬i=k:=λe=>e2 ((hA i hi).2 (.inr e));have e3:¬A i:=λe=>e2 ((hA i hi).2 (.inl e));exact⟨((af e).trans (af e3)).symm,((af e).trans (af e3)).symm⟩
 refine h.iff (λi hi=>(key i hi).1) (λi hi=>(key i hi).2) (λi j hi _=>?_) (λi j hi _ _=>?_)
 ·show(i≠k/\¬A i/\X.P i j)<->(¬A' i/\X.P i j);rw[hA i hi,not_or];exact⟨λh=>⟨⟨h.2.1,h.1⟩,h.2.2⟩,λh=>⟨h.1.2,h.1.1,h.2⟩⟩
 ·show(i≠k/\¬A i/\X.H i j)<->(¬A' i/\X.H i j);rw[hA i hi,not_or];exact⟨λh=>⟨⟨h.2.1,h.1⟩,h.2.2⟩,λh=>⟨h.1.2,h.1.1,h.2⟩⟩
structure OS (D:GD)(bk n:Nat)(fr:Nat->Fr)(oo:Nat->Nat)(X:XV)(k hb r m:Nat)(DD:DataW Value)(w1 wr:World)(left:Lit->Bool)(cnt:Nat):Prop where
 rg:wr.ranges prog 9 bQ hb r m DD left cnt
 sub:∀kl,left kl=true->Maps.has DD kl=true
 kp:Kp w1 wr (FU D w1 bk)
 pr:fT D D w1 wr bk
 ex:EX D wr bk n fr oo (qN X (λi=>X.H i k/\left (.string (fr i).name)=false)) (λi=>i=k)
end
structure IZ (R C:Nat->Fr->Prop)(K:List Tok)(bo:Tok->Option (List It))(bk mb:Nat)(E:Nat->Prop)(w:World):Prop where
 book:∃h b,aC w bk 106 #[.map (some mb),.int .i64 h,.int .i64 b]
 mp:∃n DD,w.ownsMap prog 9 bQ mb n DD
 kl:K.length<=30
 look:∀nm:ByteArray,nm.data.toList∈K->∃(o:Nat) (f:Fr) (c:WC),C o f/\R o f/\f.name=nm.data.toList/\bo f.name=some f.body/\(∀w0:World,w0.heap[mb]? = w.heap[mb]?->(Instr.lookup 104 (.map (some mb)) (.string nm) false).run prog w0=.ok (pt o) w0)/\aC w o 111 c.arr/\c.nm=nm/\nm.size<=1000/\cV (BD E w) c.iv f.body/\cQ (BD E w) R bk o c.sv f.body/\∃G,wb (λt=>t∈K) G false f.body
def mM (R:Nat->Fr->Prop)(K:List Tok)(bo:Tok->Option (List It))(bk:Nat)(E:Nat->Prop)(S:Tok->Prop)(a:Nat)(w:World):Prop:=
 ∃DD,(∃n,w.ownsMap prog 284 bQ a n DD)/\∀kl,Maps.has DD kl=true->∃(nm:ByteArray) (lf:Nat) (c:Value),keyOf prog 284 (ja nm lf)=some kl/\nm.data.toList∈K/\lf<=3/\(∀zd,DD.atKey kl zd=.held c)/\kM (BD E w) R bk (cQ (BD E w) R bk) nm.data.toList c/\∀t,Bc bo lf nm.data.toList t->S t
def gq (C:Nat->Fr->Prop)(K:List Tok)(S:Tok->Prop)(b:Nat)(w:World):Prop:=
 ∃DD,(∃n,w.ownsMap prog 9 bQ b n DD)/\(∀t:Tok,t.length<=maxLen->(Maps.has DD (.string t)=true<->S t))/\∀kl,Maps.has DD kl=true->∃o f,kl=.string f.name/\f.name∈K/\C o f/\∀zd,DD.atKey kl zd=.held (pt o)
structure JB (R C:Nat->Fr->Prop)(K:List Tok)(bo:Tok->Option (List It))(bk mb a b:Nat)(E:Nat->Prop)(S:Tok->Prop)(w:World):Prop where
 F8:IZ R C K bo bk mb E w
 F9:mM R K bo bk E S a w
 pts:gq C K S b w
 ab:a≠b
 am:a≠mb
 bm:b≠mb
theorem Mo {P:Program}{k:TypeId}{R:Value->Option (DataW Value × List MemPlace)}{w:World}{b n:Nat}{DD:DataW Value}(h:w.ownsMap P k R b n DD){b':Nat}{t:TypeId}{c:Array Value}(hb:aC w b' t c):b≠b':=by
 obtain⟨es,clock,h1,_⟩:=h;rintro rfl;have:w.heap[b]? = _:=hb;rw[h1] at this;injection this with this;cases this
theorem iV {P:Program}{k:TypeId}{R:Value->Option (DataW Value × List MemPlace)}{w w':World}{b n:Nat}{DD:DataW Value}(h:w.ownsMap P k R b n DD)(e:w'.heap[b]? = w.heap[b]?):w'.ownsMap P k R b n DD:=by
 obtain⟨es,clock,h1,h2⟩:=h;exact⟨es,clock,e.trans h1,h2⟩
section
variable {R C:Nat->Fr->Prop}{K:List Tok}{bo:Tok->Option (List It)}{bk mb a b:Nat}{E E':Nat->Prop}{S S':Tok->Prop}{w w':World}
theorem IZ.frame {T:Nat->Prop}(h:IZ R C K bo bk mb E w)(hk:Kp w w' T)(hb:∀k t c,aC w k t c->t=106\/t=111->¬T k)(hm:¬T mb)(hE:∀b t c,BD E w b t c->BD E' w' b t c):IZ R C K bo bk mb E' w':=by
 obtain⟨h0,b0,hbk⟩:=h.book;obtain⟨n,DD,hmp⟩:=h.mp;have hme:=hk.block mb hmp.lt hm;refine⟨⟨h0,b0,hk.blk hbk (hb _ _ _ hbk (.inl rfl))⟩,⟨n,DD,aL hmp hme⟩,h.kl,λnm hnm=>?_⟩;obtain⟨o,f,c,q1,q2,q3,q4,q5,q6,q7,q8,q9,S0,S3⟩:=h.look nm hnm;exact⟨o,f,c,q1,q2,q3,q4,λw0 e=>q5 w0 (e.trans hme),hk.blk q6 (hb _ _ _ q6 (.inr rfl)),q7,q8,q9.mono hE,S0.mono hE (λ_ _ h=>h),S3⟩
theorem mM.frame (h:mM R K bo bk E S a w)(hm:w'.heap[a]? = w.heap[a]?)(hE:∀b t c,BD E w b t c->BD E' w' b t c)(hS:∀t,S t->S' t):mM R K bo bk E' S' a w':=by
 obtain⟨DD,⟨n,h1⟩,h2⟩:=h;refine⟨DD,⟨n,iV h1 hm⟩,λkl hkl=>?_⟩;obtain⟨nm,lf,c,q1,q2,q3,q4,q5,q6⟩:=h2 kl hkl;exact⟨nm,lf,c,q1,q2,q3,q4,iL hE (λ_ _ h=>h) (λ_ _ _ h=>h.mono hE (λ_ _ h=>h)) q5,λt ht=>hS t (q6 t ht)⟩
theorem gq.frame (h:gq C K S b w)(hm:w'.heap[b]? = w.heap[b]?):gq C K S b w':=by
 obtain⟨DD,⟨n,h1⟩,h2⟩:=h;exact⟨DD,⟨n,aL h1 hm⟩,h2⟩
theorem mM.lt (h:mM R K bo bk E S a w):a<w.heap.size:=by obtain⟨DD,⟨n,h1⟩,h2⟩:=h;exact h1.lt
theorem gq.lt (h:gq C K S b w):b<w.heap.size:=by obtain⟨DD,⟨n,h1⟩,h2⟩:=h;exact h1.lt
theorem mM.ne (h:mM R K bo bk E S a w){b':Nat}{t:TypeId}{c:Array Value}(hb:aC w b' t c):a≠b':=by obtain⟨DD,⟨n,h1⟩,h2⟩:=h;exact Mo h1 hb
theorem gq.ne (h:gq C K S b w){b':Nat}{t:TypeId}{c:Array Value}(hb:aC w b' t c):b≠b':=by obtain⟨DD,⟨n,h1⟩,h2⟩:=h;exact dh h1 hb
theorem JB.fr {T:Nat->Prop}(h:JB R C K bo bk mb a b E S w)(hk:Kp w w' T)(hT:∀k,T k->k<w.heap.size->∃c,aC w k 243 c)(hE:∀k,k<w.heap.size->E k->E' k/\¬T k):JB R C K bo bk mb a b E' S w':=by
 have FZ:=bU (D:=E) (D':=E') hk hE;obtain⟨n,DD,hmp⟩:=h.F8.mp;have nm:∀k,k<w.heap.size->(∀t c,¬aC w k t c)->¬T k:=λk hk hn e=>by obtain⟨c,hc⟩:=hT k e hk;exact hn _ c hc
 refine⟨h.F8.frame hk (λk t c hb ht e=>?_) (nm mb hmp.lt (λt c hb=>dh hmp hb rfl)) FZ,h.F9.frame (hk.block a h.F9.lt (nm a h.F9.lt (λt c hb=>h.F9.ne hb rfl))) FZ (λ_ h=>h),h.pts.frame (hk.block b h.pts.lt (nm b h.pts.lt (λt c hb=>h.pts.ne hb rfl))),h.ab,h.am,h.bm⟩;obtain⟨c',hc'⟩:=hT k e hb.lt;have:=(hb.inj hc').1;rcases ht with ht|ht
 ·rw[ht] at this;exact ax this (by decide)
 ·rw[ht] at this;exact ax this (by decide)
theorem JB.kp (h:JB R C K bo bk mb a b E S w)(hk:Kp w w' (λ_=>False)):JB R C K bo bk mb a b E S w':=h.fr hk (λ_ e=>e.elim) (λ_ _ e=>⟨e,λe=>e⟩)
theorem JB.mp (h:JB R C K bo bk mb a b E S w)(k:Nat)(t:TypeId)(c:Array Value)(hf:Ft (some a) (some b) k):¬aC w k t c:=by
 rcases hf with e|e
 ·injection e with e;subst e;exact λhb=>h.F9.ne hb rfl
 ·injection e with e;subst e;exact λhb=>h.pts.ne hb rfl
theorem JB.Mp (h:JB R C K bo bk mb a b E S w)(nm:ByteArray)(hnm:nm.data.toList∈K)(hs:nm.size<=1000)(o:Nat)(f:Fr)(hC:C o f)(hf:f.name=nm.data.toList):
  ∃w2,(Instr.mapUpdate 104 (.map (some b)) (.string nm) (pt o)).run prog w=.ok () w2/\Kp w w2 (λk=>k=b)/\JB R C K bo bk mb a b E (λt=>S t\/t=nm.data.toList) w2:=by
 obtain⟨DD,⟨n,h1⟩,h2,h3⟩:=h.pts;have hsz:nm.size<=maxLen:=ai hs (by decide);have hle:Maps.size DD<=(K.map Lit.string).length:=mH h1 (Maps.string_keyed underlying9) _ (λkl hkl=>by
  obtain⟨o,f,e1,e2,_⟩:=h3 kl hkl;rw[e1];exact List.mem_map.2 ⟨_,e2,rfl⟩)
 have hkl:=h.F8.kl;have Et:Maps.size DD<maxLen:=by
  rw[List.length_map] at hle;have mD:(30:Nat)<maxLen:=by decide
  omega
 obtain⟨w2,hrun,hm2,hg⟩:=(lH h1).update (Maps.string_keyed underlying9) underlying104 Et (key:=.string nm) (val:=pt o) (kl:=.string nm.data.toList) (d:=.held (pt o)) (ps:=[]) (DW nm hsz) rfl;have htd:=h1.tidy (Maps.string_keyed underlying9);have hkp:Kp w w2 (λk=>k=b):=(Kp.refl w _).grown hg (λk _ e=>(Option.some.inj e).symm);have hne:∀k t c,aC w k t c->¬k=b:=λk t c hb e=>h.pts.ne hb e.symm;have bC:WideAt.IsKeyLit (.string nm.data.toList):=trivial;obtain⟨n0,XS,hmp⟩:=h.F8.mp;refine⟨w2,hrun,hkp,⟨h.F8.frame hkp (λk t c hb _=>hne k t c hb) (λe=>h.bm e.symm) (λk t c hb=>⟨hb.1,hkp.blk hb.2 (hne _ _ _ hb.2)⟩),h.F9.frame (hkp.block a h.F9.lt h.ab) (λk t c hb=>⟨hb.1,hkp.blk hb.2 (hne _ _ _ hb.2)⟩) (λ_ h=>.inl h),⟨_,⟨_,hm2⟩,λt ht=>?_,λkl hkl=>?_⟩,h.ab,h.am,h.bm⟩⟩
 ·by_cases e:t=nm.data.toList
  ·subst e;rw[Maps.has_put_same htd.isMap bC];exact⟨λ_=>.inr rfl,λ_=>rfl⟩
  ·rw[Maps.has_put_other (λq=>e (by injection q)),h2 t ht];exact⟨.inl,λq=>q.elim id (λq=>ax q e)⟩
 ·by_cases e:kl=.string nm.data.toList
  ·subst e;exact⟨o,f,by rw[hf],by rw[hf];exact hnm,hC,λzd=>Maps.atKey_put_same htd.isMap bC _ _⟩
  ·rw[Maps.has_put_other e] at hkl;obtain⟨o',f',q1,q2,q3,q4⟩:=h3 kl hkl;exact⟨o',f',q1,q2,q3,λzd=>by rw[Maps.atKey_put_other e];exact q4 zd⟩
theorem VE (w:World):(zeroValue 243).run prog w=.ok .nilFunc w:=by kernel_rfl
theorem wfL (lf:Nat)(h:lf<=3):(Lit.int .i64 (lf:Int)).wf=true:=WalkArith.wf_i64 (by omega)
theorem I0 {w:World}{a n:Nat}{DD:DataW Value}(h:w.ownsMap prog 284 bQ a n DD){nm:ByteArray}{lf:Int}{kl:Lit}(hk:keyOf prog 284 (ja nm lf)=some kl){v:Value}(hv:DD.atKey kl (.held .nilFunc)=.held v):
  (Instr.lookup 204 (.map (some a)) (ja nm lf) false).run prog w=.ok v w:=by
 obtain⟨v',ps,hrun,hv'⟩:=h.lookup Tryz.BK underlying204 (VE w) (zd:=.held .nilFunc) (zp:=[]) rfl hk;rw[hv] at hv';have h1:some (DataW.held v',[])=some (DataW.held v,ps):=hv';have h2:DataW.held v'=DataW.held v:=congrArg Prod.fst (Option.some.inj h1);rw[<-DataW.held.inj h2];exact hrun
theorem JB.Mq (h:JB R C K bo bk mb a b E S w)(nm:ByteArray)(hnm:nm.data.toList∈K)(hs:nm.size<=1000)(lf:Nat)(hlf:lf<=3)(c:Value)(hc:kM (BD E w) R bk (cQ (BD E w) R bk) nm.data.toList c)(hS:∀t,Bc bo lf nm.data.toList t->S t):
  ∃w2,(Instr.mapUpdate 204 (.map (some a)) (ja nm lf) c).run prog w=.ok () w2/\Kp w w2 (λk=>k=a)/\JB R C K bo bk mb a b E S w2/\(∀w0:World,w0.heap[a]? = w2.heap[a]?->(Instr.lookup 204 (.map (some a)) (ja nm lf) false).run prog w0=.ok c w0):=by
 obtain⟨DD,⟨n,h1⟩,h2⟩:=h.F9;have hsz:nm.size<=maxLen:=ai hs (by decide);obtain⟨kl,hkl⟩:=C4 nm hsz lf (wfL lf hlf);have hle:Maps.size DD<=((K.map (λt=>(keyOf prog 284 (ja ⟨t.toArray⟩ ((0:Nat):Int))).getD .nil))++(K.map (λt=>(keyOf prog 284 (ja ⟨t.toArray⟩ ((1:Nat):Int))).getD .nil))++(K.map (λt=>(keyOf prog 284 (ja ⟨t.toArray⟩ ((2:Nat):Int))).getD .nil))++(K.map (λt=>(keyOf prog 284 (ja ⟨t.toArray⟩ ((3:Nat):Int))).getD .nil))).length:=mH h1 Tryz.BK _ (λkl' Ai=>by
  obtain⟨sV,Li,c',q1,q2,q3,_⟩:=h2 kl' Ai;have he:(⟨sV.data.toList.toArray⟩:ByteArray)=sV:=by simp
  have hm:∀j:Nat,Li=j->kl'∈K.map (λt=>(keyOf prog 284 (ja ⟨t.toArray⟩ ((j:Nat):Int))).getD .nil):=λj e=>List.mem_map.2 ⟨_,q2,by rw[he,<-e,q1];rfl⟩;simp only[List.mem_append]
  match Li,q3,hm with
  | 0,_,hm=>exact .inl (.inl (.inl (hm 0 rfl)))
  | 1,_,hm=>exact .inl (.inl (.inr (hm 1 rfl)))
  | 2,_,hm=>exact .inl (.inr (hm 2 rfl))
  | 3,_,hm=>exact .inr (hm 3 rfl))
 simp only[List.length_append,List.length_map] at hle;have acn:=h.F8.kl;have VF:Maps.size DD<maxLen:=by
  have aeJ:(120:Nat)<maxLen:=by decide
  omega
 obtain⟨w2,hrun,hm2,hg⟩:=(lH h1).update Tryz.BK underlying204 VF (key:=ja nm lf) (val:=c) (kl:=kl) (d:=.held c) (ps:=[]) hkl rfl;have htd:=h1.tidy Tryz.BK;have hkp:Kp w w2 (λk=>k=a):=(Kp.refl w _).grown hg (λk _ e=>(Option.some.inj e).symm);have hne:∀k t c,aC w k t c->¬k=a:=λk t c hb e=>h.F9.ne hb e.symm;have FZ:∀k t c,BD E w k t c->BD E w2 k t c:=λk t c hb=>⟨hb.1,hkp.blk hb.2 (hne _ _ _ hb.2)⟩;refine⟨w2,hrun,hkp,⟨h.F8.frame hkp (λk t c hb _=>hne k t c hb) (λe=>h.am e.symm) FZ,⟨_,⟨_,hm2⟩,λkl' Ai=>?_⟩,h.pts.frame (hkp.block b h.pts.lt (λe=>h.ab e.symm)),h.ab,h.am,h.bm⟩,λw0 e0=>I0 (iV hm2 e0) hkl (Maps.atKey_put_same htd.isMap (Tryz.BK.key hkl) _ _)⟩;by_cases e:kl'=kl
 ·subst e;exact⟨nm,lf,c,hkl,hnm,hlf,λzd=>Maps.atKey_put_same htd.isMap (Tryz.BK.key hkl) _ _,iL FZ (λ_ _ h=>h) (λ_ _ _ h=>h.mono FZ (λ_ _ h=>h)) hc,hS⟩
 ·rw[Maps.has_put_other e] at Ai;obtain⟨sV,Li,c',q1,q2,q3,q4,q5,q6⟩:=h2 kl' Ai;exact⟨sV,Li,c',q1,q2,q3,λzd=>by rw[Maps.atKey_put_other e];exact q4 zd,iL FZ (λ_ _ h=>h) (λ_ _ _ h=>h.mono FZ (λ_ _ h=>h)) q5,q6⟩
theorem JB.I6 (h:JB R C K bo bk mb a b E S w)(nm:ByteArray)(hs:nm.size<=1000)(lf:Nat)(hlf:lf<=3):
  ∃v,(∀w0:World,w0.heap[a]? = w.heap[a]?->(Instr.lookup 204 (.map (some a)) (ja nm lf) false).run prog w0=.ok v w0)/\(v=.nilFunc\/(kM (BD E w) R bk (cQ (BD E w) R bk) nm.data.toList v/\∀t,Bc bo lf nm.data.toList t->S t)):=by
 obtain⟨DD,⟨n,h1⟩,h2⟩:=h.F9;obtain⟨kl,hkl⟩:=C4 nm (ai hs (by decide)) lf (wfL lf hlf)
 cases hh:Maps.has DD kl with
 | false=>exact⟨.nilFunc,λw0 e0=>I0 (iV h1 e0) hkl (Maps.atKey_of_not_has hh _),.inl rfl⟩
 | true=>
  obtain⟨sV,Li,c',q1,q2,q3,q4,q5,q6⟩:=h2 kl hh;obtain⟨e1,e2⟩:=Lh hkl q1;subst e1;have e2:lf=Li:=by omega
  subst e2;exact⟨c',λw0 e0=>I0 (iV h1 e0) hkl (q4 _),.inr ⟨q5,q6⟩⟩
end
section
variable {R C:Nat->Fr->Prop}{K:List Tok}{bo:Tok->Option (List It)}{bk mb a b:Nat}{E:Nat->Prop}{S:Tok->Prop}{w:World}
def Aq (R C:Nat->Fr->Prop)(K:List Tok)(bo:Tok->Option (List It))(bk mb a b n:Nat):Prop:=∀(E:Nat->Prop) (S:Tok->Prop) (w:World) (o:Nat) (f:Fr) (c:WC),JB R C K bo bk mb a b E S w->Up E w->aC w o 111 c.arr->cV (BD E w) c.iv f.body->cQ (BD E w) R bk o c.sv f.body->(∃G,wb (λt=>t∈K) G false f.body) ->
 Calls prog 232 #[.agg #[pt bk,pt o,.int .i64 (n:Int),.map (some a),.map (some b)]] w λe w'=>∃ao cap,e=.returned (.slice ao f.body.length cap)/\Kp w w' (Ft (some a) (some b))/\cQ (BD E w') R bk o (.slice ao f.body.length cap) f.body/\JB R C K bo bk mb a b E (λt=>S t\/Bd bo n f.body t) w'
theorem VG:Aq R C K bo bk mb a b 0:=by
 intro E S w o f c hJ hU hb hI hA hwb;obtain⟨ao,cap,QS⟩:=hA.form;have hb1:=hb.alloc (.cells #[pt bk,pt o,.int .i64 ((0:Nat):Int),.map (some a),.map (some b)] 206);have c2:(w.alloc (.cells #[pt bk,pt o,.int .i64 ((0:Nat):Int),.map (some a),.map (some b)] 206)).cell? ⟨o,2,none⟩=some (.slice ao f.body.length cap):=by rw[<-QS];exact hb1.cell rfl
 have c20:w.cell? ⟨o,2,none⟩=some (.slice ao f.body.length cap):=by rw[<-QS];exact hb.cell rfl
 have hol:=hb.lt;have HJ:=az hJ;rw[QS] at hA;have HA:=az hA;clear hJ hA hI hb hb1 hwb QS hU;go_enter func232,ntmps232;go_wp2;go_ret;have hk:=(Kp.refl w (λ_=>False)).alloc (.cells #[pt bk,pt o,.int .i64 ((0:Nat):Int),.map (some a),.map (some b)] 206);refine⟨ao,cap,rfl,hk.ft _ _,HA.out.mono (λb t c h=>⟨h.1,h.2.alloc _⟩) (λ_ _ h=>h),?_⟩;rw[show(λt=>S t\/Bd bo 0 f.body t)=S by funext t;exact propext ⟨λq=>q.elim id (λq=>ax q (Bd.zero _ _ _)),.inl⟩];exact HJ.out.kp hk
theorem VH (n:Nat)(hn:n+1<=3)(hC:JC R (λt=>t∈K) bo bk (n+1) (some a) (some b) (JB R C K bo bk mb a b)):Aq R C K bo bk mb a b (n+1):=by
 intro E S w o f c hJ hU hb hI hA hwb;obtain⟨g,hg⟩:=hI;have hk:=(Kp.refl w (λ_=>False)).alloc (.cells #[pt bk,pt o,.int .i64 ((n+1:Nat):Int),.map (some a),.map (some b)] 206);have hf:∃a m p,c.iv=.slice a m p:=by
  cases g with
  | zero=>exact hg.elim
  | succ g=>obtain⟨_,hq,_⟩:=hg;obtain⟨a,p,hv⟩:=hq.form;exact⟨a,_,p,hv⟩
 obtain⟨a9,m9,p9,hiv⟩:=hf;rw[hiv] at hg;have HC:=az ((yt hC g).at hC o hJ hU hg (by obtain⟨G,hG⟩:=hwb;exact⟨G,false,hG⟩) hk);have HK:=az (hk.ft (some a) (some b));have hb1:=hb.alloc (.cells #[pt bk,pt o,.int .i64 ((n+1:Nat):Int),.map (some a),.map (some b)] 206);have c1:(w.alloc (.cells #[pt bk,pt o,.int .i64 ((n+1:Nat):Int),.map (some a),.map (some b)] 206)).cell? ⟨o,1,none⟩=some (.slice a9 m9 p9):=by rw[<-hiv];exact hb1.cell rfl
 have c10:w.cell? ⟨o,1,none⟩=some (.slice a9 m9 p9):=by rw[<-hiv];exact hb.cell rfl
 have hol:=hb.lt;obtain⟨ln,tq⟩:∃ln:Int,ln=((n+1:Nat):Int):=⟨_,rfl⟩;have ld:¬ln=0:=by omega
 have hl2:(ln==0)=false:=by simpa using ld
 rw[<-tq] at c1 HC HK;rw[<-tq];clear hJ hA hg hb hb1 hwb hU hC hiv hk tq ld;go_enter func232,ntmps232;go_wp2
 go_region_with (go_at_call 156;refine(HC.out _ ?_).mono ?_;exact(Kp.refl _ _).drew;rintro e w1 ⟨ao,cap,rfl,hk1,hA,pP⟩;have HA:=az hA;have KE:=az pP;have oV:=az hk1;clear hA pP hk1)
 all_goals go_wp2
 all_goals go_ret
 all_goals exact⟨ao,cap,rfl,HK.out.trans oV.out,HA.out,KE.out⟩
end
section
variable {R C:Nat->Fr->Prop}{K:List Tok}{bo:Tok->Option (List It)}{bk mb a b:Nat}{E:Nat->Prop}{S:Tok->Prop}{w:World}
theorem Dp (w:World)(bk:Nat)(t:ByteArray):Calls prog 75 #[pt bk,.string t] w λe w'=>∃db bb nb,e=.returned (j4 db)/\Kp w w' (λ_=>False)/\BD (New w) w' db 125 #[.func (.func 120) #[] #[pt bb,pt nb]]/\BD (New w) w' bb 78 #[pt bk]/\BD (New w) w' nb 9 #[.string t]:=by
 have lI:=bV;go_enter func75,ntmps75;go_wp2;go_ret;exact⟨w.heap.size+1+1,w.heap.size,w.heap.size+1,rfl,(((Kp.refl _ _).alloc _).alloc _).alloc _,⟨by show _<=_;omega,aC.new2 w _ _ _ _⟩,⟨ah _,((aC.new w _ _).alloc _).alloc _⟩,⟨by show _<=_;omega,(aC.new1 w _ _ _).alloc _⟩⟩
theorem Mr (w:World)(n:Nat)(ff fc:Array Value):Calls prog 199 #[.func (.func n) ff fc] w λe w'=>e=.returned (lW w.heap.size)/\w'=w.alloc (.cells #[.func (.func n) ff fc] 125):=by
 have lI:=bV;go_enter func199,ntmps199;go_wp2;go_ret;exact⟨rfl,rfl⟩
theorem E2 (E:Nat->Prop)(w:World)(hU:Up E w)(o:Nat)(f:Fr)(nm:ByteArray)(ca:WC)(hca:ca.nm=nm)(hb:aC w o 111 ca.arr)(hR:R o f)(hf:f.name=nm.data.toList)(hs:nm.size<=1000)(ao:Option Addr)(n cap:Nat)(hA:cQ (BD E w) R bk o (.slice ao n cap) f.body):
  Calls prog 242 #[pt bk,pt o,.slice ao n cap] w λe w'=>∃cl,e=.returned cl/\Kp w w' (λ_=>False)/\kM (BD E w') R bk (cQ (BD E w') R bk) nm.data.toList cl:=by
 have lI:=bV;have HA:=az hA;obtain⟨W3,hW3⟩:∃W3,W3=((w.alloc (.cells #[pt bk] 78)).alloc (.cells #[pt o] 107)).alloc (.cells #[.slice ao n cap] 109):=⟨_,rfl⟩;have hk3:Kp w W3 (λ_=>False):=by rw[hW3];exact(((Kp.refl _ _).alloc _).alloc _).alloc _
 have hb0:aC W3 w.heap.size 78 #[pt bk]:=by rw[hW3];exact((aC.new w _ _).alloc _).alloc _
 have hb1:aC W3 (w.heap.size+1) 107 #[pt o]:=by rw[hW3];exact(aC.new1 w _ _ _).alloc _
 have hb2:aC W3 (w.heap.size+1+1) 109 #[.slice ao n cap]:=by rw[hW3];exact aC.new2 w _ _ _ _
 have l8:aC W3 o 111 ca.arr:=hk3.blk hb (by simp);have d0:W3.cell? ⟨w.heap.size,0,none⟩=some (pt bk):=hb0.cell rfl;have d1:W3.cell? ⟨w.heap.size+1,0,none⟩=some (pt o):=hb1.cell rfl;have d2:W3.cell? ⟨o,0,none⟩=some (.string nm):=by rw[<-hca];exact l8.cell rfl
 have hs3:W3.heap.size=w.heap.size+1+1+1:=by rw[hW3];simp
 have HB:Hid (∀w1,Kp W3 w1 (λ_=>False)->(w1.cell? ⟨w.heap.size,0,none⟩=some (pt bk)/\w1.cell? ⟨w.heap.size+1,0,none⟩=some (pt o)/\w1.cell? ⟨o,0,none⟩=some (.string nm))/\∀z o1,((w1.setCell ⟨w.heap.size+1+1+1,0,none⟩ z).alloc o1).cell? ⟨w.heap.size,0,none⟩=some (pt bk)/\((w1.setCell ⟨w.heap.size+1+1+1,0,none⟩ z).alloc o1).cell? ⟨w.heap.size+1,0,none⟩=some (pt o)/\((w1.setCell ⟨w.heap.size+1+1+1,0,none⟩ z).alloc o1).cell? ⟨o,0,none⟩=some (.string nm)):=λw1 hk=>by
  have hol:=hb.lt;refine⟨⟨(hk.blk hb0 (by simp)).cell rfl,(hk.blk hb1 (by simp)).cell rfl,by rw[<-hca];exact(hk.blk l8 (by simp)).cell rfl⟩,λz o1=>⟨?_,?_,?_⟩⟩
  ·exact(((hk.blk hb0 (by simp)).setOther (a:=⟨w.heap.size+1+1+1,0,none⟩) (by show ¬w.heap.size=w.heap.size+1+1+1;omega) z).alloc o1).cell rfl
  ·exact(((hk.blk hb1 (by simp)).setOther (a:=⟨w.heap.size+1+1+1,0,none⟩) (by show ¬w.heap.size+1=w.heap.size+1+1+1;omega) z).alloc o1).cell rfl
  ·rw[<-hca];exact(((hk.blk l8 (by simp)).setOther (a:=⟨w.heap.size+1+1+1,0,none⟩) (by show ¬o=w.heap.size+1+1+1;omega) z).alloc o1).cell rfl
 have HF:Hid (∀(w':World) (db bb nb ab cb:Nat),Kp W3 w' (λ_=>False)->BD (New w) w' db 125 #[.func (.func 120) #[] #[pt bb,pt nb]]->BD (New w) w' bb 78 #[pt bk]->BD (New w) w' nb 9 #[.string nm]->BD (New w) w' ab 125 #[j4 db]->BD (New w) w' cb 243 #[lW ab]->∃cl,.func (.func 247) #[] #[pt (w.heap.size+1),pt cb,pt w.heap.size,pt (w.heap.size+1+1)]=cl/\Kp w w' (λ_=>False)/\kM (BD E w') R bk (cQ (BD E w') R bk) nm.data.toList cl):=by
  intro w' db bb nb ab cb hk q1 q2 q3 q4 q5;have hE:∀b t c,BD (New w) w' b t c->BD E w' b t c:=λb t c h=>⟨hU b h.1,h.2⟩;have kz:=hk3.trans hk;refine⟨_,rfl,kz,.inr ⟨_,_,_,_,o,f,_,_,rfl,hE _ _ _ ⟨by show _<=_;omega,hk.blk hb1 (by simp)⟩,hE _ _ _ q5,⟨ab,db,bb,nb,nm,rfl,hE _ _ _ q4,hE _ _ _ q1,hE _ _ _ q2,hE _ _ _ q3,rfl,hs⟩,hE _ _ _ ⟨ah _,hk.blk hb0 (by simp)⟩,hE _ _ _ ⟨by show _<=_;omega,hk.blk hb2 (by simp)⟩,hR,hf,HA.out.mono (λb t c h=>⟨h.1,kz.blk h.2 (by simp)⟩) (λ_ _ h=>h)⟩⟩
 have hol:=hb.lt;have VI:=az hW3;clear hA hk3 hb0 hb1 hb2 l8 hb HA hU hR hf hW3;go_enter func242,ntmps242;go_wp2;rw[<-VI.out];have y1:¬o=w.heap.size+1+1+1:=by omega
 have y2:¬w.heap.size=w.heap.size+1+1+1:=by omega
 have y3:¬w.heap.size+1=w.heap.size+1+1+1:=by omega
 go_region_held3 (λw'=>w'.cell? ⟨w.heap.size,0,none⟩=some (pt bk)/\w'.cell? ⟨w.heap.size+1,0,none⟩=some (pt o)/\w'.cell? ⟨o,0,none⟩=some (.string nm)) (first|go_keep|exact U3.out _ _) (first
  | (go_at_call 75;refine(Dp (W3.drew.alloc (.cells #[.nilFunc] 243)) bk nm).mono ?_;rintro e w1 ⟨db,bb,nb,rfl,hk1,hd1,hd2,hd3⟩;have kz:Kp W3 w1 (λ_=>False):=(((Kp.refl _ _).drew).alloc _).trans hk1;have KN:=hk1.blk (aC.new W3.drew #[.nilFunc] 243) (by simp);have hq0:w1.cell? ⟨w.heap.size+1+1+1,0,none⟩=some .nilFunc:=(by rw[<-hs3];exact KN.cell rfl);have hq1:w1.frozen? ⟨w.heap.size+1+1+1,0,none⟩=false:=(by rw[<-hs3];exact KN.free 0);have hq2:w.heap.size+1+1+1<w1.heap.size:=(by rw[<-hs3];exact KN.lt);have hq3:¬w.heap.size+1+1+1=w1.heap.size:=(by omega);have HBQ:=az KN;clear KN;obtain⟨⟨u0,u1,u2⟩,u3⟩:=HB.out w1 kz;have U3:=az u3;clear u3;have z0:w.heap.size+1+1+1<=w1.heap.size:=(by rw[<-hs3];exact kz.size);have z1:¬w.heap.size=w1.heap.size:=(by omega);have z2:¬w.heap.size+1=w1.heap.size:=(by omega);have z3:¬o=w1.heap.size:=(by omega);have oV:=az kz;have S4:=az hd1;have S5:=az hd2;have S6:=az hd3;clear hk1 hd1 hd2 hd3 kz)
  | (go_at_call 75;refine(Dp W3.drew bk nm).mono ?_;rintro e w1 ⟨db,bb,nb,rfl,hk1,hd1,hd2,hd3⟩;have kz:Kp W3 w1 (λ_=>False):=((Kp.refl _ _).drew).trans hk1;obtain⟨⟨u0,u1,u2⟩,u3⟩:=HB.out w1 kz;have U3:=az u3;clear u3;have z0:w.heap.size+1+1+1<=w1.heap.size:=(by rw[<-hs3];exact kz.size);have z1:¬w.heap.size=w1.heap.size:=(by omega);have z2:¬w.heap.size+1=w1.heap.size:=(by omega);have z3:¬o=w1.heap.size:=(by omega);have oV:=az kz;have S4:=az hd1;have S5:=az hd2;have S6:=az hd3;clear hk1 hd1 hd2 hd3 kz)
  | (go_at_call 199;refine(Mr _ _ _ _).mono ?_;rintro e w2 ⟨rfl,rfl⟩))
 all_goals go_wp2
 all_goals go_ret
 all_goals have C0:∀b,W3.heap.size<=b->w.heap.size<=b:=λb hb=>by omega
 all_goals first
  | (obtain⟨cl,rfl,q⟩:=HF.out _ db bb nb w1.heap.size (w1.heap.size+1) ((oV.out.alloc _).alloc _) ⟨C0 _ S4.out.1,(S4.out.2.alloc _).alloc _⟩ ⟨C0 _ S5.out.1,(S5.out.2.alloc _).alloc _⟩ ⟨C0 _ S6.out.1,(S6.out.2.alloc _).alloc _⟩ ⟨by show w.heap.size<=w1.heap.size;omega,(aC.new w1 _ _).alloc _⟩ ⟨by show w.heap.size<=w1.heap.size+1;omega,aC.new1 w1 _ _ _⟩;exact⟨_,rfl,q⟩)
  | (obtain⟨cl,rfl,q⟩:=HF.out _ db bb nb (w1.heap.size+1) w1.heap.size ((oV.out.alloc _).alloc _) ⟨C0 _ S4.out.1,(S4.out.2.alloc _).alloc _⟩ ⟨C0 _ S5.out.1,(S5.out.2.alloc _).alloc _⟩ ⟨C0 _ S6.out.1,(S6.out.2.alloc _).alloc _⟩ ⟨by show w.heap.size<=w1.heap.size+1;omega,aC.new1 w1 _ _ _⟩ ⟨by show w.heap.size<=w1.heap.size;omega,(aC.new w1 _ _).alloc _⟩;exact⟨_,rfl,q⟩)
  | skip
 have hq:W3.drew.heap.size=w.heap.size+1+1+1:=hs3;have KN:=HBQ.out;rw[hq] at KN;have Z2:∀b,New (W3.drew.alloc (.cells #[.nilFunc] 243)) b->w.heap.size+1+1+1<b:=λb hb=>by
  have hb:(W3.drew.alloc _).heap.size<=b:=hb;rw[World.size_alloc,hq] at hb;omega
 have jK:∀b t c,BD (New (W3.drew.alloc (.cells #[.nilFunc] 243))) w1 b t c->BD (New w) ((w1.setCell ⟨w.heap.size+1+1+1,0,none⟩ (lW w1.heap.size)).alloc (.cells #[j4 db] 125)) b t c:=λb t c hb=>by
  have h4:=Z2 b hb.1;exact⟨by show w.heap.size<=b;omega,(hb.2.setOther (a:=⟨w.heap.size+1+1+1,0,none⟩) (by show ¬b=w.heap.size+1+1+1;omega) _).alloc _⟩
 have hka:Kp W3 ((w1.setCell ⟨w.heap.size+1+1+1,0,none⟩ (lW w1.heap.size)).alloc (.cells #[j4 db] 125)) (λ_=>False):=(oV.out.set (a:=⟨w.heap.size+1+1+1,0,none⟩) (λh=>ax h (by show ¬w.heap.size+1+1+1<W3.heap.size;omega)) _).alloc _;have hna:=aC.new (w1.setCell ⟨w.heap.size+1+1+1,0,none⟩ (lW w1.heap.size)) #[j4 db] 125;rw[World.size_setCell] at hna;obtain⟨cl,rfl,q⟩:=HF.out _ db bb nb w1.heap.size (w.heap.size+1+1+1) hka (jK _ _ _ S4.out) (jK _ _ _ S5.out) (jK _ _ _ S6.out) ⟨by show w.heap.size<=w1.heap.size;omega,hna⟩ ⟨by show w.heap.size<=w.heap.size+1+1+1;omega,(KN.set 0 _).alloc _⟩;exact⟨_,rfl,q⟩
end
section
variable {R C:Nat->Fr->Prop}{K:List Tok}{bo:Tok->Option (List It)}{bk mb a b:Nat}
theorem I7 (n:Nat)(hn:n+1<=3)(hB:Aq R C K bo bk mb a b n)(E:Nat->Prop)(S:Tok->Prop)(w:World)(ob o:Nat)(f:Fr)(c:WC)(nm:ByteArray)(hJ:JB R C K bo bk mb a b E S w)(hU:Up E w)(hnm:nm.data.toList∈K)(hCo:C o f)(hR:R o f)(hf:f.name=nm.data.toList)(l8:bo f.name=some f.body)(hb:aC w o 111 c.arr)(hcn:c.nm=nm)(hs:nm.size<=1000)(hI:cV (BD E w) c.iv f.body)(hA:cQ (BD E w) R bk o c.sv f.body)(hwb:∃G,wb (λt=>t∈K) G false f.body):
  Calls prog 221 #[.agg #[pt bk,pt ob,.int .i64 ((n+1:Nat):Int),.map (some a),.map (some b)],pt o] w λe w'=>∃cl,e=.returned cl/\Kp w w' (Ft (some a) (some b))/\kM (BD E w') R bk (cQ (BD E w') R bk) nm.data.toList cl/\JB R C K bo bk mb a b E (λt=>S t\/Bc bo (n+1) nm.data.toList t) w':=by
 obtain⟨m,hm⟩:∃m:Int,m=(n:Int):=⟨_,rfl⟩;have xJ:((n+1:Nat):Int)=m+1:=by rw[hm];omega
 rw[xJ];obtain⟨W1,hW1⟩:∃W1,W1=w.alloc (.cells #[pt bk,pt ob,.int .i64 (m+1),.map (some a),.map (some b)] 206):=⟨_,rfl⟩;have hk1:Kp w W1.drew (λ_=>False):=by rw[hW1];exact((Kp.refl _ _).alloc _).drew
 have hs1:W1.heap.size=w.heap.size+1:=by rw[hW1];simp
 have hbs:aC W1.drew w.heap.size 206 #[pt bk,pt ob,.int .i64 (m+1),.map (some a),.map (some b)]:=by rw[hW1];exact aC.new w _ _
 have Ms:aC W1.drew o 111 c.arr:=hk1.blk hb (by simp);have pP:=hJ.kp hk1;obtain⟨w2,hrun,hk2,hJ2⟩:=pP.Mp nm hnm hs o f hCo hf;have yJ:Kp w w2 (Ft (some a) (some b)):=(hk1.ft _ _).trans (hk2.mono (λk _ e=>.inr (by rw[show k=b from e])));have Ck:=hk2.blk hbs (λe=>pP.pts.ne hbs (show w.heap.size=b from e).symm);have E3:=hk2.blk Ms (λe=>pP.pts.ne Ms (show o=b from e).symm);have e0:W1.cell? ⟨w.heap.size,4,none⟩=some (.map (some b)):=hbs.cell rfl;have e1:W1.cell? ⟨o,0,none⟩=some (.string nm):=by rw[<-hcn];exact Ms.cell rfl
 have f0:w2.cell? ⟨w.heap.size,0,none⟩=some (pt bk):=Ck.cell rfl;have f1:w2.cell? ⟨w.heap.size,1,none⟩=some (pt ob):=Ck.cell rfl;have f2:w2.cell? ⟨w.heap.size,2,none⟩=some (.int .i64 (m+1)):=Ck.cell rfl;have f3:w2.cell? ⟨w.heap.size,3,none⟩=some (.map (some a)):=Ck.cell rfl;have f4:w2.cell? ⟨w.heap.size,4,none⟩=some (.map (some b)):=Ck.cell rfl;have f5:w2.cell? ⟨o,0,none⟩=some (.string nm):=by rw[<-hcn];exact E3.cell rfl
 have s5:=Ck.lt;have hm0:0<=m:=by omega
 have zj:m<=2:=by omega
 have Z8:∀k t c,BD E w k t c->BD E w2 k t c:=λk t c h=>⟨h.1,yJ.blk h.2 (λe=>hJ.mp k t c e h.2)⟩;have HBd:Hid (∀w0,Kp w2 w0 (λ_=>False)->Calls prog 232 #[.agg #[pt bk,pt o,.int .i64 m,.map (some a),.map (some b)]] w0 λe w'=>∃ao cap,e=.returned (.slice ao f.body.length cap)/\Kp w0 w' (Ft (some a) (some b))/\cQ (BD E w') R bk o (.slice ao f.body.length cap) f.body/\JB R C K bo bk mb a b E (λt=>(S t\/t=nm.data.toList)\/Bd bo n f.body t) w'):=by
  intro w0 bC;have Cl:=bU (D:=E) (D':=E) bC (λb _ h=>⟨h,by simp⟩);rw[hm];refine(hB E _ w0 o f c (hJ2.kp bC) ((hU.kp yJ).kp bC) (bC.blk E3 (by simp)) ((hI.mono Z8).mono Cl) ((hA.mono Z8 (λ_ _ h=>h)).mono Cl (λ_ _ h=>h)) hwb).mono ?_;rintro e w' ⟨ao,cap,rfl,h1,h2,h3⟩;exact⟨ao,cap,rfl,h1,h2,h3⟩
 have HBS:=az Ck;have HST:Hid (∀w0 w',Kp w2 w0 (λ_=>False)->Kp w0 w' (Ft (some a) (some b))->∀k t c,aC w0 k t c->aC w' k t c):=λw0 w' bC hkk k t c h=>hkk.blk h (λe=>(hJ2.kp bC).mp k t c e h);have HCP:Hid (∀w3 ao cap,Kp w2 w3 (Ft (some a) (some b))->cQ (BD E w3) R bk o (.slice ao f.body.length cap) f.body->JB R C K bo bk mb a b E (λt=>(S t\/t=nm.data.toList)\/Bd bo n f.body t) w3->∀w4,Kp w3 w4 (λ_=>False)->Calls prog 242 #[pt bk,pt o,.slice ao f.body.length cap] w4 λe w'=>∃fn ff fc,e=.returned (.func (.func fn) ff fc)/\Kp w4 w' (λ_=>False)/\Kp w w' (Ft (some a) (some b))/\kM (BD E w') R bk (cQ (BD E w') R bk) nm.data.toList (.func (.func fn) ff fc)/\JB R C K bo bk mb a b E (λt=>S t\/Bc bo (n+1) nm.data.toList t) w'):=by
  intro w3 ao cap hk3 X9 hJ3 w4 hk4;have VJ:=yJ.trans (hk3.trans (hk4.ft _ _));refine(E2 E w4 (hU.kp VJ) o f nm c hcn (hk4.blk (hk3.blk E3 (λe=>hJ2.mp _ _ _ e E3)) (by simp)) hR hf hs ao f.body.length cap (X9.mono (bU (D:=E) (D':=E) hk4 (λb _ h=>⟨h,by simp⟩)) (λ_ _ h=>h))).mono ?_;rintro e w' ⟨cl,rfl,q1,q2⟩;obtain⟨fn,ff,fc,rfl⟩:=jM q2;refine⟨fn,ff,fc,rfl,q1,VJ.trans (q1.ft _ _),q2,?_⟩;rw[show(λt=>S t\/Bc bo (n+1) nm.data.toList t)=(λt=>(S t\/t=nm.data.toList)\/Bd bo n f.body t) by
   funext t
   rw[or_assoc];refine propext (or_congr_right ⟨λq=>?_,λq=>?_⟩)
   ·rcases q with q|⟨b',hb',q⟩
    ·exact .inl q
    ·rw[<-hf,l8] at hb';injection hb' with hb';subst hb';exact .inr q
   ·rcases q with q|q
    ·exact .inl q
    ·exact .inr ⟨f.body,by rw[<-hf];exact l8,q⟩]
  exact(hJ3.kp hk4).kp q1
 have CY:=az hW1;have hol:=E3.lt;clear hW1 hm xJ hJ pP hJ2 hB hU hI hA hwb hbs Ms hb E3 Z8 hk1 yJ hk2 hCo hR hf l8 hnm hcn hs;go_enter func221,ntmps221;go_wp2;rw[<-CY.out]
 go_region_held3 (λw'=>w'.cell? ⟨w.heap.size,4,none⟩=some (.map (some b))/\w'.cell? ⟨o,0,none⟩=some (.string nm)) (go_keep) (fail)
 go_wp2
 go_region_held3 (λw'=>w'.cell? ⟨w.heap.size,0,none⟩=some (pt bk)/\w'.cell? ⟨w2.heap.size,0,none⟩=some (pt bk)/\w'.cell? ⟨w2.heap.size,1,none⟩=some (pt o)/\w'.cell? ⟨w2.heap.size,2,none⟩=some (.int .i64 m)/\w'.cell? ⟨w2.heap.size,3,none⟩=some (.map (some a))/\w'.cell? ⟨w2.heap.size,4,none⟩=some (.map (some b))) (go_keep) (first
  | (go_at_call 232;refine(HBd.out _ ?_).mono ?_;exact((Kp.refl _ _).alloc _).drew;rintro e w3 ⟨ao,cap,rfl,hk3,X9,hJ3⟩;have E4:=HST.out _ _ (((Kp.refl _ _).alloc _).drew) hk3 _ _ _ (HBS.out.alloc _);have uX:=HST.out _ _ (((Kp.refl _ _).alloc _).drew) hk3 _ _ _ (aC.new w2 _ _);have u0:w3.cell? ⟨w.heap.size,0,none⟩=some (pt bk):=E4.cell rfl;have v0:w3.cell? ⟨w2.heap.size,0,none⟩=some (pt bk):=uX.cell rfl;have v1:w3.cell? ⟨w2.heap.size,1,none⟩=some (pt o):=uX.cell rfl;have v2:w3.cell? ⟨w2.heap.size,2,none⟩=some (.int .i64 m):=uX.cell rfl;have v3:w3.cell? ⟨w2.heap.size,3,none⟩=some (.map (some a)):=uX.cell rfl;have v4:w3.cell? ⟨w2.heap.size,4,none⟩=some (.map (some b)):=uX.cell rfl;have Z9:=az ((((Kp.refl w2 (λ_=>False)).alloc _).drew.ft (some a) (some b)).trans hk3);have SS:=az X9;have HJ3:=az hJ3;have EJ:=az E4;have HBN:=az uX;clear hk3 X9 hJ3 E4 uX)
  | (go_at_call 242;refine(HCP.out w3 ao cap Z9.out SS.out HJ3.out _ ?_).mono ?_;exact Kp.refl _ _;rintro e w5 ⟨fn,ff,fc,rfl,q0,q1,q2,q3⟩;have E4:=q0.blk EJ.out (by simp);have uX:=q0.blk HBN.out (by simp);have x6:w5.cell? ⟨w.heap.size,0,none⟩=some (pt bk):=E4.cell rfl;have x0:w5.cell? ⟨w2.heap.size,0,none⟩=some (pt bk):=uX.cell rfl;have x1:w5.cell? ⟨w2.heap.size,1,none⟩=some (pt o):=uX.cell rfl;have x2:w5.cell? ⟨w2.heap.size,2,none⟩=some (.int .i64 m):=uX.cell rfl;have x3:w5.cell? ⟨w2.heap.size,3,none⟩=some (.map (some a)):=uX.cell rfl;have x4:w5.cell? ⟨w2.heap.size,4,none⟩=some (.map (some b)):=uX.cell rfl;clear q0 E4 uX;have Q1:=az q1;have Q2:=az q2;have Q3:=az q3;clear q1 q2 q3))
 all_goals go_wp2
 all_goals go_ret
 all_goals exact⟨_,rfl,Q1.out,Q2.out,Q3.out⟩
end
end
end Go.Proofs.YteainaiebcphlaaGreatDoor
