import Derived.Test.YteainaiebcphlaaGreatDoorY8
import Derived.Laws.IdiomRangeMap
import Derived.Deep.RegionLaw
import Derived.Test.YteainaiebcphlaaGreatDoorY11
import Derived.Handy
namespace Go.Proofs.YteainaiebcphlaaGreatDoor
set_option maxRecDepth 1000000
set_option maxHeartbeats 4000000
set_option linter.all false
section
open Go.RowKit
theorem keyStr_inv {key:Value} {kl:Lit} (h:keyOf Tryz.prog 9 key=some kl):∃ x:ByteArray,key=.string x/\kl=.string x.data.toList:=by
 cases key <;> simp[keyOf,Tryz.underlying9,mapKey] at h
 exact⟨_,rfl,h.2.symm⟩
theorem step_delete_run {P:Program} {w:World} (w':World) {ops:Array Oper} {o:Oper} {a:Act} {K:Act->World->Prop} {Q:Exit->Act->World->Prop} {E:Prop} (hg:o.guard=none) (m x:Operand) (t k:TypeId) (hop:o.op=Op.call { callee:=Callee.builtin Builtin.delete,args:=#[m,x],argTypes:=#[t,k] }) (vm vx:Value)
  (hm:a.eval m=vm) (hx:a.eval x=vx) (hrun:∀ ty,(Builtin.delete_ #[t,k] ty #[vm,vx]).run P w=.ok (.tuple #[]) w') (h:K (a.put o.dst (.tuple #[])) w'):if Region.wanted o (yielded ops a.tmps)=true then Oper.wp P o a w K Q else E:=by
 have hw:Region.wanted o (yielded ops a.tmps)=true:=by simp[Region.wanted,hg]
 rw[if_pos hw];unfold Oper.wp;simp[execOp,hop,resolve,invoke,builtin,hm,hx,hrun,Result.andThen];exact h
def coolX (X:XV) (k:Nat):XV:=⟨fun i=>if i=k then false else X.fa i,fun i=>if i=k then 0 else X.ct i,fun i j=>i ≠ k/\X.P i j,fun i j=>i ≠ k/\X.H i j⟩
def lfX (X:XV) (k:Nat) (L:Nat->Prop):XV:=⟨X.fa,X.ct,X.P,fun i j=>X.H i j/\(i=k->L j)⟩
section
variable {D:GD} {w:World} {bk ob:Nat} {f:Fr} {n k:Nat} {fr:Nat->Fr} {oo:Nat->Nat} {X:XV} {q:Nat->Prop}
theorem coolEnd {w:World} {c:WC} (hW:Wds D w bk) (hr:D.r ob f) (hc:WordC D w bk ob f c) (hX:EX D w bk n fr oo (lfX X k (fun _=>False)) q) (hk:k < n) (ho:oo k=ob) (hf:fr k=f):Pres D D w ((((w.setCell ⟨ob,4,none⟩ (.bool false)).setCell ⟨ob,5,none⟩ (.int .i64 0)).setCell ⟨ob,3,none⟩ c.sv).setCell ⟨ob,7,none⟩ (.map none)) bk/\Kp w ((((w.setCell ⟨ob,4,none⟩ (.bool false)).setCell ⟨ob,5,none⟩ (.int .i64 0)).setCell ⟨ob,3,none⟩ c.sv).setCell ⟨ob,7,none⟩ (.map none)) (fun k=>k=ob)/\EX D ((((w.setCell ⟨ob,4,none⟩ (.bool false)).setCell ⟨ob,5,none⟩ (.int .i64 0)).setCell ⟨ob,3,none⟩ c.sv).setCell ⟨ob,7,none⟩ (.map none)) bk n fr oo (coolX X k) q:=by
 have hkp:Kp w ((((w.setCell ⟨ob,4,none⟩ (.bool false)).setCell ⟨ob,5,none⟩ (.int .i64 0)).setCell ⟨ob,3,none⟩ c.sv).setCell ⟨ob,7,none⟩ (.map none)) (fun k=>k=ob):=
  ((((Kp.refl w (fun k=>k=ob)).set (a:=⟨ob,4,none⟩) (fun _=>rfl) _).set (a:=⟨ob,5,none⟩) (fun _=>rfl) _).set (a:=⟨ob,3,none⟩) (fun _=>rfl) _).set (a:=⟨ob,7,none⟩) (fun _=>rfl) _
 have hbd:=BD_u hW.ud (fun k e=>by have e:k=ob:=e;rw[e];exact hc.u) hkp;have hnew:WordC D ((((w.setCell ⟨ob,4,none⟩ (.bool false)).setCell ⟨ob,5,none⟩ (.int .i64 0)).setCell ⟨ob,3,none⟩ c.sv).setCell ⟨ob,7,none⟩ (.map none)) bk ob f { c with fa:=false,ct:=0,av:=c.sv,pm:=none }:=⟨((((hc.blk.set 4 _).set 5 _).set 3 _).set 7 _),hc.nm,hc.ns,hc.it.mono hbd,hc.sl.mono hbd (fun _ _ h=>h),hc.sl.mono hbd (fun _ _ h=>h),(fun b e=>by cases e),hc.wm.frame hkp (GLe.refl _ _) (fun b hb e=>hc.wm.neBlk hb hc.blk e),hc.wn,hc.u,hc.wf⟩;refine⟨hW.word hr hc hkp hnew rfl rfl rfl rfl rfl,hkp,?_⟩;subst ho;subst hf;obtain⟨c0,hc0,a1,a2,a3,a4,a5⟩:=hX.wc k hk;have:=hc0.inj hc;subst this;refine hX.word hW hk hc hkp hnew (by simp[coolX]) (by simp[coolX]) (.inl ⟨rfl,fun j _ h=>h.1 rfl⟩) (fun e=>((a4 e).same (fun b hb=>hkp.block b (hc.wm.lt hb) (hc.wm.neBlk hb hc.blk))).iff (fun j _=>?_)) a5 (fun j hj e=>⟨by simp[coolX,lfX,e],by simp[coolX,lfX,e],fun i _=>⟨fun h=>⟨e,h⟩,fun h=>h.2⟩,fun i _=>?_,Iff.rfl⟩)
 ·exact⟨fun h=>⟨h.2,h.1⟩,fun h=>⟨h.2,h.1⟩⟩
 ·exact⟨fun h=>⟨h.2,h.1⟩,fun h=>⟨h.2,h.1⟩⟩
structure CoolAt (D:GD) (bk n:Nat) (fr:Nat->Fr) (oo:Nat->Nat) (X:XV) (q:Nat->Prop) (k pb r m:Nat) (DD:DataW Value) (w wr:World) (left:Lit->Bool) (cnt:Nat):Prop where
 rg:wr.ranges Tryz.prog 9 heldR pb r m DD left cnt
 sub:∀ kl,left kl=true->Maps.has DD kl=true
 kp:Kp w wr (FU D w bk)
 pr:Pres D D w wr bk
 ex:EX D wr bk n fr oo (lfX X k (fun j=>left (.string (fr j).name)=true)) q
theorem CoolAt.wds {pb r m cnt:Nat} {DD:DataW Value} {wr:World} {left:Lit->Bool} (h:CoolAt D bk n fr oo X q k pb r m DD w wr left cnt) (hW:Wds D w bk):Wds D wr bk:=hW.next h.kp.size h.pr
theorem left_ne {left:Lit->Bool} (nd:∀ i j,i < n->j < n->(fr i).name=(fr j).name->i=j) {i j:Nat} (hi:i < n) (hj:j < n):(left (.string (fr i).name) && !(Lit.string (fr i).name).sameKey (.string (fr j).name))=true<->(left (.string (fr i).name)=true/\i ≠ j):=by
 by_cases e:i=j
 ·subst e;simp[Lit.sameKey]
 ·have:(Lit.string (fr i).name).sameKey (.string (fr j).name)=false:=Maps.sameKey_ne (fun q=>e (nd i j hi hj (by injection q)));rw[this];simp[e]
theorem coolM (hW:Wds D w bk) (hX:EX D w bk n fr oo X q) (hk:k < n) (ho:oo k=ob) (hf:fr k=f) (hHP:∀ j,j < n->X.H k j->X.P k j):
  Calls Tryz.prog 60 #[pt ob] w fun e w'=>e=.returned (.tuple #[])/\Kp w w' (FU D w bk)/\Pres D D w w' bk/\EX D w' bk n fr oo (coolX X k) q:=by
 have hr:D.r ob f:=by rw[<-ho,<-hf];exact hX.r k hk
 obtain⟨c,hc,a1,a2,a3,a4,a5⟩:=hX.wc k hk;rw[ho,hf] at hc;have hu:∀ k,k=ob->FU D w bk k:=fun k e=>by rw[e];exact .inl ⟨f,hr⟩
 have c7:w.cell? ⟨ob,7,none⟩=some (.map c.pm):=hc.blk.cell rfl;obtain⟨s0,m0,p0,hsv⟩:∃ a m p,c.sv=.slice a m p:=by obtain⟨a,p,e⟩:=hc.sl.form;exact⟨a,_,p,e⟩
 rcases a3 with⟨hpm,hno⟩|⟨pb,DD,hpm,⟨m,hown⟩,hhas,hE⟩
 ·rw[hpm] at c7;have hk0:=(Kp.refl w (fun _=>False)).alloc (.mapIter none 0 #[] 0);obtain⟨hp0,hW0⟩:=hW.kp hk0;have hX0:EX D (w.alloc (.mapIter none 0 #[] 0)) bk n fr oo (lfX X k (fun _=>False)) q:=(hX.kp hk0).iff (fun _ _=>rfl) (fun _ _=>rfl) (fun _ _ _ _=>Iff.rfl) (fun i j hi hj _=>⟨fun h=>⟨h,fun e=>hno j hj (hHP j hj (e ▸ h))⟩,fun h=>h.1⟩);obtain⟨c1,hc1⟩:=hW0.ok ob f hr;obtain⟨c0,e1,e2,e3,e4,e5,hc0⟩:=hp0 ob f c hr hc;have hcc:=hc0.inj hc1;subst hcc;obtain⟨hpr,hkp,hex⟩:=coolEnd hW0 hr hc0 hX0 hk ho hf;have d2:(w.alloc (.mapIter none 0 #[] 0)).cell? ⟨ob,2,none⟩=some (.slice s0 m0 p0):=by rw[<-hsv,<-e4];exact hc0.blk.cell rfl
  have d3:(w.alloc (.mapIter none 0 #[] 0)).cell? ⟨ob,3,none⟩=some c0.av:=hc0.blk.cell rfl;have d4:(w.alloc (.mapIter none 0 #[] 0)).cell? ⟨ob,4,none⟩=some (.bool c0.fa):=hc0.blk.cell rfl;have d5:(w.alloc (.mapIter none 0 #[] 0)).cell? ⟨ob,5,none⟩=some (.int .i64 c0.ct):=hc0.blk.cell rfl;have d7:(w.alloc (.mapIter none 0 #[] 0)).cell? ⟨ob,7,none⟩=some (.map c0.pm):=hc0.blk.cell rfl;have g2:=hc0.blk.free 2;have g3:=hc0.blk.free 3;have g4:=hc0.blk.free 4;have g5:=hc0.blk.free 5;have g7:=hc0.blk.free 7;rw[show c0.sv=.slice s0 m0 p0 by rw[e4];exact hsv] at hpr hkp hex;have HP:=hide (hp0.trans (fun _ _ h=>h) hpr);have HX:=hide hex;have HK:Hid (Kp w _ (FU D w bk)):=((hk0.mono (T:=FU D w bk) (fun _ _ e=>e.elim)).trans (hkp.mono (fun k _ e=>hu k e)));have hrg:=run_range_nilMap (P:=Tryz.prog) w 104 9 107 Tryz.underlying104;have hnx:∀ ty,(Instr.next (.pointer (some ⟨w.heap.size,0,none⟩)) false ty).run Tryz.prog (w.alloc (.mapIter none 0 #[] 0))=_:=fun ty=>run_next_nilMap w ty 0 0 #[];clear hW hc hp0 hW0 hc0 hc1 hpr hkp hk0 e1 e2 e3 e4 e5 hsv hu hpm hX hX0 hex a1 a2 a4 a5 hno hHP ho hf hk;go_enter Tryz.func60,Tryz.ntmps60;go_wp2;refine wp_loop_rounds 1 ?_;rw[rounds_succ];go_wp2;refine bodyPost_end (results_none rfl _ _ _) rfl ?_;exact⟨rfl,HK.out,HP.out,HX.out⟩
 ·rw[hpm] at c7;obtain⟨hpu,hpt,_⟩:=hc.pm pb hpm;have HX0:Hid (EX D w bk n fr oo (lfX X k (fun j=>Maps.has DD (.string (fr j).name)=true)) q):=hX.iff (fun _ _=>rfl) (fun _ _=>rfl) (fun _ _ _ _=>Iff.rfl) (fun i j hi hj _=>⟨fun h=>⟨h,fun e=>(hhas j hj).2 (hHP j hj (e ▸ h))⟩,fun h=>h.1⟩);have HND:=hide hX.nd;have HW:=hide hW;have HC:=hide hc;have HE:=hide hE;have HR:=hide hX.r;clear hW hc hE hX hhas hHP a1 a2 a4 a5;go_enter Tryz.func60,Tryz.ntmps60
  go_wp2_with (first
   | (at_range;refine wpList_range_own _ rfl _ 104 rfl 9 107 (Maps.string_keyed Tryz.underlying9) Tryz.underlying104 _ pb m _ rfl hown ?_;intro w0 hrg0 hg0 hs0)
   | go_in)
  go_frame
  go_loopw [3] (fun _ wr=>∃ left cnt,CoolAt D bk n fr oo X q k pb w.heap.size m DD w wr left cnt) (fun _ wr=>wr.rangeLeft pb w.heap.size)
  case atStart=>
   have hk0:Kp w w0 (fun _=>False):=(Kp.refl w _).grown hg0 (fun k _ e=>by cases e);exact⟨_,_,⟨hrg0,fun _ h=>h,hk0.mono (fun _ _ e=>e.elim),(HW.out.kp hk0).1,HX0.out.kp hk0⟩⟩
  case round=>
   clear HX0;obtain⟨left,cnt,hat0⟩:=hrel;have hWr:=hat0.wds HW.out;have hrg:=hat0.rg
   go_wp2_with (first
    | (at_next;refine wpList_next_ranges _ rfl _ rfl 9 (Maps.string_keyed Tryz.underlying9) heldR Value.string (fun v:Value=>v) (fun key kl h=>(keyStr_inv h).imp (fun _ q=>q.1)) (fun v _ _=>⟨v,rfl⟩) pb w.heap.size m _ _ _ rfl hrg ?_ ?_)
    | go_in)
   ·intro hc0 hl0;have hXr:EX D wr bk n fr oo (lfX X k (fun _=>False)) q:=hat0.ex.iff (fun _ _=>rfl) (fun _ _=>rfl) (fun _ _ _ _=>Iff.rfl) (fun i j hi hj _=>⟨fun h=>⟨h.1,fun e=>by have this:left (.string (fr j).name)=true:=h.2 e;rw[hl0] at this;cases this⟩,fun h=>⟨h.1,fun e=>(h.2 e).elim⟩⟩);obtain⟨c1,hc1⟩:=hWr.ok ob f hr;obtain⟨c2,e1,e2,e3,e4,e5,hc2⟩:=hat0.pr ob f c hr HC.out;have hcc:=hc2.inj hc1;subst hcc;obtain⟨hpr,hkp,hex⟩:=coolEnd hWr hr hc2 hXr hk ho hf;have d2:wr.cell? ⟨ob,2,none⟩=some (.slice s0 m0 p0):=by rw[<-hsv,<-e4];exact hc2.blk.cell rfl
    have d3:wr.cell? ⟨ob,3,none⟩=some c2.av:=hc2.blk.cell rfl;have d4:wr.cell? ⟨ob,4,none⟩=some (.bool c2.fa):=hc2.blk.cell rfl;have d5:wr.cell? ⟨ob,5,none⟩=some (.int .i64 c2.ct):=hc2.blk.cell rfl;have d7:wr.cell? ⟨ob,7,none⟩=some (.map c2.pm):=hc2.blk.cell rfl;have g2:=hc2.blk.free 2;have g3:=hc2.blk.free 3;have g4:=hc2.blk.free 4;have g5:=hc2.blk.free 5;have g7:=hc2.blk.free 7;rw[show c2.sv=.slice s0 m0 p0 by rw[e4];exact hsv] at hpr hkp hex;have HP:=hide (hat0.pr.trans (fun _ _ h=>h) hpr);have HX:=hide hex;have HK:Hid (Kp w _ (FU D w bk)):=hat0.kp.trans (hkp.mono (fun k _ e=>hu k e));clear hpr hkp hat0 hWr hrg hc1 hc2 e1 e2 e3 e4 e5 hc0 hl0 hown hg0 hs0 hrg0 hXr hex ho hf hk;go_wp2;refine bodyPost_end (results_none rfl _ _ _) rfl ?_;exact⟨rfl,HK.out,HP.out,HX.out⟩
   ·intro x v kl yd yp w1 cnt1 hkey hlk hv hat hrg1 hlt hg1 hs1 hen;obtain⟨j,hj,rfl,hat2⟩:=HE.out kl (hat0.sub kl hlk);have hr2:=HR.out j hj;obtain⟨o2,ho2⟩:∃ o2,oo j=o2:=⟨_,rfl⟩;obtain⟨f2,hf2⟩:∃ f2,fr j=f2:=⟨_,rfl⟩;rw[ho2] at hat2;rw[ho2,hf2] at hr2;have hvv:v=pt o2:=by
     have h1:=hat (.held (.pointer none));rw[hat2] at h1;have h2:some (DataW.held v,[])=some (yd,yp):=hv;have h3:DataW.held v=yd:=congrArg Prod.fst (Option.some.inj h2);have h4:DataW.held (pt o2)=yd:=h1;rw[<-h3] at h4;exact (DataW.held.inj h4).symm
    subst hvv;have hrn:w.heap.size < wr.heap.size:=hrg.lt;have hk1:Kp wr w1 (fun k=>k=w.heap.size):=(Kp.refl wr _).grown hg1 (fun k _ e=>(Option.some.inj e).symm);have hnu:∀ k,D.u k->¬ k=w.heap.size:=fun k hk e=>by have:=HW.out.lt k hk;omega
    have hnd:∀ k,D.d k->¬ k=w.heap.size:=fun k hd e=>by have:=HW.out.dl k hd;omega
    obtain⟨hp1,hW1⟩:=hWr.out hk1.drew hnu hnd;have hX1:=hat0.ex.out hk1.drew hnu hnd;obtain⟨c2,hc2,_,_,_,b4,b5⟩:=hX1.wc j hj;rw[ho2,hf2] at hc2;obtain⟨c1,hc1⟩:=hW1.ok ob f hr;have hpa:=hat0.pr.trans (fun _ _ h=>h) hp1;have hka:Kp w w1.drew (FU D w bk):=((hat0.kp.mono (T:=fun k=>FU D w bk k\/k=w.heap.size) (fun _ _ e=>.inl e)).trans (hk1.drew.mono (fun _ _ e=>.inr e))).mono (fun k hk e=>e.elim id (fun e=>by omega));have d8:w1.cell? ⟨o2,8,none⟩=some (.map c2.wm):=hc2.blk.cell rfl;have d0:w1.cell? ⟨ob,0,none⟩=some (.string c1.nm):=hc1.blk.cell rfl;have hdel:∃ w2,(∀ ty,(Builtin.delete_ #[104,9] ty #[.map c2.wm,.string c1.nm]).run Tryz.prog w1.drew=.ok (.tuple #[]) w2)/\CoolAt D bk n fr oo X q k pb w.heap.size m DD w w2 (fun z=>left z && !z.sameKey (.string (fr j).name)) cnt1:=by
     cases hwm:c2.wm with
     | none=>
      refine⟨w1.drew,fun ty=>Maps.drop_nil (Maps.string_keyed Tryz.underlying9) Tryz.underlying104 (keyS c1.nm (Nat.le_trans hc1.ns (by decide))) ty,⟨ranges_same hrg1 rfl rfl,fun k hk=>hat0.sub k (by simp at hk;exact hk.1),hka,hpa,hX1.iff (fun _ _=>rfl) (fun _ _=>rfl) (fun _ _ _ _=>Iff.rfl) (fun i j' hi hj' hq=>?_)⟩⟩;by_cases ej:j'=j
      ·subst ej;have hb:=b4 hq;rw[hwm] at hb;rcases hb with⟨_,hb⟩|⟨_,_,hb,_⟩
       ·exact⟨fun h=>absurd h (hb i hi),fun h=>absurd ⟨h.1,fun e=>((left_ne HND.out hj' hj').1 (h.2 e)).1⟩ (hb i hi)⟩
       ·cases hb
      ·exact⟨fun h=>⟨h.1,fun e=>(left_ne HND.out hj' hj).2 ⟨h.2 e,ej⟩⟩,fun h=>⟨h.1,fun e=>((left_ne HND.out hj' hj).1 (h.2 e)).1⟩⟩
     | some b2=>
      obtain⟨hu2,ht2,_⟩:=hc2.wm b2 hwm;have hqj:¬ q j:=fun e=>by rw[b5 e] at hwm;cases hwm
      have hm2:=b4 hqj;rw[hwm] at hm2;obtain⟨w2,hrun,hk2,hs2,hm3⟩:=hm2.del HND.out k hk c1.nm (by rw[hc1.nm,hf]) hc1.ns;have hX2:EX D w2 bk n fr oo (lfX X k (fun i=>(left (.string (fr i).name) && !(Lit.string (fr i).name).sameKey (.string (fr j).name))=true)) q:=hX1.wmap hW1 hj (by rw[ho2,hf2];exact hc2) hwm hk2 hm3 rfl rfl rfl (fun i hi=>⟨fun h=>⟨h.1.1,fun e=>absurd e h.2⟩,fun h=>by
        have hik:i ≠ k:=fun e=>((left_ne HND.out hj hj).1 (h.2 e)).2 rfl;exact⟨⟨h.1,fun e=>absurd e hik⟩,hik⟩⟩) (fun i j' hi hj' ej=>⟨fun h=>⟨h.1,fun e=>(left_ne HND.out hj' hj).2 ⟨h.2 e,ej⟩⟩,fun h=>⟨h.1,fun e=>((left_ne HND.out hj' hj).1 (h.2 e)).1⟩⟩)
      have hne:¬ pb=b2:=by rintro rfl;rw[hpt] at ht2;cases ht2
      have hlt2:=HW.out.lt b2 hu2;have hpl:=HW.out.lt pb hpu;have hs1:wr.heap.size<=w1.drew.heap.size:=hk1.size;have hw1:=hat0.kp.size;obtain⟨DD3,hm3'⟩:=hm3.mapB HR.out;refine⟨w2,hrun,⟨ranges_same (ranges_same hrg1 (w':=w1.drew) rfl rfl) (hk2.block pb (by omega) hne) (hk2.block w.heap.size (by omega) (by show ¬ _=_;omega)),fun k hk=>hat0.sub k (by simp at hk;exact hk.1),?_,hpa.trans (fun _ _ h=>h) (hW1.wmap hr2 hc2 hwm hk2 hm3'),hX2⟩⟩;exact hka.trans (hk2.mono (fun k _ e=>by
       have e:k=b2:=e;rw[e];exact FU.back HW.out hpa (.inr ⟨o2,f2,c2,hr2,hc2,hwm⟩)))
    obtain⟨w2,hrun,hat2'⟩:=hdel;have HN:=hide hat2';have hcnt:=hat2'.rg.left_eq;have hcn0:=hrg.left_eq;clear hat2' hpa hka hp1 hW1 hc1 hc2 hk1 hnu hnd hat0 hWr hrg hrg1 hg1 hs1 hat hat2 hv hkey hlk hX1 b4 b5 ho2 hf2 hr2 ho hf;go_wp2
    go_region_law (refine step_delete_run w2 rfl (.tmp 16) (.tmp 20) 104 9 rfl (.map c2.wm) (.string c1.nm) rfl rfl hrun ?_)
    all_goals go_wp2
    all_goals go_roundw
    all_goals first
     | exact⟨_,_,HN.out⟩
     | (rw[hcnt,hcn0];exact hlt)
end
end
section
open Go.RowKit
def PresG (D:GD) (w w':World) (bk ob:Nat):Prop:=∀ o f c,D.r o f->WordC D w bk o f c->∃ c',(o ≠ ob->c'.gn=c.gn)/\(o=ob->c'.gn=true)/\WordC D w' bk o f c'
theorem PresG.wds {D:GD} {w w':World} {bk ob:Nat} (h:Wds D w bk) (hk:w.heap.size<=w'.heap.size) (hp:PresG D w w' bk ob):Wds D w' bk:=
 ⟨fun o f hr=>by obtain⟨c,hc⟩:=h.ok o f hr;obtain⟨c',_,_,h'⟩:=hp o f c hr hc;exact⟨c',h'⟩,h.fn,h.ud,fun k hk'=>Nat.lt_of_lt_of_le (h.lt k hk') hk,fun k hk'=>Nat.lt_of_lt_of_le (h.dl k hk') hk⟩
theorem PresG.then {D:GD} {w w1 w2:World} {bk ob:Nat} (h:PresG D w w1 bk ob) (g:Pres D D w1 w2 bk):PresG D w w2 bk ob:=fun o f c hr hc=>by
 obtain⟨c1,a1,a2,h1⟩:=h o f c hr hc;obtain⟨c2,b1,_,_,_,_,h2⟩:=g o f c1 hr h1;exact⟨c2,fun e=>b1.trans (a1 e),fun e=>b1.trans (a2 e),h2⟩
section
variable {D:GD} {w:World} {bk ob:Nat} {f:Fr} {n k:Nat} {fr:Nat->Fr} {oo:Nat->Nat} {X:XV} {q:Nat->Prop}
theorem goneC {c:WC} (hW:Wds D w bk) (hr:D.r ob f) (hc:WordC D w bk ob f c):PresG D w ((w.setCell ⟨ob,6,none⟩ (.bool true)).setCell ⟨ob,8,none⟩ (.map none)) bk ob/\Kp w ((w.setCell ⟨ob,6,none⟩ (.bool true)).setCell ⟨ob,8,none⟩ (.map none)) (fun k=>k=ob)/\WordC D ((w.setCell ⟨ob,6,none⟩ (.bool true)).setCell ⟨ob,8,none⟩ (.map none)) bk ob f { c with gn:=true,wm:=none }:=by
 have hk:Kp w ((w.setCell ⟨ob,6,none⟩ (.bool true)).setCell ⟨ob,8,none⟩ (.map none)) (fun k=>k=ob):=
  ((Kp.refl w (fun k=>k=ob)).set (a:=⟨ob,6,none⟩) (fun _=>rfl) _).set (a:=⟨ob,8,none⟩) (fun _=>rfl) _
 have hbd:=BD_u hW.ud (fun k e=>by have e:k=ob:=e;rw[e];exact hc.u) hk;have hc':WordC D ((w.setCell ⟨ob,6,none⟩ (.bool true)).setCell ⟨ob,8,none⟩ (.map none)) bk ob f { c with gn:=true,wm:=none }:=⟨(hc.blk.set 6 _).set 8 _,hc.nm,hc.ns,hc.it.mono hbd,hc.sl.mono hbd (fun _ _ h=>h),hc.ac.mono hbd (fun _ _ h=>h),hc.pm.frame hk (GLe.refl _ _) (fun b hb e=>hc.pm.neBlk hb hc.blk e),(fun b e=>by cases e),(fun e=>by cases e),hc.u,hc.wf⟩;refine⟨fun o g c0 hr0 hc0=>?_,hk,hc'⟩;by_cases ho:o=ob
 ·subst ho;have:=hW.fn o g f hr0 hr;subst this;exact⟨_,fun e=>absurd rfl e,fun _=>rfl,hc'⟩
 ·exact⟨c0,fun _=>rfl,fun e=>absurd e ho,hc0.frame hk (GLe.refl _ _) hbd ho (fun b hb e=>hc0.pm.neBlk hb hc.blk e) (fun b hb e=>hc0.wm.neBlk hb hc.blk e)⟩
theorem EX.gone {c:WC} (hX:EX D w bk n fr oo X (fun _=>False)) (hW:Wds D w bk) (hk:k < n) (ho:oo k=ob) (hf:fr k=f) (hc:WordC D w bk ob f c) {w':World} (hkp:Kp w w' (fun k=>k=ob)) (hc':WordC D w' bk ob f { c with gn:=true,wm:=none }):EX D w' bk n fr oo X (fun i=>i=k):=by
 subst ho;subst hf;obtain⟨c0,hc0,a1,a2,a3,a4,a5⟩:=hX.wc k hk;have:=hc0.inj hc;subst this;exact hX.word hW hk hc hkp hc' a1 a2 (a3.same (fun b hb=>hkp.block b (hc.pm.lt hb) (hc.pm.neBlk hb hc.blk))) (fun e=>absurd rfl e) (fun _=>rfl) (fun j hj e=>⟨rfl,rfl,fun _ _=>Iff.rfl,fun _ _=>Iff.rfl,⟨fun q=>absurd q e,fun q=>q.elim⟩⟩)
open Classical in
noncomputable def slX (X:XV) (A:Nat->Prop):XV:=⟨fun i=>if A i then false else X.fa i,fun i=>if A i then 0 else X.ct i,fun i j=>¬ A i/\X.P i j,fun i j=>¬ A i/\X.H i j⟩
theorem EX.sl0 {A:Nat->Prop} (h:EX D w bk n fr oo X q) (hA:∀ i,i < n->¬ A i):EX D w bk n fr oo (slX X A) q:=
 h.iff (fun i hi=>if_neg (hA i hi)) (fun i hi=>if_neg (hA i hi)) (fun i _ hi _=>⟨fun h=>⟨hA i hi,h⟩,fun h=>h.2⟩) (fun i _ hi _ _=>⟨fun h=>⟨hA i hi,h⟩,fun h=>h.2⟩)
theorem EX.sl1 {A A':Nat->Prop} (h:EX D w bk n fr oo (coolX (slX X A) k) q) (hA:∀ i,i < n->(A' i<->A i\/i=k)):EX D w bk n fr oo (slX X A') q:=by
 have key:∀ i,i < n->(slX X A').fa i=(coolX (slX X A) k).fa i/\(slX X A').ct i=(coolX (slX X A) k).ct i:=fun i hi=>by
  by_cases e2:A' i
  ·have h1:(slX X A').fa i=false/\(slX X A').ct i=0:=⟨if_pos e2,if_pos e2⟩;rw[h1.1,h1.2];by_cases e:i=k
   ·exact⟨(if_pos e).symm,(if_pos e).symm⟩
   ·have e3:A i:=((hA i hi).1 e2).resolve_right e;exact⟨((if_neg e).trans (if_pos e3)).symm,((if_neg e).trans (if_pos e3)).symm⟩
  ·have h1:(slX X A').fa i=X.fa i/\(slX X A').ct i=X.ct i:=⟨if_neg e2,if_neg e2⟩;rw[h1.1,h1.2];have e:¬ i=k:=fun e=>e2 ((hA i hi).2 (.inr e));have e3:¬ A i:=fun e=>e2 ((hA i hi).2 (.inl e));exact⟨((if_neg e).trans (if_neg e3)).symm,((if_neg e).trans (if_neg e3)).symm⟩
 refine h.iff (fun i hi=>(key i hi).1) (fun i hi=>(key i hi).2) (fun i j hi _=>?_) (fun i j hi _ _=>?_)
 ·show (i ≠ k/\¬ A i/\X.P i j)<->(¬ A' i/\X.P i j);rw[hA i hi,not_or];exact⟨fun h=>⟨⟨h.2.1,h.1⟩,h.2.2⟩,fun h=>⟨h.1.2,h.1.1,h.2⟩⟩
 ·show (i ≠ k/\¬ A i/\X.H i j)<->(¬ A' i/\X.H i j);rw[hA i hi,not_or];exact⟨fun h=>⟨⟨h.2.1,h.1⟩,h.2.2⟩,fun h=>⟨h.1.2,h.1.1,h.2⟩⟩
structure RetAt (D:GD) (bk n:Nat) (fr:Nat->Fr) (oo:Nat->Nat) (X:XV) (k hb r m:Nat) (DD:DataW Value) (w1 wr:World) (left:Lit->Bool) (cnt:Nat):Prop where
 rg:wr.ranges Tryz.prog 9 heldR hb r m DD left cnt
 sub:∀ kl,left kl=true->Maps.has DD kl=true
 kp:Kp w1 wr (FU D w1 bk)
 pr:Pres D D w1 wr bk
 ex:EX D wr bk n fr oo (slX X (fun i=>X.H i k/\left (.string (fr i).name)=false)) (fun i=>i=k)
end
end
section
open Go.RowKit
structure Bld (R C:Nat->Fr->Prop) (K:List Tok) (bo:Tok->Option (List It)) (bk mb:Nat) (E:Nat->Prop) (w:World):Prop where
 book:∃ h b,Blk w bk 106 #[.map (some mb),.int .i64 h,.int .i64 b]
 mp:∃ n DD,w.ownsMap Tryz.prog 9 heldR mb n DD
 kl:K.length<=30
 look:∀ nm:ByteArray,nm.data.toList∈K->∃ (o:Nat) (f:Fr) (c:WC),C o f/\R o f/\f.name=nm.data.toList/\bo f.name=some f.body/\(∀ w0:World,w0.heap[mb]? = w.heap[mb]?->(Instr.lookup 104 (.map (some mb)) (.string nm) false).run Tryz.prog w0=.ok (pt o) w0)/\Blk w o 111 c.arr/\c.nm=nm/\nm.size<=1000/\Items (BD E w) c.iv f.body/\Acts (BD E w) R bk o c.sv f.body/\∃ G,wb (fun t=>t∈K) G false f.body
def MadeOk (R:Nat->Fr->Prop) (K:List Tok) (bo:Tok->Option (List It)) (bk:Nat) (E:Nat->Prop) (S:Tok->Prop) (a:Nat) (w:World):Prop:=
 ∃ DD,(∃ n,w.ownsMap Tryz.prog 284 heldR a n DD)/\∀ kl,Maps.has DD kl=true->∃ (nm:ByteArray) (lf:Nat) (c:Value),keyOf Tryz.prog 284 (siteV nm lf)=some kl/\nm.data.toList∈K/\lf<=3/\(∀ zd,DD.atKey kl zd=.held c)/\callR (BD E w) R bk (Acts (BD E w) R bk) nm.data.toList c/\∀ t,Bc bo lf nm.data.toList t->S t
def PartsOk (C:Nat->Fr->Prop) (K:List Tok) (S:Tok->Prop) (b:Nat) (w:World):Prop:=
 ∃ DD,(∃ n,w.ownsMap Tryz.prog 9 heldR b n DD)/\(∀ t:Tok,t.length<=maxLen->(Maps.has DD (.string t)=true<->S t))/\∀ kl,Maps.has DD kl=true->∃ o f,kl=.string f.name/\f.name∈K/\C o f/\∀ zd,DD.atKey kl zd=.held (pt o)
structure JB (R C:Nat->Fr->Prop) (K:List Tok) (bo:Tok->Option (List It)) (bk mb a b:Nat) (E:Nat->Prop) (S:Tok->Prop) (w:World):Prop where
 bld:Bld R C K bo bk mb E w
 mde:MadeOk R K bo bk E S a w
 pts:PartsOk C K S b w
 ab:a ≠ b
 am:a ≠ mb
 bm:b ≠ mb
theorem map_neG {P:Program} {k:TypeId} {R:Value->Option (DataW Value × List MemPlace)} {w:World} {b n:Nat} {DD:DataW Value} (h:w.ownsMap P k R b n DD) {b':Nat} {t:TypeId} {c:Array Value} (hb:Blk w b' t c):b ≠ b':=by
 obtain⟨es,clock,h1,_⟩:=h;rintro rfl;have:w.heap[b]? = _:=hb;rw[h1] at this;injection this with this;cases this
theorem ownsMap_sameG {P:Program} {k:TypeId} {R:Value->Option (DataW Value × List MemPlace)} {w w':World} {b n:Nat} {DD:DataW Value} (h:w.ownsMap P k R b n DD) (e:w'.heap[b]? = w.heap[b]?):w'.ownsMap P k R b n DD:=by
 obtain⟨es,clock,h1,h2⟩:=h;exact⟨es,clock,e.trans h1,h2⟩
section
variable {R C:Nat->Fr->Prop} {K:List Tok} {bo:Tok->Option (List It)} {bk mb a b:Nat} {E E':Nat->Prop} {S S':Tok->Prop} {w w':World}
theorem Bld.frame {T:Nat->Prop} (h:Bld R C K bo bk mb E w) (hk:Kp w w' T) (hb:∀ k t c,Blk w k t c->t=106\/t=111->¬ T k) (hm:¬ T mb) (hE:∀ b t c,BD E w b t c->BD E' w' b t c):Bld R C K bo bk mb E' w':=by
 obtain⟨h0,b0,hbk⟩:=h.book;obtain⟨n,DD,hmp⟩:=h.mp;have hme:=hk.block mb hmp.lt hm;refine⟨⟨h0,b0,hk.blk hbk (hb _ _ _ hbk (.inl rfl))⟩,⟨n,DD,ownsMap_same hmp hme⟩,h.kl,fun nm hnm=>?_⟩;obtain⟨o,f,c,q1,q2,q3,q4,q5,q6,q7,q8,q9,q10,q11⟩:=h.look nm hnm;exact⟨o,f,c,q1,q2,q3,q4,fun w0 e=>q5 w0 (e.trans hme),hk.blk q6 (hb _ _ _ q6 (.inr rfl)),q7,q8,q9.mono hE,q10.mono hE (fun _ _ h=>h),q11⟩
theorem MadeOk.frame (h:MadeOk R K bo bk E S a w) (hm:w'.heap[a]? = w.heap[a]?) (hE:∀ b t c,BD E w b t c->BD E' w' b t c) (hS:∀ t,S t->S' t):MadeOk R K bo bk E' S' a w':=by
 obtain⟨DD,⟨n,h1⟩,h2⟩:=h;refine⟨DD,⟨n,ownsMap_sameG h1 hm⟩,fun kl hkl=>?_⟩;obtain⟨nm,lf,c,q1,q2,q3,q4,q5,q6⟩:=h2 kl hkl;exact⟨nm,lf,c,q1,q2,q3,q4,callR_mono hE (fun _ _ h=>h) (fun _ _ _ h=>h.mono hE (fun _ _ h=>h)) q5,fun t ht=>hS t (q6 t ht)⟩
theorem PartsOk.frame (h:PartsOk C K S b w) (hm:w'.heap[b]? = w.heap[b]?):PartsOk C K S b w':=by
 obtain⟨DD,⟨n,h1⟩,h2⟩:=h;exact⟨DD,⟨n,ownsMap_same h1 hm⟩,h2⟩
theorem MadeOk.lt (h:MadeOk R K bo bk E S a w):a < w.heap.size:=by obtain⟨DD,⟨n,h1⟩,h2⟩:=h;exact h1.lt
theorem PartsOk.lt (h:PartsOk C K S b w):b < w.heap.size:=by obtain⟨DD,⟨n,h1⟩,h2⟩:=h;exact h1.lt
theorem MadeOk.ne (h:MadeOk R K bo bk E S a w) {b':Nat} {t:TypeId} {c:Array Value} (hb:Blk w b' t c):a ≠ b':=by obtain⟨DD,⟨n,h1⟩,h2⟩:=h;exact map_neG h1 hb
theorem PartsOk.ne (h:PartsOk C K S b w) {b':Nat} {t:TypeId} {c:Array Value} (hb:Blk w b' t c):b ≠ b':=by obtain⟨DD,⟨n,h1⟩,h2⟩:=h;exact map_ne h1 hb
theorem JB.fr {T:Nat->Prop} (h:JB R C K bo bk mb a b E S w) (hk:Kp w w' T) (hT:∀ k,T k->k < w.heap.size->∃ c,Blk w k 243 c) (hE:∀ k,k < w.heap.size->E k->E' k/\¬ T k):JB R C K bo bk mb a b E' S w':=by
 have hEE:=BD_keep (D:=E) (D':=E') hk hE;obtain⟨n,DD,hmp⟩:=h.bld.mp;have nm:∀ k,k < w.heap.size->(∀ t c,¬ Blk w k t c)->¬ T k:=fun k hk hn e=>by obtain⟨c,hc⟩:=hT k e hk;exact hn _ c hc
 refine⟨h.bld.frame hk (fun k t c hb ht e=>?_) (nm mb hmp.lt (fun t c hb=>map_ne hmp hb rfl)) hEE,h.mde.frame (hk.block a h.mde.lt (nm a h.mde.lt (fun t c hb=>h.mde.ne hb rfl))) hEE (fun _ h=>h),h.pts.frame (hk.block b h.pts.lt (nm b h.pts.lt (fun t c hb=>h.pts.ne hb rfl))),h.ab,h.am,h.bm⟩;obtain⟨c',hc'⟩:=hT k e hb.lt;have:=(hb.inj hc').1;rcases ht with ht|ht
 ·rw[ht] at this;exact absurd this (by decide)
 ·rw[ht] at this;exact absurd this (by decide)
theorem JB.kp (h:JB R C K bo bk mb a b E S w) (hk:Kp w w' (fun _=>False)):JB R C K bo bk mb a b E S w':=h.fr hk (fun _ e=>e.elim) (fun _ _ e=>⟨e,fun e=>e⟩)
theorem JB.mp (h:JB R C K bo bk mb a b E S w) (k:Nat) (t:TypeId) (c:Array Value) (hf:Ft (some a) (some b) k):¬ Blk w k t c:=by
 rcases hf with e|e
 ·injection e with e;subst e;exact fun hb=>h.mde.ne hb rfl
 ·injection e with e;subst e;exact fun hb=>h.pts.ne hb rfl
theorem JB.putPart (h:JB R C K bo bk mb a b E S w) (nm:ByteArray) (hnm:nm.data.toList∈K) (hs:nm.size<=1000) (o:Nat) (f:Fr) (hC:C o f) (hf:f.name=nm.data.toList):
  ∃ w2,(Instr.mapUpdate 104 (.map (some b)) (.string nm) (pt o)).run Tryz.prog w=.ok () w2/\Kp w w2 (fun k=>k=b)/\JB R C K bo bk mb a b E (fun t=>S t\/t=nm.data.toList) w2:=by
 obtain⟨DD,⟨n,h1⟩,h2,h3⟩:=h.pts;have hsz:nm.size<=maxLen:=Nat.le_trans hs (by decide);have hle:Maps.size DD<=(K.map Lit.string).length:=map_size_le h1 (Maps.string_keyed Tryz.underlying9) _ (fun kl hkl=>by
  obtain⟨o,f,e1,e2,_⟩:=h3 kl hkl;rw[e1];exact List.mem_map.2 ⟨_,e2,rfl⟩)
 have hkl:=h.bld.kl;have hl30:Maps.size DD < maxLen:=by
  rw[List.length_map] at hle;have h30:(30:Nat) < maxLen:=by decide
  omega
 obtain⟨w2,hrun,hm2,hg⟩:=(own_tightG h1).update (Maps.string_keyed Tryz.underlying9) Tryz.underlying104 hl30 (key:=.string nm) (val:=pt o) (kl:=.string nm.data.toList) (d:=.held (pt o)) (ps:=[]) (keyS nm hsz) rfl;have htd:=h1.tidy (Maps.string_keyed Tryz.underlying9);have hkp:Kp w w2 (fun k=>k=b):=(Kp.refl w _).grown hg (fun k _ e=>(Option.some.inj e).symm);have hne:∀ k t c,Blk w k t c->¬ k=b:=fun k t c hb e=>h.pts.ne hb e.symm;have hk0:WideAt.IsKeyLit (.string nm.data.toList):=trivial;obtain⟨n0,DD0,hmp⟩:=h.bld.mp;refine⟨w2,hrun,hkp,⟨h.bld.frame hkp (fun k t c hb _=>hne k t c hb) (fun e=>h.bm e.symm) (fun k t c hb=>⟨hb.1,hkp.blk hb.2 (hne _ _ _ hb.2)⟩),h.mde.frame (hkp.block a h.mde.lt h.ab) (fun k t c hb=>⟨hb.1,hkp.blk hb.2 (hne _ _ _ hb.2)⟩) (fun _ h=>.inl h),⟨_,⟨_,hm2⟩,fun t ht=>?_,fun kl hkl=>?_⟩,h.ab,h.am,h.bm⟩⟩
 ·by_cases e:t=nm.data.toList
  ·subst e;rw[Maps.has_put_same htd.isMap hk0];exact⟨fun _=>.inr rfl,fun _=>rfl⟩
  ·rw[Maps.has_put_other (fun q=>e (by injection q)),h2 t ht];exact⟨.inl,fun q=>q.elim id (fun q=>absurd q e)⟩
 ·by_cases e:kl=.string nm.data.toList
  ·subst e;exact⟨o,f,by rw[hf],by rw[hf];exact hnm,hC,fun zd=>Maps.atKey_put_same htd.isMap hk0 _ _⟩
  ·rw[Maps.has_put_other e] at hkl;obtain⟨o',f',q1,q2,q3,q4⟩:=h3 kl hkl;exact⟨o',f',q1,q2,q3,fun zd=>by rw[Maps.atKey_put_other e];exact q4 zd⟩
theorem zeroA (w:World):(zeroValue 243).run Tryz.prog w=.ok .nilFunc w:=by kernel_rfl
theorem wfL (lf:Nat) (h:lf<=3):(Lit.int .i64 (lf:Int)).wf=true:=WalkArith.wf_i64 (by omega)
theorem lookG {w:World} {a n:Nat} {DD:DataW Value} (h:w.ownsMap Tryz.prog 284 heldR a n DD) {nm:ByteArray} {lf:Int} {kl:Lit} (hk:keyOf Tryz.prog 284 (siteV nm lf)=some kl) {v:Value} (hv:DD.atKey kl (.held .nilFunc)=.held v):
  (Instr.lookup 204 (.map (some a)) (siteV nm lf) false).run Tryz.prog w=.ok v w:=by
 obtain⟨v',ps,hrun,hv'⟩:=h.lookup Tryz.lawS Tryz.underlying204 (zeroA w) (zd:=.held .nilFunc) (zp:=[]) rfl hk;rw[hv] at hv';have h1:some (DataW.held v',[])=some (DataW.held v,ps):=hv';have h2:DataW.held v'=DataW.held v:=congrArg Prod.fst (Option.some.inj h1);rw[<-DataW.held.inj h2];exact hrun
theorem JB.putMade (h:JB R C K bo bk mb a b E S w) (nm:ByteArray) (hnm:nm.data.toList∈K) (hs:nm.size<=1000) (lf:Nat) (hlf:lf<=3) (c:Value) (hc:callR (BD E w) R bk (Acts (BD E w) R bk) nm.data.toList c) (hS:∀ t,Bc bo lf nm.data.toList t->S t):
  ∃ w2,(Instr.mapUpdate 204 (.map (some a)) (siteV nm lf) c).run Tryz.prog w=.ok () w2/\Kp w w2 (fun k=>k=a)/\JB R C K bo bk mb a b E S w2/\(∀ w0:World,w0.heap[a]? = w2.heap[a]?->(Instr.lookup 204 (.map (some a)) (siteV nm lf) false).run Tryz.prog w0=.ok c w0):=by
 obtain⟨DD,⟨n,h1⟩,h2⟩:=h.mde;have hsz:nm.size<=maxLen:=Nat.le_trans hs (by decide);obtain⟨kl,hkl⟩:=keySite nm hsz lf (wfL lf hlf);have hle:Maps.size DD<=((K.map (fun t=>(keyOf Tryz.prog 284 (siteV ⟨t.toArray⟩ ((0:Nat):Int))).getD .nil)) ++ (K.map (fun t=>(keyOf Tryz.prog 284 (siteV ⟨t.toArray⟩ ((1:Nat):Int))).getD .nil)) ++ (K.map (fun t=>(keyOf Tryz.prog 284 (siteV ⟨t.toArray⟩ ((2:Nat):Int))).getD .nil)) ++ (K.map (fun t=>(keyOf Tryz.prog 284 (siteV ⟨t.toArray⟩ ((3:Nat):Int))).getD .nil))).length:=map_size_le h1 Tryz.lawS _ (fun kl' hkl'=>by
  obtain⟨nm',lf',c',q1,q2,q3,_⟩:=h2 kl' hkl';have he:(⟨nm'.data.toList.toArray⟩:ByteArray)=nm':=by simp
  have hm:∀ j:Nat,lf'=j->kl'∈K.map (fun t=>(keyOf Tryz.prog 284 (siteV ⟨t.toArray⟩ ((j:Nat):Int))).getD .nil):=fun j e=>List.mem_map.2 ⟨_,q2,by rw[he,<-e,q1];rfl⟩;simp only[List.mem_append]
  match lf',q3,hm with
  | 0,_,hm=>exact .inl (.inl (.inl (hm 0 rfl)))
  | 1,_,hm=>exact .inl (.inl (.inr (hm 1 rfl)))
  | 2,_,hm=>exact .inl (.inr (hm 2 rfl))
  | 3,_,hm=>exact .inr (hm 3 rfl))
 simp only[List.length_append,List.length_map] at hle;have hkl30:=h.bld.kl;have hl120:Maps.size DD < maxLen:=by
  have h120:(120:Nat) < maxLen:=by decide
  omega
 obtain⟨w2,hrun,hm2,hg⟩:=(own_tightG h1).update Tryz.lawS Tryz.underlying204 hl120 (key:=siteV nm lf) (val:=c) (kl:=kl) (d:=.held c) (ps:=[]) hkl rfl;have htd:=h1.tidy Tryz.lawS;have hkp:Kp w w2 (fun k=>k=a):=(Kp.refl w _).grown hg (fun k _ e=>(Option.some.inj e).symm);have hne:∀ k t c,Blk w k t c->¬ k=a:=fun k t c hb e=>h.mde.ne hb e.symm;have hEE:∀ k t c,BD E w k t c->BD E w2 k t c:=fun k t c hb=>⟨hb.1,hkp.blk hb.2 (hne _ _ _ hb.2)⟩;refine⟨w2,hrun,hkp,⟨h.bld.frame hkp (fun k t c hb _=>hne k t c hb) (fun e=>h.am e.symm) hEE,⟨_,⟨_,hm2⟩,fun kl' hkl'=>?_⟩,h.pts.frame (hkp.block b h.pts.lt (fun e=>h.ab e.symm)),h.ab,h.am,h.bm⟩,fun w0 e0=>lookG (ownsMap_sameG hm2 e0) hkl (Maps.atKey_put_same htd.isMap (Tryz.lawS.key hkl) _ _)⟩;by_cases e:kl'=kl
 ·subst e;exact⟨nm,lf,c,hkl,hnm,hlf,fun zd=>Maps.atKey_put_same htd.isMap (Tryz.lawS.key hkl) _ _,callR_mono hEE (fun _ _ h=>h) (fun _ _ _ h=>h.mono hEE (fun _ _ h=>h)) hc,hS⟩
 ·rw[Maps.has_put_other e] at hkl';obtain⟨nm',lf',c',q1,q2,q3,q4,q5,q6⟩:=h2 kl' hkl';exact⟨nm',lf',c',q1,q2,q3,fun zd=>by rw[Maps.atKey_put_other e];exact q4 zd,callR_mono hEE (fun _ _ h=>h) (fun _ _ _ h=>h.mono hEE (fun _ _ h=>h)) q5,q6⟩
theorem JB.lookMade (h:JB R C K bo bk mb a b E S w) (nm:ByteArray) (hs:nm.size<=1000) (lf:Nat) (hlf:lf<=3):
  ∃ v,(∀ w0:World,w0.heap[a]? = w.heap[a]?->(Instr.lookup 204 (.map (some a)) (siteV nm lf) false).run Tryz.prog w0=.ok v w0)/\(v=.nilFunc\/(callR (BD E w) R bk (Acts (BD E w) R bk) nm.data.toList v/\∀ t,Bc bo lf nm.data.toList t->S t)):=by
 obtain⟨DD,⟨n,h1⟩,h2⟩:=h.mde;obtain⟨kl,hkl⟩:=keySite nm (Nat.le_trans hs (by decide)) lf (wfL lf hlf)
 cases hh:Maps.has DD kl with
 | false=>exact⟨.nilFunc,fun w0 e0=>lookG (ownsMap_sameG h1 e0) hkl (Maps.atKey_of_not_has hh _),.inl rfl⟩
 | true=>
  obtain⟨nm',lf',c',q1,q2,q3,q4,q5,q6⟩:=h2 kl hh;obtain⟨e1,e2⟩:=siteInj hkl q1;subst e1;have e2:lf=lf':=by omega
  subst e2;exact⟨c',fun w0 e0=>lookG (ownsMap_sameG h1 e0) hkl (q4 _),.inr ⟨q5,q6⟩⟩
end
end
section
open Go.RowKit
section
variable {R C:Nat->Fr->Prop} {K:List Tok} {bo:Tok->Option (List It)} {bk mb a b:Nat} {E:Nat->Prop} {S:Tok->Prop} {w:World}
def BodyC (R C:Nat->Fr->Prop) (K:List Tok) (bo:Tok->Option (List It)) (bk mb a b n:Nat):Prop:=∀ (E:Nat->Prop) (S:Tok->Prop) (w:World) (o:Nat) (f:Fr) (c:WC),JB R C K bo bk mb a b E S w->Up E w->Blk w o 111 c.arr->Items (BD E w) c.iv f.body->Acts (BD E w) R bk o c.sv f.body->(∃ G,wb (fun t=>t∈K) G false f.body) ->
 Calls Tryz.prog 232 #[.agg #[pt bk,pt o,.int .i64 (n:Int),.map (some a),.map (some b)]] w fun e w'=>∃ ao cap,e=.returned (.slice ao f.body.length cap)/\Kp w w' (Ft (some a) (some b))/\Acts (BD E w') R bk o (.slice ao f.body.length cap) f.body/\JB R C K bo bk mb a b E (fun t=>S t\/Bd bo n f.body t) w'
theorem body0:BodyC R C K bo bk mb a b 0:=by
 intro E S w o f c hJ hU hb hI hA hwb;obtain⟨ao,cap,hav⟩:=hA.form;have hb1:=hb.alloc (.cells #[pt bk,pt o,.int .i64 ((0:Nat):Int),.map (some a),.map (some b)] 206);have c2:(w.alloc (.cells #[pt bk,pt o,.int .i64 ((0:Nat):Int),.map (some a),.map (some b)] 206)).cell? ⟨o,2,none⟩=some (.slice ao f.body.length cap):=by rw[<-hav];exact hb1.cell rfl
 have c20:w.cell? ⟨o,2,none⟩=some (.slice ao f.body.length cap):=by rw[<-hav];exact hb.cell rfl
 have hol:=hb.lt;have HJ:=hide hJ;rw[hav] at hA;have HA:=hide hA;clear hJ hA hI hb hb1 hwb hav hU;go_enter Tryz.func232,Tryz.ntmps232;go_wp2;go_ret;have hk:=(Kp.refl w (fun _=>False)).alloc (.cells #[pt bk,pt o,.int .i64 ((0:Nat):Int),.map (some a),.map (some b)] 206);refine⟨ao,cap,rfl,hk.ft _ _,HA.out.mono (fun b t c h=>⟨h.1,h.2.alloc _⟩) (fun _ _ h=>h),?_⟩;rw[show (fun t=>S t\/Bd bo 0 f.body t)=S by funext t;exact propext ⟨fun q=>q.elim id (fun q=>absurd q (Bd.zero _ _ _)),.inl⟩];exact HJ.out.kp hk
theorem bodyS (n:Nat) (hn:n+1<=3) (hC:JC R (fun t=>t∈K) bo bk (n+1) (some a) (some b) (JB R C K bo bk mb a b)):BodyC R C K bo bk mb a b (n+1):=by
 intro E S w o f c hJ hU hb hI hA hwb;obtain⟨g,hg⟩:=hI;have hk:=(Kp.refl w (fun _=>False)).alloc (.cells #[pt bk,pt o,.int .i64 ((n+1:Nat):Int),.map (some a),.map (some b)] 206);have hf:∃ a m p,c.iv=.slice a m p:=by
  cases g with
  | zero=>exact hg.elim
  | succ g=>obtain⟨_,hq,_⟩:=hg;obtain⟨a,p,hv⟩:=hq.form;exact⟨a,_,p,hv⟩
 obtain⟨a9,m9,p9,hiv⟩:=hf;rw[hiv] at hg;have HC:=hide ((actsAll hC g).at hC o hJ hU hg (by obtain⟨G,hG⟩:=hwb;exact⟨G,false,hG⟩) hk);have HK:=hide (hk.ft (some a) (some b));have hb1:=hb.alloc (.cells #[pt bk,pt o,.int .i64 ((n+1:Nat):Int),.map (some a),.map (some b)] 206);have c1:(w.alloc (.cells #[pt bk,pt o,.int .i64 ((n+1:Nat):Int),.map (some a),.map (some b)] 206)).cell? ⟨o,1,none⟩=some (.slice a9 m9 p9):=by rw[<-hiv];exact hb1.cell rfl
 have c10:w.cell? ⟨o,1,none⟩=some (.slice a9 m9 p9):=by rw[<-hiv];exact hb.cell rfl
 have hol:=hb.lt;obtain⟨ln,hln⟩:∃ ln:Int,ln=((n+1:Nat):Int):=⟨_,rfl⟩;have hl1:¬ ln=0:=by omega
 have hl2:(ln == 0)=false:=by simpa using hl1
 rw[<-hln] at c1 HC HK;rw[<-hln];clear hJ hA hg hb hb1 hwb hU hC hiv hk hln hl1;go_enter Tryz.func232,Tryz.ntmps232;go_wp2
 go_region_with (go_at_call 156;refine (HC.out _ ?_).mono ?_;exact (Kp.refl _ _).drew;rintro e w1 ⟨ao,cap,rfl,hk1,hA,hJ1⟩;have HA:=hide hA;have HJ1:=hide hJ1;have HK1:=hide hk1;clear hA hJ1 hk1)
 all_goals go_wp2
 all_goals go_ret
 all_goals exact⟨ao,cap,rfl,HK.out.trans HK1.out,HA.out,HJ1.out⟩
end
end
section
open Go.RowKit
section
variable {R C:Nat->Fr->Prop} {K:List Tok} {bo:Tok->Option (List It)} {bk mb a b:Nat} {E:Nat->Prop} {S:Tok->Prop} {w:World}
theorem callMkP (w:World) (bk:Nat) (t:ByteArray):Calls Tryz.prog 75 #[pt bk,.string t] w fun e w'=>∃ db bb nb,e=.returned (fDeep db)/\Kp w w' (fun _=>False)/\BD (New w) w' db 125 #[.func (.func 120) #[] #[pt bb,pt nb]]/\BD (New w) w' bb 78 #[pt bk]/\BD (New w) w' nb 9 #[.string t]:=by
 have hmf:=mkFunc;go_enter Tryz.func75,Tryz.ntmps75;go_wp2;go_ret;exact⟨w.heap.size+1+1,w.heap.size,w.heap.size+1,rfl,(((Kp.refl _ _).alloc _).alloc _).alloc _,⟨by show _<=_;omega,Blk.new2 w _ _ _ _⟩,⟨Nat.le_refl _,((Blk.new w _ _).alloc _).alloc _⟩,⟨by show _<=_;omega,(Blk.new1 w _ _ _).alloc _⟩⟩
theorem stepMkP (w:World) (n:Nat) (ff fc:Array Value):Calls Tryz.prog 199 #[.func (.func n) ff fc] w fun e w'=>e=.returned (fStep w.heap.size)/\w'=w.alloc (.cells #[.func (.func n) ff fc] 125):=by
 have hmf:=mkFunc;go_enter Tryz.func199,Tryz.ntmps199;go_wp2;go_ret;exact⟨rfl,rfl⟩
theorem callPartM (E:Nat->Prop) (w:World) (hU:Up E w) (o:Nat) (f:Fr) (nm:ByteArray) (ca:WC) (hca:ca.nm=nm) (hb:Blk w o 111 ca.arr) (hR:R o f) (hf:f.name=nm.data.toList) (hs:nm.size<=1000) (ao:Option Addr) (n cap:Nat) (hA:Acts (BD E w) R bk o (.slice ao n cap) f.body):
  Calls Tryz.prog 242 #[pt bk,pt o,.slice ao n cap] w fun e w'=>∃ cl,e=.returned cl/\Kp w w' (fun _=>False)/\callR (BD E w') R bk (Acts (BD E w') R bk) nm.data.toList cl:=by
 have hmf:=mkFunc;have HA:=hide hA;obtain⟨W3,hW3⟩:∃ W3,W3=((w.alloc (.cells #[pt bk] 78)).alloc (.cells #[pt o] 107)).alloc (.cells #[.slice ao n cap] 109):=⟨_,rfl⟩;have hk3:Kp w W3 (fun _=>False):=by rw[hW3];exact (((Kp.refl _ _).alloc _).alloc _).alloc _
 have hb0:Blk W3 w.heap.size 78 #[pt bk]:=by rw[hW3];exact ((Blk.new w _ _).alloc _).alloc _
 have hb1:Blk W3 (w.heap.size+1) 107 #[pt o]:=by rw[hW3];exact (Blk.new1 w _ _ _).alloc _
 have hb2:Blk W3 (w.heap.size+1+1) 109 #[.slice ao n cap]:=by rw[hW3];exact Blk.new2 w _ _ _ _
 have hbo:Blk W3 o 111 ca.arr:=hk3.blk hb (by simp);have d0:W3.cell? ⟨w.heap.size,0,none⟩=some (pt bk):=hb0.cell rfl;have d1:W3.cell? ⟨w.heap.size+1,0,none⟩=some (pt o):=hb1.cell rfl;have d2:W3.cell? ⟨o,0,none⟩=some (.string nm):=by rw[<-hca];exact hbo.cell rfl
 have hs3:W3.heap.size=w.heap.size+1+1+1:=by rw[hW3];simp
 have HB:Hid (∀ w1,Kp W3 w1 (fun _=>False)->(w1.cell? ⟨w.heap.size,0,none⟩=some (pt bk)/\w1.cell? ⟨w.heap.size+1,0,none⟩=some (pt o)/\w1.cell? ⟨o,0,none⟩=some (.string nm))/\∀ z o1,((w1.setCell ⟨w.heap.size+1+1+1,0,none⟩ z).alloc o1).cell? ⟨w.heap.size,0,none⟩=some (pt bk)/\((w1.setCell ⟨w.heap.size+1+1+1,0,none⟩ z).alloc o1).cell? ⟨w.heap.size+1,0,none⟩=some (pt o)/\((w1.setCell ⟨w.heap.size+1+1+1,0,none⟩ z).alloc o1).cell? ⟨o,0,none⟩=some (.string nm)):=fun w1 hk=>by
  have hol:=hb.lt;refine⟨⟨(hk.blk hb0 (by simp)).cell rfl,(hk.blk hb1 (by simp)).cell rfl,by rw[<-hca];exact (hk.blk hbo (by simp)).cell rfl⟩,fun z o1=>⟨?_,?_,?_⟩⟩
  ·exact (((hk.blk hb0 (by simp)).setOther (a:=⟨w.heap.size+1+1+1,0,none⟩) (by show ¬ w.heap.size=w.heap.size+1+1+1;omega) z).alloc o1).cell rfl
  ·exact (((hk.blk hb1 (by simp)).setOther (a:=⟨w.heap.size+1+1+1,0,none⟩) (by show ¬ w.heap.size+1=w.heap.size+1+1+1;omega) z).alloc o1).cell rfl
  ·rw[<-hca];exact (((hk.blk hbo (by simp)).setOther (a:=⟨w.heap.size+1+1+1,0,none⟩) (by show ¬ o=w.heap.size+1+1+1;omega) z).alloc o1).cell rfl
 have HF:Hid (∀ (w':World) (db bb nb ab cb:Nat),Kp W3 w' (fun _=>False)->BD (New w) w' db 125 #[.func (.func 120) #[] #[pt bb,pt nb]]->BD (New w) w' bb 78 #[pt bk]->BD (New w) w' nb 9 #[.string nm]->BD (New w) w' ab 125 #[fDeep db]->BD (New w) w' cb 243 #[fStep ab]->∃ cl,.func (.func 247) #[] #[pt (w.heap.size+1),pt cb,pt w.heap.size,pt (w.heap.size+1+1)]=cl/\Kp w w' (fun _=>False)/\callR (BD E w') R bk (Acts (BD E w') R bk) nm.data.toList cl):=by
  intro w' db bb nb ab cb hk q1 q2 q3 q4 q5;have hE:∀ b t c,BD (New w) w' b t c->BD E w' b t c:=fun b t c h=>⟨hU b h.1,h.2⟩;have hkw:=hk3.trans hk;refine⟨_,rfl,hkw,.inr ⟨_,_,_,_,o,f,_,_,rfl,hE _ _ _ ⟨by show _<=_;omega,hk.blk hb1 (by simp)⟩,hE _ _ _ q5,⟨ab,db,bb,nb,nm,rfl,hE _ _ _ q4,hE _ _ _ q1,hE _ _ _ q2,hE _ _ _ q3,rfl,hs⟩,hE _ _ _ ⟨Nat.le_refl _,hk.blk hb0 (by simp)⟩,hE _ _ _ ⟨by show _<=_;omega,hk.blk hb2 (by simp)⟩,hR,hf,HA.out.mono (fun b t c h=>⟨h.1,hkw.blk h.2 (by simp)⟩) (fun _ _ h=>h)⟩⟩
 have hol:=hb.lt;have HW3:=hide hW3;clear hA hk3 hb0 hb1 hb2 hbo hb HA hU hR hf hW3;go_enter Tryz.func242,Tryz.ntmps242;go_wp2;rw[<-HW3.out];have y1:¬ o=w.heap.size+1+1+1:=by omega
 have y2:¬ w.heap.size=w.heap.size+1+1+1:=by omega
 have y3:¬ w.heap.size+1=w.heap.size+1+1+1:=by omega
 go_region_held3 (fun w'=>w'.cell? ⟨w.heap.size,0,none⟩=some (pt bk)/\w'.cell? ⟨w.heap.size+1,0,none⟩=some (pt o)/\w'.cell? ⟨o,0,none⟩=some (.string nm)) (first|go_keep|exact U3.out _ _) (first
  | (go_at_call 75;refine (callMkP (W3.drew.alloc (.cells #[.nilFunc] 243)) bk nm).mono ?_;rintro e w1 ⟨db,bb,nb,rfl,hk1,hd1,hd2,hd3⟩;have hkw:Kp W3 w1 (fun _=>False):=(((Kp.refl _ _).drew).alloc _).trans hk1;have hbq:=hk1.blk (Blk.new W3.drew #[.nilFunc] 243) (by simp);have hq0:w1.cell? ⟨w.heap.size+1+1+1,0,none⟩=some .nilFunc:=(by rw[<-hs3];exact hbq.cell rfl);have hq1:w1.frozen? ⟨w.heap.size+1+1+1,0,none⟩=false:=(by rw[<-hs3];exact hbq.free 0);have hq2:w.heap.size+1+1+1 < w1.heap.size:=(by rw[<-hs3];exact hbq.lt);have hq3:¬ w.heap.size+1+1+1=w1.heap.size:=(by omega);have HBQ:=hide hbq;clear hbq;obtain⟨⟨u0,u1,u2⟩,u3⟩:=HB.out w1 hkw;have U3:=hide u3;clear u3;have z0:w.heap.size+1+1+1<=w1.heap.size:=(by rw[<-hs3];exact hkw.size);have z1:¬ w.heap.size=w1.heap.size:=(by omega);have z2:¬ w.heap.size+1=w1.heap.size:=(by omega);have z3:¬ o=w1.heap.size:=(by omega);have HK1:=hide hkw;have HD1:=hide hd1;have HD2:=hide hd2;have HD3:=hide hd3;clear hk1 hd1 hd2 hd3 hkw)
  | (go_at_call 75;refine (callMkP W3.drew bk nm).mono ?_;rintro e w1 ⟨db,bb,nb,rfl,hk1,hd1,hd2,hd3⟩;have hkw:Kp W3 w1 (fun _=>False):=((Kp.refl _ _).drew).trans hk1;obtain⟨⟨u0,u1,u2⟩,u3⟩:=HB.out w1 hkw;have U3:=hide u3;clear u3;have z0:w.heap.size+1+1+1<=w1.heap.size:=(by rw[<-hs3];exact hkw.size);have z1:¬ w.heap.size=w1.heap.size:=(by omega);have z2:¬ w.heap.size+1=w1.heap.size:=(by omega);have z3:¬ o=w1.heap.size:=(by omega);have HK1:=hide hkw;have HD1:=hide hd1;have HD2:=hide hd2;have HD3:=hide hd3;clear hk1 hd1 hd2 hd3 hkw)
  | (go_at_call 199;refine (stepMkP _ _ _ _).mono ?_;rintro e w2 ⟨rfl,rfl⟩))
 all_goals go_wp2
 all_goals go_ret
 all_goals have hnw:∀ b,W3.heap.size<=b->w.heap.size<=b:=fun b hb=>by omega
 all_goals first
  | (obtain⟨cl,rfl,q⟩:=HF.out _ db bb nb w1.heap.size (w1.heap.size+1) ((HK1.out.alloc _).alloc _) ⟨hnw _ HD1.out.1,(HD1.out.2.alloc _).alloc _⟩ ⟨hnw _ HD2.out.1,(HD2.out.2.alloc _).alloc _⟩ ⟨hnw _ HD3.out.1,(HD3.out.2.alloc _).alloc _⟩ ⟨by show w.heap.size<=w1.heap.size;omega,(Blk.new w1 _ _).alloc _⟩ ⟨by show w.heap.size<=w1.heap.size+1;omega,Blk.new1 w1 _ _ _⟩;exact⟨_,rfl,q⟩)
  | (obtain⟨cl,rfl,q⟩:=HF.out _ db bb nb (w1.heap.size+1) w1.heap.size ((HK1.out.alloc _).alloc _) ⟨hnw _ HD1.out.1,(HD1.out.2.alloc _).alloc _⟩ ⟨hnw _ HD2.out.1,(HD2.out.2.alloc _).alloc _⟩ ⟨hnw _ HD3.out.1,(HD3.out.2.alloc _).alloc _⟩ ⟨by show w.heap.size<=w1.heap.size+1;omega,Blk.new1 w1 _ _ _⟩ ⟨by show w.heap.size<=w1.heap.size;omega,(Blk.new w1 _ _).alloc _⟩;exact⟨_,rfl,q⟩)
  | skip
 have hq:W3.drew.heap.size=w.heap.size+1+1+1:=hs3;have hbq:=HBQ.out;rw[hq] at hbq;have hn4:∀ b,New (W3.drew.alloc (.cells #[.nilFunc] 243)) b->w.heap.size+1+1+1 < b:=fun b hb=>by
  have hb:(W3.drew.alloc _).heap.size<=b:=hb;rw[World.size_alloc,hq] at hb;omega
 have hset:∀ b t c,BD (New (W3.drew.alloc (.cells #[.nilFunc] 243))) w1 b t c->BD (New w) ((w1.setCell ⟨w.heap.size+1+1+1,0,none⟩ (fStep w1.heap.size)).alloc (.cells #[fDeep db] 125)) b t c:=fun b t c hb=>by
  have h4:=hn4 b hb.1;exact⟨by show w.heap.size<=b;omega,(hb.2.setOther (a:=⟨w.heap.size+1+1+1,0,none⟩) (by show ¬ b=w.heap.size+1+1+1;omega) _).alloc _⟩
 have hka:Kp W3 ((w1.setCell ⟨w.heap.size+1+1+1,0,none⟩ (fStep w1.heap.size)).alloc (.cells #[fDeep db] 125)) (fun _=>False):=(HK1.out.set (a:=⟨w.heap.size+1+1+1,0,none⟩) (fun h=>absurd h (by show ¬ w.heap.size+1+1+1 < W3.heap.size;omega)) _).alloc _;have hna:=Blk.new (w1.setCell ⟨w.heap.size+1+1+1,0,none⟩ (fStep w1.heap.size)) #[fDeep db] 125;rw[World.size_setCell] at hna;obtain⟨cl,rfl,q⟩:=HF.out _ db bb nb w1.heap.size (w.heap.size+1+1+1) hka (hset _ _ _ HD1.out) (hset _ _ _ HD2.out) (hset _ _ _ HD3.out) ⟨by show w.heap.size<=w1.heap.size;omega,hna⟩ ⟨by show w.heap.size<=w.heap.size+1+1+1;omega,(hbq.set 0 _).alloc _⟩;exact⟨_,rfl,q⟩
end
end
end Go.Proofs.YteainaiebcphlaaGreatDoor
