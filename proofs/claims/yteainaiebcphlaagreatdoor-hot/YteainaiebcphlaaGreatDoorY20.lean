import Derived.Test.YteainaiebcphlaaGreatDoorY19
import Derived.Test.YteainaiebcphlaaGreatDoorY18
import Derived.Handy
namespace Go.Proofs.YteainaiebcphlaaGreatDoor
set_option maxRecDepth 1000000
set_option maxHeartbeats 4000000
set_option linter.all false
section
open Go.RowKit
theorem sgl_err {e:Int} (h:e ≠ 0) (l:Bool):sgl l e=sgl false e:=by rw[sgl_yes (.inr h),sgl_yes (.inr h)]
theorem one_parts {g:Nat} {f:Fr} {lp:List Int} {x:It} {s s':St} {left:Bool} (h1:¬ x.kind=63) (h2:¬ x.kind=117) (h3:¬ x.kind=119) (h:xRun (g+1) (jItem f lp x) s=some (s',left)):
  (¬ s.step.e=0/\s'=s.step/\left=true)\/(s.step.e=0/\xOne g f lp x s.step=some (s',left)):=by
 rw[x_one _ _ _ _ _ h1 h2 h3] at h;by_cases he:s.step.e=0
 ·rw[if_neg (by simpa using he)] at h;exact .inr ⟨he,h⟩
 ·rw[if_pos he] at h;injection h with h;injection h with q1 q2;exact .inl ⟨he,q1.symm,q2.symm⟩
section
variable {B:Nat} {W:World} {w:World} {xb rb mb fb:Nat} {m:MS} {D:GD} {s:St} {lv:Value} {lp lq:List Int}
theorem actItem (h:PR B W w xb rb mb m D s) (he:s.e=0) (hf:FrR B w fb rb m D lv 0 lq) (ab n:Nat) (ff fc:Array Value) (hb:BD D.d w ab 125 #[.func (.func n) ff fc]) (s':St) (left:Bool)
  (hx:(¬ s.step.e=0/\s'=s.step/\left=true)\/(s.step.e=0/\left=decide (s'.e ≠ 0)/\∀ w1 m1,PR B W w1 xb rb mb m1 D s.step->PTo xb rb mb w w1 m m1 D D->CallsV (.func (.func n) ff fc) (pt rb) w1 fun e w'=>e=.returned (.int .i64 s'.e)/\PPost B W xb rb mb w1 m1 D s' w')):
  CallsV (fStep ab) (pt fb) w fun e w'=>e=.returned (.int .i64 (sgl left s'.e))/\FPo B W xb rb mb fb w m D lv lq s' w':=by
 rcases hx with⟨h1,h2,h3⟩|⟨h1,h2,h3⟩
 ·subst h2;rw[sgl_err h1 left];exact stepItem h he hf ab n ff fc hb s.step s.step (by split <;> rfl) (fun e=>absurd e h1)
 ·rw[h2,sgl_dec];exact stepItem h he hf ab n ff fc hb s' s' (by rw[if_pos h1]) (fun _=>h3)
theorem callSItem (g:Nat) (hW:∀ g',g' < g->QW B W g') (h:PR B W w xb rb mb m D s) (he:s.e=0) (hf:FrR B w fb rb m D lv 0 lq) (f:Fr) (x:It) (k:x.kind=99) (c:Value) (hc:callS (BD D.d w) m.bk x.name c) (s':St) (left:Bool) (hx:xRun (g+1) (jItem f lp x) s=some (s',left)):
  CallsV c (pt fb) w fun e w'=>e=.returned (.int .i64 (sgl left s'.e))/\FPo B W xb rb mb fb w m D lv lq s' w':=by
 obtain⟨ab,db,bb,nb,nm,rfl,h1,h2,h3,h4,h5,h6⟩:=hc;refine actItem h he hf ab _ _ _ h1 s' left ?_;rcases one_parts (by omega) (by omega) (by omega) hx with q|⟨q1,q2⟩
 ·exact .inl q
 ·unfold xOne at q2;rw[if_neg (by omega),if_neg (by omega),if_neg (by omega),if_neg (by omega),if_neg (by omega),if_pos k] at q2
  cases hc:xRun g (jCall x.name) s.step with
  | none=>rw[hc] at q2;cases q2
  | some p=>
   obtain⟨s2,l2⟩:=p;rw[hc] at q2;injection q2 with q2;injection q2 with q3 q4;subst q3
   match g,hW,hx,hc with
   | 0,_,_,hc=>cases hc
   | 1,_,_,hc=>
    rw[x_call] at hc
    split at hc
    ·cases hc
    ·cases hc
   | g' + 1+1,hW,_,hc=>
    refine .inr ⟨q1,q4.symm,fun w1 m1 p1 t1=>?_⟩;have kd:=h.keepD t1;exact callP g' (hW g' (by omega)) p1 q1 db bb nb nm h6 (kd _ _ _ h2) (by rw[t1.bk];exact kd _ _ _ h3) (kd _ _ _ h4) s2 l2 (by rw[h5];exact hc)
theorem call_parts (g:Nat) (f:Fr) (x:It) (k:x.kind=99) (d:Def) (hd:s.defs.find? (fun d=>d.name == x.name)=some d) (s':St) (left:Bool) (hx:xRun (g+1) (jItem f lp x) s=some (s',left)):
  (¬ s.step.e=0/\s'=s.step/\left=true)\/(s.step.e=0/\left=decide (s'.e ≠ 0)/\((20<=s.step.depth/\s'=s.step.err 8)\/(¬ 20<=s.step.depth/\∃ (g':Nat) (s1 s2:St) (left2:Bool),g' < g/\s1={ s.step with defs:=s1.defs }/\xCome g' (frD d) s.step=some s1/\xRun g' (jBody (frD d) [] d.body) { s1 with depth:=s1.depth+1 }=some (s2,left2)/\s'={ s2 with depth:=s2.depth - 1 }/\s2.depth=s.step.depth+1))):=by
 rcases one_parts (by omega) (by omega) (by omega) hx with q|⟨q1,q2⟩
 ·exact .inl q
 ·unfold xOne at q2;rw[if_neg (by omega),if_neg (by omega),if_neg (by omega),if_neg (by omega),if_neg (by omega),if_pos k] at q2;have hds:s.step.defs=s.defs:=by unfold St.step;split <;> rfl
  cases hc:xRun g (jCall x.name) s.step with
  | none=>rw[hc] at q2;cases q2
  | some p=>
   obtain⟨s2,l2⟩:=p;rw[hc] at q2;injection q2 with q2;injection q2 with q3 q4;subst q3;refine .inr ⟨q1,q4.symm,?_⟩
   cases g with
   | zero=>cases hc
   | succ g=>
    rw[x_call,hds,hd] at hc;dsimp only at hc
    cases g with
    | zero=>cases hc
    | succ g=>
     by_cases h20:20<=s.step.depth
     ·rw[x_enter,if_pos h20] at hc;injection hc with hc;injection hc with hc _;exact .inl ⟨h20,hc.symm⟩
     ·obtain⟨s1,s3,left2,a1,a2,a3,a4,a5⟩:=enter_parts hc h20;exact .inr ⟨h20,g,s1,s3,left2,by omega,a1,a2,a3,a4,a5⟩
theorem downStep (h:PR B W w xb rb mb m D s) (he:s.e=0):CallsV (.func (.func 158) #[] #[]) (pt rb) w fun e w'=>e=.returned (.int .i64 (if 20<=s.depth then s.err 8 else { s with depth:=s.depth+1 }).e)/\PPost B W xb rb mb w m D (if 20<=s.depth then s.err 8 else { s with depth:=s.depth+1 }) w':=by
 refine⟨_,_,_,rfl,ent_down,?_⟩;show Calls Tryz.prog 158 #[pt rb] w _;refine (downP h).mono ?_;rintro e w' (⟨h20,rfl,rfl⟩|⟨h20,rfl,rfl⟩)
 ·rw[if_pos h20];exact⟨rfl,m,D,h.toErr 8 (by decide),PTo.refl _ _ _ _ _ _⟩
 ·rw[if_neg h20];have hd0:=h.good.d0;obtain⟨h1,t1⟩:=h.setDp (s.depth+1) (by omega) (by omega);exact⟨by rw[show ({ s with depth:=s.depth+1 }:St).e=0 from he],_,D,h1,t1⟩
end
section
variable {B:Nat} {W:World} {w:World} {xb rb mb fb:Nat} {m:MS} {D:GD} {s:St} {lv:Value} {lp lq:List Int}
theorem partGone (pb cb bb ab o2:Nat) (cv:Value) (ca:Array Value) (h1:Blk w pb 107 #[pt o2]) (h2:Blk w cb 243 #[cv]) (h6:Blk w o2 111 ca) (hg:ca[6]? = some (.bool true)) (Q:Ending->World->Prop) (hc:CallsV cv (pt fb) w fun e w'=>∃ n,e=.returned (.int .i64 n)/\Q e w'):
  Calls Tryz.prog 247 #[pt fb,pt pb,pt cb,pt bb,pt ab] w Q:=by
 obtain⟨n,first,cap,rfl,hen,hc⟩:=hc
 unfold Ents at hen;have c1:w.cell? ⟨pb,0,none⟩=some (pt o2):=h1.cell rfl;have c2:w.cell? ⟨cb,0,none⟩=some (.func (.func n) first cap):=h2.cell rfl
 have c6:w.cell? ⟨o2,6,none⟩=some (.bool true):=h6.cell hg;have HC:=hide hc;clear hc h1 h2 h6 hg;go_enter Tryz.func247,Tryz.ntmps247
 go_wp2_with fail
 refine HC.out.mono ?_;rintro e w1 ⟨n,rfl,hq⟩;have HQ:=hide hq;clear hq;go_wp2;exact HQ.out
theorem partRuns (pb cb bb ab o2 bk:Nat) (va:Value) (a9:Option Addr) (m9 p9:Nat) (hva:va=.slice a9 m9 p9) (ca:Array Value) (h1:Blk w pb 107 #[pt o2]) (h3:Blk w bb 78 #[pt bk]) (h4:Blk w ab 109 #[va]) (h6:Blk w o2 111 ca) (hg:ca[6]? = some (.bool false)) (hfb:w.cell? ⟨fb,0,none⟩=some (pt rb)) (Q:Int->World->Prop) (y1:Int) (I1 I2 I3:World->Prop)
  (H1:∀ w0,Kp w w0 (fun _=>False)->Calls Tryz.prog 68 #[pt rb,.func (.func 158) #[] #[]] w0 fun e w'=>e=.returned (.int .i64 y1)/\I1 w')
  (H2:∀ w',I1 w'->(∃ y,Blk w' fb 247 #[pt rb,lv,.int .i64 y])/\(y1=0->I2 (w'.setCell ⟨fb,2,none⟩ (.int .i64 y1))/\(w'.setCell ⟨fb,2,none⟩ (.int .i64 y1)).cell? ⟨pb,0,none⟩=some (pt o2)/\(w'.setCell ⟨fb,2,none⟩ (.int .i64 y1)).cell? ⟨bb,0,none⟩=some (pt bk))/\(y1 ≠ 0->Q 1 (w'.setCell ⟨fb,2,none⟩ (.int .i64 y1))))
  (H3:∀ w',I2 w'->Calls Tryz.prog 160 #[pt bk,pt o2] w' fun e w2=>e=.returned (.tuple #[])/\I3 w2/\w2.cell? ⟨ab,0,none⟩=some va)
  (I4 I5:World->Prop) (H4:∀ w',I3 w'->Calls Tryz.prog 185 #[pt fb,va] w' fun e w2=>∃ y,e=.returned (.int .i64 y)/\I4 w2/\w2.cell? ⟨fb,0,none⟩=some (pt rb))
  (y5:Int) (H5:∀ w',I4 w'->Calls Tryz.prog 159 #[pt rb] w' fun e w2=>e=.returned (.tuple #[])/\I5 w2/\Blk w2 fb 247 #[pt rb,lv,.int .i64 y5])
  (H6:∀ w',I5 w'->Q (sgl false y5) (w'.setCell ⟨fb,2,none⟩ (.int .i64 y5))):
  Calls Tryz.prog 247 #[pt fb,pt pb,pt cb,pt bb,pt ab] w fun e w'=>∃ n,e=.returned (.int .i64 n)/\Q n w':=by
 subst hva;have c1:w.cell? ⟨pb,0,none⟩=some (pt o2):=h1.cell rfl;have c6:w.cell? ⟨o2,6,none⟩=some (.bool false):=h6.cell hg;have hmf:=mkFunc;have H1:=hide H1;have H2:=hide H2;have H3:=hide H3;have H4:=hide H4;have H5:=hide H5;have H6:=hide H6;clear h1 h3 h4 h6 hg;go_enter Tryz.func247,Tryz.ntmps247
 go_wp2_with fail
 refine (H1.out _ (Kp.refl _ _)).mono ?_;rintro e w1 ⟨rfl,hi1⟩;obtain⟨⟨y,hb1⟩,hz,hnz⟩:=H2.out w1 hi1;have HZ:=hide hz;have HNZ:=hide hnz;clear hz hnz hi1
 go_wp2_with fail
 refine (heedM _ fb y1 _ _ _ hb1).mono ?_;rintro e w2 ⟨rfl,hw2⟩;rw[<-hw2] at HZ HNZ;clear hw2 hb1;by_cases hy:y1=0
 ·obtain⟨hi2,d1,d2⟩:=HZ.out hy;have HC3:=hide (H3.out w2 hi2);subst hy;rw[sgl_no];clear hi2 HZ HNZ H1 H2 H3
  go_wp2_with fail
  refine HC3.out.mono ?_;rintro e w3 ⟨rfl,hi3,d3⟩;have HC4:=hide (H4.out w3 hi3);clear hi3 HC3 H4
  go_wp2_with fail
  refine HC4.out.mono ?_;rintro e w4 ⟨y4,rfl,hi4,d4⟩;have HC5:=hide (H5.out w4 hi4);clear hi4 HC4 H5
  go_wp2_with fail
  refine HC5.out.mono ?_;rintro e w5 ⟨rfl,hi5,hb5⟩;have d5:w5.cell? ⟨fb,2,none⟩=some (.int .i64 y5):=hb5.cell rfl;have HQ:=hide (H6.out w5 hi5);clear hi5 HC5 H6
  go_wp2_with fail
  refine (heedM _ fb y5 _ _ _ hb5).mono ?_;rintro e w6 ⟨rfl,rfl⟩;go_wp2;go_ret;exact⟨_,rfl,HQ.out⟩
 ·have HQ:=hide (HNZ.out hy);rw[sgl_yes (.inr hy)];clear HZ HNZ H1 H2 H3 H4 H5 H6 hy;go_wp2;go_ret;exact⟨_,rfl,HQ.out⟩
end
section
variable {B:Nat} {W:World} {w:World} {xb rb mb fb:Nat} {m:MS} {D:GD} {s:St} {lv:Value} {lp lq:List Int}
theorem partItem (g:Nat) (hB:∀ g',g' < g->QB B W g') (hW:∀ g',g' < g->QW B W g') (h:PR B W w xb rb mb m D s) (he:s.e=0) (hf:FrR B w fb rb m D lv 0 lq) (hlp:(lq.length:Int)<=s.steps) (f:Fr) (x:It) (k:x.kind=99) (c:Value) (hc:callB (BD D.d w) D.r m.bk (Acts (BD D.d w) D.r m.bk) x.name c) (s':St) (left:Bool) (hx:xRun (g+1) (jItem f lp x) s=some (s',left)):
  CallsV c (pt fb) w fun e w'=>e=.returned (.int .i64 (sgl left s'.e))/\FPo B W xb rb mb fb w m D lv lq s' w':=by
 obtain⟨pb,cb,bb,ab,o2,f2,va,cv,rfl,h1,h2,h3,h4,h5,h6,h7,h8⟩:=hc;refine⟨_,_,_,rfl,ent_cpart,?_⟩;show Calls Tryz.prog 247 #[pt fb,pt pb,pt cb,pt bb,pt ab] w _;obtain⟨obs,DD,hwr⟩:=h.words;obtain⟨_,⟨i,hi,hfi,hob,hfd⟩|⟨ca,hca,hgn,_⟩⟩:=hwr.reg o2 f2 h6
 ·obtain⟨hr0,⟨ca,hca,hgn⟩,_⟩:=hwr.cur i hi;rw[hob] at hca;have hd:s.defs.find? (fun d=>d.name == x.name)=some s.defs[i]:=by
   rw[h7] at hfi;rw[List.find?_eq_some_iff_getElem];obtain⟨a1,a2,a3⟩:=List.findIdx?_eq_some_iff_getElem.1 hfi;exact⟨a2,i,a1,rfl,fun j hj=>by simpa using a3 j hj⟩
  have hcp:=call_parts g f x k _ hd s' left hx;obtain⟨a9,p9,hva⟩:=h8.form;obtain⟨sD,hsD⟩:∃ sD,sD=(if s.step.e=0 then (if 20<=s.step.depth then s.step.err 8 else { s.step with depth:=s.step.depth+1 }) else s.step):=⟨_,rfl⟩;have hkd:=fun w' m' D' lv' (ht:FT xb rb mb fb w w' m m' D D' lv lv')=>hf.keepD h ht;refine (partRuns (lv:=lv) pb cb bb ab o2 m.bk va a9 _ p9 hva ca.arr h1.2 h4.2 h5.2 hca.blk (by rw[show ca.arr[6]? = some (.bool ca.gn) from rfl,hgn]) (hf.blk.cell rfl) (fun n w'=>n=sgl left s'.e/\FPo B W xb rb mb fb w m D lv lq s' w') sD.e (fun w'=>PPost B W xb rb mb w m D sD w') (fun w'=>sD.e=0/\FPo B W xb rb mb fb w m D lv lq sD w') (fun w'=>∃ (g':Nat) (s1 s2:St) (left2:Bool),g' < g/\s1={ s.step with defs:=s1.defs }/\xRun g' (jBody (frD s.defs[i]) [] s.defs[i].body) { s1 with depth:=s1.depth+1 }=some (s2,left2)/\s'={ s2 with depth:=s2.depth - 1 }/\s2.depth=s.step.depth+1/\s.step.e=0/\¬ 20<=s.step.depth/\left=decide (s'.e ≠ 0)/\FPo B W xb rb mb fb w m D lv lq { s1 with depth:=s1.depth+1 } w')
   (fun w0 hk=>?_) (fun w' hp=>?_) (fun w' hp=>?_) (fun w'=>∃ s2,s'={ s2 with depth:=s2.depth - 1 }/\s2.depth=s.step.depth+1/\¬ 20<=s.step.depth/\left=decide (s'.e ≠ 0)/\FPo B W xb rb mb fb w m D lv lq s2 w') (fun w'=>left=decide (s'.e ≠ 0)/\FPo B W xb rb mb fb w m D lv lq s' w') (fun w' hp=>?_) s'.e (fun w' hp=>?_) (fun w' hp=>?_)).mono ?_
  ·obtain⟨h0,t0⟩:=h.kp hk;refine (stepP h0 he _ (if 20<=s.step.depth then s.step.err 8 else { s.step with depth:=s.step.depth+1 }) sD hsD (fun e w1 m1 p1 t1=>downStep p1 e)).mono ?_;rintro e w' ⟨rfl,hp⟩;exact⟨rfl,hp.step t0⟩
  ·obtain⟨q1,q2⟩:=FPo.heed h hf hp;refine⟨q2,fun hz=>?_,fun hnz=>?_⟩
   ·obtain⟨m1,D1,lv1,a1,a2,a3⟩:=q1;have kd:=hkd _ _ _ _ a3;exact⟨⟨hz,m1,D1,lv1,a1,a2,a3⟩,(kd _ _ _ h1).2.cell rfl,(kd _ _ _ h4).2.cell rfl⟩
   ·rcases hcp with⟨b1,b2,b3⟩|⟨b1,b2,⟨b3,b4⟩|⟨b3,_⟩⟩
    ·rw[if_neg b1] at hsD;rw[hsD,<-b2] at q1 ⊢;exact⟨by rw[b2,sgl_yes (.inr b1)],q1⟩
    ·rw[if_pos b1,if_pos b3] at hsD;rw[hsD,<-b4] at q1 ⊢;exact⟨by rw[b4,sgl_yes (.inr (by show (8:Int) ≠ 0;decide))],q1⟩
    ·rw[if_pos b1,if_neg b3] at hsD;exact absurd (by rw[hsD];exact b1) hnz
  ·obtain⟨hz,m1,D1,lv1,a1,a2,a3⟩:=hp;have hlv:=a3.lve;subst hlv;rw[<-a3.bk];rcases hcp with⟨b1,b2,b3⟩|⟨b1,b2,⟨b3,b4⟩|⟨b3,g',s1,s2,left2,c1,c2,c3,c4,c5,c6⟩⟩
   ·rw[if_neg b1] at hsD;rw[hsD] at hz;exact absurd hz b1
   ·rw[if_pos b1,if_pos b3] at hsD;rw[hsD] at hz;cases hz
   ·rw[if_pos b1,if_neg b3] at hsD;subst hsD;have hdp:s1.depth=s.step.depth:=by rw[c2]
    refine (noteP a1 o2 f2 (a3.rg _ _ h6) g' { s1 with depth:=s1.depth+1 } (by rw[hfd,hdp];exact xCome_dep _ c3)).mono ?_;rintro e w2 ⟨rfl,m2,D2,p1,t1⟩;obtain⟨a4,a5⟩:=a2.sto a1 t1;have a6:=a3.trans a5;have he1:({ s1 with depth:=s1.depth+1 }:St).e=({ s.step with depth:=s.step.depth+1 }:St).e:=by show s1.e=s.step.e;rw[c2]
    exact⟨rfl,⟨g',s1,s2,left2,c1,c2,c4,c5,c6,b1,b3,b2,m2,D2,_,p1,by rw[he1];exact a4,a6⟩,(hkd _ _ _ _ a6 _ _ _ h5).2.cell rfl⟩
  ·obtain⟨g',s1,s2,left2,c1,c2,c4,c5,c6,b1,b3,b2,m1,D1,lv1,a1,a2,a3⟩:=hp;have hlv:=a3.lve;subst hlv;have he1:({ s1 with depth:=s1.depth+1 }:St).e=0:=by show s1.e=0;rw[c2];exact b1
   have hst:(lq.length:Int)<=({ s1 with depth:=s1.depth+1 }:St).steps:=by show (lq.length:Int)<=s1.steps;rw[c2,s.step_steps];omega
   have hfr:FrR B w' fb rb m1 D1 lv1 0 lq:=by have:=a2;rw[he1] at this;exact this
   have kd:=hkd _ _ _ _ a3;refine (hB g' c1 w' xb rb mb fb m1 D1 _ s2 (frD s.defs[i]) [] lq lv1 o2 va s.defs[i].body left2 (PQ.nil _) a1 he1 hfr hst (by
    obtain⟨cc,hcc⟩:=a1.words.wds.ok _ _ (a3.rg _ _ h6);obtain⟨G,hG⟩:=hcc.wf;rw[hfd] at hG;exact⟨G,false,hG,fun h=>by cases h⟩) (by rw[a3.bk];have:=h8.mono kd a3.rg;rw[hfd] at this;exact this) (by have:=a3.rg _ _ h6;rw[hfd] at this;exact this) c4).mono ?_
   rintro e w2 ⟨rfl,m2,D2,lv2,p1,p2,p3⟩;exact⟨_,rfl,⟨s2,c5,c6,b3,b2,m2,D2,lv2,p1,p2,a3.trans p3⟩,p2.blk.cell rfl⟩
  ·obtain⟨s2,c5,c6,b3,b2,m1,D1,lv1,a1,a2,a3⟩:=hp;have hlv:=a3.lve;subst hlv;have hd0:=h.good.d0;have hdd:s.step.depth=s.depth:=by unfold St.step;split <;> rfl
   refine (upP a1 s.step.depth (by omega) (by omega) c6).mono ?_;rintro e w2 ⟨rfl,m2,D2,p1,t1⟩;obtain⟨a4,a5⟩:=a2.sto a1 t1;rw[<-c5] at p1;have he2:s2.e=s'.e:=by rw[c5]
   rw[he2] at a4;exact⟨rfl,⟨b2,m2,D2,_,p1,a4,a3.trans a5⟩,a4.blk⟩
  ·obtain⟨b2,m1,D1,lv1,a1,a2,a3⟩:=hp;obtain⟨a4,a5,a6⟩:=a2.setWhy a1 s'.e;exact⟨by rw[b2,sgl_dec],m1,D1,lv1,a4,a5,a3.trans a6⟩
  ·rintro e w' ⟨n,rfl,rfl,hq⟩;exact⟨rfl,hq⟩
 ·refine partGone pb cb bb ab o2 cv ca.arr h1.2 h2.2 hca.blk (by rw[show ca.arr[6]? = some (.bool ca.gn) from rfl,hgn]) _ ((callSItem g hW h he hf f x k cv h3 s' left hx).mono ?_);rintro e w' ⟨rfl,hp⟩;exact⟨_,rfl,rfl,hp⟩
end
theorem itemX {B:Nat} {W:World} (hE:Env B W) (G:Nat) (hB:∀ g,g < G->QB B W g) (hW:∀ g,g < G->QW B W g) (hT:∀ g,g < G->QT B W g):QI B W G:=by
 intro w xb rb mb fb m D s s' f lp lq lv ob c x left hpq h he hf hlp hok hact hWd hx
 cases G with
 | zero=>cases hx
 | succ g=>
 unfold actR at hact;rcases hact with⟨k,hin,ab,nb,rfl,h1,h2⟩|⟨k,ab,act,j,rfl,h1,h2,h3⟩|⟨k,hcr⟩|⟨k,b1,b2,va,vb,rfl,h1,h2,h3,h4⟩|⟨k,b1,va,rfl,h1,h2⟩|⟨k,b1,b2,va,vb,rfl,h1,h2,h3,h4⟩|⟨k,b1,va,rfl,h1,h2⟩|⟨k,rfl⟩|⟨k,ab,db,bb,wb,rfl,h1,h2,h3,h4⟩|⟨k,rfl⟩|⟨k,ab,db,sb,tb,tv,ws,rfl,h1,h2,h3,h4,h5,h6,h7,h8⟩
 ·refine actItem h he hf ab _ _ _ h1 s' left ?_;rcases one_parts (by omega) (by omega) (by omega) hx with q|⟨q1,q2⟩
  ·exact .inl q
  ·unfold xOne at q2;rw[if_pos k] at q2;injection q2 with q2;injection q2 with q3 q4;subst q3;exact .inr ⟨q1,q4.symm,fun w1 m1 p1 t1=>layP p1 q1 x.n hin nb (h.keepD t1 _ _ _ h2).2⟩
 ·obtain⟨fn,ff,fc,rfl⟩:=plainR_form h2;refine actItem h he hf ab _ _ _ h1 s' left ?_;rcases one_parts (by omega) (by omega) (by omega) hx with q|⟨q1,q2⟩
  ·exact .inl q
  ·unfold xOne at q2;rw[if_neg (by omega),if_pos k,h3] at q2;injection q2 with q2;injection q2 with q3 q4;subst q3;exact .inr ⟨q1,q4.symm,fun w1 m1 p1 t1=>plainPX hE.glo p1 q1 j _ (plainR_mono (h.keepD t1) h2)⟩
 ·rcases hcr with hcs|hcb
  ·exact callSItem g (fun g' hg=>hW g' (by omega)) h he hf f x k c hcs s' left hx
  ·exact partItem g (fun g' hg=>hB g' (by omega)) (fun g' hg=>hW g' (by omega)) h he hf hlp f x k c hcb s' left hx
 ·rw[x_if _ _ _ _ _ k] at hx;exact ifP g x.a x.b hpq (hB g (by omega)) h he hf hlp f ob b1 b2 (hok.ab (by omega)).1 (hok.ab (by omega)).2 va vb h1 h2 h3 h4 hWd s' left hx
 ·exact untilP (g+1) hpq hB h he hf hlp f ob b1 va x hok k h1 h2 hWd s' left hx
 ·exact whileP (g+1) hpq hB h he hf hlp f ob b1 b2 va vb x hok k h1 h2 h3 h4 hWd s' left hx
 ·exact countP g hpq (fun g' hg=>hB g' (by omega)) h he hf hlp f ob b1 va x.a (fun n=>hok.body k n) h1 h2 hWd s' left (xDo_eq k hx)
 ·rcases one_parts (by omega) (by omega) (by omega) hx with⟨q1,q2,q3⟩|⟨q1,q2⟩
  ·cases lp with
   | nil=>
    exact absurd rfl (hok.idx k)
   | cons i lp'=>
    subst q2;rw[sgl_err q1];obtain⟨lo,hlo⟩:=hpq;exact idxP h he i (lp' ++ lo) hlo (by have:=h.good.s1;omega) hf s.step (by rw[if_neg q1])
  ·unfold xOne at q2;rw[if_neg (by omega),if_neg (by omega),if_pos k] at q2
   cases lp with
   | nil=>cases q2
   | cons i lp'=>
    injection q2 with q2;injection q2 with q3 q4;subst q3;rw[<-q4,sgl_dec];obtain⟨lo,hlo⟩:=hpq;exact idxP h he i (lp' ++ lo) hlo (by have:=h.good.s1;omega) hf _ (by rw[if_pos q1])
 ·refine actItem h he hf ab _ _ _ h1 s' left ?_;rcases one_parts (by omega) (by omega) (by omega) hx with q|⟨q1,q2⟩
  ·exact .inl q
  ·unfold xOne at q2;rw[if_neg (by omega),if_neg (by omega),if_neg (by omega),if_neg (by omega),if_pos k] at q2
   cases hc:xRun g (jEnter f) s.step with
   | none=>rw[hc] at q2;cases q2
   | some p=>
    obtain⟨s2,l2⟩:=p;rw[hc] at q2;injection q2 with q2;injection q2 with q3 q4;subst q3
    cases g with
    | zero=>cases hc
    | succ g'=>
     refine .inr ⟨q1,q4.symm,fun w1 m1 p1 t1=>?_⟩;have kd:=h.keepD t1;exact recP g' (hW g' (by omega)) p1 q1 f ob db bb wb (kd _ _ _ h2) (by rw[t1.bk];exact kd _ _ _ h3) (kd _ _ _ h4) (t1.rg _ _ hWd) s2 l2 hc
 ·have hs:s'=s.step/\left=true:=by
   rcases one_parts (by omega) (by omega) (by omega) hx with⟨q1,q2,q3⟩|⟨q1,q2⟩
   ·exact⟨q2,q3⟩
   ·unfold xOne at q2;rw[if_neg (by omega),if_neg (by omega),if_neg (by omega),if_pos k] at q2;injection q2 with q2;injection q2 with q3 q4;exact⟨q3.symm,q4.symm⟩
  obtain⟨rfl,rfl⟩:=hs;rw[sgl_yes (.inl rfl)];exact exitP h he hf
 ·refine actItem h he hf ab _ _ _ h1 s' left ?_;rcases one_parts (by omega) (by omega) (by omega) hx with q|⟨q1,q2⟩
  ·exact .inl q
  ·unfold xOne at q2;rw[if_neg (by omega),if_neg (by omega),if_neg (by omega),if_neg (by omega),if_neg (by omega),if_neg (by omega),if_pos k] at q2
   right
   by_cases h20:20<=s.step.depth
   ·rw[if_pos h20] at q2;injection q2 with q2;injection q2 with q3 q4;have hd:deeper s.step s.step=s.step.err 8:=if_pos h20;subst q3;refine⟨q1,by rw[<-q4];rfl,fun w1 m1 p1 t1=>?_⟩;have kd:=h.keepD t1;have:=bracesP g (hT g (by omega)) p1 q1 db sb tb tv ws (kd _ _ _ h2) (by rw[t1.bk];exact kd _ _ _ h3) (kd _ _ _ h4) (rowM_mono kd h5) h7 h8 s.step false (fun hn=>absurd h20 hn);rw[hd] at this;exact this
   ·rw[if_neg h20] at q2
    cases hc:xRun g (jToks x.toks) { s.step with depth:=s.step.depth+1 } with
    | none=>rw[hc] at q2;cases q2
    | some p=>
     obtain⟨s2,l2⟩:=p;rw[hc] at q2;injection q2 with q2;injection q2 with q3 q4;have hd:deeper s.step s2=s':=by unfold deeper;rw[if_neg h20];exact q3
     refine⟨q1,by rw[<-q4,<-q3],fun w1 m1 p1 t1=>?_⟩;have kd:=h.keepD t1;have:=bracesP g (hT g (by omega)) p1 q1 db sb tb tv ws (kd _ _ _ h2) (by rw[t1.bk];exact kd _ _ _ h3) (kd _ _ _ h4) (rowM_mono kd h5) h7 h8 s2 l2 (fun _=>by rw[h6];exact hc);rw[hd] at this;exact this
end
section
open Go.RowKit
theorem isName_num {l:List UInt8} {n:Int} (h:numP l=some n):isName l=false:=by
 cases l with
 | nil=>simp[numP] at h
 | cons c r=>
  have hc:¬ (97<=c.toNat/\c.toNat<=122):=by
   simp only[numP] at h
   split at h
   ·rename_i e;subst e;decide
   ·split at h
    ·rename_i hd
     simp only[digitsB,Bool.and_eq_true,List.all_cons] at hd;have:=of_decide_eq_true hd.2.1;omega
    ·cases h
  unfold isName;have:(c :: r).all (fun c=>decide (97<=c.toNat/\c.toNat<=122))=false:=by
   rw[List.all_cons,decide_eq_false hc];rfl
  rw[this];simp
theorem isName_kind {l:List UInt8} (h:¬ kdOf l=0):isName l=false:=by
 cases hn:numP l with
 | some n=>exact isName_num hn
 | none=>
  have hk:kdOf l=(kindN l:Int):=by unfold kdOf;rw[hn];rfl
  have h0:kindN l ≠ 0:=by intro e;rw[hk,e] at h;exact h rfl
  have hs:=kindN_at rfl h0;have hm:l∈spellL:=List.mem_of_getElem? hs;simp only[spellL,List.mem_append] at hm;rcases hm with hm|hm|hm|hm
  ·simp at hm;subst hm;decide
  ·have:plainL.any (· == l)=true:=List.any_eq_true.2 ⟨l,hm,by simp⟩;unfold isName;rw[this];simp
  ·simp at hm;rcases hm with rfl|rfl|rfl|rfl <;> decide
  ·have:keptL.any (· == l)=true:=List.any_eq_true.2 ⟨l,hm,by simp⟩;unfold isName;rw[this];simp
theorem isName_free {l:List UInt8} (hl:l ≠ []) (h:kdOf l=0):(!plainL.any (· == l) && !keptL.any (· == l))=true:=by
 have hn:numP l=none:=by
  cases hn:numP l with
  | none=>rfl
  | some n=>unfold kdOf at h;rw[hn] at h;simp at h
 have hk:kindN l=0:=by unfold kdOf at h;rw[hn] at h;simp at h;exact h
 have hs:=in_spell hl hk;have h1:plainL.any (· == l)=false:=by rw[List.any_eq_false];intro x hx;rw[hs x (by simp[spellL,hx])];decide
 have h2:keptL.any (· == l)=false:=by rw[List.any_eq_false];intro x hx;rw[hs x (by simp[spellL,hx])];decide
 rw[h1,h2];rfl
theorem nameM (t:ByteArray) (w:World) (hsp:SpAt w):Calls Tryz.prog 114 #[.string t] w fun e w'=>e=.returned (.bool (isName t.data.toList))/\w'=w:=by
 by_cases hs:t.size < 1\/(1<=t.size/\8 < t.size)
 ·have H:=hide (isName_len hs);rcases hs with h1|⟨h1,h2⟩
  all_goals
   go_enter Tryz.func114,Tryz.ntmps114;go_wp2;go_ret;exact⟨by rw[H.out];rfl,rfl⟩
 ·have h1:1<=t.size:=by omega
  have h8:t.size<=8:=by omega
  have hne:t.data.toList ≠ []:=by
   intro e;have:t.data.toList.length=0:=by rw[e];rfl
   have h2:t.data.toList.length=t.size:=rfl;omega
  have hok:okW t:=⟨by rw[ByteArray.toList_eq];exact hne,by omega⟩;clear hs;by_cases hk:kdOf t.data.toList=0
  ·have HA:Hid (∀ (ha:(t.data.toList.take t.size).all (fun c=>decide (97<=c.toNat/\c.toNat<=122))=true),isName t.data.toList=true):=by
    intro ha;rw[isName_all h1 h8 ha];have:=isName_free hne hk;rw[ByteArray.toList_eq];exact this
   have HB:Hid (∀ k (hk:k < t.size),¬ (97<=t[k].toNat/\t[k].toNat<=122)->isName t.data.toList=false):=fun k hk h=>isName_bad hk h;have HK:=hide (kindQ t w hok hsp);rw[hk] at HK;clear hk;go_enter Tryz.func114,Tryz.ntmps114
   go_wp2_with fail
   refine HK.out.mono ?_;rintro e w1 ⟨rfl,rfl⟩;clear HK;go_wp2
   go_loop [19] (fun i=>∃ k:Nat,k<=t.size/\i=.int .i64 k/\(t.data.toList.take k).all (fun c=>decide (97<=c.toNat/\c.toNat<=122))=true) (fun i=>t.size - (intOf i).toNat)
   case atStart=>exact⟨0,Nat.zero_le _,rfl,rfl⟩
   case round=>
    obtain⟨k,hk,rfl,hall⟩:=hrel;have HL:=hide hall;clear hall;by_cases hlt:k < t.size
    ·by_cases hd:97<=t[k].toNat/\t[k].toNat<=122
     ·obtain⟨hd1,hd2⟩:=hd;go_wp2
      go_round
      case rel=>
       refine⟨k+1,by omega,by go_num,?_⟩;rw[take_snoc t k hlt,List.all_append,HL.out];simp[hd1,hd2]
      case measure=>simp[intOf];omega
     ·have H:=hide (HB.out k hlt hd);rcases (show t[k].toNat < 97\/(97<=t[k].toNat/\122 < t[k].toNat) by omega) with q1|⟨q1,q2⟩
      all_goals
       clear hd;go_wp2;go_ret;exact⟨by rw[H.out];rfl,rfl⟩
    ·have hks:k=t.size:=by omega
     have H:=hide (HA.out (by have:=HL.out;rwa [hks] at this));clear hks;go_wp2;go_ret;exact⟨by rw[H.out];rfl,rfl⟩
  ·have H:=hide (isName_kind hk);have HK:=hide (kindQ t w hok hsp);have hk2:(kdOf t.data.toList != 0)=true:=by simpa using hk
   generalize kdOf t.data.toList=K at HK hk2;clear hk;go_enter Tryz.func114,Tryz.ntmps114
   go_wp2_with fail
   refine HK.out.mono ?_;rintro e w1 ⟨rfl,rfl⟩;go_wp2;go_ret;exact⟨by rw[H.out];rfl,rfl⟩
end
section
open Go.RowKit
theorem forgeM (R:Nat->Fr->Prop) (w:World) (D:Nat->Prop) (bk:Nat) (nm:ByteArray) (v:Value) (l:List It) (hI:Items (BD D w) v l) (hwb:∃ G,wb (fun _=>True) G false l):
  Calls Tryz.prog 118 #[pt bk,.string nm,v] w fun e w'=>∃ ob hb sv,e=.returned (pt ob)/\Kp w w' (fun _=>False)/\w.heap.size<=ob/\w.heap.size<=hb/\ob ≠ hb/\Blk w' ob 111 (WC.arr ⟨nm,v,sv,sv,false,0,false,none,some hb⟩)/\w'.ownsMap Tryz.prog 9 heldR hb 0 (.map [])/\Acts (BD (fun k=>D k\/(w.heap.size<=k/\k ≠ ob)) w') R bk ob sv l:=by
 obtain⟨g,hI⟩:=hI;have hf:∃ a m p,v=.slice a m p:=by
  cases g with
  | zero=>exact hI.elim
  | succ g=>obtain⟨_,hq,_⟩:=hI;obtain⟨a,p,hv⟩:=hq.form;exact⟨a,_,p,hv⟩
 obtain⟨a9,m9,p9,rfl⟩:=hf;have hmm:=@run_makeMap Tryz.prog;have hmf:=mkFunc;obtain⟨W2,hW2⟩:∃ W2,W2=(w.alloc (.map #[] 0)).alloc (.cells #[.string nm,.slice a9 m9 p9,.slice none 0 0,.slice none 0 0,.bool false,.int .i64 0,.bool false,.map none,.map (some w.heap.size)] 111):=⟨_,rfl⟩;have hk2:Kp w W2 (fun _=>False):=by rw[hW2];exact ((Kp.refl _ _).alloc _).alloc _
 have hs2:W2.heap.size=w.heap.size+1+1:=by rw[hW2];simp
 have hbw:Blk W2 (w.heap.size+1) 111 #[.string nm,.slice a9 m9 p9,.slice none 0 0,.slice none 0 0,.bool false,.int .i64 0,.bool false,.map none,.map (some w.heap.size)]:=by rw[hW2];exact Blk.new1 w _ _ _
 have hmp:W2.ownsMap Tryz.prog 9 heldR w.heap.size 0 (.map []):=by rw[hW2];exact (World.ownsMap_made w Tryz.prog 9 heldR).alloc _
 have hI2:=itemsIn_mono (M':=BD (fun k=>(D k/\k < w.heap.size)\/W2.heap.size<=k) W2) (fun b t c h=>⟨.inl ⟨h.1,h.2.lt⟩,hk2.blk h.2 (by simp)⟩) _ _ _ hI;have HC:=hide (actsAll (JC0 R (fun _=>True) (fun _=>none) bk) g (fun k=>(D k/\k < w.heap.size)\/W2.heap.size<=k) (fun _=>False) W2 (w.heap.size+1) (.slice a9 m9 p9) l trivial (fun k hk=>.inr hk) hI2 (by obtain⟨G,hG⟩:=hwb;exact⟨G,false,hG⟩));have HB:=hide hbw;have HM:=hide hmp;have HK:=hide hk2;have HW2:=hide hW2;clear hI hI2 hwb hbw hmp hk2 hW2;go_enter Tryz.func118,Tryz.ntmps118
 go_wp2_with fail
 rw[<-HW2.out];refine HC.out.mono ?_;rintro e w3 ⟨ao,cap,rfl,hk3,hA,-⟩;have hk3:=hk3.noFt;have hb3:=hk3.blk HB.out (by simp);have hm3:=ownsMap_same HM.out (hk3.block _ HM.out.lt (by simp));have c2:w3.cell? ⟨w.heap.size+1,2,none⟩=some (.slice none 0 0):=hb3.cell rfl;have c3:w3.cell? ⟨w.heap.size+1,3,none⟩=some (.slice none 0 0):=hb3.cell rfl;have g2:=hb3.free 2;have g3:=hb3.free 3;have HA:=hide hA;have HK3:=hide hk3;have HB3:=hide hb3;have HM3:=hide hm3;clear hA hk3 hb3 hm3 HC;go_wp2;go_ret;have hks:Kp w3 ((w3.setCell ⟨w.heap.size+1,2,none⟩ (.slice ao l.length cap)).setCell ⟨w.heap.size+1,3,none⟩ (.slice ao l.length cap)) (fun k=>k=w.heap.size+1):=((Kp.refl w3 (fun k=>k=w.heap.size+1)).set (a:=⟨w.heap.size+1,2,none⟩) (fun _=>rfl) _).set (a:=⟨w.heap.size+1,3,none⟩) (fun _=>rfl) _;refine⟨w.heap.size+1,w.heap.size,.slice ao l.length cap,rfl,?_,Nat.le_succ _,Nat.le_refl _,by omega,(HB3.out.set 2 _).set 3 _,ownsMap_same HM3.out (hks.block _ HM3.out.lt (by show ¬ w.heap.size=w.heap.size+1;omega)),HA.out.mono (fun b t c h=>?_) (fun _ _ h=>h)⟩
 ·refine (((HK.out.trans HK3.out).mono (T:=fun k=>k=w.heap.size+1) (fun _ _ e=>e.elim)).trans hks).mono (fun k hk e=>?_);have e:k=w.heap.size+1:=e;omega
 ·have hne:¬ b=w.heap.size+1:=fun e=>by
   rcases h.1 with q|q
   ·have:=q.2;omega
   ·omega
  refine⟨?_,hks.blk h.2 hne⟩;rcases h.1 with q|q
  ·exact .inl q.1
  ·exact .inr ⟨by omega,hne⟩
end
section
open Go.RowKit
def DefS (bb ib nb bk mb:Nat) (nm:ByteArray) (iv:Value) (w:World):Prop:=w.cell? ⟨bb,0,none⟩=some (pt bk)/\w.cell? ⟨ib,0,none⟩=some iv/\w.cell? ⟨nb,0,none⟩=some (.string nm)/\w.cell? ⟨bk,0,none⟩=some (.map (some mb))
def DefF (bb ib nb bk mb:Nat) (nm:ByteArray) (a:Option Addr) (n p:Nat) (w:World) (Q:World->Prop):Prop:=Calls Tryz.prog 118 #[pt bk,.string nm,.slice a n p] w fun e w'=>∃ ob w2,e=.returned (pt ob)/\DefS bb ib nb bk mb nm (.slice a n p) w'/\DefS bb ib nb bk mb nm (.slice a n p) w2/\(Instr.mapUpdate 104 (.map (some mb)) (.string nm) (pt ob)).run Tryz.prog w'=.ok () w2/\Q w2
theorem defFnNew (w:World) (rb bb ib nb bk mb:Nat) (nm:ByteArray) (a:Option Addr) (n p:Nat) (Q:World->Prop) (hS:DefS bb ib nb bk mb nm (.slice a n p) w)
  (hl:∀ w0,Kp w w0 (fun _=>False)->(Instr.lookup 104 (.map (some mb)) (.string nm) false).run Tryz.prog w0=.ok (.pointer none) w0)
  (hS2:∀ w0,Kp w w0 (fun _=>False)->DefS bb ib nb bk mb nm (.slice a n p) w0)
  (hc:∀ w0,Kp w w0 (fun _=>False)->DefF bb ib nb bk mb nm a n p w0 Q):
  Calls Tryz.prog 116 #[pt rb,pt bb,pt nb,pt ib] w fun e w'=>e=.returned (.int .i64 0)/\Q w':=by
 obtain⟨c1,c2,c3,c4⟩:=hS;have HC:=hide hc;have hr0:=hl w (Kp.refl _ _);have hr1:=hl w.drew (Kp.refl _ _).drew;clear hc hl hS2;go_enter Tryz.func116,Tryz.ntmps116;go_wp2
 go_region_held3 (fun w'=>w'.cell? ⟨bb,0,none⟩=some (pt bk)/\w'.cell? ⟨ib,0,none⟩=some (.slice a n p)/\w'.cell? ⟨nb,0,none⟩=some (.string nm)/\w'.cell? ⟨bk,0,none⟩=some (.map (some mb))) (go_keep) (fail)
 go_wp2
 go_region_held3 (fun w'=>w'.cell? ⟨bb,0,none⟩=some (pt bk)/\w'.cell? ⟨ib,0,none⟩=some (.slice a n p)/\w'.cell? ⟨nb,0,none⟩=some (.string nm)/\w'.cell? ⟨bk,0,none⟩=some (.map (some mb))) (go_keep) (first
  | (go_at_call 118;refine (HC.out _ ?_).mono ?_;(first|exact (Kp.refl _ _).drew.drew|exact (Kp.refl _ _).drew);rintro e w1 ⟨ob,w2,rfl,⟨d1,d2,d3,d4⟩,⟨e1,e2,e3,e4⟩,hrun,hq⟩;have HQ:=hide hq;clear hq))
 go_wp2;go_ret;exact⟨rfl,HQ.out⟩
theorem defFnOld (w:World) (rb bb ib nb bk mb oo:Nat) (nm:ByteArray) (a:Option Addr) (n p:Nat) (Q I:World->Prop) (hS:DefS bb ib nb bk mb nm (.slice a n p) w)
  (hl:∀ w0,Kp w w0 (fun _=>False)->(Instr.lookup 104 (.map (some mb)) (.string nm) false).run Tryz.prog w0=.ok (pt oo) w0)
  (hR:∀ w0,Kp w w0 (fun _=>False)->Calls Tryz.prog 117 #[pt oo] w0 fun e w'=>e=.returned (.tuple #[])/\DefS bb ib nb bk mb nm (.slice a n p) w'/\I w')
  (hc:∀ w1,I w1->∀ w0,Kp w1 w0 (fun _=>False)->DefF bb ib nb bk mb nm a n p w0 Q):
  Calls Tryz.prog 116 #[pt rb,pt bb,pt nb,pt ib] w fun e w'=>e=.returned (.int .i64 0)/\Q w':=by
 obtain⟨c1,c2,c3,c4⟩:=hS;have HC:=hide hc;have HR:=hide hR;have hr0:=hl w (Kp.refl _ _);have hr1:=hl w.drew (Kp.refl _ _).drew;clear hc hl hR;go_enter Tryz.func116,Tryz.ntmps116;go_wp2
 go_region_held3 (fun w'=>w'.cell? ⟨bb,0,none⟩=some (pt bk)/\w'.cell? ⟨ib,0,none⟩=some (.slice a n p)/\w'.cell? ⟨nb,0,none⟩=some (.string nm)/\w'.cell? ⟨bk,0,none⟩=some (.map (some mb))) (go_keep) (fail)
 go_wp2_with fail
 refine (HR.out _ ?_).mono ?_
 ·exact (Kp.refl _ _).drew
 rintro e w5 ⟨rfl,⟨x1,x2,x3,x4⟩,hi⟩;have HC5:=hide (HC.out w5 hi);clear hi HC HR;go_wp2
 go_region_held3 (fun w'=>w'.cell? ⟨bb,0,none⟩=some (pt bk)/\w'.cell? ⟨ib,0,none⟩=some (.slice a n p)/\w'.cell? ⟨nb,0,none⟩=some (.string nm)/\w'.cell? ⟨bk,0,none⟩=some (.map (some mb))) (go_keep) (first
  | (go_at_call 118;refine (HC5.out _ ?_).mono ?_;(first|exact (Kp.refl _ _).drew.drew|exact (Kp.refl _ _).drew);rintro e w1 ⟨ob,w2,rfl,⟨d1,d2,d3,d4⟩,⟨e1,e2,e3,e4⟩,hrun,hq⟩;have HQ:=hide hq;clear hq))
 go_wp2;go_ret;exact⟨rfl,HQ.out⟩
end
section
open Go.RowKit
abbrev nbP (d:Def):Tok × List It:=(d.name,d.body)
def putNB (l:List (Tok × List It)) (t:Tok) (b:List It):List (Tok × List It):=match l.findIdx? (fun p=>p.1 == t) with
 | some k=>l.set k (t,b)
 | none=>l ++ [(t,b)]
theorem find_nb (defs:List Def) (t:Tok):defs.findIdx? (fun d=>d.name == t)=(defs.map nbP).findIdx? (fun p=>p.1 == t):=by
 rw[List.findIdx?_map];rfl
theorem set_nb (s:St) (t:Tok) (b:List It):(s.set t b).defs.map nbP=putNB (s.defs.map nbP) t b:=by
 have hmap:(s.defs.map fun d=>if d.fast=true/\d.built.any (· == t)=true then slowD d else d).map nbP=s.defs.map nbP:=by
  rw[List.map_map]
  apply List.map_congr_left
  intro d _;show nbP (if _ then _ else _)=nbP d
  split <;> rfl
 unfold putNB;rw[<-find_nb];unfold St.set St.find
 cases s.defs.findIdx? (fun d=>d.name == t) with
 | none=>
  show ((s.defs.map _) ++ [_]).map nbP=_;rw[List.map_append,hmap];rfl
 | some k=>
  show ((s.defs.map _).set k _).map nbP=_;rw[List.map_set,hmap]
theorem putNB_find (l:List (Tok × List It)) (t t':Tok) (b:List It) (hne:¬ t'=t):(putNB l t b).findIdx? (fun p=>p.1 == t')=l.findIdx? (fun p=>p.1 == t'):=by
 have hb:((t,b).1 == t')=false:=by rw[beq_eq_false_iff_ne];exact fun e=>hne e.symm
 unfold putNB
 cases hf:l.findIdx? (fun p=>p.1 == t) with
 | none=>
  show (l ++ [(t,b)]).findIdx? _=_;rw[List.findIdx?_append];have:[(t,b)].findIdx? (fun p=>p.1 == t')=none:=by rw[List.findIdx?_eq_none_iff];intro x hx;rw[List.mem_singleton.1 hx];exact hb
  rw[this];simp
 | some k=>
  show (l.set k (t,b)).findIdx? _=_;obtain⟨hk,hp,_⟩:=List.findIdx?_eq_some_iff_getElem.1 hf;have hkk:(l[k].1 == t')=false:=by
   rw[beq_iff_eq.1 hp];exact hb
  apply Option.ext
  intro i;rw[List.findIdx?_eq_some_iff_getElem,List.findIdx?_eq_some_iff_getElem]
  constructor
  ·rintro⟨hi,h1,h2⟩;have hi':i < l.length:=by simpa using hi
   have hik:¬ k=i:=by rintro rfl;rw[List.getElem_set_self,hb] at h1;cases h1
   refine⟨hi',by rw[List.getElem_set_ne hik] at h1;exact h1,fun j hj=>?_⟩;by_cases hjk:k=j
   ·subst hjk;rw[hkk];decide
   ·have:=h2 j hj;rw[List.getElem_set_ne hjk] at this;exact this
  ·rintro⟨hi,h1,h2⟩;have hik:¬ k=i:=by rintro rfl;rw[hkk] at h1;cases h1
   refine⟨by simpa using hi,by rw[List.getElem_set_ne hik];exact h1,fun j hj=>?_⟩;by_cases hjk:k=j
   ·subst hjk;rw[List.getElem_set_self,hb];decide
   ·rw[List.getElem_set_ne hjk];exact h2 j hj
def putObs (l:List (Tok × List It)) (obs:List Nat) (t:Tok) (ob:Nat):List Nat:=match l.findIdx? (fun p=>p.1 == t) with
 | some k=>obs.set k ob
 | none=>obs ++ [ob]
theorem putNB_same (l:List (Tok × List It)) (obs:List Nat) (t:Tok) (b:List It) (ob:Nat) (hl:obs.length=l.length):∃ k,(putNB l t b).findIdx? (fun p=>p.1 == t)=some k/\(putObs l obs t ob).getD k 0=ob:=by
 unfold putNB putObs
 cases hf:l.findIdx? (fun p=>p.1 == t) with
 | none=>
  refine⟨l.length,?_,?_⟩
  ·show (l ++ [(t,b)]).findIdx? _=_;rw[List.findIdx?_append,hf];simp[List.findIdx?_cons]
  ·show (obs ++ [ob]).getD l.length 0=ob;rw[<-hl];simp
 | some k=>
  obtain⟨hk,hp,hn⟩:=List.findIdx?_eq_some_iff_getElem.1 hf;refine⟨k,?_,?_⟩
  ·show (l.set k (t,b)).findIdx? _=_;rw[List.findIdx?_eq_some_iff_getElem];refine⟨by simpa using hk,by rw[List.getElem_set_self];simp,fun j hj=>?_⟩;rw[List.getElem_set_ne (by omega)];exact hn j hj
  ·show (obs.set k ob).getD k 0=ob;simp[List.getD,hl,hk]
theorem putNB_len (l:List (Tok × List It)) (t:Tok) (b:List It):(putNB l t b).length=if (l.findIdx? (fun p=>p.1 == t)).isSome=true then l.length else l.length+1:=by
 unfold putNB
 cases l.findIdx? (fun p=>p.1 == t) <;> simp
theorem putObs_len (l:List (Tok × List It)) (obs:List Nat) (t:Tok) (b:List It) (ob:Nat) (hl:obs.length=l.length):(putObs l obs t ob).length=(putNB l t b).length:=by
 unfold putNB putObs
 cases l.findIdx? (fun p=>p.1 == t) <;> simp[hl]
structure MN (w:World) (mb:Nat) (l:List (Tok × List It)) (obs:List Nat) (DD:DataW Value):Prop where
 ol:obs.length=l.length
 mp:w.ownsMap Tryz.prog 9 heldR mb l.length DD
 sz:Maps.size DD=l.length
 hs:∀ t:Tok,t.length<=maxLen->Maps.has DD (.string t)=(l.findIdx? (fun p=>p.1 == t)).isSome
 l30:l.length<=30
 lk:∀ t:Tok,t.length<=maxLen->DD.atKey (.string t) (.held (.pointer none))=.held (.pointer ((l.findIdx? (fun p=>p.1 == t)).map (fun k=>(⟨obs.getD k 0,0,none⟩:Addr))))
theorem WR.mn {D:GD} {w:World} {bk mb:Nat} {defs:List Def} {obs:List Nat} {DD:DataW Value} (h:WR D w bk mb defs obs DD):MN w mb (defs.map nbP) obs DD:=
 ⟨by simpa using h.ol,by simpa using h.mp,by simpa using h.sz,fun t ht=>by rw[<-find_nb];exact h.hs t ht,by simpa using h.l30,fun t ht=>by rw[<-find_nb];exact h.lk t ht⟩
theorem MN.same {w w':World} {mb:Nat} {l:List (Tok × List It)} {obs:List Nat} {DD:DataW Value} (h:MN w mb l obs DD) (e:w'.heap[mb]? = w.heap[mb]?):MN w' mb l obs DD:=⟨h.ol,ownsMap_same h.mp e,h.sz,h.hs,h.l30,h.lk⟩
theorem own_tight {w:World} {b n:Nat} {DD:DataW Value} (h:w.ownsMap Tryz.prog 9 heldR b n DD):w.ownsMap Tryz.prog 9 heldR b (Maps.size DD) DD:=own_tightG h
theorem MN.put {w:World} {mb:Nat} {l:List (Tok × List It)} {obs:List Nat} {DD:DataW Value} (h:MN w mb l obs DD) (t:ByteArray) (ht:t.size<=1000) (b:List It) (ob:Nat) (h30:(l.findIdx? (fun p=>p.1 == t.data.toList)).isSome=true\/l.length < 30):
  ∃ w2 DD2,(Instr.mapUpdate 104 (.map (some mb)) (.string t) (pt ob)).run Tryz.prog w=.ok () w2/\w.grownBy w2 (some mb)/\MN w2 mb (putNB l t.data.toList b) (putObs l obs t.data.toList ob) DD2:=by
 obtain⟨h1,h2,h3a,h3b,hl30,h4⟩:=h;have hsz:t.size<=maxLen:=Nat.le_trans ht (by decide);obtain⟨w2,hrun,hm2,hg⟩:=h2.update (Maps.string_keyed Tryz.underlying9) Tryz.underlying104 (Nat.lt_of_le_of_lt hl30 (by decide)) (key:=.string t) (val:=pt ob) (kl:=.string t.data.toList) (d:=.held (pt ob)) (ps:=[]) (keyS t hsz) rfl;have hkl:WideAt.IsKeyLit (.string t.data.toList):=trivial;have htd:=h2.tidy (Maps.string_keyed Tryz.underlying9);have hhas:=h3b t.data.toList hsz;have hlen:Maps.size (DD.put (.string t.data.toList) (.held (pt ob)))=(putNB l t.data.toList b).length:=by
  rw[Maps.size_put htd,hhas,putNB_len,h3a]
 obtain⟨k0,hk0,ho0⟩:=putNB_same l obs t.data.toList b ob h1;refine⟨w2,_,hrun,hg,putObs_len l obs _ b ob h1,by rw[<-hlen];exact own_tight hm2,hlen,fun t' ht'=>?_,?_,fun t' ht'=>?_⟩
 ·by_cases he:t'=t.data.toList
  ·subst he;rw[Maps.has_put_same htd.isMap hkl,hk0];rfl
  ·rw[Maps.has_put_other (fun e=>he (by injection e)),putNB_find _ _ _ _ he];exact h3b t' ht'
 ·rw[putNB_len]
  split
  ·exact hl30
  ·rename_i hn
   rcases h30 with h|h
   ·exact absurd h hn
   ·omega
 ·by_cases he:t'=t.data.toList
  ·subst he;rw[Maps.atKey_put_same htd.isMap hkl,hk0];show _=DataW.held (Value.pointer (some ⟨(putObs l obs t.data.toList ob).getD k0 0,0,none⟩));rw[ho0]
  ·rw[Maps.atKey_put_other (fun e=>he (by injection e)),putNB_find _ _ _ _ he,h4 t' ht']
   cases hf:l.findIdx? (fun p=>p.1 == t') with
   | none=>rfl
   | some k=>
    obtain⟨hkl',hp,_⟩:=List.findIdx?_eq_some_iff_getElem.1 hf;have hkeq:(putObs l obs t.data.toList ob).getD k 0=obs.getD k 0:=by
     unfold putObs
     cases hf2:l.findIdx? (fun p=>p.1 == t.data.toList) with
     | none=>
      have hko:k < obs.length:=by omega
      simp[List.getD,List.getElem?_append,hko]
     | some k2=>
      obtain⟨hk2,hp2,_⟩:=List.findIdx?_eq_some_iff_getElem.1 hf2;have hne:¬ k2=k:=by rintro rfl;exact he ((beq_iff_eq.1 hp).symm.trans (beq_iff_eq.1 hp2))
      simp[List.getD,List.getElem?_set_ne hne]
    show DataW.held (Value.pointer (some ⟨obs.getD k 0,0,none⟩))=DataW.held (Value.pointer (some ⟨(putObs l obs t.data.toList ob).getD k 0,0,none⟩));rw[hkeq]
end
end Go.Proofs.YteainaiebcphlaaGreatDoor
