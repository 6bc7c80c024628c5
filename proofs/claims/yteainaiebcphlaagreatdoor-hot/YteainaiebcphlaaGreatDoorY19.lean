import Derived.Test.YteainaiebcphlaaGreatDoorY18
import Derived.Test.YteainaiebcphlaaGreatDoorY12
import Derived.Handy
namespace Go.Proofs.YteainaiebcphlaaGreatDoor
set_option maxRecDepth 1000000
set_option maxHeartbeats 4000000
set_option linter.all false
section
open Go.RowKit
theorem layMk (w:World) (i:Int):Calls Tryz.prog 69 #[.int .i64 i] w fun e w'=>e=.returned (.func (.func 95) #[] #[pt w.heap.size])/\w'=w.alloc (.cells #[.int .i64 i] 2):=by
 have hmf:=mkFunc;go_enter Tryz.func69,Tryz.ntmps69;go_wp2;go_ret;exact⟨rfl,rfl⟩
section
variable {B:Nat} {W w:World} {xb rb mb fb:Nat} {m:MS} {D:GD} {s:St} {lv:Value} {lp:List Int}
theorem askF (h:PR B W w xb rb mb m D s) (he:s.e=0) (hf:FrR B w fb rb m D lv 0 lp):
  Calls Tryz.prog 223 #[pt fb] w fun e w'=>e=.returned (.tuple #[.bool s.test.2,.int .i64 (sgl false s.test.1.e)])/\FPo B W xb rb mb fb w m D lv lp s.test.1 w':=by
 have c0:w.cell? ⟨fb,0,none⟩=some (pt rb):=hf.blk.cell rfl;have HS:=hide (askP h he);have HF:Hid (∀ w1,PPost B W xb rb mb w m D s.test.1 w1->FPo B W xb rb mb fb w m D lv lp s.test.1 (w1.setCell ⟨fb,2,none⟩ (.int .i64 s.test.1.e))/\(∃ y,Blk w1 fb 247 #[pt rb,lv,.int .i64 y])):=fun w1 hp=>FPo.heed h hf hp;clear h he hf;go_enter Tryz.func223,Tryz.ntmps223
 go_wp2_with fail
 refine HS.out.mono ?_;rintro e w1 ⟨rfl,hp⟩;obtain⟨h1,⟨y,h2⟩⟩:=HF.out w1 hp;have H1:=hide h1;clear h1 hp
 go_wp2_with fail
 refine (heedM _ fb s.test.1.e _ _ _ h2).mono ?_;rintro e w2 ⟨rfl,rfl⟩;go_wp2;go_ret2;exact⟨rfl,H1.out⟩
theorem idxP (h:PR B W w xb rb mb m D s) (he:s.e=0) (i:Int) (lp':List Int) (hlp:lp=i :: lp') (hll:lp.length<=9999) (hf:FrR B w fb rb m D lv 0 lp) (s':St) (hs':s'=if s.step.e=0 then s.step.put i else s.step):
  CallsV (.func (.func 205) #[] #[]) (pt fb) w fun e w'=>e=.returned (.int .i64 (sgl false s'.e))/\FPo B W xb rb mb fb w m D lv lp s' w':=by
 refine⟨_,_,_,rfl,ent_idx,?_⟩;show Calls Tryz.prog 205 #[pt fb] w _;have hmf:=mkFunc;have c0:w.cell? ⟨fb,0,none⟩=some (pt rb):=hf.blk.cell rfl;obtain⟨g,cap,hv,hcell⟩:=row_cell hf.row (by rw[hlp];simp);have ci:w.cell? ⟨g,lp'.length,none⟩=some (.int .i64 i):=hcell _ _ (by rw[hlp];simp[ints]);have hlen:lp.length=lp'.length+1:=by rw[hlp];simp
 have c1:w.cell? ⟨fb,1,none⟩=some (.slice (some ⟨g,0,none⟩) (lp'.length+1) cap):=by rw[<-hlen,<-hv];exact hf.blk.cell rfl
 have hin:=hf.ins i (by rw[hlp];simp);have hll2:lp'.length+1<=9999:=by omega
 have hrl:rb < w.heap.size:=by obtain⟨ns,hi,_⟩:=h.inv;exact hi.rblk.lt
 have HS:Hid (∀ w0 nb,Kp w w0 (fun _=>False)->w.heap.size<=nb->Blk w0 nb 2 #[.int .i64 i]->Calls Tryz.prog 68 #[pt rb,.func (.func 95) #[] #[pt nb]] w0 fun e w'=>e=.returned (.int .i64 s'.e)/\PPost B W xb rb mb w m D s' w'):=by
  intro w0 nb hkk hnb hnb0;obtain⟨h0,t0⟩:=h.kp hkk;refine (stepP h0 he (.func (.func 95) #[] #[pt nb]) (s.step.put i) s' hs' (fun e w1 m1 p1 t1=>?_)).mono ?_
  ·obtain⟨ns,hi,_⟩:=h.inv;refine layP p1 e i hin nb (t1.wt.kp.blk hnb0 ?_);rintro (((e|e)|e)|((e|e)|e))
   ·have:=hi.xblk.lt;omega
   ·have:=hi.rblk.lt;omega
   ·have:=h.words.ltm;omega
   ·have:=own_lt hi.srow e;omega
   ·have:=own_lt hi.orow e;omega
   ·have:=h.ult e;omega
  ·rintro e w' ⟨rfl,hp⟩;exact⟨rfl,hp.step t0⟩
 have HF:Hid (∀ w1,PPost B W xb rb mb w m D s' w1->FPo B W xb rb mb fb w m D lv lp s' (w1.setCell ⟨fb,2,none⟩ (.int .i64 s'.e))/\(∃ y,Blk w1 fb 247 #[pt rb,lv,.int .i64 y])):=fun w1 hp=>FPo.heed h hf hp;clear h he hf hs' hcell hlp hv hlen hll hin;go_enter Tryz.func205,Tryz.ntmps205;go_wp2
 go_quiet (fail)
 go_wp2
 go_region_held3 (fun w'=>w'.cell? ⟨fb,0,none⟩=some (pt rb)) (go_keep) (first
  | (go_at_call 69;refine (layMk _ i).mono ?_;rintro e w5 ⟨rfl,rfl⟩)
  | (go_at_call 68;refine (HS.out _ w.heap.size ?_ ?_ ?_).mono ?_;exact ((((Kp.refl w _).drewN nq).drew).alloc _);exact Nat.le_refl _;exact Blk.new _ _ _;rintro e w1 ⟨rfl,hp⟩;obtain⟨h1,⟨y,h2⟩⟩:=HF.out w1 hp;have h4:w1.cell? ⟨fb,0,none⟩=some (pt rb):=h2.cell rfl;have H1:=hide h1;have H2:=hide h2;clear h1 hp h2)
  | (go_at_call 220;refine (heedM _ fb s'.e _ _ _ H2.out).mono ?_;rintro e w2 ⟨rfl,rfl⟩;have k0:(w1.setCell ⟨fb,2,none⟩ (.int .i64 s'.e)).cell? ⟨fb,0,none⟩=some (pt rb):=(H2.out.set 2 _).cell rfl))
 go_wp2;go_ret;exact⟨rfl,H1.out⟩
end
end
section
open Go.RowKit
theorem body_err:∀ (g:Nat) (f:Fr) (lp:List Int) (l:List It) (s s':St),s.e=0->xRun g (jBody f lp l) s=some (s',false)->s'.e=0
 | 0,_,_,_,_,_,_,h=>by cases h
 | g+1,f,lp,[],s,s',he,h=>by
  rw[x_nil] at h;injection h with h;injection h with h _;rw[<-h];exact he
 | g+1,f,lp,x :: l,s,s',he,h=>by
  rw[x_cons] at h
  split at h
  ·cases h
  ·rename_i s1 left1 h1
   split at h
   ·injection h with h;injection h with _ h;cases h
   ·rename_i hn
    have hn:=not_or.1 hn;exact body_err g f lp l s1 s' (by simpa using hn.2) h
theorem body_sgl {g:Nat} {f:Fr} {lp:List Int} {l:List It} {s s':St} {left:Bool} (he:s.e=0) (h:xRun g (jBody f lp l) s=some (s',left)):sgl left s'.e=sig left:=by
 cases left
 ·rw[body_err g f lp l s s' he h];rfl
 ·rw[sgl_yes (.inl rfl)];rfl
section
variable {B:Nat} {W w:World} {xb rb mb fb:Nat} {m:MS} {D:GD} {s:St} {lv:Value} {lp lq:List Int}
theorem St.test_steps_le (s:St) (n:Int) (h:n<=s.steps):n<=s.test.1.steps:=by rw[s.test_steps];omega
theorem ifP (g:Nat) (la lb:List It) (hpq:PQ lp lq) (hB:QB B W g) (h:PR B W w xb rb mb m D s) (he:s.e=0) (hf:FrR B w fb rb m D lv 0 lq) (hlp:(lq.length:Int)<=s.steps) (f:Fr) (ob b1 b2:Nat) (oka:OkL lp la) (okb:OkL lp lb) (va vb:Value) (h1:BD D.d w b1 109 #[va]) (h2:BD D.d w b2 109 #[vb]) (ha:Acts (BD D.d w) D.r m.bk ob va la) (hb:Acts (BD D.d w) D.r m.bk ob vb lb) (hW:D.r ob f) (s':St) (left:Bool)
  (hx:(if s.test.1.e ≠ 0 then some (s.test.1,true) else if s.test.2=true then xRun g (jBody f lp la) s.test.1 else xRun g (jBody f lp lb) s.test.1)=some (s',left)):
  CallsV (.func (.func 222) #[] #[pt b1,pt b2]) (pt fb) w fun e w'=>e=.returned (.int .i64 (sgl left s'.e))/\FPo B W xb rb mb fb w m D lv lq s' w':=by
 refine⟨_,_,_,rfl,ent_choose,?_⟩;show Calls Tryz.prog 222 #[pt fb,pt b1,pt b2] w _;have HA:=hide (askF h he hf);have HKD:Hid (∀ w' m' D' lv',FT xb rb mb fb w w' m m' D D' lv lv'->(∀ b t c,BD D.d w b t c->BD D'.d w' b t c)):=fun w' m' D' lv' ht=>hf.keepD h ht;have HX:=hide hx;have Ha:=hide ha;have Hb:=hide hb;have HW:=hide hW;have H1:=hide h1;have H2:=hide h2;have hst:=St.test_steps_le s _ hlp;obtain⟨ao,cao,rfl⟩:=ha.form;obtain⟨bo,cbo,rfl⟩:=hb.form;clear h he hf hx ha hb hW h1 h2 hlp;go_enter Tryz.func222,Tryz.ntmps222
 go_wp2_with fail
 refine HA.out.mono ?_;rintro e w1 ⟨rfl,m1,D1,lv1,hr1,hf1,ht1⟩;have kd:=HKD.out _ _ _ _ ht1;have c1:w1.cell? ⟨b1,0,none⟩=some (.slice ao la.length cao):=(kd _ _ _ H1.out).2.cell rfl;have c2:w1.cell? ⟨b2,0,none⟩=some (.slice bo lb.length cbo):=(kd _ _ _ H2.out).2.cell rfl;by_cases hte:s.test.1.e=0
 ·rw[hte,sgl_no];have hx:=HX.out;rw[if_neg (by simpa using hte)] at hx;rw[hte] at hf1;have hW1:D1.r ob f:=ht1.rg _ _ HW.out;have HT1:=hide ht1
  cases ht2:s.test.2
  ·rw[ht2,if_neg (by decide)] at hx;have HC:=hide (hB w1 xb rb mb fb m1 D1 s.test.1 s' f lp lq lv1 ob _ lb left hpq hr1 hte hf1 hst okb (by rw[ht1.bk];exact Hb.out.mono kd ht1.rg) hW1 hx);have HSG:=hide (body_sgl hte hx);clear hx kd hr1 hf1 hW1 ht1 HA
   go_wp2_with fail
   refine HC.out.mono ?_;rintro e w2 ⟨rfl,hp⟩;have HP:=hide hp;clear hp;go_wp2;go_ret;rw[HSG.out];exact⟨rfl,HP.out.step HT1.out⟩
  ·rw[ht2,if_pos rfl] at hx;have HC:=hide (hB w1 xb rb mb fb m1 D1 s.test.1 s' f lp lq lv1 ob _ la left hpq hr1 hte hf1 hst oka (by rw[ht1.bk];exact Ha.out.mono kd ht1.rg) hW1 hx);have HSG:=hide (body_sgl hte hx);clear hx kd hr1 hf1 hW1 ht1 HA
   go_wp2_with fail
   refine HC.out.mono ?_;rintro e w2 ⟨rfl,hp⟩;have HP:=hide hp;clear hp;go_wp2;go_ret;rw[HSG.out];exact⟨rfl,HP.out.step HT1.out⟩
 ·rw[sgl_yes (.inr hte)];have hx:=HX.out;rw[if_pos hte] at hx;injection hx with hx;injection hx with hx1 hx2;have HS1:=hide hx1;have HS2:=hide hx2;have HR:=hide hr1;have HF:=hide hf1;have HT:=hide ht1;clear hx1 hx2 hr1 hf1 ht1 kd hte;go_wp2;go_ret;rw[<-HS1.out,<-HS2.out,sgl_yes (.inl rfl)];exact⟨rfl,m1,D1,lv1,HR.out,HF.out,HT.out⟩
end
end
section
open Go.RowKit
def stOf (w:World) (rb:Nat):Int:=match w.cell? ⟨rb,2,none⟩ with
 | some (.int _ n)=>n
 | _=>0
theorem PR.stOf {B:Nat} {W w:World} {xb rb mb:Nat} {m:MS} {D:GD} {s:St} (h:PR B W w xb rb mb m D s) (he:s.e=0):Go.Proofs.YteainaiebcphlaaGreatDoor.stOf w rb=s.steps:=by
 obtain⟨ns,hi,_⟩:=h.inv;have:w.cell? ⟨rb,2,none⟩=some (.int .i64 m.st):=hi.rblk.cell rfl;unfold Go.Proofs.YteainaiebcphlaaGreatDoor.stOf;rw[this,<-h.st he]
structure LAt (B:Nat) (W:World) (g xb rb mb fb:Nat) (w wr:World) (m:MS) (D:GD) (s':St) (f:Fr) (lp lq:List Int) (lv:Value) (x:It) (left:Bool):Prop where
 ex:∃ g' m1 D1 lv1 s1,g'<=g/\PR B W wr xb rb mb m1 D1 s1/\s1.e=0/\FrR B wr fb rb m1 D1 lv1 0 lq/\(lq.length:Int)<=s1.steps/\FT xb rb mb fb w wr m m1 D D1 lv lv1/\xRun g' (jItem f lp x) s1=some (s',left)/\(∀ b t c,BD D.d w b t c->BD D1.d wr b t c)
section
variable {B:Nat} {W w:World} {xb rb mb fb:Nat} {m:MS} {D:GD} {s:St} {lv:Value} {lp lq:List Int}
theorem untilP (g:Nat) (hpq:PQ lp lq) (hB:∀ g',g' < g->QB B W g') (h:PR B W w xb rb mb m D s) (he:s.e=0) (hf:FrR B w fb rb m D lv 0 lq) (hlp:(lq.length:Int)<=s.steps) (f:Fr) (ob b1:Nat) (va:Value) (x:It) (hok:OkX lp x) (hk:x.kind=117) (h1:BD D.d w b1 109 #[va]) (ha:Acts (BD D.d w) D.r m.bk ob va x.a) (hW:D.r ob f) (s':St) (left:Bool)
  (hx:xRun g (jItem f lp x) s=some (s',left)):
  CallsV (.func (.func 224) #[] #[pt b1]) (pt fb) w fun e w'=>e=.returned (.int .i64 (sgl left s'.e))/\FPo B W xb rb mb fb w m D lv lq s' w':=by
 refine⟨_,_,_,rfl,ent_until,?_⟩;show Calls Tryz.prog 224 #[pt fb,pt b1] w _;have h0:Hid (LAt B W g xb rb mb fb w w m D s' f lp lq lv x left):=⟨⟨g,m,D,lv,s,Nat.le_refl _,h,he,hf,hlp,FT.refl _ _ _ _ _ _ _ _,hx,fun _ _ _ h=>h⟩⟩;have HB:=hide hB;have Ha:=hide ha;have HW:=hide hW;have H1:=hide h1;obtain⟨ao,cao,rfl⟩:=ha.form;clear hB h he hf hlp ha hW h1 hx;go_enter Tryz.func224,Tryz.ntmps224;go_wp2
 go_loopw [6] (fun _ wr=>LAt B W g xb rb mb fb w wr m D s' f lp lq lv x left) (fun _ wr=>(2002 - stOf wr rb).toNat)
 case atStart=>exact h0.out
 case round=>
  obtain⟨g',m1,D1,lv1,s1,hg,hr,he,hf,hlp,hto,hx,kd⟩:=hrel;have hso:=hr.stOf he;have hs1:=hr.good.s2 he
  cases g' with
  | zero=>cases hx
  | succ g'=>
   rw[x_until _ _ _ _ _ hk] at hx
   cases hb:xRun g' (jBody f lp x.a) s1 with
   | none=>rw[hb] at hx;cases hx
   | some p=>
    obtain⟨s2,left2⟩:=p;rw[hb] at hx;dsimp only at hx;have c1:wr.cell? ⟨b1,0,none⟩=some (.slice ao x.a.length cao):=(kd _ _ _ H1.out).2.cell rfl;have HC:=hide (HB.out g' (by omega) wr xb rb mb fb m1 D1 s1 s2 f lp lq lv1 ob _ x.a left2 hpq hr he hf hlp (hok.ab (by omega)).1 (by rw[hto.bk];exact Ha.out.mono kd hto.rg) (hto.rg _ _ HW.out) hb);have HKD:Hid (∀ w' m' D' lv',FT xb rb mb fb wr w' m1 m' D1 D' lv1 lv'->(∀ b t c,BD D1.d wr b t c->BD D'.d w' b t c)):=fun w' m' D' lv' ht=>hf.keepD hr ht;have hst:=(xRun_keep _ _ _ _ _ hb).2;have HKd:=hide kd;have HTo:=hide hto;clear hr hf kd hto
    go_wp2_with fail
    refine HC.out.mono ?_;rintro e w1 ⟨rfl,m2,D2,lv2,hr2,hf2,ht2⟩;have kd2:=HKD.out _ _ _ _ ht2
    cases left2 with
    | true=>
     rw[if_pos rfl] at hx;injection hx with hx;injection hx with q1 q2;subst q1;subst q2;have HR:=hide hr2;have HF:=hide hf2;have HT:=hide (HTo.out.trans ht2);clear hr2 hf2 ht2 kd2 hb;rw[show sig true=1 from rfl];go_wp2;go_ret;rw[sgl_yes (.inl rfl)];exact⟨rfl,m2,D2,lv2,HR.out,HF.out,HT.out⟩
    | false=>
     rw[if_neg (by decide)] at hx;have he2:=body_err _ _ _ _ _ _ he hb;rw[he2] at hf2;rw[show sig false=0 from rfl];have HA:=hide (askF hr2 he2 hf2);have HKD2:Hid (∀ w' m' D' lv',FT xb rb mb fb w1 w' m2 m' D2 D' lv2 lv'->(∀ b t c,BD D2.d w1 b t c->BD D'.d w' b t c)):=fun w' m' D' lv' ht=>hf2.keepD hr2 ht;have HTo2:=hide (HTo.out.trans ht2);have HKd2:Hid (∀ b t c,BD D.d w b t c->BD D2.d w1 b t c):=fun b t c hh=>kd2 b t c (HKd.out b t c hh);have hts:=s2.test_steps;have HX:=hide hx;clear hr2 hf2 ht2 kd2 hb hx HKD HC
     go_wp2_with fail
     refine HA.out.mono ?_;rintro e w2 ⟨rfl,m3,D3,lv3,hr3,hf3,ht3⟩;have kd3:=HKD2.out _ _ _ _ ht3;have HT3:=hide (HTo2.out.trans ht3);have hx:=HX.out;by_cases hte:s2.test.1.e=0
     ·rw[if_neg (by simpa using hte)] at hx;rw[hte,sgl_no]
      cases htt:s2.test.2 with
      | true=>
       rw[htt,if_pos rfl] at hx;injection hx with hx;injection hx with q1 q2;have HQ1:=hide q1;have HQ2:=hide q2;have HR:=hide hr3;have HF:=hide hf3;have HTE:=hide hte;clear hr3 hf3 ht3 kd3 q1 q2 htt hte HX;go_wp2;go_ret;rw[<-HQ2.out,<-HQ1.out,HTE.out,sgl_no];exact⟨rfl,m3,D3,lv3,HR.out,HF.out,HT3.out⟩
      | false=>
       rw[htt,if_neg (by decide)] at hx;have hso3:=hr3.stOf hte;have hs3:=hr3.good.s2 hte;rw[hte] at hf3;have HN:Hid (LAt B W g xb rb mb fb w w2 m D s' f lp lq lv x left):=⟨⟨g',m3,D3,lv3,s2.test.1,by omega,hr3,hte,hf3,by omega,HT3.out,hx,fun b t c hh=>kd3 b t c (HKd2.out b t c hh)⟩⟩;clear hr3 hf3 ht3 kd3 htt HX hx;go_wp2
       go_roundw
       case rel=>exact HN.out
       case measure=>rw[hso,hso3];omega
     ·rw[if_pos hte] at hx;injection hx with hx;injection hx with q1 q2;rw[sgl_yes (.inr hte)];have HQ1:=hide q1;have HQ2:=hide q2;have HR:=hide hr3;have HF:=hide hf3;clear hr3 hf3 ht3 kd3 q1 q2 hte HX
      cases htt:s2.test.2
      ·clear htt;go_wp2;go_ret;rw[<-HQ2.out,<-HQ1.out,sgl_yes (.inl rfl)];exact⟨rfl,m3,D3,lv3,HR.out,HF.out,HT3.out⟩
      ·clear htt;go_wp2;go_ret;rw[<-HQ2.out,<-HQ1.out,sgl_yes (.inl rfl)];exact⟨rfl,m3,D3,lv3,HR.out,HF.out,HT3.out⟩
end
end
section
open Go.RowKit
section
variable {B:Nat} {W w:World} {xb rb mb fb:Nat} {m:MS} {D:GD} {s:St} {lv:Value} {lp lq:List Int}
theorem whileP (g:Nat) (hpq:PQ lp lq) (hB:∀ g',g' < g->QB B W g') (h:PR B W w xb rb mb m D s) (he:s.e=0) (hf:FrR B w fb rb m D lv 0 lq) (hlp:(lq.length:Int)<=s.steps) (f:Fr) (ob b1 b2:Nat) (va vb:Value) (x:It) (hok:OkX lp x) (hk:x.kind=119) (h1:BD D.d w b1 109 #[va]) (h2:BD D.d w b2 109 #[vb]) (ha:Acts (BD D.d w) D.r m.bk ob va x.a) (hbb:Acts (BD D.d w) D.r m.bk ob vb x.b) (hW:D.r ob f) (s':St) (left:Bool)
  (hx:xRun g (jItem f lp x) s=some (s',left)):
  CallsV (.func (.func 225) #[] #[pt b1,pt b2]) (pt fb) w fun e w'=>e=.returned (.int .i64 (sgl left s'.e))/\FPo B W xb rb mb fb w m D lv lq s' w':=by
 refine⟨_,_,_,rfl,ent_while,?_⟩;show Calls Tryz.prog 225 #[pt fb,pt b1,pt b2] w _;have h0:Hid (LAt B W g xb rb mb fb w w m D s' f lp lq lv x left):=⟨⟨g,m,D,lv,s,Nat.le_refl _,h,he,hf,hlp,FT.refl _ _ _ _ _ _ _ _,hx,fun _ _ _ h=>h⟩⟩;have HB:=hide hB;have Ha:=hide ha;have HW:=hide hW;have H1:=hide h1;have Hb:=hide hbb;have H2:=hide h2;obtain⟨ao,cao,rfl⟩:=ha.form;obtain⟨bo,cbo,rfl⟩:=hbb.form;clear hB h he hf hlp ha hbb hW h1 h2 hx;go_enter Tryz.func225,Tryz.ntmps225;go_wp2
 go_loopw [6] (fun _ wr=>LAt B W g xb rb mb fb w wr m D s' f lp lq lv x left) (fun _ wr=>(2002 - stOf wr rb).toNat)
 case atStart=>exact h0.out
 case round=>
  obtain⟨g',m1,D1,lv1,s1,hg,hr,he,hf,hlp,hto,hx,kd⟩:=hrel;have hso:=hr.stOf he;have hs1:=hr.good.s2 he
  cases g' with
  | zero=>cases hx
  | succ g'=>
   rw[x_while _ _ _ _ _ hk] at hx
   cases hb:xRun g' (jBody f lp x.a) s1 with
   | none=>rw[hb] at hx;cases hx
   | some p=>
    obtain⟨s2,left2⟩:=p;rw[hb] at hx;dsimp only at hx;have c1:wr.cell? ⟨b1,0,none⟩=some (.slice ao x.a.length cao):=(kd _ _ _ H1.out).2.cell rfl;have HC:=hide (HB.out g' (by omega) wr xb rb mb fb m1 D1 s1 s2 f lp lq lv1 ob _ x.a left2 hpq hr he hf hlp (hok.ab (by omega)).1 (by rw[hto.bk];exact Ha.out.mono kd hto.rg) (hto.rg _ _ HW.out) hb);have HKD:Hid (∀ w' m' D' lv',FT xb rb mb fb wr w' m1 m' D1 D' lv1 lv'->(∀ b t c,BD D1.d wr b t c->BD D'.d w' b t c)):=fun w' m' D' lv' ht=>hf.keepD hr ht;have hst:=(xRun_keep _ _ _ _ _ hb).2;have HKd:=hide kd;have HTo:=hide hto;clear hr hf kd hto
    go_wp2_with fail
    refine HC.out.mono ?_;rintro e w1 ⟨rfl,m2,D2,lv2,hr2,hf2,ht2⟩;have kd2:=HKD.out _ _ _ _ ht2
    cases left2 with
    | true=>
     rw[if_pos rfl] at hx;injection hx with hx;injection hx with q1 q2;subst q1;subst q2;have HR:=hide hr2;have HF:=hide hf2;have HT:=hide (HTo.out.trans ht2);clear hr2 hf2 ht2 kd2 hb;rw[show sig true=1 from rfl];go_wp2;go_ret;rw[sgl_yes (.inl rfl)];exact⟨rfl,m2,D2,lv2,HR.out,HF.out,HT.out⟩
    | false=>
     rw[if_neg (by decide)] at hx;have he2:=body_err _ _ _ _ _ _ he hb;rw[he2] at hf2;rw[show sig false=0 from rfl];have HA:=hide (askF hr2 he2 hf2);have HKD2:Hid (∀ w' m' D' lv',FT xb rb mb fb w1 w' m2 m' D2 D' lv2 lv'->(∀ b t c,BD D2.d w1 b t c->BD D'.d w' b t c)):=fun w' m' D' lv' ht=>hf2.keepD hr2 ht;have HTo2:=hide (HTo.out.trans ht2);have HKd2:Hid (∀ b t c,BD D.d w b t c->BD D2.d w1 b t c):=fun b t c hh=>kd2 b t c (HKd.out b t c hh);have hts:=s2.test_steps;have HX:=hide hx;clear hr2 hf2 ht2 kd2 hb hx HKD HC
     go_wp2_with fail
     refine HA.out.mono ?_;rintro e w2 ⟨rfl,m3,D3,lv3,hr3,hf3,ht3⟩;have kd3:=HKD2.out _ _ _ _ ht3;have HT3:=hide (HTo2.out.trans ht3);have hx:=HX.out;by_cases hte:s2.test.1.e=0
     ·rw[if_neg (by simpa using hte)] at hx;rw[hte,sgl_no]
      cases htt:s2.test.2 with
      | false=>
       rw[htt,if_pos rfl] at hx;injection hx with hx;injection hx with q1 q2;have HQ1:=hide q1;have HQ2:=hide q2;have HR:=hide hr3;have HF:=hide hf3;have HTE:=hide hte;clear hr3 hf3 ht3 kd3 q1 q2 htt hte HX;go_wp2;go_ret;rw[<-HQ2.out,<-HQ1.out,HTE.out,sgl_no];exact⟨rfl,m3,D3,lv3,HR.out,HF.out,HT3.out⟩
      | true=>
       rw[htt,if_neg (by decide)] at hx
       cases hb3:xRun g' (jBody f lp x.b) s2.test.1 with
       | none=>rw[hb3] at hx;cases hx
       | some p3=>
        obtain⟨s3,left3⟩:=p3;rw[hb3] at hx;dsimp only at hx;rw[hte] at hf3;have kdw:∀ b t c,BD D.d w b t c->BD D3.d w2 b t c:=fun b t c hh=>kd3 b t c (HKd2.out b t c hh);have c2:w2.cell? ⟨b2,0,none⟩=some (.slice bo x.b.length cbo):=(kdw _ _ _ H2.out).2.cell rfl;have HC3:=hide (HB.out g' (by omega) w2 xb rb mb fb m3 D3 s2.test.1 s3 f lp lq lv3 ob _ x.b left3 hpq hr3 hte hf3 (by omega) (hok.ab (by omega)).2 (by rw[HT3.out.bk];exact Hb.out.mono kdw HT3.out.rg) (HT3.out.rg _ _ HW.out) hb3);have HKD3:Hid (∀ w' m' D' lv',FT xb rb mb fb w2 w' m3 m' D3 D' lv3 lv'->(∀ b t c,BD D3.d w2 b t c->BD D'.d w' b t c)):=fun w' m' D' lv' ht=>hf3.keepD hr3 ht;have hst3:=(xRun_keep _ _ _ _ _ hb3).2;have HKw:=hide kdw;clear hr3 hf3 ht3 kd3 kdw htt HX
        go_wp2_with fail
        refine HC3.out.mono ?_;rintro e w3 ⟨rfl,m4,D4,lv4,hr4,hf4,ht4⟩;have kd4:=HKD3.out _ _ _ _ ht4;have HT4:=hide (HT3.out.trans ht4)
        cases left3 with
        | true=>
         rw[if_pos rfl] at hx;injection hx with hx;injection hx with q1 q2;subst q1;subst q2;have HR:=hide hr4;have HF:=hide hf4;clear hr4 hf4 ht4 kd4 hb3;rw[show sig true=1 from rfl];go_wp2;go_ret;rw[sgl_yes (.inl rfl)];exact⟨rfl,m4,D4,lv4,HR.out,HF.out,HT4.out⟩
        | false=>
         rw[if_neg (by decide)] at hx;have he4:=body_err _ _ _ _ _ _ hte hb3;have hso4:=hr4.stOf he4;have hs4:=hr4.good.s2 he4;rw[he4] at hf4;rw[show sig false=0 from rfl];have HN:Hid (LAt B W g xb rb mb fb w w3 m D s' f lp lq lv x left):=⟨⟨g',m4,D4,lv4,s3,by omega,hr4,he4,hf4,by omega,HT4.out,hx,fun b t c hh=>kd4 b t c (HKw.out b t c hh)⟩⟩;clear hr4 hf4 ht4 kd4 hb3 hx;go_wp2
         go_roundw
         case rel=>exact HN.out
         case measure=>rw[hso,hso4];omega
     ·rw[if_pos hte] at hx;injection hx with hx;injection hx with q1 q2;rw[sgl_yes (.inr hte)];have HQ1:=hide q1;have HQ2:=hide q2;have HR:=hide hr3;have HF:=hide hf3;clear hr3 hf3 ht3 kd3 q1 q2 hte HX
      cases htt:s2.test.2
      ·clear htt;go_wp2;go_ret;rw[<-HQ2.out,<-HQ1.out,sgl_yes (.inl rfl)];exact⟨rfl,m3,D3,lv3,HR.out,HF.out,HT3.out⟩
      ·clear htt;go_wp2;go_ret;rw[<-HQ2.out,<-HQ1.out,sgl_yes (.inl rfl)];exact⟨rfl,m3,D3,lv3,HR.out,HF.out,HT3.out⟩
end
end
section
open Go.RowKit
def doTake (s:St):St × Int × Int:=if s.step.e=0 then match s.step.rs with
 | b :: m :: r=>({ s.step with rs:=r },m,b)
 | _=>(s.step.err 6,0,0) else (s.step,0,0)
section
variable {B:Nat} {W w:World} {xb rb mb fb:Nat} {m:MS} {D:GD} {s:St} {lv:Value} {lp:List Int}
theorem boundsP (h:PR B W w xb rb mb m D s) (he:s.e=0):
  Calls Tryz.prog 227 #[pt rb] w fun e w'=>e=.returned (.tuple #[.int .i64 (doTake s).2.1,.int .i64 (doTake s).2.2,.int .i64 (doTake s).1.e])/\PPost B W xb rb mb w m D (doTake s).1 w':=by
 obtain⟨ns,hi,hns⟩:=h.inv;have hns:=hns he;subst hns;have hgs:=h.good.step he;by_cases hf:m.st < 2000
 ·have hst:s.steps < 2000:=by rw[<-h.st he];exact hf
  have hs:=St.step_ok hst;have hse:s.step.e=0:=by rw[hs];exact he
  have hur:∀ (q:s.rs.length < 2),doTake s=(s.step.err 6,0,0)->Calls Tryz.prog 227 #[pt rb] w fun e w'=>e=.returned (.tuple #[.int .i64 (doTake s).2.1,.int .i64 (doTake s).2.2,.int .i64 (doTake s).1.e])/\PPost B W xb rb mb w m D (doTake s).1 w':=by
   intro q HT;rw[HT];have hg:=hgs.err (k:=6) (by decide);refine boundsM w rb 0 0 0 6 _ ((stTk_under w xb rb m _ 2 hi h.st0 hf (by simp;omega) (by decide)).mono ?_);rintro e w' ⟨rfl,hi',ht'⟩;refine⟨rfl,fun w2 hk=>PPost.after ⟨_,D,h.turn ht' rfl ⟨_,hi',(fun h=>by cases h)⟩ (by rw[hs];exact h.mem) (by rw[hs];exact h.out) (by have:=h.st0;show 0<=m.st+1;omega) (by show m.st+1<=2000;omega) (fun h=>by cases h) (by rw[hs];exact h.dp) (by rw[hs];exact⟨rfl,rfl,rfl,rfl⟩) hg⟩ hk⟩
  cases hrs:s.rs with
  | nil=>exact hur (by rw[hrs];decide) (by unfold doTake;rw[if_pos hse,show s.step.rs=[] by rw[hs];exact hrs])
  | cons b r1=>
   cases hr1:r1 with
   | nil=>exact hur (by rw[hrs,hr1];simp) (by unfold doTake;rw[if_pos hse,show s.step.rs=[b] by rw[hs,<-hr1];exact hrs])
   | cons a r=>
    have hrs2:s.rs=b :: a :: r:=by rw[hrs,hr1]
    have HT:doTake s=({ s.step with rs:=r },a,b):=by unfold doTake;rw[if_pos hse,show s.step.rs=b :: a :: r by rw[hs];exact hrs2]
    have hg:SGood { s.step with rs:=r }:=hgs.tail (fun x hx=>by rw[hs];show x∈s.rs;rw[hrs2];simp[hx]) (by rw[hs];show r.length<=s.rs.length;rw[hrs2];simp;omega);rw[HT];rw[hrs2] at hi;rw[show ({ s.step with rs:=r }:St).e=0 from hse];refine boundsM w rb a b 0 0 _ ((stTk2 w xb rb m b a r hi h.st0 hf).mono ?_);rintro e w' ⟨v',rfl,hi',ht'⟩;refine⟨rfl,fun w2 hk=>PPost.after ⟨_,D,h.turn ht' rfl ⟨_,hi',fun _=>rfl⟩ (by rw[hs];exact h.mem) (by rw[hs];exact h.out) (by have:=h.st0;show 0<=m.st+1;omega) (by show m.st+1<=2000;omega) (fun _=>by rw[hs];show m.st+1=s.steps+1;rw[h.st he]) (by rw[hs];exact h.dp) (by rw[hs];exact⟨rfl,rfl,rfl,rfl⟩) hg⟩ hk⟩
 ·obtain⟨h1,h2⟩:=h.fuel he hf;have HT:doTake s=(s.step,0,0):=by unfold doTake;rw[if_neg (by rw[h2];decide)]
  rw[HT,h2];refine boundsM w rb 0 0 0 12 _ ((stTk_no w xb rb m _ 2 hi hf).mono ?_);rintro e w' ⟨rfl,hk'⟩;exact⟨rfl,fun w2 hk=>PPost.after ⟨m,D,(h1.kp hk').1,(h1.kp hk').2⟩ hk⟩
theorem roundPut {w2 w3:World} {g5 cap5:Nat} {bo:Option Addr} {cbo:Nat} (h:PR B W w2 xb rb mb m D s) (hf:FrR B w2 fb rb m D (.slice bo lp.length cbo) 0 lp) {n:Int} (hk:Kp w2 w3 (fun k=>own (.slice bo lp.length cbo) k)) (hown:w3.ownsRow 0 2 1 (.slice (some ⟨g5,0,none⟩) (lp.length+1) cap5) (lp.length+1) (ints lp.reverse ++ [.int .i64 n])) (hkeep:w3.ownsRow 0 2 1 (.slice bo lp.length cbo) lp.length (ints lp.reverse))
  (hnx:∀ k,own (.slice (some ⟨g5,0,none⟩) (lp.length+1) cap5) k->own (.slice bo lp.length cbo) k\/w2.heap.size+1<=k) (n':Int) (hn':In n') (e:n'=n:=by rfl):
  PR B W (w3.setCell ⟨fb,1,none⟩ (.slice (some ⟨g5,0,none⟩) (lp.length+1) cap5)) xb rb mb m D s/\FrR B (w3.setCell ⟨fb,1,none⟩ (.slice (some ⟨g5,0,none⟩) (lp.length+1) cap5)) fb rb m D (.slice (some ⟨g5,0,none⟩) (lp.length+1) cap5) 0 (n :: lp) /\
   Kp w2 (w3.setCell ⟨fb,1,none⟩ (.slice (some ⟨g5,0,none⟩) (lp.length+1) cap5)) (fun k=>own (.slice bo lp.length cbo) k\/k=fb)/\(w3.setCell ⟨fb,1,none⟩ (.slice (some ⟨g5,0,none⟩) (lp.length+1) cap5)).ownsRow 0 2 1 (.slice bo lp.length cbo) lp.length (ints lp.reverse):=by
 subst e;obtain⟨n1,n2,n3,n4,n5,n6,n7⟩:=hf.ne h;have hbf3:Blk w3 fb 247 #[pt rb,.slice bo lp.length cbo,.int .i64 0]:=hk.blk hf.blk n7;have hfl:=hf.blk.lt;have hk4:Kp w2 (w3.setCell ⟨fb,1,none⟩ (.slice (some ⟨g5,0,none⟩) (lp.length+1) cap5)) (fun k=>own (.slice bo lp.length cbo) k\/k=fb):=(hk.mono (fun _ _ e=>.inl e)).set (a:=⟨fb,1,none⟩) (fun _=>.inr rfl) _;have nv:¬ own (.slice (some ⟨g5,0,none⟩) (lp.length+1) cap5) fb:=fun e=>by
  rcases hnx _ e with e|e
  ·exact n7 e
  ·omega
 have hbs:=h.safe.bs;have hr4:=h.other hk4 (by rintro (e|e);exact (hf.lvn h e).1 rfl;exact n1 e.symm) (by rintro (e|e);exact (hf.lvn h e).2.1 rfl;exact n2 e.symm) (by rintro (e|e);exact (hf.lvn h e).2.2.1 rfl;exact n3 e.symm) (by rintro (e|e);exact (hf.lvn h e).2.2.2.1 rfl;exact n4 e.symm)
  (fun k hk=>by rintro (e|e);exact (hf.lvn h e).2.2.2.2.1 hk;exact n5 (e ▸ hk)) (fun k hk=>by rintro (e|e);exact (hf.lvn h e).2.2.2.2.2 hk;exact n6 (e ▸ hk)) (fun k hk=>by rintro (e|e);exact hf.nl k e hk;exact hf.nd (e ▸ hk)) (fun k hk=>by rintro (e|e);exact hf.nlu k e hk;exact hf.nu (e ▸ hk)) (fun k hk=>by rintro (e|e);have:=hf.bl k e;omega;have:=hf.bf;omega)
 refine⟨hr4,⟨hbf3.set 1 _,?_,?_,fun k hk2=>?_,hf.nd,fun k hk2 hd=>?_,hf.nu,fun k hk2 hd=>?_,hf.bf,fun k hk2=>?_⟩,hk4,ownsRow_setCell_other (a:=⟨fb,1,none⟩) hkeep (fun e=>n7 e) _⟩
 ·have:=ownsRow_setCell_other (a:=⟨fb,1,none⟩) hown nv (.slice (some ⟨g5,0,none⟩) (lp.length+1) cap5)
  simpa [ints] using this
 ·intro x hx;rcases List.mem_cons.1 hx with e|e
  ·rw[e];exact hn'
  ·exact hf.ins x e
 ·rcases hnx k hk2 with e|e
  ·exact (hf.lvn h e).2.2.2.2.1
  ·intro e2;obtain⟨ns,hi,_⟩:=h.inv;have:=own_lt hi.srow e2;omega
 ·rcases hnx k hk2 with e|e
  ·exact hf.nl k e hd
  ·have:=(h.sep k hd).1;omega
 ·rcases hnx k hk2 with e|e
  ·exact hf.nlu k e hd
  ·have:=h.ult hd;omega
 ·rcases hnx k hk2 with e|e
  ·exact hf.bl k e
  ·omega
theorem roundEnd {w2 w4 w5:World} {m1 m5:MS} {D1 D5:GD} {s1 s':St} {g5 cap5:Nat} {bo:Option Addr} {cbo:Nat} {n:Int} (h2:PR B W w2 xb rb mb m1 D1 s1) (hf2:FrR B w2 fb rb m1 D1 (.slice bo lp.length cbo) 0 lp) (ht2:FT xb rb mb fb w w2 m m1 D D1 (.slice bo lp.length cbo) (.slice bo lp.length cbo))
  (_h4:PR B W w4 xb rb mb m1 D1 s1) (hf4:FrR B w4 fb rb m1 D1 (.slice (some ⟨g5,0,none⟩) (lp.length+1) cap5) 0 (n :: lp)) (hk:Kp w2 w4 (fun k=>own (.slice bo lp.length cbo) k\/k=fb)) (hrow:w4.ownsRow 0 2 1 (.slice bo lp.length cbo) lp.length (ints lp.reverse))
  (hnx:∀ k,own (.slice (some ⟨g5,0,none⟩) (lp.length+1) cap5) k->own (.slice bo lp.length cbo) k\/w2.heap.size+1<=k)
  (h5:PR B W w5 xb rb mb m5 D5 s') (hf5:FrR B w5 fb rb m5 D5 (.slice (some ⟨g5,0,none⟩) (lp.length+1) cap5) s'.e (n :: lp)) (ht5:FT xb rb mb fb w4 w5 m1 m5 D1 D5 (.slice (some ⟨g5,0,none⟩) (lp.length+1) cap5) (.slice (some ⟨g5,0,none⟩) (lp.length+1) cap5)):
  FPo B W xb rb mb fb w m D (.slice bo lp.length cbo) lp s' (w5.setCell ⟨fb,1,none⟩ (.slice bo lp.length cbo)):=by
 obtain⟨n1,n2,n3,n4,n5,n6,n7⟩:=hf5.ne h5;obtain⟨_,_,_,_,_,_,n72⟩:=hf2.ne h2;have hsz4:=hk.size;have hsz5:=ht5.wt.kp.size;have hlv2:∀ k,own (.slice bo lp.length cbo) k->k < w2.heap.size:=fun k e=>own_lt hf2.row e;have hrow5:w5.ownsRow 0 2 1 (.slice bo lp.length cbo) lp.length (ints lp.reverse):=by
  rcases hrow.2 with⟨hv,h0⟩|⟨g,cap,cur,hv,hb,hg,q1,q2,q3,q4⟩
  ·exact⟨hrow.1,.inl ⟨hv,h0⟩⟩
  ·have hog:own (.slice bo lp.length cbo) g:=by rw[hv];simp[own,Value.ownBlock]
   by_cases hg5:g=g5
   ·subst hg5;rcases hf4.row.2 with⟨hv4,_⟩|⟨g',cap',cur',hv4,_,hg4,_,_,q34,_⟩
    ·cases hv4
    ·injection hv4 with a1 _ a3;injection a1 with a1;injection a1 with a1;subst a1;subst a3;have hcc:cap5=cap:=by
      have:cur=cur':=(Blk.inj (show Blk w4 g 2 cur from hg) (show Blk w4 g 2 cur' from hg4)).2;rw[this,q34] at q3;omega
     rcases hf5.row.2 with⟨hv5,_⟩|⟨g'',cap'',cur'',hv5,_,hg55,_,_,q35,q45⟩
     ·cases hv5
     ·injection hv5 with b1 _ b3;injection b1 with b1;injection b1 with b1;subst b1;subst b3;refine⟨hrow.1,.inr ⟨g,cap,cur'',hv,Nat.zero_le _,hg55,q1,q2,by rw[q35,hcc],?_⟩⟩;have hcut:cur''.toList.take (lp.length * 1)=(cur''.toList.take ((n :: lp).length * 1)).take (lp.length * 1):=by rw[List.take_take];congr 1;simp
      rw[hcut,q45];simp[ints]
   ·have hn5:¬ own (.slice (some ⟨g5,0,none⟩) (lp.length+1) cap5) g:=by simp[own,Value.ownBlock];exact fun e=>hg5 e.symm
    obtain⟨l1,l2,l3,l4,l5,l6⟩:=hf2.lvn h2 hog;have hb5:Blk w5 g 2 cur:=ht5.wt.kp.blk (show Blk w4 g 2 cur from hg) (by
     rintro ((((e|e)|e)|e)|(((e|e)|e)|e))
     ·exact l1 e
     ·exact l2 e
     ·exact l3 e
     ·subst e;exact n72 hog
     ·exact l5 e
     ·exact l6 e
     ·exact hf2.nlu g hog e
     ·exact hn5 e)
    exact⟨hrow.1,.inr ⟨g,cap,cur,hv,hb,hb5,q1,q2,q3,q4⟩⟩
 have hk6:=Kp.one w5 fb 1 (.slice bo lp.length cbo);have hr6:=h5.other hk6 n1.symm n2.symm n3.symm n4.symm (fun k hk e=>n5 (e ▸ hk)) (fun k hk e=>n6 (e ▸ hk)) (fun k hk e=>hf5.nd (e ▸ hk)) (fun k hk e=>hf5.nu (e ▸ hk)) (fun k hk e=>by have:=hf5.bf;omega);have l2n:∀ k,own (.slice bo lp.length cbo) k->¬ own m5.sv k/\¬ D5.d k/\¬ D5.u k:=by
  intro k e;have hlt:=hlv2 k e;obtain⟨l1,l2,l3,l4,l5,l6⟩:=hf2.lvn h2 e;refine⟨?_,?_,?_⟩
  ·intro e5;rcases ht5.wt.nx k (.inl (.inl (.inl e5))) with (((c|c)|c)|c)|c
   ·exact l5 c
   ·exact l6 c
   ·exact hf2.nlu k e c
   ·exact hf5.sep k c e5
   ·omega
  ·intro e5;rcases ht5.nw k e5 with c|c
   ·exact hf2.nl k e c
   ·omega
  ·intro e5;rcases ht5.wt.nx k (.inl (.inr e5)) with (((c|c)|c)|c)|c
   ·exact l5 c
   ·exact l6 c
   ·exact hf2.nlu k e c
   ·exact hf5.nlu k c e5
   ·omega
 refine⟨m5,D5,.slice bo lp.length cbo,hr6,⟨hf5.blk.set 1 _,ownsRow_setCell_other (a:=⟨fb,1,none⟩) hrow5 n72 _,hf2.ins,fun k e=>(l2n k e).1,hf5.nd,fun k e=>(l2n k e).2.1,hf5.nu,fun k e=>(l2n k e).2.2,hf5.bf,hf2.bl⟩,ht2.trans ⟨⟨?_,fun k e=>?_⟩,ht5.up,fun k e=>?_,ht5.rg,ht5.bk,rfl,ht5.jj⟩⟩
 ·have k1:Kp w2 w4 (fun k=>(((k=xb\/k=rb)\/k=mb)\/k=fb)\/(((own m1.sv k\/own m1.ov k)\/D1.u k)\/own (.slice bo lp.length cbo) k)):=hk.mono (fun k _ e=>by rcases e with e|e;exact .inr (.inr e);exact .inl (.inr e));refine⟨ht5.wt.kp.os.trans k1.os,ht5.wt.kp.tape.trans k1.tape,ht5.wt.kp.output.trans k1.output,by have:=hk6.size;omega,fun k hlt hnn=>?_⟩;have a1:=k1.block k hlt hnn;have a2:=ht5.wt.kp.block k (by omega) (fun e=>hnn (by
   rcases e with e|(e|e)
   ·exact .inl e
   ·exact .inr (.inl e)
   ·rcases hnx k e with c|c
    ·exact .inr (.inr c)
    ·omega))
  have a3:=hk6.block k (by omega) (fun e=>hnn (.inl (.inr e)));exact a3.trans (a2.trans a1)
 ·rcases e with e|e
  ·rcases ht5.wt.nx k (.inl e) with (c|c)|c
   ·exact .inl (.inl c)
   ·rcases hnx k c with c|c
    ·exact .inl (.inr c)
    ·exact .inr (by omega)
   ·exact .inr (by omega)
  ·exact .inl (.inr e)
 ·rcases ht5.nw k e with c|c
  ·exact .inl c
  ·exact .inr (by omega)
theorem roundX (g:Nat) (lp lq:List Int) (hpq:PQ lp lq) (hB:QB B W g) (h:PR B W w xb rb mb m D s) (he:s.e=0) (hf:FrR B w fb rb m D lv 0 lq) (hlp:(lq.length:Int)<=s.steps) (f:Fr) (ob:Nat) (va:Value) (la:List It) (n:Int) (hn:In n) (hok:OkL (n :: lp) la) (ha:Acts (BD D.d w) D.r m.bk ob va la) (hW:D.r ob f) (s':St) (left:Bool)
  (hx:(if s.step.e ≠ 0 then some (s.step,true) else xRun g (jBody f (n :: lp) la) s.step)=some (s',left)):
  Calls Tryz.prog 228 #[pt fb,.int .i64 n,va] w fun e w'=>e=.returned (.int .i64 (sig left))/\FPo B W xb rb mb fb w m D lv lq s' w':=by
 have hmf:=mkFunc;obtain⟨ao,cao,rfl⟩:=ha.form;have c0:w.cell? ⟨fb,0,none⟩=some (pt rb):=hf.blk.cell rfl;have HS:Hid (∀ w0,Kp w w0 (fun _=>False)->Calls Tryz.prog 68 #[pt rb,.func (.func 231) #[] #[]] w0 fun e w'=>e=.returned (.int .i64 s.step.e)/\PPost B W xb rb mb w m D s.step w'):=by
  intro w0 hk;obtain⟨h0,t0⟩:=h.kp hk;refine (stepP h0 he (.func (.func 231) #[] #[]) s.step s.step (by split <;> rfl) (fun e w1 m1 p1 t1=>nothingP p1 e)).mono ?_
  rintro e w' ⟨rfl,hp⟩;exact⟨rfl,hp.step t0⟩
 have HF:Hid (∀ w1,PPost B W xb rb mb w m D s.step w1->FPo B W xb rb mb fb w m D lv lq s.step (w1.setCell ⟨fb,2,none⟩ (.int .i64 s.step.e))/\(∃ y,Blk w1 fb 247 #[pt rb,lv,.int .i64 y])):=fun w1 hp=>FPo.heed h hf hp;go_enter Tryz.func228,Tryz.ntmps228
 go_wp2_with fail
 refine (HS.out _ (Kp.refl _ _)).mono ?_;rintro e w1 ⟨rfl,hp⟩;obtain⟨h1,⟨y,h2⟩⟩:=HF.out w1 hp;have H1:=hide h1;clear h1 hp
 go_wp2_with fail
 refine (heedM _ fb s.step.e _ _ _ h2).mono ?_;rintro e w2 ⟨rfl,hw2⟩;have hF:=H1.out;rw[<-hw2] at hF;clear hw2 H1 h2 HS HF;obtain⟨m1,D1,lv1,hr1,hf1,ht1⟩:=hF;have hlv:=ht1.lve;subst hlv;by_cases hse:s.step.e=0
 ·rw[hse,sgl_no];rw[if_neg (by simpa using hse)] at hx;rw[hse] at hf1;have kd:=hf.keepD h ht1;have hA1:Acts (BD D1.d w2) D1.r m1.bk ob (.slice ao la.length cao) la:=by rw[ht1.bk];exact ha.mono kd ht1.rg
  have hW1:D1.r ob f:=ht1.rg _ _ hW;obtain⟨bo,cbo,hvl⟩:=row_slice hf1.row;have d1:w2.cell? ⟨fb,1,none⟩=some lv1:=hf1.blk.cell rfl;have e1:=hf1.blk.free 1;have HF1:=hide hf1;have HR1:=hide hr1;have HT1:=hide ht1;have HX:=hide hx;have HA1:=hide hA1;have HW1:=hide hW1;have HB:=hide hB;have HRow:=hide hf1.row;have hlt2:=hf1.blk.lt;have hll:(lq.length:Int)<=2000:=by have:=h.good.s2 he;omega
  clear hf1 hr1 ht1 hx hA1 hW1 kd h hf c0 ha hW hB y;subst hvl;obtain⟨i0,hi,hz0,hz1,hz2⟩:=info_parts Tryz.info2;have hrow2:=HRow.out
  go_wp2_with (first
   | (at_builtin;refine wpList_append_keep _ rfl _ _ 74 rfl 2 i0 (.int .i64 0) 1 8 Tryz.underlying74 hi hz0 hz1 hz2 rfl (by decide) _ _ _ rfl (hrow2.alloc _) ⟨w2.heap.size,0,none⟩ 1 1 [.int .i64 n] rfl rfl ?c1 ?c2 ?c3 ?c4 ?_)
   | go_in)
  case c1=>intro j u hj;match j,hj with|0,hj=>simp at hj;subst hj;simp[Addr.add]
  case c2=>intro u hu;simp at hu;subst hu;rfl
  case c3=>unfold maxLen;omega
  case c4=>omega
  intro v' w3 hown' hgrow hnx hkeep hcells;clear hcells;have hk23:Kp w2 w3 (fun k=>own (.slice bo lq.length cbo) k):=((Kp.refl w2 (fun k=>own (.slice bo lq.length cbo) k)).alloc _).grown hgrow (fun b _ e=>e);obtain⟨g5,cap5,rfl⟩:∃ g5 cap5,v'=.slice (some ⟨g5,0,none⟩) (lq.length+1) cap5:=by
   rcases hown'.2 with⟨_,h0⟩|⟨g5,cap5,_,hv,_⟩
   ·omega
   ·exact⟨g5,cap5,hv⟩
  have hRn:=roundPut HR1.out HF1.out hk23 hown' hkeep hnx n hn;obtain⟨hr4,hf4,hk24,hrow4⟩:=hRn;have hbf3:Blk w3 fb 247 #[pt rb,.slice bo lq.length cbo,.int .i64 0]:=hk23.blk HF1.out.blk (fun e=>absurd (row_type HF1.out.row e HF1.out.blk) (by decide));have d3:w3.cell? ⟨fb,1,none⟩=some (.slice bo lq.length cbo):=hbf3.cell rfl;have e3:=hbf3.free 1;have kd4:∀ b t c,BD D1.d w2 b t c->BD D1.d (w3.setCell ⟨fb,1,none⟩ (.slice (some ⟨g5,0,none⟩) (lq.length+1) cap5)) b t c:=BD_keep hk24 (fun b _ hb=>⟨hb,fun e=>by
   rcases e with e|e
   ·exact HF1.out.nl b e hb
   ·exact HF1.out.nd (e ▸ hb)⟩)
  have hst4:((n :: lq).length:Int)<=s.step.steps:=by rw[s.step_steps];simp;omega
  have HC:=hide (HB.out _ xb rb mb fb m1 D1 s.step s' f (n :: lp) (n :: lq) _ ob _ la left (hpq.push n) hr4 hse hf4 hst4 hok (HA1.out.mono kd4 (fun _ _ h=>h)) HW1.out HX.out);have HK24:=hide hk24;have HR4:=hide hr4;have HF4:=hide hf4;have HRow4:=hide hrow4;have HNX:=hide hnx;clear hown' hgrow hkeep hk23 hr4 hf4 hk24 hrow4 kd4 hbf3 hrow2 hnx
  go_wp2_with fail
  refine HC.out.mono ?_;rintro e w5 ⟨rfl,m5,D5,lv5,hr5,hf5,ht5⟩;have hl5:=ht5.lve;subst hl5;have hfin:=roundEnd HR1.out HF1.out HT1.out HR4.out HF4.out HK24.out HRow4.out HNX.out hr5 hf5 ht5;have HFin:=hide hfin;have d5:w5.cell? ⟨fb,1,none⟩=some (.slice (some ⟨g5,0,none⟩) (lq.length+1) cap5):=hf5.blk.cell rfl;have e5:=hf5.blk.free 1;clear hfin hr5 hf5 ht5 HC HK24 HR4 HF4 HRow4 HNX HA1 HW1 HX HT1 HR1 HF1;go_wp2;go_ret;exact⟨rfl,HFin.out⟩
 ·rw[sgl_yes (.inr hse)];rw[if_pos hse] at hx;injection hx with hx;injection hx with q1 q2;have HQ1:=hide q1;have HQ2:=hide q2;have HR:=hide hr1;have HF:=hide hf1;have HT:=hide ht1;clear hr1 hf1 ht1 q1 q2 hse h hf ha hW hB c0;go_wp2;go_ret;rw[<-HQ2.out,<-HQ1.out];exact⟨rfl,m1,D1,_,HR.out,HF.out,HT.out⟩
end
end
section
open Go.RowKit
structure DAt (B:Nat) (W:World) (g xb rb mb fb:Nat) (w wr:World) (m:MS) (D:GD) (s':St) (f:Fr) (lp lq:List Int) (lv:Value) (la:List It) (left:Bool) (k en:Int):Prop where
 ex:∃ g' m1 D1 lv1 s1,g'<=g/\PR B W wr xb rb mb m1 D1 s1/\s1.e=0/\FrR B wr fb rb m1 D1 lv1 0 lq/\(lq.length:Int)<=s1.steps/\FT xb rb mb fb w wr m m1 D D1 lv lv1/\xRun g' (jDo f lp k en la) s1=some (s',left)/\(∀ b t c,BD D.d w b t c->BD D1.d wr b t c)
def xDo (g:Nat) (f:Fr) (lp:List Int) (la:List It) (s:St):Option (St × Bool):=if (doTake s).1.e ≠ 0 then some ((doTake s).1,true) else xRun g (jDo f lp (doTake s).2.2 (doTake s).2.1 la) (doTake s).1
theorem doTake_yes {s:St} {b m:Int} {r:List Int} (he:s.step.e=0) (h:s.step.rs=b :: m :: r):doTake s=({ s.step with rs:=r },m,b):=by
 unfold doTake;rw[if_pos he,h]
theorem doTake_no {s:St} (he:s.step.e=0) (h:∀ b m r,s.step.rs ≠ b :: m :: r):doTake s=(s.step.err 6,0,0):=by
 unfold doTake;rw[if_pos he]
 split
 ·rename_i b m r hrs;exact absurd hrs (h b m r)
 ·rfl
theorem doTake_fuel {s:St} (he:¬ s.step.e=0):doTake s=(s.step,0,0):=by unfold doTake;rw[if_neg he]
theorem xDo_eq {g:Nat} {f:Fr} {lp:List Int} {x:It} {s s':St} {left:Bool} (hk:x.kind=100) (h:xRun (g+1) (jItem f lp x) s=some (s',left)):xDo g f lp x.a s=some (s',left):=by
 rw[x_one _ _ _ _ _ (by omega) (by omega) (by omega)] at h;unfold xDo;by_cases he:s.step.e=0
 ·rw[if_neg (by simpa using he)] at h;unfold xOne at h;rw[if_neg (by omega),if_neg (by omega),if_neg (by omega),if_neg (by omega),if_neg (by omega),if_neg (by omega),if_neg (by omega),if_pos hk] at h
  split at h
  ·rename_i b m r hrs
   rw[doTake_yes he hrs,if_neg (by simpa using he)];exact h
  ·rename_i hno
   rw[doTake_no he hno,if_pos (by show (6:Int) ≠ 0;decide)];exact h
 ·rw[if_pos he] at h;rw[doTake_fuel he,if_pos he];exact h
theorem doTake_in {s:St} (h:SGood s.step):In (doTake s).2.1/\In (doTake s).2.2:=by
 unfold doTake
 split
 ·split
  ·rename_i b m r hrs
   exact⟨h.g.ins m (by rw[hrs];simp),h.g.ins b (by rw[hrs];simp)⟩
  ·exact⟨in0,in0⟩
 ·exact⟨in0,in0⟩
section
variable {B:Nat} {W w:World} {xb rb mb fb:Nat} {m:MS} {D:GD} {s:St} {lv:Value} {lp lq:List Int}
theorem doTake_steps (s:St) (n:Int) (h:n<=s.steps):n<=(doTake s).1.steps:=by
 unfold doTake
 split
 ·split
  ·show n<=s.step.steps;rw[s.step_steps];omega
  ·show n<=s.step.steps;rw[s.step_steps];omega
 ·show n<=s.step.steps;rw[s.step_steps];omega
theorem countP (g:Nat) (hpq:PQ lp lq) (hB:∀ g',g' < g->QB B W g') (h:PR B W w xb rb mb m D s) (he:s.e=0) (hf:FrR B w fb rb m D lv 0 lq) (hlp:(lq.length:Int)<=s.steps) (f:Fr) (ob b1:Nat) (va:Value) (la:List It) (hok:∀ n,OkL (n :: lp) la) (h1:BD D.d w b1 109 #[va]) (ha:Acts (BD D.d w) D.r m.bk ob va la) (hW:D.r ob f) (s':St) (left:Bool)
  (hx:xDo g f lp la s=some (s',left)):
  CallsV (.func (.func 226) #[] #[pt b1]) (pt fb) w fun e w'=>e=.returned (.int .i64 (sgl left s'.e))/\FPo B W xb rb mb fb w m D lv lq s' w':=by
 refine⟨_,_,_,rfl,ent_count,?_⟩;show Calls Tryz.prog 226 #[pt fb,pt b1] w _;have c0:w.cell? ⟨fb,0,none⟩=some (pt rb):=hf.blk.cell rfl;have HS:=hide (boundsP h he);have HF:Hid (∀ w1,PPost B W xb rb mb w m D (doTake s).1 w1->FPo B W xb rb mb fb w m D lv lq (doTake s).1 (w1.setCell ⟨fb,2,none⟩ (.int .i64 (doTake s).1.e))/\(∃ y,Blk w1 fb 247 #[pt rb,lv,.int .i64 y])):=fun w1 hp=>FPo.heed h hf hp;have HKD:Hid (∀ w' m' D' lv',FT xb rb mb fb w w' m m' D D' lv lv'->(∀ b t c,BD D.d w b t c->BD D'.d w' b t c)):=fun w' m' D' lv' ht=>hf.keepD h ht;obtain⟨hin1,hin2⟩:=doTake_in (h.good.step he);have hst:=doTake_steps s _ hlp;have HB:=hide hB;have Ha:=hide ha;have HW:=hide hW;have H1:=hide h1;have HX:=hide hx;obtain⟨ao,cao,rfl⟩:=ha.form;obtain⟨en,hen⟩:∃ en,en=(doTake s).2.1:=⟨_,rfl⟩;obtain⟨fr,hfr⟩:∃ fr,fr=(doTake s).2.2:=⟨_,rfl⟩;rw[<-hen,<-hfr] at HS;rw[<-hen] at hin1;rw[<-hfr] at hin2;have HX2:Hid ((if (doTake s).1.e ≠ 0 then some ((doTake s).1,true) else xRun g (jDo f lp fr en la) (doTake s).1)=some (s',left)):=by unfold Hid;rw[hen,hfr];exact HX.out
 clear hB h he hf hlp ha hW h1 hx HX hen hfr;go_enter Tryz.func226,Tryz.ntmps226
 go_wp2_with fail
 refine HS.out.mono ?_;rintro e w1 ⟨rfl,hp⟩;obtain⟨h1,⟨y,h2⟩⟩:=HF.out w1 hp;have H3:=hide h1;clear h1 hp
 go_wp2_with fail
 refine (heedM _ fb _ _ _ _ h2).mono ?_;rintro e w2 ⟨rfl,hw2⟩;have hF:=H3.out;rw[<-hw2] at hF;clear hw2 H3 h2 HS HF;obtain⟨m1,D1,lv1,hr1,hf1,ht1⟩:=hF;have hlv:=ht1.lve;subst hlv;have kd:=HKD.out _ _ _ _ ht1;have h0:Hid (((sgl false (doTake s).1.e=0/\DAt B W g xb rb mb fb w w2 m D s' f lp lq lv1 la left fr en)\/(sgl false (doTake s).1.e=1/\left=true/\FPo B W xb rb mb fb w m D lv1 lq s' w2))):=by
  have hx:=HX2.out;by_cases hte:(doTake s).1.e=0
  ·rw[if_neg (by simpa using hte)] at hx;rw[hte] at hf1;exact .inl ⟨by rw[hte];rfl,⟨⟨g,m1,D1,lv1,(doTake s).1,Nat.le_refl _,hr1,hte,hf1,hst,ht1,hx,kd⟩⟩⟩
  ·rw[if_pos hte] at hx;injection hx with hx;injection hx with q1 q2;subst q1;exact .inr ⟨sgl_yes (.inr hte),q2.symm,m1,D1,lv1,hr1,hf1,ht1⟩
 generalize sgl false (doTake s).1.e=sg at h0 ⊢;clear hr1 hf1 ht1 kd HX2 hst HKD;obtain⟨e1,e2⟩:=hin1;obtain⟨f1,f2⟩:=hin2;go_wp2
 go_loopw [7,8] (fun a i wr=>∃ (sg k:Int),a=.int .i64 sg/\i=.int .i64 k/\-9223372036854775808<=k/\k<=9223372036854775807/\((sg=0/\DAt B W g xb rb mb fb w wr m D s' f lp lq lv1 la left k en)\/(sg=1/\left=true/\FPo B W xb rb mb fb w m D lv1 lq s' wr))) (fun a i _=>if intOf a=0 then (en - intOf i).toNat+1 else 0)
 case atStart=>exact⟨sg,fr,rfl,rfl,f1,f2,h0.out⟩
 case round=>
  obtain⟨sg,k,rfl,rfl,k1,k2,hst⟩:=hrel;rcases hst with⟨rfl,⟨g',m2,D2,lv2,s1,hg,hr,he,hf,hlp,hto,hx,kd⟩⟩|⟨rfl,hl,hp⟩
  ·have hlv:=hto.lve;subst hlv
   cases g' with
   | zero=>cases hx
   | succ g'=>
    rw[x_do] at hx;by_cases hlt:k < en
    ·rw[if_pos hlt] at hx;have c1:wr.cell? ⟨b1,0,none⟩=some (.slice ao la.length cao):=(kd _ _ _ H1.out).2.cell rfl;have hrd:∃ s2 left2,(if s1.step.e ≠ 0 then some (s1.step,true) else xRun g' (jBody f (k :: lp) la) s1.step)=some (s2,left2)/\((left2=true/\s'=s2/\left=true)\/(left2=false/\s2.e=0/\s1.steps<=s2.steps/\xRun g' (jDo f lp (k+1) en la) s2=some (s',left))):=by
      by_cases hse:s1.step.e=0
      ·rw[if_neg (by simpa using hse)] at hx ⊢
       cases hb:xRun g' (jBody f (k :: lp) la) s1.step with
       | none=>rw[hb] at hx;cases hx
       | some p=>
        obtain⟨s2,left2⟩:=p;rw[hb] at hx;dsimp only at hx
        cases left2 with
        | true=>
         rw[if_pos rfl] at hx;injection hx with hx;injection hx with q1 q2;exact⟨s2,true,rfl,.inl ⟨rfl,q1.symm,q2.symm⟩⟩
        | false=>
         rw[if_neg (by decide)] at hx;have:=(xRun_keep _ _ _ _ _ hb).2;rw[s1.step_steps] at this;exact⟨s2,false,rfl,.inr ⟨rfl,body_err _ _ _ _ _ _ hse hb,by omega,hx⟩⟩
      ·rw[if_pos hse] at hx ⊢;injection hx with hx;injection hx with q1 q2;exact⟨s1.step,true,rfl,.inl ⟨rfl,q1.symm,q2.symm⟩⟩
     obtain⟨s2,left2,hrx,hnext⟩:=hrd;have HC:=hide (roundX g' lp lq hpq (HB.out g' (by omega)) hr he hf hlp f ob _ la k ⟨k1,k2⟩ (hok k) (by rw[hto.bk];exact Ha.out.mono kd hto.rg) (hto.rg _ _ HW.out) s2 left2 hrx);have HKD:Hid (∀ w' m' D' lv',FT xb rb mb fb wr w' m2 m' D2 D' lv2 lv'->(∀ b t c,BD D2.d wr b t c->BD D'.d w' b t c)):=fun w' m' D' lv' ht=>hf.keepD hr ht;have HN:=hide hnext;have HTo:=hide hto;have HKd:=hide kd;clear hr he hf hto kd hx hrx hnext
     go_wp2_with fail
     refine HC.out.mono ?_;rintro e w3 ⟨rfl,m3,D3,lv3,hr3,hf3,ht3⟩;have hN:((sig left2=0/\DAt B W g xb rb mb fb w w3 m D s' f lp lq lv2 la left (k+1) en)\/(sig left2=1/\left=true/\FPo B W xb rb mb fb w m D lv2 lq s' w3)):=by
      have hlv3:=ht3.lve;subst hlv3;rcases HN.out with⟨q1,q2,q3⟩|⟨q1,q2,q3,q4⟩
      ·subst q1;subst q2;exact .inr ⟨rfl,q3,m3,D3,_,hr3,hf3,HTo.out.trans ht3⟩
      ·subst q1;rw[q2] at hf3;exact .inl ⟨rfl,⟨⟨g',m3,D3,_,s2,by omega,hr3,q2,hf3,by omega,HTo.out.trans ht3,q4,fun b t c hh=>HKD.out _ _ _ _ ht3 b t c (HKd.out b t c hh)⟩⟩⟩
     have HNN:=hide hN;have hsg:sig left2=0\/sig left2=1:=by cases left2;exact .inl rfl;exact .inr rfl
     generalize sig left2=sg2 at HNN hsg ⊢;clear hN hr3 hf3 ht3 HC HKD HN HTo HKd;go_wp2
     go_roundw
     case rel=>exact⟨sg2,k+1,rfl,by go_num,by omega,by omega,HNN.out⟩
     case measure=>
      rcases hsg with q|q
      ·subst q;simp[intOf];omega
      ·subst q;simp[intOf]
    ·rw[if_neg hlt] at hx;injection hx with hx;injection hx with q1 q2;have HQ1:=hide q1;have HQ2:=hide q2;have HE:=hide he;have HP:Hid (FPo B W xb rb mb fb w m D lv2 lq s1 wr):=⟨m2,D2,lv2,hr,by rw[he];exact hf,hto⟩;have hge:en<=k:=by omega
     clear hr he hf hto kd q1 q2 hlt;go_wp2;go_ret;rw[<-HQ2.out,<-HQ1.out,HE.out,sgl_no];exact⟨rfl,HP.out⟩
  ·have HL:=hide hl;have HP:=hide hp;clear hl hp;go_wp2;go_ret;rw[HL.out,sgl_yes (.inl rfl)];exact⟨rfl,HP.out⟩
end
end
end Go.Proofs.YteainaiebcphlaaGreatDoor
