import Derived.Test.YteainaiebcphlaaGreatDoorX17
import Derived.Test.YteainaiebcphlaaGreatDoorX19
import Derived.Handy
namespace Go.Proofs.YteainaiebcphlaaGreatDoor
set_option maxRecDepth 1000000
set_option maxHeartbeats 4000000
set_option linter.all false
section
open Go.RowKit
theorem SGood.same {s s':St} (h:SGood s) (he:s'={ s with defs:=s'.defs }) (hm:s'.defs.map nib=s.defs.map nib):SGood s':=by
 have hcb:∀ d∈s'.defs,∀ g names,callsG g d.body=some names->names.length<=1000:=by
  intro d hd;have:nib d∈s'.defs.map nib:=List.mem_map.2 ⟨d,hd,rfl⟩;rw[hm] at this;obtain⟨d0,hd0,he0⟩:=List.mem_map.1 this;have hb:d0.body=d.body:=congrArg (fun p=>p.2.2) he0;rw[<-hb];exact h.cb d0 hd0
 rw[he];exact⟨h.g,h.s0,h.s1,h.s2,h.d0,h.d1,h.b0,h.b1,hcb⟩
section
variable {B:Nat} {W w:World} {xb rb mb:Nat} {m:MS} {D:GD} {s:St}
theorem PR.same {s':St} (h:PR B W w xb rb mb m D s) (he:s'={ s with defs:=s'.defs }) (hm:s'.defs.map nib=s.defs.map nib):PR B W w xb rb mb m D s':=by
 have hg:=h.good.same he hm;have hw:=h.words.same hm;obtain⟨ns,hi,hn⟩:=h.inv;have e1:s'.e=s.e:=by rw[he]
 have e2:s'.rs=s.rs:=by rw[he]
 exact⟨⟨ns,hi,by rw[e1,e2];exact hn⟩,by rw[he];exact h.mem,by rw[he];exact h.out,h.st0,h.st1,by rw[he];exact h.st,by rw[he];exact h.dp,h.safe,h.bmb,by rw[he];exact h.book,hw,h.sep,h.us,hg⟩
theorem enter_parts {g:Nat} {f:Fr} {s':St} {left:Bool} (h:xRun (g+1) (jEnter f) s=some (s',left)) (h20:¬ 20<=s.depth):
  ∃ (s1 s2:St) (left2:Bool),s1={ s with defs:=s1.defs }/\s1.defs.map nib=s.defs.map nib/\xRun g (jBody f [] f.body) { s1 with depth:=s1.depth+1 }=some (s2,left2)/\s'={ s2 with depth:=s2.depth - 1 }/\s2.depth=s.depth+1:=by
 rw[x_enter,if_neg h20] at h
 cases hc:xCome g f s with
 | none=>rw[hc] at h;cases h
 | some s1=>
  rw[hc] at h;obtain⟨s2,left2,hx,hs⟩:=enter_tail h;obtain⟨h1,h2⟩:=xCome_same hc;refine⟨s1,s2,left2,h2,h1,hx,hs,?_⟩;have:=(xRun_keep _ _ _ _ _ hx).1;rw[this];show s1.depth+1=s.depth+1;rw[h2]
theorem enterP (g:Nat) (hW:QW B W g) (h:PR B W w xb rb mb m D s) (he:s.e=0) (f:Fr) (ob:Nat) (hr:D.r ob f) (s1 s2:St) (left:Bool) (q1:s1={ s with defs:=s1.defs }) (q2:s1.defs.map nib=s.defs.map nib) (hx:xRun g (jBody f [] f.body) s1=some (s2,left)):
  Calls Tryz.prog 121 #[pt m.bk,pt rb,pt ob] w fun e w'=>e=.returned (.int .i64 s2.e)/\PPost B W xb rb mb w m D s2 w':=by
 have HN:=hide (noteP h ob f hr);have HW:Hid (∀ w1 m1 D1,PR B W w1 xb rb mb m1 D1 s->PTo xb rb mb w w1 m m1 D D1->Calls Tryz.prog 161 #[pt ob,pt rb] w1 fun e w'=>e=.returned (.int .i64 s2.e)/\PPost B W xb rb mb w m D s2 w'):=by
  intro w1 m1 D1 hr1 ht1;refine (hW w1 xb rb mb m1 D1 s1 s2 f ob left (hr1.same q1 q2) (by rw[q1];exact he) (ht1.rg _ _ hr) hx).mono ?_;rintro e w' ⟨rfl,hp⟩;exact⟨rfl,hp.step ht1⟩
 clear h he hr q1 q2 hx hW;go_enter Tryz.func121,Tryz.ntmps121
 go_wp2_with fail
 refine HN.out.mono ?_;rintro e w1 ⟨rfl,m1,D1,hr1,ht1⟩;have HC:=hide (HW.out w1 m1 D1 hr1 ht1);clear hr1 ht1 HW HN
 go_wp2_with fail
 refine HC.out.mono ?_;rintro e w2 ⟨rfl,hp⟩;have HP:=hide hp;clear hp HC;go_wp2;go_ret;exact⟨rfl,HP.out⟩
theorem recFn (w:World) (rb bb wb bk ob:Nat) (Q:Ending->World->Prop) (h1:Blk w bb 78 #[pt bk]) (h2:Blk w wb 107 #[pt ob])
  (hc:∀ w0,Kp w w0 (fun _=>False)->Calls Tryz.prog 121 #[pt bk,pt rb,pt ob] w0 fun e w'=>∃ n,e=.returned (.int .i64 n)/\Q e w'):
  Calls Tryz.prog 229 #[pt rb,pt bb,pt wb] w Q:=by
 have c1:w.cell? ⟨bb,0,none⟩=some (pt bk):=h1.cell rfl;have c2:w.cell? ⟨wb,0,none⟩=some (pt ob):=h2.cell rfl;have HC:=hide hc;clear hc;go_enter Tryz.func229,Tryz.ntmps229
 go_wp2_with fail
 refine (HC.out _ (Kp.refl _ _)).mono ?_;rintro e w1 ⟨n,rfl,hq⟩;have HQ:=hide hq;clear hq;go_wp2;exact HQ.out
theorem recP (g:Nat) (hW:QW B W g) (h:PR B W w xb rb mb m D s) (he:s.e=0) (f:Fr) (ob db bb wb:Nat) (hb:BD D.d w db 125 #[.func (.func 229) #[] #[pt bb,pt wb]]) (h1:BD D.d w bb 78 #[pt m.bk]) (h2:BD D.d w wb 107 #[pt ob]) (hw:D.r ob f) (s':St) (left:Bool) (hx:xRun (g+1) (jEnter f) s=some (s',left)):
  CallsV (fDeep db) (pt rb) w fun e w'=>e=.returned (.int .i64 s'.e)/\PPost B W xb rb mb w m D s' w':=by
 by_cases h20:20<=s.depth
 ·have hs:s'=deeper s s:=by
   rw[x_enter,if_pos h20] at hx;injection hx with hx;injection hx with hx _;rw[<-hx];unfold deeper;rw[if_pos h20]
  rw[hs];exact deepP h db _ _ _ hb s (fun h=>absurd h20 h)
 ·obtain⟨s1,s2,left2,q1,q2,q3,q4,q5⟩:=enter_parts hx h20;have hs:s'=deeper s s2:=by unfold deeper;rw[if_neg h20];exact q4
  rw[hs];refine deepP h db _ _ _ hb s2 (fun _=>⟨q5,fun w1 m1 hr1 ht1=>?_⟩);have hd1:s1.depth=s.depth:=by rw[q1]
  have kd:=h.keepD ht1;refine⟨_,_,_,rfl,ent_recf,?_⟩;show Calls Tryz.prog 229 #[pt rb,pt bb,pt wb] w1 _;refine recFn w1 rb bb wb m.bk ob _ (kd _ _ _ h1).2 (kd _ _ _ h2).2 (fun w0 hk=>?_);obtain⟨hr3,ht3⟩:=hr1.kp hk;rw[<-ht1.bk];refine (enterP g hW hr3 he f ob hw { s1 with depth:=s1.depth+1 } s2 left2 (by rw[hd1,q1]) q2 q3).mono ?_;rintro e w' ⟨rfl,hp⟩;exact⟨_,rfl,rfl,hp.step ht3⟩
theorem callFn (w:World) (rb bb nb bk mb ob:Nat) (nm:ByteArray) (Q:Ending->World->Prop) {hh bl:Value} (h1:Blk w bb 78 #[pt bk]) (h2:Blk w nb 9 #[.string nm]) (h3:Blk w bk 106 #[.map (some mb),hh,bl])
  (hrun:∀ w0,Kp w w0 (fun _=>False)->(Instr.lookup 104 (.map (some mb)) (.string nm) false).run Tryz.prog w0=.ok (pt ob) w0)
  (hc:∀ w0,Kp w w0 (fun _=>False)->Calls Tryz.prog 121 #[pt bk,pt rb,pt ob] w0 fun e w'=>∃ n,e=.returned (.int .i64 n)/\Q e w'):
  Calls Tryz.prog 120 #[pt rb,pt bb,pt nb] w Q:=by
 have c1:w.cell? ⟨bb,0,none⟩=some (pt bk):=h1.cell rfl;have c2:w.cell? ⟨nb,0,none⟩=some (.string nm):=h2.cell rfl;have c3:w.cell? ⟨bk,0,none⟩=some (.map (some mb)):=h3.cell rfl;have HR:=hide hrun;have HC:=hide hc;have hr0:=hrun w (Kp.refl _ _);have hr1:=hrun w.drew (Kp.refl _ _).drew;clear hrun hc HR;go_enter Tryz.func120,Tryz.ntmps120;go_wp2
 go_region_with (go_at_call 121;refine (HC.out _ ?_).mono ?_;exact (Kp.refl _ _).drew;rintro e w1 ⟨n,rfl,hq⟩;have HQ:=hide hq;clear hq)
 all_goals go_wp2
 all_goals go_ret
 all_goals exact HQ.out
theorem lookM {w:World} {D:GD} {bk mb:Nat} {defs:List Def} (h:WordsR D w bk mb defs) (nm:ByteArray) (hs:nm.size<=1000) (d:Def) (hd:defs.find? (fun d=>d.name == nm.data.toList)=some d):
  ∃ ob,D.r ob (frD d)/\∀ w0,w0.heap[mb]? = w.heap[mb]?->(Instr.lookup 104 (.map (some mb)) (.string nm) false).run Tryz.prog w0=.ok (pt ob) w0:=by
 obtain⟨obs,DD,h⟩:=h;have hsz:nm.size<=maxLen:=Nat.le_trans hs (by decide);have hl:=h.lk nm.data.toList hsz
 cases hf:defs.findIdx? (fun d=>d.name == nm.data.toList) with
 | none=>
  rw[List.findIdx?_eq_none_iff] at hf;have:=hf d (List.mem_of_find?_eq_some hd);have h6:=List.find?_some hd;rw[this] at h6;cases h6
 | some k=>
  obtain⟨hk,_,_⟩:=List.findIdx?_eq_some_iff_getElem.1 hf;have hdk:d=defs[k]:=by
   have:=List.find?_eq_some_iff_getElem.1 hd;obtain⟨hp,i,hi,hx,hn⟩:=this;obtain⟨hk1,hk2,hk3⟩:=List.findIdx?_eq_some_iff_getElem.1 hf;have:i=k:=by
    rcases Nat.lt_trichotomy i k with h|h|h
    ·exact absurd (by rw[hx];exact hp) (hk3 i h)
    ·exact h
    ·have:=hn k h;rw[hk2] at this;cases this
   subst this;exact hx.symm
  rw[hf] at hl;refine⟨obs.getD k 0,by rw[hdk];exact (h.cur k hk).1,fun w0 e0=>look_run (ownsMap_same h.mp e0) nm hsz hl⟩
theorem callP (g:Nat) (hW:QW B W g) (h:PR B W w xb rb mb m D s) (he:s.e=0) (db bb nb:Nat) (nm:ByteArray) (hs:nm.size<=1000) (hb:BD D.d w db 125 #[.func (.func 120) #[] #[pt bb,pt nb]]) (h1:BD D.d w bb 78 #[pt m.bk]) (h2:BD D.d w nb 9 #[.string nm]) (s':St) (left:Bool) (hx:xRun (g+1+1) (jCall nm.data.toList) s=some (s',left)):
  CallsV (fDeep db) (pt rb) w fun e w'=>e=.returned (.int .i64 s'.e)/\PPost B W xb rb mb w m D s' w':=by
 rw[x_call] at hx
 cases hd:s.defs.find? (fun d=>d.name == nm.data.toList) with
 | none=>rw[hd] at hx;cases hx
 | some d=>
  rw[hd] at hx;dsimp only at hx;by_cases h20:20<=s.depth
  ·have hs:s'=deeper s s:=by
    rw[x_enter,if_pos h20] at hx;injection hx with hx;injection hx with hx _;rw[<-hx];unfold deeper;rw[if_pos h20]
   rw[hs];exact deepP h db _ _ _ hb s (fun h=>absurd h20 h)
  ·obtain⟨s1,s2,left2,q1,q2,q3,q4,q5⟩:=enter_parts hx h20;have hs':s'=deeper s s2:=by unfold deeper;rw[if_neg h20];exact q4
   rw[hs'];refine deepP h db _ _ _ hb s2 (fun _=>⟨q5,fun w1 m1 hr1 ht1=>?_⟩);have hd1:s1.depth=s.depth:=by rw[q1]
   obtain⟨ob,hob,hlk⟩:=lookM hr1.words nm hs d hd;have kd:=h.keepD ht1;have hmlt:=hr1.words.ltm;refine⟨_,_,_,rfl,ent_callf,?_⟩;show Calls Tryz.prog 120 #[pt rb,pt bb,pt nb] w1 _;refine callFn w1 rb bb nb m.bk mb ob nm _ (kd _ _ _ h1).2 (kd _ _ _ h2).2 (by rw[<-ht1.bk];exact hr1.book) (fun w0 hk=>hlk w0 (hk.block mb hmlt (by simp))) (fun w0 hk=>?_);obtain⟨hr3,ht3⟩:=hr1.kp hk;rw[<-ht1.bk];refine (enterP g hW hr3 he (frD d) ob hob { s1 with depth:=s1.depth+1 } s2 left2 (by rw[hd1,q1]) q2 q3).mono ?_;rintro e w' ⟨rfl,hp⟩;exact⟨_,rfl,rfl,hp.step ht3⟩
end
end
section
open Go.RowKit
theorem braceFn (w:World) (rb sb tb bk:Nat) (tv:Value) (a:Option Addr) (n p:Nat) (htv:tv=.slice a n p) (Q:Ending->World->Prop) (h1:Blk w sb 78 #[pt bk]) (h2:Blk w tb 47 #[tv])
  (hc:∀ w0,Kp w w0 (fun _=>False)->Calls Tryz.prog 42 #[pt bk,pt rb,tv] w0 fun e w'=>∃ n,e=.returned (.int .i64 n)/\Q e w'):
  Calls Tryz.prog 230 #[pt rb,pt sb,pt tb] w Q:=by
 subst htv;have c1:w.cell? ⟨sb,0,none⟩=some (pt bk):=h1.cell rfl;have c2:w.cell? ⟨tb,0,none⟩=some (.slice a n p):=h2.cell rfl;have HC:=hide hc;clear hc;go_enter Tryz.func230,Tryz.ntmps230
 go_wp2_with fail
 refine (HC.out _ (Kp.refl _ _)).mono ?_;rintro e w1 ⟨n,rfl,hq⟩;have HQ:=hide hq;clear hq;go_wp2;exact HQ.out
section
variable {B:Nat} {W w:World} {xb rb mb fb:Nat} {m:MS} {D:GD} {s:St} {lv:Value} {lp:List Int}
theorem bracesP (g:Nat) (hT:QT B W g) (h:PR B W w xb rb mb m D s) (he:s.e=0) (db sb tb:Nat) (tv:Value) (ws:List ByteArray) (hb:BD D.d w db 125 #[.func (.func 230) #[] #[pt sb,pt tb]]) (h1:BD D.d w sb 78 #[pt m.bk]) (h2:BD D.d w tb 47 #[tv]) (h3:rowM (BD D.d w) 9 tv (ws.map Value.string)) (ho:∀ t∈ws,okW t) (hl:ws.length<=1000) (s2:St) (left:Bool)
  (hx:¬ 20<=s.depth->xRun g (jToks (texts ws)) { s with depth:=s.depth+1 }=some (s2,left)):
  CallsV (fDeep db) (pt rb) w fun e w'=>e=.returned (.int .i64 (deeper s s2).e)/\PPost B W xb rb mb w m D (deeper s s2) w':=by
 refine deepP h db _ _ _ hb s2 (fun h20=>⟨(xRun_keep _ _ _ _ _ (hx h20)).1,fun w1 m1 hr1 ht1=>?_⟩);have kd:=h.keepD ht1;refine⟨_,_,_,rfl,ent_brf,?_⟩;show Calls Tryz.prog 230 #[pt rb,pt sb,pt tb] w1 _;obtain⟨a,p,hv⟩:=h3.form;refine braceFn w1 rb sb tb m.bk tv a _ p hv _ (kd _ _ _ h1).2 (kd _ _ _ h2).2 (fun w0 hk=>?_);obtain⟨hr3,ht3⟩:=hr1.kp hk;have hrow:=(rowM_mono (fun b t c hb=>(hr1.keepD ht3) b t c (kd b t c hb)) h3);have htok:TokAt (Blk w0) tv ws:=by
  rcases hrow with⟨h4,h5⟩|⟨gd,cap,cur,h4,h5,h6,h7,h8,h9⟩
  ·refine .inl ⟨by simpa using h5,none,0,h4⟩
  ·refine .inr ⟨gd,0,cap,cur,by rw[h4];simp,h5.2,by simpa using h6,by omega,by omega,fun i hi=>?_⟩;have hi2:i < (ws.map Value.string).length:=by simpa using hi
   have:(cur.toList.take ((ws.map Value.string).length * 1))[i]? = (ws.map Value.string)[i]?:=by rw[h9]
   rw[List.getElem?_take_of_lt (by omega)] at this;simp only[Nat.zero_add];rw[<-Array.getElem?_toList,this];simp[hi]
 rw[<-ht1.bk];refine (hT w0 xb rb mb m1 D _ s2 tv ws left hr3 he htok ho hl (hx h20)).mono ?_;rintro e w' ⟨rfl,hp⟩;exact⟨_,rfl,rfl,hp.step ht3⟩
theorem nothingP (h:PR B W w xb rb mb m D s) (he:s.e=0):CallsV (.func (.func 231) #[] #[]) (pt rb) w fun e w'=>e=.returned (.int .i64 s.e)/\PPost B W xb rb mb w m D s w':=by
 refine⟨_,_,_,rfl,ent_nothing,?_⟩;show Calls Tryz.prog 231 #[pt rb] w _;rw[he];have H:=hide h;clear h he;go_enter Tryz.func231,Tryz.ntmps231;go_wp2;go_ret;exact⟨rfl,m,D,H.out,PTo.refl _ _ _ _ _ _⟩
theorem exitP (h:PR B W w xb rb mb m D s) (he:s.e=0) (hf:FrR B w fb rb m D lv 0 lp):
  CallsV (.func (.func 208) #[] #[]) (pt fb) w fun e w'=>e=.returned (.int .i64 1)/\FPo B W xb rb mb fb w m D lv lp s.step w':=by
 refine⟨_,_,_,rfl,ent_exit,?_⟩;show Calls Tryz.prog 208 #[pt fb] w _;have c0:w.cell? ⟨fb,0,none⟩=some (pt rb):=hf.blk.cell rfl;have hmf:=mkFunc;have HS:Hid (∀ w0,Kp w w0 (fun _=>False)->Calls Tryz.prog 68 #[pt rb,.func (.func 231) #[] #[]] w0 fun e w'=>e=.returned (.int .i64 s.step.e)/\PPost B W xb rb mb w m D s.step w'):=by
  intro w0 hk;obtain⟨h0,t0⟩:=h.kp hk;refine (stepP h0 he (.func (.func 231) #[] #[]) s.step s.step (by split <;> rfl) (fun e w1 m1 p1 t1=>nothingP p1 e)).mono ?_
  rintro e w' ⟨rfl,hp⟩;exact⟨rfl,hp.step t0⟩
 have HF:Hid (∀ w1,PPost B W xb rb mb w m D s.step w1->FPo B W xb rb mb fb w m D lv lp s.step (w1.setCell ⟨fb,2,none⟩ (.int .i64 s.step.e))/\(∃ y,Blk w1 fb 247 #[pt rb,lv,.int .i64 y])):=fun w1 hp=>FPo.heed h hf hp;clear h he hf;go_enter Tryz.func208,Tryz.ntmps208
 go_wp2_with fail
 refine (HS.out _ (Kp.refl _ _)).mono ?_;rintro e w1 ⟨rfl,hp⟩;obtain⟨h1,⟨y,h2⟩⟩:=HF.out w1 hp;have H1:=hide h1;clear h1 hp
 go_wp2_with fail
 refine (heedM _ fb s.step.e _ _ _ h2).mono ?_;rintro e w2 ⟨rfl,rfl⟩;go_wp2;go_ret;exact⟨rfl,H1.out⟩
end
end
section
open Go.RowKit
theorem layMk (w:World) (i:Int):Calls Tryz.prog 69 #[.int .i64 i] w fun e w'=>e=.returned (.func (.func 95) #[] #[pt w.heap.size])/\w'=w.alloc (.cells #[.int .i64 i] 2):=by
 have hmf:=mkFunc;go_enter Tryz.func69,Tryz.ntmps69;go_wp2;go_ret;exact⟨rfl,rfl⟩
section
variable {B:Nat} {W w:World} {xb rb mb fb:Nat} {m:MS} {D:GD} {s:St} {lv:Value} {lp:List Int}
theorem askF (h:PR B W w xb rb mb m D s) (he:s.e=0) (hf:FrR B w fb rb m D lv 0 lp):
  Calls Tryz.prog 223 #[pt fb] w fun e w'=>e=.returned (.tuple #[.bool s.test.2,.int .i64 (sgl false s.test.1.e)])/\FPo B W xb rb mb fb w m D lv lp s.test.1 w':=by
 have c0:w.cell? ⟨fb,0,none⟩=some (pt rb):=hf.blk.cell rfl;have HS:=hide (askP h he);have HF:Hid (∀ w1,PPost B W xb rb mb w m D s.test.1 w1->FPo B W xb rb mb fb w m D lv lp s.test.1 (w1.setCell ⟨fb,2,none⟩ (.int .i64 s.test.1.e))/\(∃ y,Blk w1 fb 247 #[pt rb,lv,.int .i64 y])):=fun w1 hp=>FPo.heed h hf hp;clear h he hf;go_enter Tryz.func223,Tryz.ntmps223
 go_wp2_with fail
 refine HS.out.mono ?_;rintro e w1 ⟨rfl,hp⟩;obtain⟨h1,⟨y,h2⟩⟩:=HF.out w1 hp;have H1:=hide h1;clear h1 hp
 go_wp2_with fail
 refine (heedM _ fb s.test.1.e _ _ _ h2).mono ?_;rintro e w2 ⟨rfl,rfl⟩;go_wp2;go_ret2;exact⟨rfl,H1.out⟩
theorem idxP (h:PR B W w xb rb mb m D s) (he:s.e=0) (i:Int) (lp':List Int) (hlp:lp=i :: lp') (hll:lp.length<=9999) (hf:FrR B w fb rb m D lv 0 lp) (s':St) (hs':s'=if s.step.e=0 then s.step.put i else s.step):
  CallsV (.func (.func 205) #[] #[]) (pt fb) w fun e w'=>e=.returned (.int .i64 (sgl false s'.e))/\FPo B W xb rb mb fb w m D lv lp s' w':=by
 refine⟨_,_,_,rfl,ent_idx,?_⟩;show Calls Tryz.prog 205 #[pt fb] w _;have hmf:=mkFunc;have c0:w.cell? ⟨fb,0,none⟩=some (pt rb):=hf.blk.cell rfl;obtain⟨g,cap,hv,hcell⟩:=row_cell hf.row (by rw[hlp];simp);have ci:w.cell? ⟨g,lp'.length,none⟩=some (.int .i64 i):=hcell _ _ (by rw[hlp];simp[ints]);have hlen:lp.length=lp'.length+1:=by rw[hlp];simp
 have c1:w.cell? ⟨fb,1,none⟩=some (.slice (some ⟨g,0,none⟩) (lp'.length+1) cap):=by rw[<-hlen,<-hv];exact hf.blk.cell rfl
 have hin:=hf.ins i (by rw[hlp];simp);have hll2:lp'.length+1<=9999:=by omega
 have hrl:rb < w.heap.size:=by obtain⟨ns,hi,_⟩:=h.inv;exact hi.rblk.lt
 have HS:Hid (∀ w0 nb,Kp w w0 (fun _=>False)->w.heap.size<=nb->Blk w0 nb 2 #[.int .i64 i]->Calls Tryz.prog 68 #[pt rb,.func (.func 95) #[] #[pt nb]] w0 fun e w'=>e=.returned (.int .i64 s'.e)/\PPost B W xb rb mb w m D s' w'):=by
  intro w0 nb hkk hnb hnb0;obtain⟨h0,t0⟩:=h.kp hkk;refine (stepP h0 he (.func (.func 95) #[] #[pt nb]) (s.step.put i) s' hs' (fun e w1 m1 p1 t1=>?_)).mono ?_
  ·obtain⟨ns,hi,_⟩:=h.inv;refine layP p1 e i hin nb (t1.wt.kp.blk hnb0 ?_);rintro (((e|e)|e)|((e|e)|e))
   ·have:=hi.xblk.lt;omega
   ·have:=hi.rblk.lt;omega
   ·have:=h.words.ltm;omega
   ·have:=own_lt hi.srow e;omega
   ·have:=own_lt hi.orow e;omega
   ·have:=h.ult e;omega
  ·rintro e w' ⟨rfl,hp⟩;exact⟨rfl,hp.step t0⟩
 have HF:Hid (∀ w1,PPost B W xb rb mb w m D s' w1->FPo B W xb rb mb fb w m D lv lp s' (w1.setCell ⟨fb,2,none⟩ (.int .i64 s'.e))/\(∃ y,Blk w1 fb 247 #[pt rb,lv,.int .i64 y])):=fun w1 hp=>FPo.heed h hf hp;clear h he hf hs' hcell hlp hv hlen hll hin;go_enter Tryz.func205,Tryz.ntmps205;go_wp2
 go_quiet (fail)
 go_wp2
 go_region_held3 (fun w'=>w'.cell? ⟨fb,0,none⟩=some (pt rb)) (go_keep) (first
  | (go_at_call 69;refine (layMk _ i).mono ?_;rintro e w5 ⟨rfl,rfl⟩)
  | (go_at_call 68;refine (HS.out _ w.heap.size ?_ ?_ ?_).mono ?_;exact ((((Kp.refl w _).drewN nq).drew).alloc _);exact Nat.le_refl _;exact Blk.new _ _ _;rintro e w1 ⟨rfl,hp⟩;obtain⟨h1,⟨y,h2⟩⟩:=HF.out w1 hp;have h4:w1.cell? ⟨fb,0,none⟩=some (pt rb):=h2.cell rfl;have H1:=hide h1;have H2:=hide h2;clear h1 hp h2)
  | (go_at_call 220;refine (heedM _ fb s'.e _ _ _ H2.out).mono ?_;rintro e w2 ⟨rfl,rfl⟩;have k0:(w1.setCell ⟨fb,2,none⟩ (.int .i64 s'.e)).cell? ⟨fb,0,none⟩=some (pt rb):=(H2.out.set 2 _).cell rfl))
 go_wp2;go_ret;exact⟨rfl,H1.out⟩
end
end
section
open Go.RowKit
theorem body_err:∀ (g:Nat) (f:Fr) (lp:List Int) (l:List It) (s s':St),s.e=0->xRun g (jBody f lp l) s=some (s',false)->s'.e=0
 | 0,_,_,_,_,_,_,h=>by cases h
 | g+1,f,lp,[],s,s',he,h=>by
  rw[x_nil] at h;injection h with h;injection h with h _;rw[<-h];exact he
 | g+1,f,lp,x :: l,s,s',he,h=>by
  rw[x_cons] at h
  split at h
  ·cases h
  ·rename_i s1 left1 h1
   split at h
   ·injection h with h;injection h with _ h;cases h
   ·rename_i hn
    have hn:=not_or.1 hn;exact body_err g f lp l s1 s' (by simpa using hn.2) h
theorem body_sgl {g:Nat} {f:Fr} {lp:List Int} {l:List It} {s s':St} {left:Bool} (he:s.e=0) (h:xRun g (jBody f lp l) s=some (s',left)):sgl left s'.e=sig left:=by
 cases left
 ·rw[body_err g f lp l s s' he h];rfl
 ·rw[sgl_yes (.inl rfl)];rfl
section
variable {B:Nat} {W w:World} {xb rb mb fb:Nat} {m:MS} {D:GD} {s:St} {lv:Value} {lp lq:List Int}
theorem St.test_steps_le (s:St) (n:Int) (h:n<=s.steps):n<=s.test.1.steps:=by rw[s.test_steps];omega
theorem ifP (g:Nat) (la lb:List It) (hpq:PQ lp lq) (hB:QB B W g) (h:PR B W w xb rb mb m D s) (he:s.e=0) (hf:FrR B w fb rb m D lv 0 lq) (hlp:(lq.length:Int)<=s.steps) (f:Fr) (ob b1 b2:Nat) (oka:OkL lp la) (okb:OkL lp lb) (va vb:Value) (h1:BD D.d w b1 109 #[va]) (h2:BD D.d w b2 109 #[vb]) (ha:Acts (BD D.d w) D.r m.bk ob va la) (hb:Acts (BD D.d w) D.r m.bk ob vb lb) (hW:D.r ob f) (s':St) (left:Bool)
  (hx:(if s.test.1.e ≠ 0 then some (s.test.1,true) else if s.test.2=true then xRun g (jBody f lp la) s.test.1 else xRun g (jBody f lp lb) s.test.1)=some (s',left)):
  CallsV (.func (.func 222) #[] #[pt b1,pt b2]) (pt fb) w fun e w'=>e=.returned (.int .i64 (sgl left s'.e))/\FPo B W xb rb mb fb w m D lv lq s' w':=by
 refine⟨_,_,_,rfl,ent_choose,?_⟩;show Calls Tryz.prog 222 #[pt fb,pt b1,pt b2] w _;have HA:=hide (askF h he hf);have HKD:Hid (∀ w' m' D' lv',FT xb rb mb fb w w' m m' D D' lv lv'->(∀ b t c,BD D.d w b t c->BD D'.d w' b t c)):=fun w' m' D' lv' ht=>hf.keepD h ht;have HX:=hide hx;have Ha:=hide ha;have Hb:=hide hb;have HW:=hide hW;have H1:=hide h1;have H2:=hide h2;have hst:=St.test_steps_le s _ hlp;obtain⟨ao,cao,rfl⟩:=ha.form;obtain⟨bo,cbo,rfl⟩:=hb.form;clear h he hf hx ha hb hW h1 h2 hlp;go_enter Tryz.func222,Tryz.ntmps222
 go_wp2_with fail
 refine HA.out.mono ?_;rintro e w1 ⟨rfl,m1,D1,lv1,hr1,hf1,ht1⟩;have kd:=HKD.out _ _ _ _ ht1;have c1:w1.cell? ⟨b1,0,none⟩=some (.slice ao la.length cao):=(kd _ _ _ H1.out).2.cell rfl;have c2:w1.cell? ⟨b2,0,none⟩=some (.slice bo lb.length cbo):=(kd _ _ _ H2.out).2.cell rfl;by_cases hte:s.test.1.e=0
 ·rw[hte,sgl_no];have hx:=HX.out;rw[if_neg (by simpa using hte)] at hx;rw[hte] at hf1;have hW1:D1.r ob f:=ht1.rg _ _ HW.out;have HT1:=hide ht1
  cases ht2:s.test.2
  ·rw[ht2,if_neg (by decide)] at hx;have HC:=hide (hB w1 xb rb mb fb m1 D1 s.test.1 s' f lp lq lv1 ob _ lb left hpq hr1 hte hf1 hst okb (by rw[ht1.bk];exact Hb.out.mono kd ht1.rg) hW1 hx);have HSG:=hide (body_sgl hte hx);clear hx kd hr1 hf1 hW1 ht1 HA
   go_wp2_with fail
   refine HC.out.mono ?_;rintro e w2 ⟨rfl,hp⟩;have HP:=hide hp;clear hp;go_wp2;go_ret;rw[HSG.out];exact⟨rfl,HP.out.step HT1.out⟩
  ·rw[ht2,if_pos rfl] at hx;have HC:=hide (hB w1 xb rb mb fb m1 D1 s.test.1 s' f lp lq lv1 ob _ la left hpq hr1 hte hf1 hst oka (by rw[ht1.bk];exact Ha.out.mono kd ht1.rg) hW1 hx);have HSG:=hide (body_sgl hte hx);clear hx kd hr1 hf1 hW1 ht1 HA
   go_wp2_with fail
   refine HC.out.mono ?_;rintro e w2 ⟨rfl,hp⟩;have HP:=hide hp;clear hp;go_wp2;go_ret;rw[HSG.out];exact⟨rfl,HP.out.step HT1.out⟩
 ·rw[sgl_yes (.inr hte)];have hx:=HX.out;rw[if_pos hte] at hx;injection hx with hx;injection hx with hx1 hx2;have HS1:=hide hx1;have HS2:=hide hx2;have HR:=hide hr1;have HF:=hide hf1;have HT:=hide ht1;clear hx1 hx2 hr1 hf1 ht1 kd hte;go_wp2;go_ret;rw[<-HS1.out,<-HS2.out,sgl_yes (.inl rfl)];exact⟨rfl,m1,D1,lv1,HR.out,HF.out,HT.out⟩
end
end
section
open Go.RowKit
def stOf (w:World) (rb:Nat):Int:=match w.cell? ⟨rb,2,none⟩ with
 | some (.int _ n)=>n
 | _=>0
theorem PR.stOf {B:Nat} {W w:World} {xb rb mb:Nat} {m:MS} {D:GD} {s:St} (h:PR B W w xb rb mb m D s) (he:s.e=0):Go.Proofs.YteainaiebcphlaaGreatDoor.stOf w rb=s.steps:=by
 obtain⟨ns,hi,_⟩:=h.inv;have:w.cell? ⟨rb,2,none⟩=some (.int .i64 m.st):=hi.rblk.cell rfl;unfold Go.Proofs.YteainaiebcphlaaGreatDoor.stOf;rw[this,<-h.st he]
structure LAt (B:Nat) (W:World) (g xb rb mb fb:Nat) (w wr:World) (m:MS) (D:GD) (s':St) (f:Fr) (lp lq:List Int) (lv:Value) (x:It) (left:Bool):Prop where
 ex:∃ g' m1 D1 lv1 s1,g'<=g/\PR B W wr xb rb mb m1 D1 s1/\s1.e=0/\FrR B wr fb rb m1 D1 lv1 0 lq/\(lq.length:Int)<=s1.steps/\FT xb rb mb fb w wr m m1 D D1 lv lv1/\xRun g' (jItem f lp x) s1=some (s',left)/\(∀ b t c,BD D.d w b t c->BD D1.d wr b t c)
section
variable {B:Nat} {W w:World} {xb rb mb fb:Nat} {m:MS} {D:GD} {s:St} {lv:Value} {lp lq:List Int}
theorem untilP (g:Nat) (hpq:PQ lp lq) (hB:∀ g',g' < g->QB B W g') (h:PR B W w xb rb mb m D s) (he:s.e=0) (hf:FrR B w fb rb m D lv 0 lq) (hlp:(lq.length:Int)<=s.steps) (f:Fr) (ob b1:Nat) (va:Value) (x:It) (hok:OkX lp x) (hk:x.kind=117) (h1:BD D.d w b1 109 #[va]) (ha:Acts (BD D.d w) D.r m.bk ob va x.a) (hW:D.r ob f) (s':St) (left:Bool)
  (hx:xRun g (jItem f lp x) s=some (s',left)):
  CallsV (.func (.func 224) #[] #[pt b1]) (pt fb) w fun e w'=>e=.returned (.int .i64 (sgl left s'.e))/\FPo B W xb rb mb fb w m D lv lq s' w':=by
 refine⟨_,_,_,rfl,ent_until,?_⟩;show Calls Tryz.prog 224 #[pt fb,pt b1] w _;have h0:Hid (LAt B W g xb rb mb fb w w m D s' f lp lq lv x left):=⟨⟨g,m,D,lv,s,Nat.le_refl _,h,he,hf,hlp,FT.refl _ _ _ _ _ _ _ _,hx,fun _ _ _ h=>h⟩⟩;have HB:=hide hB;have Ha:=hide ha;have HW:=hide hW;have H1:=hide h1;obtain⟨ao,cao,rfl⟩:=ha.form;clear hB h he hf hlp ha hW h1 hx;go_enter Tryz.func224,Tryz.ntmps224;go_wp2
 go_loopw [6] (fun _ wr=>LAt B W g xb rb mb fb w wr m D s' f lp lq lv x left) (fun _ wr=>(2002 - stOf wr rb).toNat)
 case atStart=>exact h0.out
 case round=>
  obtain⟨g',m1,D1,lv1,s1,hg,hr,he,hf,hlp,hto,hx,kd⟩:=hrel;have hso:=hr.stOf he;have hs1:=hr.good.s2 he
  cases g' with
  | zero=>cases hx
  | succ g'=>
   rw[x_until _ _ _ _ _ hk] at hx
   cases hb:xRun g' (jBody f lp x.a) s1 with
   | none=>rw[hb] at hx;cases hx
   | some p=>
    obtain⟨s2,left2⟩:=p;rw[hb] at hx;dsimp only at hx;have c1:wr.cell? ⟨b1,0,none⟩=some (.slice ao x.a.length cao):=(kd _ _ _ H1.out).2.cell rfl;have HC:=hide (HB.out g' (by omega) wr xb rb mb fb m1 D1 s1 s2 f lp lq lv1 ob _ x.a left2 hpq hr he hf hlp (hok.ab (by omega)).1 (by rw[hto.bk];exact Ha.out.mono kd hto.rg) (hto.rg _ _ HW.out) hb);have HKD:Hid (∀ w' m' D' lv',FT xb rb mb fb wr w' m1 m' D1 D' lv1 lv'->(∀ b t c,BD D1.d wr b t c->BD D'.d w' b t c)):=fun w' m' D' lv' ht=>hf.keepD hr ht;have hst:=(xRun_keep _ _ _ _ _ hb).2;have HKd:=hide kd;have HTo:=hide hto;clear hr hf kd hto
    go_wp2_with fail
    refine HC.out.mono ?_;rintro e w1 ⟨rfl,m2,D2,lv2,hr2,hf2,ht2⟩;have kd2:=HKD.out _ _ _ _ ht2
    cases left2 with
    | true=>
     rw[if_pos rfl] at hx;injection hx with hx;injection hx with q1 q2;subst q1;subst q2;have HR:=hide hr2;have HF:=hide hf2;have HT:=hide (HTo.out.trans ht2);clear hr2 hf2 ht2 kd2 hb;rw[show sig true=1 from rfl];go_wp2;go_ret;rw[sgl_yes (.inl rfl)];exact⟨rfl,m2,D2,lv2,HR.out,HF.out,HT.out⟩
    | false=>
     rw[if_neg (by decide)] at hx;have he2:=body_err _ _ _ _ _ _ he hb;rw[he2] at hf2;rw[show sig false=0 from rfl];have HA:=hide (askF hr2 he2 hf2);have HKD2:Hid (∀ w' m' D' lv',FT xb rb mb fb w1 w' m2 m' D2 D' lv2 lv'->(∀ b t c,BD D2.d w1 b t c->BD D'.d w' b t c)):=fun w' m' D' lv' ht=>hf2.keepD hr2 ht;have HTo2:=hide (HTo.out.trans ht2);have HKd2:Hid (∀ b t c,BD D.d w b t c->BD D2.d w1 b t c):=fun b t c hh=>kd2 b t c (HKd.out b t c hh);have hts:=s2.test_steps;have HX:=hide hx;clear hr2 hf2 ht2 kd2 hb hx HKD HC
     go_wp2_with fail
     refine HA.out.mono ?_;rintro e w2 ⟨rfl,m3,D3,lv3,hr3,hf3,ht3⟩;have kd3:=HKD2.out _ _ _ _ ht3;have HT3:=hide (HTo2.out.trans ht3);have hx:=HX.out;by_cases hte:s2.test.1.e=0
     ·rw[if_neg (by simpa using hte)] at hx;rw[hte,sgl_no]
      cases htt:s2.test.2 with
      | true=>
       rw[htt,if_pos rfl] at hx;injection hx with hx;injection hx with q1 q2;have HQ1:=hide q1;have HQ2:=hide q2;have HR:=hide hr3;have HF:=hide hf3;have HTE:=hide hte;clear hr3 hf3 ht3 kd3 q1 q2 htt hte HX;go_wp2;go_ret;rw[<-HQ2.out,<-HQ1.out,HTE.out,sgl_no];exact⟨rfl,m3,D3,lv3,HR.out,HF.out,HT3.out⟩
      | false=>
       rw[htt,if_neg (by decide)] at hx;have hso3:=hr3.stOf hte;have hs3:=hr3.good.s2 hte;rw[hte] at hf3;have HN:Hid (LAt B W g xb rb mb fb w w2 m D s' f lp lq lv x left):=⟨⟨g',m3,D3,lv3,s2.test.1,by omega,hr3,hte,hf3,by omega,HT3.out,hx,fun b t c hh=>kd3 b t c (HKd2.out b t c hh)⟩⟩;clear hr3 hf3 ht3 kd3 htt HX hx;go_wp2
       go_roundw
       case rel=>exact HN.out
       case measure=>rw[hso,hso3];omega
     ·rw[if_pos hte] at hx;injection hx with hx;injection hx with q1 q2;rw[sgl_yes (.inr hte)];have HQ1:=hide q1;have HQ2:=hide q2;have HR:=hide hr3;have HF:=hide hf3;clear hr3 hf3 ht3 kd3 q1 q2 hte HX
      cases htt:s2.test.2
      ·clear htt;go_wp2;go_ret;rw[<-HQ2.out,<-HQ1.out,sgl_yes (.inl rfl)];exact⟨rfl,m3,D3,lv3,HR.out,HF.out,HT3.out⟩
      ·clear htt;go_wp2;go_ret;rw[<-HQ2.out,<-HQ1.out,sgl_yes (.inl rfl)];exact⟨rfl,m3,D3,lv3,HR.out,HF.out,HT3.out⟩
end
end
section
open Go.RowKit
section
variable {B:Nat} {W w:World} {xb rb mb fb:Nat} {m:MS} {D:GD} {s:St} {lv:Value} {lp lq:List Int}
theorem whileP (g:Nat) (hpq:PQ lp lq) (hB:∀ g',g' < g->QB B W g') (h:PR B W w xb rb mb m D s) (he:s.e=0) (hf:FrR B w fb rb m D lv 0 lq) (hlp:(lq.length:Int)<=s.steps) (f:Fr) (ob b1 b2:Nat) (va vb:Value) (x:It) (hok:OkX lp x) (hk:x.kind=119) (h1:BD D.d w b1 109 #[va]) (h2:BD D.d w b2 109 #[vb]) (ha:Acts (BD D.d w) D.r m.bk ob va x.a) (hbb:Acts (BD D.d w) D.r m.bk ob vb x.b) (hW:D.r ob f) (s':St) (left:Bool)
  (hx:xRun g (jItem f lp x) s=some (s',left)):
  CallsV (.func (.func 225) #[] #[pt b1,pt b2]) (pt fb) w fun e w'=>e=.returned (.int .i64 (sgl left s'.e))/\FPo B W xb rb mb fb w m D lv lq s' w':=by
 refine⟨_,_,_,rfl,ent_while,?_⟩;show Calls Tryz.prog 225 #[pt fb,pt b1,pt b2] w _;have h0:Hid (LAt B W g xb rb mb fb w w m D s' f lp lq lv x left):=⟨⟨g,m,D,lv,s,Nat.le_refl _,h,he,hf,hlp,FT.refl _ _ _ _ _ _ _ _,hx,fun _ _ _ h=>h⟩⟩;have HB:=hide hB;have Ha:=hide ha;have HW:=hide hW;have H1:=hide h1;have Hb:=hide hbb;have H2:=hide h2;obtain⟨ao,cao,rfl⟩:=ha.form;obtain⟨bo,cbo,rfl⟩:=hbb.form;clear hB h he hf hlp ha hbb hW h1 h2 hx;go_enter Tryz.func225,Tryz.ntmps225;go_wp2
 go_loopw [6] (fun _ wr=>LAt B W g xb rb mb fb w wr m D s' f lp lq lv x left) (fun _ wr=>(2002 - stOf wr rb).toNat)
 case atStart=>exact h0.out
 case round=>
  obtain⟨g',m1,D1,lv1,s1,hg,hr,he,hf,hlp,hto,hx,kd⟩:=hrel;have hso:=hr.stOf he;have hs1:=hr.good.s2 he
  cases g' with
  | zero=>cases hx
  | succ g'=>
   rw[x_while _ _ _ _ _ hk] at hx
   cases hb:xRun g' (jBody f lp x.a) s1 with
   | none=>rw[hb] at hx;cases hx
   | some p=>
    obtain⟨s2,left2⟩:=p;rw[hb] at hx;dsimp only at hx;have c1:wr.cell? ⟨b1,0,none⟩=some (.slice ao x.a.length cao):=(kd _ _ _ H1.out).2.cell rfl;have HC:=hide (HB.out g' (by omega) wr xb rb mb fb m1 D1 s1 s2 f lp lq lv1 ob _ x.a left2 hpq hr he hf hlp (hok.ab (by omega)).1 (by rw[hto.bk];exact Ha.out.mono kd hto.rg) (hto.rg _ _ HW.out) hb);have HKD:Hid (∀ w' m' D' lv',FT xb rb mb fb wr w' m1 m' D1 D' lv1 lv'->(∀ b t c,BD D1.d wr b t c->BD D'.d w' b t c)):=fun w' m' D' lv' ht=>hf.keepD hr ht;have hst:=(xRun_keep _ _ _ _ _ hb).2;have HKd:=hide kd;have HTo:=hide hto;clear hr hf kd hto
    go_wp2_with fail
    refine HC.out.mono ?_;rintro e w1 ⟨rfl,m2,D2,lv2,hr2,hf2,ht2⟩;have kd2:=HKD.out _ _ _ _ ht2
    cases left2 with
    | true=>
     rw[if_pos rfl] at hx;injection hx with hx;injection hx with q1 q2;subst q1;subst q2;have HR:=hide hr2;have HF:=hide hf2;have HT:=hide (HTo.out.trans ht2);clear hr2 hf2 ht2 kd2 hb;rw[show sig true=1 from rfl];go_wp2;go_ret;rw[sgl_yes (.inl rfl)];exact⟨rfl,m2,D2,lv2,HR.out,HF.out,HT.out⟩
    | false=>
     rw[if_neg (by decide)] at hx;have he2:=body_err _ _ _ _ _ _ he hb;rw[he2] at hf2;rw[show sig false=0 from rfl];have HA:=hide (askF hr2 he2 hf2);have HKD2:Hid (∀ w' m' D' lv',FT xb rb mb fb w1 w' m2 m' D2 D' lv2 lv'->(∀ b t c,BD D2.d w1 b t c->BD D'.d w' b t c)):=fun w' m' D' lv' ht=>hf2.keepD hr2 ht;have HTo2:=hide (HTo.out.trans ht2);have HKd2:Hid (∀ b t c,BD D.d w b t c->BD D2.d w1 b t c):=fun b t c hh=>kd2 b t c (HKd.out b t c hh);have hts:=s2.test_steps;have HX:=hide hx;clear hr2 hf2 ht2 kd2 hb hx HKD HC
     go_wp2_with fail
     refine HA.out.mono ?_;rintro e w2 ⟨rfl,m3,D3,lv3,hr3,hf3,ht3⟩;have kd3:=HKD2.out _ _ _ _ ht3;have HT3:=hide (HTo2.out.trans ht3);have hx:=HX.out;by_cases hte:s2.test.1.e=0
     ·rw[if_neg (by simpa using hte)] at hx;rw[hte,sgl_no]
      cases htt:s2.test.2 with
      | false=>
       rw[htt,if_pos rfl] at hx;injection hx with hx;injection hx with q1 q2;have HQ1:=hide q1;have HQ2:=hide q2;have HR:=hide hr3;have HF:=hide hf3;have HTE:=hide hte;clear hr3 hf3 ht3 kd3 q1 q2 htt hte HX;go_wp2;go_ret;rw[<-HQ2.out,<-HQ1.out,HTE.out,sgl_no];exact⟨rfl,m3,D3,lv3,HR.out,HF.out,HT3.out⟩
      | true=>
       rw[htt,if_neg (by decide)] at hx
       cases hb3:xRun g' (jBody f lp x.b) s2.test.1 with
       | none=>rw[hb3] at hx;cases hx
       | some p3=>
        obtain⟨s3,left3⟩:=p3;rw[hb3] at hx;dsimp only at hx;rw[hte] at hf3;have kdw:∀ b t c,BD D.d w b t c->BD D3.d w2 b t c:=fun b t c hh=>kd3 b t c (HKd2.out b t c hh);have c2:w2.cell? ⟨b2,0,none⟩=some (.slice bo x.b.length cbo):=(kdw _ _ _ H2.out).2.cell rfl;have HC3:=hide (HB.out g' (by omega) w2 xb rb mb fb m3 D3 s2.test.1 s3 f lp lq lv3 ob _ x.b left3 hpq hr3 hte hf3 (by omega) (hok.ab (by omega)).2 (by rw[HT3.out.bk];exact Hb.out.mono kdw HT3.out.rg) (HT3.out.rg _ _ HW.out) hb3);have HKD3:Hid (∀ w' m' D' lv',FT xb rb mb fb w2 w' m3 m' D3 D' lv3 lv'->(∀ b t c,BD D3.d w2 b t c->BD D'.d w' b t c)):=fun w' m' D' lv' ht=>hf3.keepD hr3 ht;have hst3:=(xRun_keep _ _ _ _ _ hb3).2;have HKw:=hide kdw;clear hr3 hf3 ht3 kd3 kdw htt HX
        go_wp2_with fail
        refine HC3.out.mono ?_;rintro e w3 ⟨rfl,m4,D4,lv4,hr4,hf4,ht4⟩;have kd4:=HKD3.out _ _ _ _ ht4;have HT4:=hide (HT3.out.trans ht4)
        cases left3 with
        | true=>
         rw[if_pos rfl] at hx;injection hx with hx;injection hx with q1 q2;subst q1;subst q2;have HR:=hide hr4;have HF:=hide hf4;clear hr4 hf4 ht4 kd4 hb3;rw[show sig true=1 from rfl];go_wp2;go_ret;rw[sgl_yes (.inl rfl)];exact⟨rfl,m4,D4,lv4,HR.out,HF.out,HT4.out⟩
        | false=>
         rw[if_neg (by decide)] at hx;have he4:=body_err _ _ _ _ _ _ hte hb3;have hso4:=hr4.stOf he4;have hs4:=hr4.good.s2 he4;rw[he4] at hf4;rw[show sig false=0 from rfl];have HN:Hid (LAt B W g xb rb mb fb w w3 m D s' f lp lq lv x left):=⟨⟨g',m4,D4,lv4,s3,by omega,hr4,he4,hf4,by omega,HT4.out,hx,fun b t c hh=>kd4 b t c (HKw.out b t c hh)⟩⟩;clear hr4 hf4 ht4 kd4 hb3 hx;go_wp2
         go_roundw
         case rel=>exact HN.out
         case measure=>rw[hso,hso4];omega
     ·rw[if_pos hte] at hx;injection hx with hx;injection hx with q1 q2;rw[sgl_yes (.inr hte)];have HQ1:=hide q1;have HQ2:=hide q2;have HR:=hide hr3;have HF:=hide hf3;clear hr3 hf3 ht3 kd3 q1 q2 hte HX
      cases htt:s2.test.2
      ·clear htt;go_wp2;go_ret;rw[<-HQ2.out,<-HQ1.out,sgl_yes (.inl rfl)];exact⟨rfl,m3,D3,lv3,HR.out,HF.out,HT3.out⟩
      ·clear htt;go_wp2;go_ret;rw[<-HQ2.out,<-HQ1.out,sgl_yes (.inl rfl)];exact⟨rfl,m3,D3,lv3,HR.out,HF.out,HT3.out⟩
end
end
end Go.Proofs.YteainaiebcphlaaGreatDoor
