import Derived.Test.YteainaiebcphlaaGreatDoorY15
import Derived.Handy
namespace Go.Proofs.YteainaiebcphlaaGreatDoor
set_option maxRecDepth 1000000
set_option maxHeartbeats 4000000
set_option linter.all false
section
open Go.RowKit
section
variable {R C:Nat->Fr->Prop} {K:List Tok} {bo:Tok->Option (List It)} {bk mb a b:Nat}
theorem builtInM (n:Nat) (hn:n+1<=3) (hB:BodyC R C K bo bk mb a b n) (E:Nat->Prop) (S:Tok->Prop) (w:World) (ob o:Nat) (f:Fr) (c:WC) (nm:ByteArray) (hJ:JB R C K bo bk mb a b E S w) (hU:Up E w) (hnm:nm.data.toList∈K) (hCo:C o f) (hR:R o f) (hf:f.name=nm.data.toList) (hbo:bo f.name=some f.body) (hb:Blk w o 111 c.arr) (hcn:c.nm=nm) (hs:nm.size<=1000) (hI:Items (BD E w) c.iv f.body) (hA:Acts (BD E w) R bk o c.sv f.body) (hwb:∃ G,wb (fun t=>t∈K) G false f.body):
  Calls Tryz.prog 221 #[.agg #[pt bk,pt ob,.int .i64 ((n+1:Nat):Int),.map (some a),.map (some b)],pt o] w fun e w'=>∃ cl,e=.returned cl/\Kp w w' (Ft (some a) (some b))/\callR (BD E w') R bk (Acts (BD E w') R bk) nm.data.toList cl/\JB R C K bo bk mb a b E (fun t=>S t\/Bc bo (n+1) nm.data.toList t) w':=by
 obtain⟨m,hm⟩:∃ m:Int,m=(n:Int):=⟨_,rfl⟩;have hm1:((n+1:Nat):Int)=m+1:=by rw[hm];omega
 rw[hm1];obtain⟨W1,hW1⟩:∃ W1,W1=w.alloc (.cells #[pt bk,pt ob,.int .i64 (m+1),.map (some a),.map (some b)] 206):=⟨_,rfl⟩;have hk1:Kp w W1.drew (fun _=>False):=by rw[hW1];exact ((Kp.refl _ _).alloc _).drew
 have hs1:W1.heap.size=w.heap.size+1:=by rw[hW1];simp
 have hbs:Blk W1.drew w.heap.size 206 #[pt bk,pt ob,.int .i64 (m+1),.map (some a),.map (some b)]:=by rw[hW1];exact Blk.new w _ _
 have hbo1:Blk W1.drew o 111 c.arr:=hk1.blk hb (by simp);have hJ1:=hJ.kp hk1;obtain⟨w2,hrun,hk2,hJ2⟩:=hJ1.putPart nm hnm hs o f hCo hf;have hkf:Kp w w2 (Ft (some a) (some b)):=(hk1.ft _ _).trans (hk2.mono (fun k _ e=>.inr (by rw[show k=b from e])));have hbs2:=hk2.blk hbs (fun e=>hJ1.pts.ne hbs (show w.heap.size=b from e).symm);have hbo2:=hk2.blk hbo1 (fun e=>hJ1.pts.ne hbo1 (show o=b from e).symm);have e0:W1.cell? ⟨w.heap.size,4,none⟩=some (.map (some b)):=hbs.cell rfl;have e1:W1.cell? ⟨o,0,none⟩=some (.string nm):=by rw[<-hcn];exact hbo1.cell rfl
 have f0:w2.cell? ⟨w.heap.size,0,none⟩=some (pt bk):=hbs2.cell rfl;have f1:w2.cell? ⟨w.heap.size,1,none⟩=some (pt ob):=hbs2.cell rfl;have f2:w2.cell? ⟨w.heap.size,2,none⟩=some (.int .i64 (m+1)):=hbs2.cell rfl;have f3:w2.cell? ⟨w.heap.size,3,none⟩=some (.map (some a)):=hbs2.cell rfl;have f4:w2.cell? ⟨w.heap.size,4,none⟩=some (.map (some b)):=hbs2.cell rfl;have f5:w2.cell? ⟨o,0,none⟩=some (.string nm):=by rw[<-hcn];exact hbo2.cell rfl
 have hlt2:=hbs2.lt;have hm0:0<=m:=by omega
 have hm3:m<=2:=by omega
 have hkE:∀ k t c,BD E w k t c->BD E w2 k t c:=fun k t c h=>⟨h.1,hkf.blk h.2 (fun e=>hJ.mp k t c e h.2)⟩;have HBd:Hid (∀ w0,Kp w2 w0 (fun _=>False)->Calls Tryz.prog 232 #[.agg #[pt bk,pt o,.int .i64 m,.map (some a),.map (some b)]] w0 fun e w'=>∃ ao cap,e=.returned (.slice ao f.body.length cap)/\Kp w0 w' (Ft (some a) (some b))/\Acts (BD E w') R bk o (.slice ao f.body.length cap) f.body/\JB R C K bo bk mb a b E (fun t=>(S t\/t=nm.data.toList)\/Bd bo n f.body t) w'):=by
  intro w0 hk0;have hE0:=BD_keep (D:=E) (D':=E) hk0 (fun b _ h=>⟨h,by simp⟩);rw[hm];refine (hB E _ w0 o f c (hJ2.kp hk0) ((hU.kp hkf).kp hk0) (hk0.blk hbo2 (by simp)) ((hI.mono hkE).mono hE0) ((hA.mono hkE (fun _ _ h=>h)).mono hE0 (fun _ _ h=>h)) hwb).mono ?_;rintro e w' ⟨ao,cap,rfl,h1,h2,h3⟩;exact⟨ao,cap,rfl,h1,h2,h3⟩
 have HBS:=hide hbs2;have HST:Hid (∀ w0 w',Kp w2 w0 (fun _=>False)->Kp w0 w' (Ft (some a) (some b))->∀ k t c,Blk w0 k t c->Blk w' k t c):=fun w0 w' hk0 hkk k t c h=>hkk.blk h (fun e=>(hJ2.kp hk0).mp k t c e h);have HCP:Hid (∀ w3 ao cap,Kp w2 w3 (Ft (some a) (some b))->Acts (BD E w3) R bk o (.slice ao f.body.length cap) f.body->JB R C K bo bk mb a b E (fun t=>(S t\/t=nm.data.toList)\/Bd bo n f.body t) w3->∀ w4,Kp w3 w4 (fun _=>False)->Calls Tryz.prog 242 #[pt bk,pt o,.slice ao f.body.length cap] w4 fun e w'=>∃ fn ff fc,e=.returned (.func (.func fn) ff fc)/\Kp w4 w' (fun _=>False)/\Kp w w' (Ft (some a) (some b))/\callR (BD E w') R bk (Acts (BD E w') R bk) nm.data.toList (.func (.func fn) ff fc)/\JB R C K bo bk mb a b E (fun t=>S t\/Bc bo (n+1) nm.data.toList t) w'):=by
  intro w3 ao cap hk3 hA3 hJ3 w4 hk4;have hk34:=hkf.trans (hk3.trans (hk4.ft _ _));refine (callPartM E w4 (hU.kp hk34) o f nm c hcn (hk4.blk (hk3.blk hbo2 (fun e=>hJ2.mp _ _ _ e hbo2)) (by simp)) hR hf hs ao f.body.length cap (hA3.mono (BD_keep (D:=E) (D':=E) hk4 (fun b _ h=>⟨h,by simp⟩)) (fun _ _ h=>h))).mono ?_;rintro e w' ⟨cl,rfl,q1,q2⟩;obtain⟨fn,ff,fc,rfl⟩:=callR_form q2;refine⟨fn,ff,fc,rfl,q1,hk34.trans (q1.ft _ _),q2,?_⟩;rw[show (fun t=>S t\/Bc bo (n+1) nm.data.toList t)=(fun t=>(S t\/t=nm.data.toList)\/Bd bo n f.body t) by
   funext t
   rw[or_assoc];refine propext (or_congr_right ⟨fun q=>?_,fun q=>?_⟩)
   ·rcases q with q|⟨b',hb',q⟩
    ·exact .inl q
    ·rw[<-hf,hbo] at hb';injection hb' with hb';subst hb';exact .inr q
   ·rcases q with q|q
    ·exact .inl q
    ·exact .inr ⟨f.body,by rw[<-hf];exact hbo,q⟩]
  exact (hJ3.kp hk4).kp q1
 have HW1:=hide hW1;have hol:=hbo2.lt;clear hW1 hm hm1 hJ hJ1 hJ2 hB hU hI hA hwb hbs hbo1 hb hbo2 hkE hk1 hkf hk2 hCo hR hf hbo hnm hcn hs;go_enter Tryz.func221,Tryz.ntmps221;go_wp2;rw[<-HW1.out]
 go_region_held3 (fun w'=>w'.cell? ⟨w.heap.size,4,none⟩=some (.map (some b))/\w'.cell? ⟨o,0,none⟩=some (.string nm)) (go_keep) (fail)
 go_wp2
 go_region_held3 (fun w'=>w'.cell? ⟨w.heap.size,0,none⟩=some (pt bk)/\w'.cell? ⟨w2.heap.size,0,none⟩=some (pt bk)/\w'.cell? ⟨w2.heap.size,1,none⟩=some (pt o)/\w'.cell? ⟨w2.heap.size,2,none⟩=some (.int .i64 m)/\w'.cell? ⟨w2.heap.size,3,none⟩=some (.map (some a))/\w'.cell? ⟨w2.heap.size,4,none⟩=some (.map (some b))) (go_keep) (first
  | (go_at_call 232;refine (HBd.out _ ?_).mono ?_;exact ((Kp.refl _ _).alloc _).drew;rintro e w3 ⟨ao,cap,rfl,hk3,hA3,hJ3⟩;have hbs3:=HST.out _ _ (((Kp.refl _ _).alloc _).drew) hk3 _ _ _ (HBS.out.alloc _);have hbn:=HST.out _ _ (((Kp.refl _ _).alloc _).drew) hk3 _ _ _ (Blk.new w2 _ _);have u0:w3.cell? ⟨w.heap.size,0,none⟩=some (pt bk):=hbs3.cell rfl;have v0:w3.cell? ⟨w2.heap.size,0,none⟩=some (pt bk):=hbn.cell rfl;have v1:w3.cell? ⟨w2.heap.size,1,none⟩=some (pt o):=hbn.cell rfl;have v2:w3.cell? ⟨w2.heap.size,2,none⟩=some (.int .i64 m):=hbn.cell rfl;have v3:w3.cell? ⟨w2.heap.size,3,none⟩=some (.map (some a)):=hbn.cell rfl;have v4:w3.cell? ⟨w2.heap.size,4,none⟩=some (.map (some b)):=hbn.cell rfl;have HK3:=hide ((((Kp.refl w2 (fun _=>False)).alloc _).drew.ft (some a) (some b)).trans hk3);have HA3:=hide hA3;have HJ3:=hide hJ3;have HB3:=hide hbs3;have HBN:=hide hbn;clear hk3 hA3 hJ3 hbs3 hbn)
  | (go_at_call 242;refine (HCP.out w3 ao cap HK3.out HA3.out HJ3.out _ ?_).mono ?_;exact Kp.refl _ _;rintro e w5 ⟨fn,ff,fc,rfl,q0,q1,q2,q3⟩;have hbs3:=q0.blk HB3.out (by simp);have hbn:=q0.blk HBN.out (by simp);have x6:w5.cell? ⟨w.heap.size,0,none⟩=some (pt bk):=hbs3.cell rfl;have x0:w5.cell? ⟨w2.heap.size,0,none⟩=some (pt bk):=hbn.cell rfl;have x1:w5.cell? ⟨w2.heap.size,1,none⟩=some (pt o):=hbn.cell rfl;have x2:w5.cell? ⟨w2.heap.size,2,none⟩=some (.int .i64 m):=hbn.cell rfl;have x3:w5.cell? ⟨w2.heap.size,3,none⟩=some (.map (some a)):=hbn.cell rfl;have x4:w5.cell? ⟨w2.heap.size,4,none⟩=some (.map (some b)):=hbn.cell rfl;clear q0 hbs3 hbn;have Q1:=hide q1;have Q2:=hide q2;have Q3:=hide q3;clear q1 q2 q3))
 all_goals go_wp2
 all_goals go_ret
 all_goals exact⟨_,rfl,Q1.out,Q2.out,Q3.out⟩
end
end
section
open Go.RowKit
theorem eqF (w:World) (fn:Nat) (ff fc:Array Value):(binOp BinOp.eql 243 (.func (.func fn) ff fc) .nilFunc).run Tryz.prog w=.ok (.bool false) w:=by
 first
  | kernel_rfl
  | simp[binOp,go_sem]
theorem eqN (w:World):(binOp BinOp.eql 243 .nilFunc .nilFunc).run Tryz.prog w=.ok (.bool true) w:=by
 first
  | kernel_rfl
  | simp[binOp,go_sem]
section
variable {R C:Nat->Fr->Prop} {K:List Tok} {bo:Tok->Option (List It)} {bk mb a b:Nat}
theorem callOld (w:World) (ob:Nat) (m:Int) (hm0:0<=m) (hm3:m<=2) (nm:ByteArray) (fn:Nat) (ff fc:Array Value)
  (hl:∀ w0:World,Kp w w0 (fun _=>False)->(Instr.lookup 204 (.map (some a)) (.agg #[.string nm,.int .i64 (m+1)]) false).run Tryz.prog w0=.ok (.func (.func fn) ff fc) w0):
  Calls Tryz.prog 200 #[.agg #[pt bk,pt ob,.int .i64 (m+1),.map (some a),.map (some b)],.string nm] w fun e w'=>e=.returned (.func (.func fn) ff fc)/\Kp w w' (fun _=>False):=by
 have heF:=eqF;have heN:=eqN;have h1:¬ m+1=0:=by omega
 have h2:(m+1 == 0)=false:=by simpa using h1
 have hk2:=((Kp.refl w (fun _=>False)).alloc (.cells #[pt bk,pt ob,.int .i64 (m+1),.map (some a),.map (some b)] 206)).alloc (.cells #[.string nm,.int .i64 (m+1)] 284);have hr0:=hl _ hk2;have hr1:=hl _ hk2.drew;clear hl;go_enter Tryz.func200,Tryz.ntmps200;go_wp2;go_ret;exact⟨rfl,hk2⟩
theorem callNew (w:World) (ob o:Nat) (m:Int) (hm0:0<=m) (hm3:m<=2) (nm:ByteArray) (hh hl0:Value) (hbk:Blk w bk 106 #[.map (some mb),hh,hl0]) (Q:Value->World->Prop)
  (hl:∀ w0:World,Kp w w0 (fun _=>False)->(Instr.lookup 204 (.map (some a)) (.agg #[.string nm,.int .i64 (m+1)]) false).run Tryz.prog w0=.ok .nilFunc w0)
  (hw:∀ w0:World,Kp w w0 (fun _=>False)->(Instr.lookup 104 (.map (some mb)) (.string nm) false).run Tryz.prog w0=.ok (pt o) w0)
  (hB:∀ w0,Kp w w0 (fun _=>False)->Calls Tryz.prog 221 #[.agg #[pt bk,pt ob,.int .i64 (m+1),.map (some a),.map (some b)],pt o] w0 fun e w'=>∃ fn ff fc w2,e=.returned (.func (.func fn) ff fc)/\(Instr.mapUpdate 204 (.map (some a)) (.agg #[.string nm,.int .i64 (m+1)]) (.func (.func fn) ff fc)).run Tryz.prog w'=.ok () w2/\(∀ k t c,Blk w0 k t c->Blk w' k t c/\Blk w2 k t c)/\(Instr.lookup 204 (.map (some a)) (.agg #[.string nm,.int .i64 (m+1)]) false).run Tryz.prog w2=.ok (.func (.func fn) ff fc) w2/\Q (.func (.func fn) ff fc) w2):
  Calls Tryz.prog 200 #[.agg #[pt bk,pt ob,.int .i64 (m+1),.map (some a),.map (some b)],.string nm] w fun e w'=>∃ c,e=.returned c/\Q c w':=by
 have heF:=eqF;have heN:=eqN;have h1:¬ m+1=0:=by omega
 have h2:(m+1 == 0)=false:=by simpa using h1
 obtain⟨W2,hW2⟩:∃ W2,W2=(w.alloc (.cells #[pt bk,pt ob,.int .i64 (m+1),.map (some a),.map (some b)] 206)).alloc (.cells #[.string nm,.int .i64 (m+1)] 284):=⟨_,rfl⟩;have hk2:Kp w W2 (fun _=>False):=by rw[hW2];exact ((Kp.refl w (fun _=>False)).alloc _).alloc _
 have hb0:Blk W2 w.heap.size 206 #[pt bk,pt ob,.int .i64 (m+1),.map (some a),.map (some b)]:=by rw[hW2];exact (Blk.new w _ _).alloc _
 have hb1:Blk W2 (w.heap.size+1) 284 #[.string nm,.int .i64 (m+1)]:=by rw[hW2];exact Blk.new1 w _ _ _
 have hb2:Blk W2 bk 106 #[.map (some mb),hh,hl0]:=hk2.blk hbk (by simp);have hr0:=hl _ hk2;rw[hW2] at hr0;have hw0:=hw _ hk2;have hw1:=hw _ hk2.drew;have HB:=hide (hB _ hk2.drew);have HF:Hid (∀ w',(∀ k t c,Blk W2.drew k t c->Blk w' k t c)->w'.cell? ⟨w.heap.size,0,none⟩=some (pt bk)/\w'.cell? ⟨w.heap.size,1,none⟩=some (pt ob)/\w'.cell? ⟨w.heap.size,2,none⟩=some (.int .i64 (m+1))/\w'.cell? ⟨w.heap.size,3,none⟩=some (.map (some a))/\w'.cell? ⟨w.heap.size,4,none⟩=some (.map (some b))/\w'.cell? ⟨w.heap.size+1,0,none⟩=some (.string nm)/\w'.cell? ⟨w.heap.size+1,1,none⟩=some (.int .i64 (m+1))/\w'.cell? ⟨bk,0,none⟩=some (.map (some mb))):=fun w' hk=>⟨(hk _ _ _ hb0).cell rfl,(hk _ _ _ hb0).cell rfl,(hk _ _ _ hb0).cell rfl,(hk _ _ _ hb0).cell rfl,(hk _ _ _ hb0).cell rfl,(hk _ _ _ hb1).cell rfl,(hk _ _ _ hb1).cell rfl,(hk _ _ _ hb2).cell rfl⟩;obtain⟨d0,d1,d2,d3,d4,d5,d6,d7⟩:=HF.out W2 (fun _ _ _ h=>h);have HW2:=hide hW2;clear hl hw hB hb0 hb1 hb2 hbk hk2 hW2;go_enter Tryz.func200,Tryz.ntmps200;go_wp2;rw[<-HW2.out]
 go_region_held3 (fun w'=>w'.cell? ⟨w.heap.size,0,none⟩=some (pt bk)/\w'.cell? ⟨w.heap.size,1,none⟩=some (pt ob)/\w'.cell? ⟨w.heap.size,2,none⟩=some (.int .i64 (m+1))/\w'.cell? ⟨w.heap.size,3,none⟩=some (.map (some a))/\w'.cell? ⟨w.heap.size,4,none⟩=some (.map (some b))/\w'.cell? ⟨w.heap.size+1,0,none⟩=some (.string nm)/\w'.cell? ⟨w.heap.size+1,1,none⟩=some (.int .i64 (m+1))/\w'.cell? ⟨bk,0,none⟩=some (.map (some mb))) (go_keep) (first
  | (go_at_call 221;refine HB.out.mono ?_;rintro e w1 ⟨fn,ff,fc,w2,rfl,hup,hbk,hlk,hq⟩;obtain⟨u0,u1,u2,u3,u4,u5,u6,u7⟩:=HF.out w1 (fun k t c h=>(hbk k t c h).1);obtain⟨v0,v1,v2,v3,v4,v5,v6,v7⟩:=HF.out w2 (fun k t c h=>(hbk k t c h).2);have HQ:=hide hq;clear hbk hq))
 go_wp2;go_ret;exact⟨_,rfl,HQ.out⟩
end
end
section
open Go.RowKit
section
variable {R C:Nat->Fr->Prop} {K:List Tok} {bo:Tok->Option (List It)} {bk mb a b:Nat}
theorem JCS (n:Nat) (hn:n+1<=3) (hB:BodyC R C K bo bk mb a b n):JC R (fun t=>t∈K) bo bk (n+1) (some a) (some b) (JB R C K bo bk mb a b) where
 fr:=fun _ _ _ _ _ _ h hk hT hE=>h.fr hk hT hE
 mp:=fun _ _ _ h k t c hf=>h.mp k t c hf
 call:=fun E S w ob nm hJ hU hnm hs=>by
  obtain⟨v,hl,hv⟩:=hJ.lookMade nm hs (n+1) hn;have hcast:((n+1:Nat):Int)=(n:Int)+1:=by omega
  rw[hcast] at hl ⊢;have hal:=hJ.mde.lt;rcases hv with rfl|⟨hv,hS⟩
  ·obtain⟨o,f,c,q1,q2,q3,q4,q5,q6,q7,q8,q9,q10,q11⟩:=hJ.bld.look nm hnm;obtain⟨hh,hl0,hbk⟩:=hJ.bld.book;obtain⟨n0,DD0,hmp⟩:=hJ.bld.mp;refine (callNew w ob o (n:Int) (by omega) (by omega) nm _ _ hbk (fun c w'=>Kp w w' (Ft (some a) (some b))/\callR (BD E w') R bk (Acts (BD E w') R bk) nm.data.toList c/\JB R C K bo bk mb a b E (fun t=>S t\/Bc bo (n+1) nm.data.toList t) w') (fun w0 hk=>hl w0 (hk.block a hal (by simp))) (fun w0 hk=>q5 w0 (hk.block mb hmp.lt (by simp))) (fun w0 hk=>?_)).mono ?_
   ·have hE0:=BD_keep (D:=E) (D':=E) hk (fun b _ h=>⟨h,by simp⟩);have hJ0:=hJ.kp hk;rw[<-hcast];refine (builtInM n hn hB E S w0 ob o f c nm hJ0 (hU.kp hk) hnm q1 q2 q3 q4 (hk.blk q6 (by simp)) q7 hs (q9.mono hE0) (q10.mono hE0 (fun _ _ h=>h)) q11).mono ?_;rintro e w1 ⟨cl,rfl,k1,k2,k3⟩;obtain⟨fn,ff,fc,rfl⟩:=callR_form k2;obtain⟨w2,hrun,hk2,hJ2,hl2⟩:=k3.putMade nm hnm hs (n+1) hn _ k2 (fun t ht=>.inr ht);have hne:∀ k t c,Blk w1 k t c->¬ k=a:=fun k t c hb e=>k3.mde.ne hb e.symm;refine⟨fn,ff,fc,w2,rfl,hrun,fun k t c hb=>?_,hl2 w2 rfl,((hk.ft _ _).trans k1).trans (hk2.mono (fun k _ e=>.inl (by rw[show k=a from e]))),?_,hJ2⟩
    ·have h1:=k1.blk hb (fun e=>hJ0.mp k t c e hb);exact⟨h1,hk2.blk h1 (hne k t c h1)⟩
    ·have hE2:∀ k t c,BD E w1 k t c->BD E w2 k t c:=fun k t c h=>⟨h.1,hk2.blk h.2 (hne k t c h.2)⟩;exact callR_mono hE2 (fun _ _ h=>h) (fun _ _ _ h=>h.mono hE2 (fun _ _ h=>h)) k2
   ·rintro e w' ⟨c,rfl,k1,k2,k3⟩;exact⟨c,rfl,k1,k2,k3⟩
  ·obtain⟨fn,ff,fc,rfl⟩:=callR_form hv;refine (callOld w ob (n:Int) (by omega) (by omega) nm fn ff fc (fun w0 hk=>hl w0 (hk.block a hal (by simp)))).mono ?_;rintro e w' ⟨rfl,hk⟩;have hE0:=BD_keep (D:=E) (D':=E) hk (fun b _ h=>⟨h,by simp⟩);refine⟨_,rfl,hk.ft _ _,callR_mono hE0 (fun _ _ h=>h) (fun _ _ _ h=>h.mono hE0 (fun _ _ h=>h)) hv,?_⟩;rw[show (fun t=>S t\/Bc bo (n+1) nm.data.toList t)=S by funext t;exact propext ⟨fun q=>q.elim id (hS t),.inl⟩];exact hJ.kp hk
theorem bodyAll:∀ n,n<=3->BodyC R C K bo bk mb a b n
 | 0,_=>body0
 | n+1,h=>bodyS n h (JCS n h (bodyAll n (by omega)))
theorem buildM (n:Nat) (hn:n<=3) (E:Nat->Prop) (w:World) (hU:Up E w) (hb:Bld R C K bo bk mb E w) (ob:Nat) (f:Fr) (c:WC) (ho:Blk w ob 111 c.arr) (hI:Items (BD E w) c.iv f.body) (hA:Acts (BD E w) R bk ob c.sv f.body) (hwb:∃ G,wb (fun t=>t∈K) G false f.body):
  Calls Tryz.prog 209 #[pt bk,pt ob,.int .i64 (n:Int)] w fun e w'=>∃ ao cap b,e=.returned (.tuple #[.slice ao f.body.length cap,.map (some b)])/\w.heap.size<=b/\Kp w w' (fun _=>False)/\Acts (BD E w') R bk ob (.slice ao f.body.length cap) f.body/\PartsOk C K (Bd bo n f.body) b w':=by
 have hmm:=@run_makeMap Tryz.prog;obtain⟨W3,hW3⟩:∃ W3,W3=((w.alloc (.map #[] 0)).alloc (.map #[] 0)).alloc (.cells #[pt bk,pt ob,.int .i64 (n:Int),.map (some w.heap.size),.map (some (w.heap.size+1))] 206):=⟨_,rfl⟩;have hk3:Kp w W3 (fun _=>False):=by rw[hW3];exact (((Kp.refl _ _).alloc _).alloc _).alloc _
 have hbs:Blk W3 (w.heap.size+1+1) 206 #[pt bk,pt ob,.int .i64 (n:Int),.map (some w.heap.size),.map (some (w.heap.size+1))]:=by rw[hW3];exact Blk.new2 w _ _ _ _
 have hE3:=BD_keep (D:=E) (D':=E) hk3 (fun b _ h=>⟨h,by simp⟩);obtain⟨n0,DD0,hmp⟩:=hb.mp;have hml:=hmp.lt;have hm1:W3.ownsMap Tryz.prog 284 heldR w.heap.size 0 (.map []):=by rw[hW3];exact ((World.ownsMap_made w Tryz.prog 284 heldR).alloc _).alloc _
 have hm2:W3.ownsMap Tryz.prog 9 heldR (w.heap.size+1) 0 (.map []):=by
  rw[hW3];have:=World.ownsMap_made (w.alloc (.map #[] 0)) Tryz.prog 9 heldR;rw[World.size_alloc] at this;exact this.alloc _
 have hJ:JB R C K bo bk mb w.heap.size (w.heap.size+1) E (fun _=>False) W3:=by
  refine⟨hb.frame hk3 (fun _ _ _ _ _ e=>e) (fun e=>e) hE3,⟨.map [],⟨0,hm1⟩,(fun kl h=>by cases h)⟩,⟨.map [],⟨0,hm2⟩,fun t _=>⟨(fun h=>by cases h),False.elim⟩,fun kl h=>by cases h⟩,by omega,by omega,by omega⟩
 have HB:Hid (∀ w0,Kp W3 w0 (fun _=>False)->Calls Tryz.prog 232 #[.agg #[pt bk,pt ob,.int .i64 (n:Int),.map (some w.heap.size),.map (some (w.heap.size+1))]] w0 fun e w'=>∃ ao cap,e=.returned (.slice ao f.body.length cap)/\Blk w' (w.heap.size+1+1) 206 #[pt bk,pt ob,.int .i64 (n:Int),.map (some w.heap.size),.map (some (w.heap.size+1))]/\Kp w w' (fun _=>False)/\Acts (BD E w') R bk ob (.slice ao f.body.length cap) f.body/\PartsOk C K (Bd bo n f.body) (w.heap.size+1) w'):=by
  intro w0 hk0;have hk30:=hk3.trans hk0;have hE0:=BD_keep (D:=E) (D':=E) hk30 (fun b _ h=>⟨h,by simp⟩);refine (bodyAll n hn E (fun _=>False) w0 ob f c (hJ.kp hk0) (hU.kp hk30) (hk30.blk ho (by simp)) (hI.mono hE0) (hA.mono hE0 (fun _ _ h=>h)) hwb).mono ?_;rintro e w' ⟨ao,cap,rfl,h1,h2,h3⟩;refine⟨ao,cap,rfl,h1.blk (hk0.blk hbs (by simp)) (fun e=>(hJ.kp hk0).mp _ _ _ e (hk0.blk hbs (by simp))),?_,h2,?_⟩
  ·refine ((hk30.ft (some w.heap.size) (some (w.heap.size+1))).trans h1).mono (fun k hk e=>?_);rcases e with e|e
   ·injection e with e;omega
   ·injection e with e;omega
  ·have:=h3.pts;rw[show (fun t=>False\/Bd bo n f.body t)=Bd bo n f.body by funext t;exact propext ⟨fun q=>q.elim False.elim id,.inr⟩] at this;exact this
 have HW3:=hide hW3;obtain⟨d0,d1,d2,d3,d4⟩:W3.cell? ⟨w.heap.size+1+1,0,none⟩=some (pt bk)/\W3.cell? ⟨w.heap.size+1+1,1,none⟩=some (pt ob)/\W3.cell? ⟨w.heap.size+1+1,2,none⟩=some (.int .i64 (n:Int))/\W3.cell? ⟨w.heap.size+1+1,3,none⟩=some (.map (some w.heap.size))/\W3.cell? ⟨w.heap.size+1+1,4,none⟩=some (.map (some (w.heap.size+1))):=⟨hbs.cell rfl,hbs.cell rfl,hbs.cell rfl,hbs.cell rfl,hbs.cell rfl⟩;clear hW3 hk3 hbs hE3 hmp hm1 hm2 hJ hb ho hI hA hwb hU;go_enter Tryz.func209,Tryz.ntmps209;go_wp2;rw[<-HW3.out]
 go_region_held3 (fun w'=>w'.cell? ⟨w.heap.size+1+1,0,none⟩=some (pt bk)/\w'.cell? ⟨w.heap.size+1+1,1,none⟩=some (pt ob)/\w'.cell? ⟨w.heap.size+1+1,2,none⟩=some (.int .i64 (n:Int))/\w'.cell? ⟨w.heap.size+1+1,3,none⟩=some (.map (some w.heap.size))/\w'.cell? ⟨w.heap.size+1+1,4,none⟩=some (.map (some (w.heap.size+1)))) (go_keep) (first
  | (go_at_call 232;refine (HB.out _ ?_).mono ?_;exact (Kp.refl _ _).drew;rintro e w4 ⟨ao,cap,rfl,hbn,q1,q2,q3⟩;have u0:w4.cell? ⟨w.heap.size+1+1,0,none⟩=some (pt bk):=hbn.cell rfl;have u1:w4.cell? ⟨w.heap.size+1+1,1,none⟩=some (pt ob):=hbn.cell rfl;have u2:w4.cell? ⟨w.heap.size+1+1,2,none⟩=some (.int .i64 (n:Int)):=hbn.cell rfl;have u3:w4.cell? ⟨w.heap.size+1+1,3,none⟩=some (.map (some w.heap.size)):=hbn.cell rfl;have u4:w4.cell? ⟨w.heap.size+1+1,4,none⟩=some (.map (some (w.heap.size+1))):=hbn.cell rfl;have Q1:=hide q1;have Q2:=hide q2;have Q3:=hide q3;clear hbn q1 q2 q3))
 all_goals go_wp2
 all_goals go_ret2
 all_goals exact⟨ao,cap,_,rfl,Nat.le_succ _,Q1.out,Q2.out,Q3.out⟩
end
end
section
open Go.RowKit
def KindU (w:World) (k:Nat):Prop:=(∃ c,Blk w k 111 c)\/∃ n DD,w.ownsMap Tryz.prog 9 heldR k n DD
theorem kindU {D D':GD} {w w':World} {bk k:Nat} (hW:Wds D w bk) (hk:Kp w w' (FU D w bk)) (hp:Pres D D' w w' bk) (hu:D.u k) (h:KindU w k):KindU w' k:=by
 by_cases hf:FU D w bk k
 ·rcases hf with⟨g,hg⟩|⟨o,g,c,hg,hc,hm⟩
  ·obtain⟨c,hc⟩:=hW.ok k g hg;obtain⟨c',_,_,_,_,_,hc'⟩:=hp k g c hg hc;exact .inl ⟨_,hc'.blk⟩
  ·obtain⟨c',_,_,_,_,e5,hc'⟩:=hp o g c hg hc;obtain⟨_,_,DD,⟨⟨n,h1⟩,_⟩⟩:=hc'.wm k (e5.trans hm);exact .inr ⟨n,DD,h1⟩
 ·have hlt:=hW.lt k hu;rcases h with⟨c,hc⟩|⟨n,DD,hm⟩
  ·exact .inl ⟨c,hk.blk hc hf⟩
  ·exact .inr ⟨n,DD,ownsMap_same hm (hk.block k hlt hf)⟩
def hotG (D:GD) (n1 n2 pb ob:Nat):GD:=⟨fun k=>D.d k\/(n1<=k/\k < n2/\k ≠ pb),fun k=>D.u k\/k=pb,D.r,fun k=>if k=pb then (ob,1) else D.tag k,D.J⟩
def htX (X:XV) (k:Nat) (T L:Nat->Prop):XV:=⟨fun i=>if i=k then true else X.fa i,X.ct,fun i j=>(i=k/\T j)\/(i ≠ k/\X.P i j),fun i j=>X.H i j\/(i=k/\T j/\¬ L j)⟩
section
variable {D:GD} {w:World} {bk mb ob:Nat} {f:Fr} {C:Nat->Fr->Prop} {K:List Tok} {bo:Tok->Option (List It)} {nn k:Nat} {fr:Nat->Fr} {oo:Nat->Nat} {X:XV}
theorem hotC {c:WC} {w2:World} {S:Tok->Prop} (hW:Wds D w bk) (hr:D.r ob f) (hc:WordC D w bk ob f c) (hk2:Kp (w.setCell ⟨ob,4,none⟩ (.bool true)) w2 (fun _=>False)) (av:Value) (pb:Nat) (hpb:w.heap.size<=pb) (hA:Acts (BD (fun k=>D.d k\/w.heap.size<=k) w2) D.r bk ob av f.body) (hp:PartsOk C K S pb w2) (hCr:∀ o f,C o f->D.r o f) (hX:EX D w bk nn fr oo X (fun _=>False)) (hk:k < nn) (ho:oo k=ob) (hf:fr k=f) (hCX:∀ o g,C o g->∃ j,j < nn/\o=oo j/\g=fr j):
  Pres D (hotG D w.heap.size w2.heap.size pb ob) w ((w2.setCell ⟨ob,3,none⟩ av).setCell ⟨ob,7,none⟩ (.map (some pb))) bk/\Wds (hotG D w.heap.size w2.heap.size pb ob) ((w2.setCell ⟨ob,3,none⟩ av).setCell ⟨ob,7,none⟩ (.map (some pb))) bk/\Kp w ((w2.setCell ⟨ob,3,none⟩ av).setCell ⟨ob,7,none⟩ (.map (some pb))) (fun k=>k=ob)/\EX (hotG D w.heap.size w2.heap.size pb ob) ((w2.setCell ⟨ob,3,none⟩ av).setCell ⟨ob,7,none⟩ (.map (some pb))) bk nn fr oo (htX X k (fun j=>S (fr j).name) (fun j=>S (fr j).name)) (fun _=>False)/\∃ n DD,((w2.setCell ⟨ob,3,none⟩ av).setCell ⟨ob,7,none⟩ (.map (some pb))).ownsMap Tryz.prog 9 heldR pb n DD/\(∀ j,j < nn->(Maps.has DD (.string (fr j).name)=true<->S (fr j).name))/\∀ kl,Maps.has DD kl=true->∃ j,j < nn/\kl=.string (fr j).name/\C (oo j) (fr j)/\∀ zd,DD.atKey kl zd=.held (pt (oo j)):=by
 obtain⟨W3,hW3⟩:∃ W3,W3=(w2.setCell ⟨ob,3,none⟩ av).setCell ⟨ob,7,none⟩ (.map (some pb)):=⟨_,rfl⟩;rw[<-hW3];have hob:=hc.blk.lt;have hk1:Kp w (w.setCell ⟨ob,4,none⟩ (.bool true)) (fun k=>k=ob):=(Kp.refl w (fun k=>k=ob)).set (a:=⟨ob,4,none⟩) (fun _=>rfl) _;have hs1:(w.setCell ⟨ob,4,none⟩ (.bool true)).heap.size=w.heap.size:=World.size_setCell _ _ _;have hs2:w.heap.size<=w2.heap.size:=by have:=hk2.size;omega
 have hk12:Kp w w2 (fun k=>k=ob):=hk1.trans (hk2.mono (fun _ _ e=>e.elim));have hk3:Kp w W3 (fun k=>k=ob):=by rw[hW3];exact (hk12.set (a:=⟨ob,3,none⟩) (fun _=>rfl) _).set (a:=⟨ob,7,none⟩) (fun _=>rfl) _
 have hk23:Kp w2 W3 (fun k=>k=ob):=by rw[hW3];exact ((Kp.refl w2 (fun k=>k=ob)).set (a:=⟨ob,3,none⟩) (fun _=>rfl) _).set (a:=⟨ob,7,none⟩) (fun _=>rfl) _
 have hs3:W3.heap.size=w2.heap.size:=by rw[hW3];simp
 have hud:∀ k,D.d k->¬ k=ob:=fun k hd e=>hW.ud ob hc.u (e ▸ hd);obtain⟨DDp,⟨np,hmp⟩,hps,hpe⟩:=hp;have hph:∀ j,j < nn->(Maps.has DDp (.string (fr j).name)=true<->S (fr j).name):=fun j hj=>hps _ (by
  obtain⟨c0,hc0,_⟩:=hX.wc j hj;have h1:=congrArg List.length hc0.nm;have h2:=hc0.ns;have h3:c0.nm.data.toList.length=c0.nm.size:=rfl;rw[<-h1,h3];exact Nat.le_trans h2 (by decide))
 have hpj:∀ kl,Maps.has DDp kl=true->∃ j,j < nn/\kl=.string (fr j).name/\C (oo j) (fr j)/\∀ zd,DDp.atKey kl zd=.held (pt (oo j)):=fun kl hkl=>by
  obtain⟨o,g,q1,_,q2,q3⟩:=hpe kl hkl;obtain⟨j,hj,e1,e2⟩:=hCX o g q2;subst e1;subst e2;exact⟨j,hj,q1,q2,q3⟩
 have hpl:=hmp.lt;have hpo:¬ pb=ob:=map_ne hmp (hk2.blk (hc.blk.set 4 _) (by simp));have hmp3:W3.ownsMap Tryz.prog 9 heldR pb np DDp:=ownsMap_same hmp (hk23.block pb hpl hpo);have hbd:∀ k t c,BD D.d w k t c->BD (hotG D w.heap.size w2.heap.size pb ob).d W3 k t c:=fun k t c h=>⟨.inl h.1,hk3.blk h.2 (hud k h.1)⟩;have hbe:∀ k t c,BD (fun k=>D.d k\/w.heap.size<=k) w2 k t c->BD (hotG D w.heap.size w2.heap.size pb ob).d W3 k t c:=fun k t c h=>by
  have hl:=h.2.lt;have hkp:k ≠ pb:=fun e=>map_ne hmp h.2 e.symm;refine⟨h.1.imp id (fun q=>⟨q,hl,hkp⟩),hk23.blk h.2 (fun e=>?_)⟩;have e:k=ob:=e;rcases h.1 with q|q
  ·exact hud k q e
  ·omega
 have hgl:GLe D (hotG D w.heap.size w2.heap.size pb ob) w:=⟨fun k h=>.inl h,fun _ _ h=>h,fun k hk=>by show (if k=pb then _ else _)=_;rw[if_neg (by omega)]⟩;have hpm:MapOk (hotG D w.heap.size w2.heap.size pb ob) W3 (some pb) (ob,1):=fun b hb=>by
  injection hb with hb;subst hb;exact⟨.inr rfl,by show (if pb=pb then _ else _)=_;rw[if_pos rfl],DDp,⟨np,hmp3⟩,fun kl hkl=>by obtain⟨o,g,q1,_,q2,q3⟩:=hpe kl hkl;exact⟨o,g,q1,hCr o g q2,q3⟩⟩
 have hbw:Blk W3 ob 111 ({ c with fa:=true,av:=av,pm:=some pb }:WC).arr:=by rw[hW3];exact ((hk2.blk (hc.blk.set 4 _) (by simp)).set 3 _).set 7 _
 have hnew:WordC (hotG D w.heap.size w2.heap.size pb ob) W3 bk ob f { c with fa:=true,av:=av,pm:=some pb }:=
  ⟨hbw,hc.nm,hc.ns,hc.it.mono hbd,hc.sl.mono hbd (fun _ _ h=>h),hA.mono hbe (fun _ _ h=>h),hpm,hc.wm.frame hk3 hgl (fun b hb e=>hc.wm.neBlk hb hc.blk e),hc.wn,.inl hc.u,hc.wf⟩
 have hpr:Pres D (hotG D w.heap.size w2.heap.size pb ob) w W3 bk:=fun o g c0 hr0 hc0=>by
  by_cases ho:o=ob
  ·subst ho;have:=hW.fn o g f hr0 hr;subst this;have:=hc0.inj hc;subst this;exact⟨{ c0 with fa:=true,av:=av,pm:=some pb },rfl,rfl,rfl,rfl,rfl,hnew⟩
  ·exact⟨c0,rfl,rfl,rfl,rfl,rfl,hc0.frame hk3 hgl hbd ho (fun b hb e=>hc0.pm.neBlk hb hc.blk e) (fun b hb e=>hc0.wm.neBlk hb hc.blk e)⟩
 have hex:EX (hotG D w.heap.size w2.heap.size pb ob) W3 bk nn fr oo (htX X k (fun j=>S (fr j).name) (fun j=>S (fr j).name)) (fun _=>False):=by
  have hHe:∀ i j,X.H i j<->(htX X k (fun j=>S (fr j).name) (fun j=>S (fr j).name)).H i j:=fun i j=>⟨.inl,fun h=>h.elim id (fun h=>absurd h.2.1 h.2.2)⟩;refine⟨fun j hj=>hX.r j hj,hX.nd,fun j hj=>?_⟩;obtain⟨c0,hc0,b1,b2,b3,b4,b5⟩:=hX.wc j hj;by_cases ej:j=k
  ·subst ej;rw[ho,hf] at hc0 ⊢;have:=hc0.inj hc;subst this;exact⟨_,hnew,(if_pos rfl).symm,b2,.inr ⟨pb,DDp,rfl,⟨np,hmp3⟩,fun i hi=>(hph i hi).trans ⟨fun h=>.inl ⟨rfl,h⟩,fun h=>h.elim (fun h=>h.2) (fun h=>absurd rfl h.1)⟩,fun kl hkl=>by obtain⟨i,hi,q1,_,q3⟩:=hpj kl hkl;exact⟨i,hi,q1,q3⟩⟩,fun e=>((b4 e).same (fun b hb=>hk3.block b (hc.wm.lt hb) (hc.wm.neBlk hb hc.blk))).iff (fun i _=>hHe i j),fun e=>e.elim⟩
  ·have hne:¬ oo j=ob:=fun e=>ej (hX.inj hW hj hk (e.trans ho.symm));have n1:∀ b,c0.pm=some b->¬ b=ob:=fun b hb=>hc0.pm.neBlk hb hc.blk;have n2:∀ b,c0.wm=some b->¬ b=ob:=fun b hb=>hc0.wm.neBlk hb hc.blk;exact⟨c0,hc0.frame hk3 hgl hbd hne n1 n2,b1.trans (if_neg ej).symm,b2,(b3.same (fun b hb=>hk3.block b (hc0.pm.lt hb) (n1 b hb))).iff (fun i _=>⟨fun h=>.inr ⟨ej,h⟩,fun h=>h.elim (fun h=>absurd h.1 ej) (fun h=>h.2)⟩),fun e=>((b4 e).same (fun b hb=>hk3.block b (hc0.wm.lt hb) (n2 b hb))).iff (fun i _=>hHe i j),fun e=>e.elim⟩
 refine⟨hpr,⟨fun o g hr0=>?_,hW.fn,fun k hu hd=>?_,fun k hu=>?_,fun k hd=>?_⟩,hk3,hex,np,DDp,hmp3,hph,hpj⟩
 ·obtain⟨c0,hc0⟩:=hW.ok o g hr0;obtain⟨c',_,_,_,_,_,h'⟩:=hpr o g c0 hr0 hc0;exact⟨c',h'⟩
 ·rcases hu with hu|hu
  ·rcases hd with hd|hd
   ·exact hW.ud k hu hd
   ·have:=hW.lt k hu;omega
  ·rcases hd with hd|hd
   ·have:=hW.dl k hd;omega
   ·exact hd.2.2 hu
 ·rcases hu with hu|hu
  ·have:=hW.lt k hu;omega
  ·rw[hu,hs3];exact hpl
 ·rcases hd with hd|hd
  ·have:=hW.dl k hd;omega
  ·omega
structure HeatAt (D:GD) (bk nn:Nat) (fr:Nat->Fr) (oo:Nat->Nat) (X:XV) (k:Nat) (T:Nat->Prop) (pb r n:Nat) (DD:DataW Value) (w wr:World) (left:Lit->Bool) (cnt:Nat):Prop where
 rg:wr.ranges Tryz.prog 9 heldR pb r n DD left cnt
 sub:∀ kl,left kl=true->Maps.has DD kl=true
 kp:Kp w wr (FU D w bk)
 pr:Pres D D w wr bk
 ex:EX D wr bk nn fr oo (htX X k T (fun j=>left (.string (fr j).name)=true)) (fun _=>False)
theorem Bld.fast {R:Nat->Fr->Prop} {E E':Nat->Prop} (h:Bld R C K bo bk mb E w) {c0:WC} (hob:Blk w ob 111 c0.arr) (hE:∀ b t c,BD E w b t c->BD E' (w.setCell ⟨ob,4,none⟩ (.bool true)) b t c):Bld R C K bo bk mb E' (w.setCell ⟨ob,4,none⟩ (.bool true)):=by
 have hk:Kp w (w.setCell ⟨ob,4,none⟩ (.bool true)) (fun k=>k=ob):=(Kp.refl w (fun k=>k=ob)).set (a:=⟨ob,4,none⟩) (fun _=>rfl) _;obtain⟨h0,b0,hbk⟩:=h.book;obtain⟨n,DD,hmp⟩:=h.mp;have hme:=hk.block mb hmp.lt (map_ne hmp hob);refine⟨⟨h0,b0,hk.blk hbk (fun e=>absurd ((show bk=ob from e) ▸ hbk) (fun q=>absurd (q.inj hob).1 (by decide)))⟩,⟨n,DD,ownsMap_same hmp hme⟩,h.kl,fun nm hnm=>?_⟩;obtain⟨o,f,c,q1,q2,q3,q4,q5,q6,q7,q8,q9,q10,q11⟩:=h.look nm hnm;by_cases ho:o=ob
 ·subst ho;exact⟨o,f,{ c with fa:=true },q1,q2,q3,q4,fun w0 e=>q5 w0 (e.trans hme),q6.set 4 _,q7,q8,q9.mono hE,q10.mono hE (fun _ _ h=>h),q11⟩
 ·exact⟨o,f,c,q1,q2,q3,q4,fun w0 e=>q5 w0 (e.trans hme),hk.blk q6 ho,q7,q8,q9.mono hE,q10.mono hE (fun _ _ h=>h),q11⟩
theorem heatM {c:WC} (hW:Wds D w bk) (hX:EX D w bk nn fr oo X (fun _=>False)) (hk:k < nn) (ho:oo k=ob) (hf:fr k=f) (hCX:∀ o g,C o g->∃ j,j < nn/\o=oo j/\g=fr j) (h30:nn<=30) (hr:D.r ob f) (hc:WordC D w bk ob f c) (hCr:∀ o g,C o g->D.r o g/\∃ c,WordC D w bk o g c/\c.gn=false) (n:Nat) (hn:n<=3) (hot:Int) (hbk:Blk w bk 106 #[.map (some mb),.int .i64 hot,.int .i64 (n:Int)]) (hb:Bld D.r C K bo bk mb D.d w) (hwb:∃ G,wb (fun t=>t∈K) G false f.body):
  Calls Tryz.prog 184 #[pt bk,pt ob] w fun e w'=>e=.returned (.tuple #[])/\∃ n2 pb,w.heap.size<=pb/\pb < n2/\n2<=w'.heap.size/\Kp w w' (FU D w bk)/\Pres D (hotG D w.heap.size n2 pb ob) w w' bk/\Wds (hotG D w.heap.size n2 pb ob) w' bk/\(∃ n DD,w'.ownsMap Tryz.prog 9 heldR pb n DD)/\EX (hotG D w.heap.size n2 pb ob) w' bk nn fr oo (htX X k (fun j=>Bd bo n f.body (fr j).name) (fun _=>False)) (fun _=>False):=by
 obtain⟨W1,hW1⟩:∃ W1,W1=w.setCell ⟨ob,4,none⟩ (.bool true):=⟨_,rfl⟩;have hw4:Kp w W1 (fun k=>k=ob):=by rw[hW1];exact (Kp.refl w (fun k=>k=ob)).set (a:=⟨ob,4,none⟩) (fun _=>rfl) _
 have hs1:W1.heap.size=w.heap.size:=by rw[hW1];simp
 have hud:∀ k,D.d k->¬ k=ob:=fun k hd e=>hW.ud ob hc.u (e ▸ hd);have hU:Up (fun k=>D.d k\/w.heap.size<=k) W1:=fun k hk=>.inr (by rw[hs1] at hk;exact hk);have hE1:∀ k t c,BD D.d w k t c->BD (fun k=>D.d k\/w.heap.size<=k) W1 k t c:=fun k t c h=>⟨.inl h.1,hw4.blk h.2 (hud k h.1)⟩;have hb1:Bld D.r C K bo bk mb (fun k=>D.d k\/w.heap.size<=k) W1:=by rw[hW1] at hE1 ⊢;exact hb.fast hc.blk hE1
 have hbw:Blk W1 ob 111 ({ c with fa:=true }:WC).arr:=by rw[hW1];exact hc.blk.set 4 _
 have hbk1:Blk W1 bk 106 #[.map (some mb),.int .i64 hot,.int .i64 (n:Int)]:=hw4.blk hbk (fun e=>absurd ((show bk=ob from e) ▸ hbk) (fun q=>absurd (q.inj hc.blk).1 (by decide)));have d4:w.cell? ⟨ob,4,none⟩=some (.bool c.fa):=hc.blk.cell rfl;have g4:=hc.blk.free 4;have dk:w.cell? ⟨bk,2,none⟩=some (.int .i64 (n:Int)):=hbk.cell rfl;have hbo:¬ bk=ob:=fun e=>absurd (e ▸ hbk) (fun q=>absurd (q.inj hc.blk).1 (by decide));have HBu:Hid (∀ w0,Kp W1 w0 (fun _=>False)->Calls Tryz.prog 209 #[pt bk,pt ob,.int .i64 (n:Int)] w0 fun e w'=>∃ ao cap b,e=.returned (.tuple #[.slice ao f.body.length cap,.map (some b)])/\Blk w' ob 111 ({ c with fa:=true }:WC).arr/\w.heap.size<=b/\Kp W1 w' (fun _=>False)/\Acts (BD (fun k=>D.d k\/w.heap.size<=k) w') D.r bk ob (.slice ao f.body.length cap) f.body/\PartsOk C K (Bd bo n f.body) b w'):=by
  intro w0 hk0;have hE0:=BD_keep (D:=fun k=>D.d k\/w.heap.size<=k) (D':=fun k=>D.d k\/w.heap.size<=k) hk0 (fun b _ h=>⟨h,by simp⟩);refine (buildM n hn _ w0 (hU.kp hk0) (hb1.frame hk0 (fun _ _ _ _ _ e=>e) (fun e=>e) hE0) ob f { c with fa:=true } (hk0.blk hbw (by simp)) ((hc.it.mono hE1).mono hE0) ((hc.sl.mono hE1 (fun _ _ h=>h)).mono hE0 (fun _ _ h=>h)) hwb).mono ?_;rintro e w' ⟨ao,cap,b,rfl,q1,q2,q3,q4⟩;have hs0:=hk0.size;exact⟨ao,cap,b,rfl,q2.blk (hk0.blk hbw (by simp)) (by simp),by omega,hk0.trans q2,q3,q4⟩
 have HHC:Hid (∀ w2 ao cap pb,Kp W1 w2 (fun _=>False)->w.heap.size<=pb->Acts (BD (fun k=>D.d k\/w.heap.size<=k) w2) D.r bk ob (.slice ao f.body.length cap) f.body->PartsOk C K (Bd bo n f.body) pb w2->Pres D (hotG D w.heap.size w2.heap.size pb ob) w ((w2.setCell ⟨ob,3,none⟩ (.slice ao f.body.length cap)).setCell ⟨ob,7,none⟩ (.map (some pb))) bk/\Wds (hotG D w.heap.size w2.heap.size pb ob) ((w2.setCell ⟨ob,3,none⟩ (.slice ao f.body.length cap)).setCell ⟨ob,7,none⟩ (.map (some pb))) bk/\Kp w ((w2.setCell ⟨ob,3,none⟩ (.slice ao f.body.length cap)).setCell ⟨ob,7,none⟩ (.map (some pb))) (fun k=>k=ob)/\EX (hotG D w.heap.size w2.heap.size pb ob) ((w2.setCell ⟨ob,3,none⟩ (.slice ao f.body.length cap)).setCell ⟨ob,7,none⟩ (.map (some pb))) bk nn fr oo (htX X k (fun j=>Bd bo n f.body (fr j).name) (fun j=>Bd bo n f.body (fr j).name)) (fun _=>False)/\∃ n' DD,((w2.setCell ⟨ob,3,none⟩ (.slice ao f.body.length cap)).setCell ⟨ob,7,none⟩ (.map (some pb))).ownsMap Tryz.prog 9 heldR pb n' DD/\(∀ j,j < nn->(Maps.has DD (.string (fr j).name)=true<->Bd bo n f.body (fr j).name))/\∀ kl,Maps.has DD kl=true->∃ j,j < nn/\kl=.string (fr j).name/\C (oo j) (fr j)/\∀ zd,DD.atKey kl zd=.held (pt (oo j))):=fun w2 ao cap pb h1 h2 h3 h4=>hotC hW hr hc (hW1 ▸ h1) _ pb h2 h3 h4 (fun o g q=>(hCr o g q).1) hX hk ho hf hCX;have HW:=hide hW;have HC:=hide hc;have HCr:=hide hCr;have HND:=hide hX.nd;have HRR:Hid (∀ j,j < nn->D.r (oo j) (fr j)):=hX.r;have HW1:=hide hW1;clear hW hc hCr hX hCX hU hE1 hb1 hbw hbk1 hud hw4 hb hbk hwb hW1;go_enter Tryz.func184,Tryz.ntmps184
 go_wp2_with fail
 rw[<-HW1.out];refine (HBu.out _ (Kp.refl _ _)).mono ?_;rintro e w2 ⟨ao,cap,pb,rfl,hbw,hpb,hk2,hA,hP⟩;obtain⟨hpr,hwd,hkp,hex,np,DD,hown,hph,hE⟩:=HHC.out w2 ao cap pb hk2 hpb hA hP;obtain⟨DDp,⟨npp,hmpp⟩,_⟩:=hP;have hpl:=hmpp.lt;have HPR:=hide hpr;have HWD:=hide hwd;have HKP:=hide hkp;have HE:=hide hE;have HEX:=hide hex;have HPH:=hide hph;have d3:w2.cell? ⟨ob,3,none⟩=some c.av:=hbw.cell rfl;have d7:w2.cell? ⟨ob,7,none⟩=some (.map c.pm):=hbw.cell rfl;have g3:=hbw.free 3;have g7:=hbw.free 7;have hob2:=hbw.lt;have hs2:=hk2.size;clear hpr hwd hkp hE hex hph hA hk2 hbw hmpp HBu HHC;obtain⟨W3,hW3⟩:∃ W3,W3=(w2.setCell ⟨ob,3,none⟩ (.slice ao f.body.length cap)).setCell ⟨ob,7,none⟩ (.map (some pb)):=⟨_,rfl⟩;rw[<-hW3] at HPR HWD HKP HEX hown;have hs3:W3.heap.size=w2.heap.size:=by rw[hW3];simp
 have HW3:=hide hW3;clear hW3
 go_wp2_with (first
  | (at_range;(rw[<-HW3.out]);refine wpList_range_own _ rfl _ 104 rfl 9 107 (Maps.string_keyed Tryz.underlying9) Tryz.underlying104 _ pb np _ rfl hown ?_;intro w0 hrg0 hg0 hs0)
  | go_in)
 go_frame
 rw[hs3] at hrg0 hs0 ⊢
 go_loopw [5] (fun _ wr=>∃ left cnt,HeatAt (hotG D w.heap.size w2.heap.size pb ob) bk nn fr oo X k (fun j=>Bd bo n f.body (fr j).name) pb w2.heap.size np DD W3 wr left cnt) (fun _ wr=>wr.rangeLeft pb w2.heap.size)
 case atStart=>
  have hk0:Kp W3 w0 (fun _=>False):=(Kp.refl W3 _).grown hg0 (fun k _ e=>by cases e);exact⟨_,_,⟨hrg0,fun _ h=>h,hk0.mono (fun _ _ e=>e.elim),(HWD.out.kp hk0).1,(HEX.out.kp hk0).iff (fun _ _=>rfl) (fun _ _=>rfl) (fun _ _ _ _=>Iff.rfl) (fun i j _ hj _=>⟨fun h=>h.imp id (fun h=>⟨h.1,h.2.1,fun e=>h.2.2 ((HPH.out j hj).1 e)⟩),fun h=>h.imp id (fun h=>⟨h.1,h.2.1,fun e=>h.2.2 ((HPH.out j hj).2 e)⟩)⟩)⟩⟩
 case round=>
  obtain⟨left,cnt,hat0⟩:=hrel;have hWr:=HWD.out.next hat0.kp.size hat0.pr;have hrg:=hat0.rg
  go_wp2_with (first
   | (at_next;refine wpList_next_ranges _ rfl _ rfl 9 (Maps.string_keyed Tryz.underlying9) heldR Value.string (fun v:Value=>v) (fun key kl h=>(keyStr_inv h).imp (fun _ q=>q.1)) (fun v _ _=>⟨v,rfl⟩) pb w2.heap.size np _ _ _ rfl hrg ?_ ?_)
   | go_in)
  ·intro hc0 hl0;have hfu:∀ k,FU (hotG D w.heap.size w2.heap.size pb ob) W3 bk k->k < w.heap.size->FU D w bk k:=fun k hk hkl=>by
    rcases hk with⟨g,hg⟩|⟨o,g,c1,hg,hc1,hm⟩
    ·exact .inl ⟨g,hg⟩
    ·obtain⟨c5,hc5⟩:=HW.out.ok o g hg;obtain⟨c6,_,_,_,_,e5,hc6⟩:=HPR.out o g c5 hg hc5;have:=hc6.inj hc1;subst this;exact .inr ⟨o,g,c5,hg,hc5,by rw[<-e5];exact hm⟩
   have hkA:Kp w wr (FU D w bk):=by
    refine⟨hat0.kp.os.trans HKP.out.os,hat0.kp.tape.trans HKP.out.tape,hat0.kp.output.trans HKP.out.output,Nat.le_trans HKP.out.size hat0.kp.size,fun k hk hn=>?_⟩;have h1:=HKP.out.block k hk (fun e=>hn (.inl ⟨f,by rw[show k=ob from e];exact hr⟩));have h2:=hat0.kp.block k (Nat.lt_of_lt_of_le hk HKP.out.size) (fun e=>hn (hfu k e hk));exact h2.trans h1
   have hrl:=hrg.owns;have HF:Hid (∃ n2 pb,w.heap.size<=pb/\pb < n2/\n2<=wr.heap.size/\Kp w wr (FU D w bk)/\Pres D (hotG D w.heap.size n2 pb ob) w wr bk/\Wds (hotG D w.heap.size n2 pb ob) wr bk/\(∃ n DD,wr.ownsMap Tryz.prog 9 heldR pb n DD)/\EX (hotG D w.heap.size n2 pb ob) wr bk nn fr oo (htX X k (fun j=>Bd bo n f.body (fr j).name) (fun _=>False)) (fun _=>False)):=⟨w2.heap.size,pb,hpb,hpl,by have:=hat0.kp.size;omega,hkA,HPR.out.trans (fun _ _ h=>h) hat0.pr,hWr,⟨np,DD,hrl⟩,hat0.ex.iff (fun _ _=>rfl) (fun _ _=>rfl) (fun _ _ _ _=>Iff.rfl) (fun i j _ _ _=>⟨fun h=>h.imp id (fun h=>⟨h.1,h.2.1,fun e=>e⟩),fun h=>h.imp id (fun h=>⟨h.1,h.2.1,fun e=>by have e:left (.string (fr j).name)=true:=e;rw[hl0] at e;cases e⟩)⟩)⟩;clear hat0 hWr hrg hrl hkA hfu hc0 hl0 hg0 hs0 hrg0 hown HPR HWD HKP HE HW HC HCr HEX HPH HND ho hf hk;go_wp2;refine bodyPost_end (results_none rfl _ _ _) rfl ?_;exact⟨rfl,HF.out⟩
  ·intro x v kl yd yp w1 cnt1 hkey hlk hv hat hrg1 hlt hg1 hs1 hen;have hhk:=hat0.sub kl hlk;obtain⟨j,hj,rfl,hC2,hat2⟩:=HE.out kl hhk;have hjk:=(HPH.out j hj).1 hhk;obtain⟨o2,ho2⟩:∃ o2,oo j=o2:=⟨_,rfl⟩;obtain⟨f2,hf2⟩:∃ f2,fr j=f2:=⟨_,rfl⟩;rw[ho2] at hat2;rw[ho2,hf2] at hC2;have hvv:v=pt o2:=by
    have h1:=hat (.held (.pointer none));rw[hat2] at h1;have h2:some (DataW.held v,[])=some (yd,yp):=hv;have h3:DataW.held v=yd:=congrArg Prod.fst (Option.some.inj h2);have h4:DataW.held (pt o2)=yd:=h1;rw[<-h3] at h4;exact (DataW.held.inj h4).symm
   subst hvv;obtain⟨hr2,c0,hc0,hg0'⟩:=HCr.out o2 f2 hC2;have hrn:w2.heap.size < wr.heap.size:=hrg.lt;have hk1:Kp wr w1 (fun k=>k=w2.heap.size):=(Kp.refl wr _).grown hg1 (fun k _ e=>(Option.some.inj e).symm);have hnu:∀ k,(hotG D w.heap.size w2.heap.size pb ob).u k->¬ k=w2.heap.size:=fun k hk e=>by have:=HWD.out.lt k hk;omega
   obtain⟨hp1,hWd1⟩:=hWr.out hk1.drew hnu (fun k hd e=>by have:=HWD.out.dl k hd;omega);have hX1:=hat0.ex.out hk1.drew hnu (fun k hd e=>by have:=HWD.out.dl k hd;omega);have hpa:=hat0.pr.trans (fun _ _ h=>h) hp1;have hpw:=HPR.out.trans (fun _ _ h=>h) hpa;have hka:Kp W3 w1.drew (FU (hotG D w.heap.size w2.heap.size pb ob) W3 bk):=((hat0.kp.mono (T:=fun k=>FU (hotG D w.heap.size w2.heap.size pb ob) W3 bk k\/k=w2.heap.size) (fun _ _ e=>.inl e)).trans (hk1.drew.mono (fun _ _ e=>.inr e))).mono (fun k hk e=>e.elim id (fun e=>by omega));obtain⟨c2,e1,e2,e3,e4,e5,hc2⟩:=hpw o2 f2 c0 hr2 hc0;obtain⟨c1,e11,e12,_,_,_,hc1⟩:=hpw ob f c hr HC.out;obtain⟨b2,hb2⟩:∃ b2,c2.wm=some b2:=Option.isSome_iff_exists.1 (hc2.wn (e1.trans hg0'));obtain⟨hu2,ht2,DD2,hm2⟩:=hc2.wm b2 hb2;obtain⟨c3,hc3,_,_,_,b4,_⟩:=hX1.wc j hj;rw[ho2,hf2] at hc3;have hcc:=hc3.inj hc2;rw[hcc] at b4;have hmx:=b4 (fun e=>e);rw[hb2] at hmx;obtain⟨w5,hrun,hk5,hm5⟩:=hmx.put h30 HND.out k hk c1.nm (by rw[hc1.nm,hf]) hc1.ns;rw[ho] at hrun;have hX5:EX (hotG D w.heap.size w2.heap.size pb ob) w5 bk nn fr oo (htX X k (fun j=>Bd bo n f.body (fr j).name) (fun i=>(left (.string (fr i).name) && !(Lit.string (fr i).name).sameKey (.string (fr j).name))=true)) (fun _=>False):=hX1.wmap hWd1 hj (by rw[ho2,hf2];exact hc2) hb2 hk5 hm5 rfl rfl rfl (fun i hi=>⟨fun h=>h.elim (fun h=>h.elim .inl (fun h=>.inr ⟨h.1,h.2.1,fun e=>((left_ne HND.out hj hj).1 e).2 rfl⟩)) (fun h=>.inr ⟨h,hjk,fun e=>((left_ne HND.out hj hj).1 e).2 rfl⟩),fun h=>h.elim (fun h=>.inl (.inl h)) (fun h=>.inr h.1)⟩) (fun i j' hi hj' ej=>⟨fun h=>h.imp id (fun h=>⟨h.1,h.2.1,fun e=>h.2.2 ((left_ne HND.out hj' hj).1 e).1⟩),fun h=>h.imp id (fun h=>⟨h.1,h.2.1,fun e=>h.2.2 ((left_ne HND.out hj' hj).2 ⟨e,ej⟩)⟩)⟩);have hpt:(hotG D w.heap.size w2.heap.size pb ob).tag pb=(ob,1):=by show (if pb=pb then _ else _)=_;rw[if_pos rfl]
   have hne:¬ pb=b2:=by rintro rfl;rw[hpt] at ht2;cases ht2
   have hlt2:=HWD.out.lt b2 hu2;have hsz1:wr.heap.size<=w1.heap.size:=hk1.size;have hszr:=hat0.kp.size;have HN:Hid (HeatAt (hotG D w.heap.size w2.heap.size pb ob) bk nn fr oo X k (fun j=>Bd bo n f.body (fr j).name) pb w2.heap.size np DD W3 w5 (fun z=>left z && !z.sameKey (.string (fr j).name)) cnt1):=by
    obtain⟨DD5,hm5'⟩:=hm5.mapB HRR.out;refine⟨ranges_same (ranges_same hrg1 (w':=w1.drew) rfl rfl) (hk5.block pb (by show pb < w1.heap.size;omega) hne) (hk5.block w2.heap.size (by show w2.heap.size < w1.heap.size;omega) (by show ¬ w2.heap.size=b2;omega)),fun k hk=>hat0.sub k (by simp at hk;exact hk.1),?_,hpa.trans (fun _ _ h=>h) (hWd1.wmap hr2 hc2 hb2 hk5 hm5'),hX5⟩;exact hka.trans (hk5.mono (fun k _ e=>by
     have e:k=b2:=e;rw[e];exact FU.back HWD.out hpa (.inr ⟨o2,f2,c2,hr2,hc2,hb2⟩)))
   have u8:w1.cell? ⟨o2,8,none⟩=some (.map (some b2)):=by rw[<-hb2];exact hc2.blk.cell rfl
   have u0:w1.cell? ⟨ob,0,none⟩=some (.string c1.nm):=hc1.blk.cell rfl;have v8:w5.cell? ⟨o2,8,none⟩=some (.map (some b2)):=by rw[<-hb2];exact (hk5.blk hc2.blk (fun e=>hm2.ne hc2.blk (show o2=b2 from e).symm)).cell rfl
   have v0:w5.cell? ⟨ob,0,none⟩=some (.string c1.nm):=(hk5.blk hc1.blk (fun e=>hm2.ne hc1.blk (show ob=b2 from e).symm)).cell rfl;have hcnt:=HN.out.rg.left_eq;have hcn0:=hrg.left_eq;clear hat0 hWr hrg hrg1 hg1 hs1 hat hat2 hv hkey hlk hk1 hnu hp1 hWd1 hpa hka hpw hc2 hc1 hm2 hk5 hm5 e1 e2 e3 e4 e5 e11 e12 hc0 hX1 hX5 hmx b4 hc3 hcc ho2 hf2 hjk hhk ho hf;go_wp2
   go_region_held3 (fun w'=>w'.cell? ⟨o2,8,none⟩=some (.map (some b2))/\w'.cell? ⟨ob,0,none⟩=some (.string c1.nm)) (go_keep) (fail)
   go_wp2
   go_roundw
   case rel=>exact⟨_,_,HN.out⟩
   case measure=>rw[hcnt,hcn0];exact hlt
theorem noteNo (fa gn:Bool) (h:fa=true\/gn=true) (c4:w.cell? ⟨ob,4,none⟩=some (.bool fa)) (c6:w.cell? ⟨ob,6,none⟩=some (.bool gn)):
  Calls Tryz.prog 160 #[pt bk,pt ob] w fun e w'=>e=.returned (.tuple #[])/\w'=w:=by
 cases fa with
 | true=>
  clear h;go_enter Tryz.func160,Tryz.ntmps160;go_wp2
  first
   | go_ret
   | refine bodyPost_ret (results_none rfl _ _ _) rfl ?_
   | refine bodyPost_end (results_none rfl _ _ _) rfl ?_
  exact⟨rfl,rfl⟩
 | false=>
  have hg:gn=true:=by simpa using h
  subst hg;clear h;go_enter Tryz.func160,Tryz.ntmps160;go_wp2
  first
   | go_ret
   | refine bodyPost_ret (results_none rfl _ _ _) rfl ?_
   | refine bodyPost_end (results_none rfl _ _ _) rfl ?_
  exact⟨rfl,rfl⟩
theorem noteYes (ct hot:Int) (hbo:¬ bk=ob) (Q:World->Prop) (c4:w.cell? ⟨ob,4,none⟩=some (.bool false)) (c6:w.cell? ⟨ob,6,none⟩=some (.bool false)) (c5:w.cell? ⟨ob,5,none⟩=some (.int .i64 ct)) (g5:w.frozen? ⟨ob,5,none⟩=false) (k1:w.cell? ⟨bk,1,none⟩=some (.int .i64 hot))
  (h1:wrap64 (ct+1) < hot->∀ nq,Q ((w.setCell ⟨ob,5,none⟩ (.int .i64 (wrap64 (ct+1)))).drewN nq)) (h2:¬ wrap64 (ct+1) < hot->∀ nq,Calls Tryz.prog 184 #[pt bk,pt ob] ((w.setCell ⟨ob,5,none⟩ (.int .i64 (wrap64 (ct+1)))).drewN nq) fun e w'=>e=.returned (.tuple #[])/\Q w'):
  Calls Tryz.prog 160 #[pt bk,pt ob] w fun e w'=>e=.returned (.tuple #[])/\Q w':=by
 by_cases hh:wrap64 (ct+1) < hot
 ·have HQ:=hide (h1 hh);clear h1 h2;have hh2:¬ hot<=wrap64 (ct+1):=by omega
  go_enter Tryz.func160,Tryz.ntmps160;go_wp2
  go_quiet (fail)
  go_wp2;refine bodyPost_end (results_none rfl _ _ _) rfl ?_;exact⟨rfl,HQ.out _⟩
 ·have HQ:=hide (h2 hh);have hle:hot<=wrap64 (ct+1):=by omega
  clear h1 h2 hh;go_enter Tryz.func160,Tryz.ntmps160;go_wp2
  go_quiet (fail)
  go_wp2_with fail
  refine (HQ.out _).mono ?_;rintro e w' ⟨rfl,hq⟩;have HQ2:=hide hq;clear hq;go_wp2;refine bodyPost_end (results_none rfl _ _ _) rfl ?_;exact⟨rfl,HQ2.out⟩
end
end
end Go.Proofs.YteainaiebcphlaaGreatDoor
