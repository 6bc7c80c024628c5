import Derived.Test.YteainaiebcphlaaGreatDoorQ25
import Derived.Test.YteainaiebcphlaaGreatDoorQ16
import Derived.Test.YteainaiebcphlaaGreatDoorQ17
import Derived.Test.YteainaiebcphlaaGreatDoorQ18
import Derived.Test.YteainaiebcphlaaGreatDoorQ19
import Derived.Handy
namespace Go.Proofs.YteainaiebcphlaaGreatDoor
set_option maxRecDepth 1000000
set_option maxHeartbeats 4000000
set_option linter.all false
open Go.Proofs.Tryz
section
open Go.RowKit
theorem eqF (w:World)(fn:Nat)(ff fc:Array Value):(binOp BinOp.eql 243 (.func (.func fn) ff fc) .nilFunc).run prog w=.ok (.bool false) w:=by
 first
  | kernel_rfl
  | simp[binOp,go_sem]
theorem eqN (w:World):(binOp BinOp.eql 243 .nilFunc .nilFunc).run prog w=.ok (.bool true) w:=by
 first
  | kernel_rfl
  | simp[binOp,go_sem]
section
variable {R C:Nat->Fr->Prop}{K:List Tok}{bo:Tok->Option (List It)}{bk mb a b:Nat}
theorem Mt (w:World)(ob:Nat)(m:Int)(hm0:0<=m)(zj:m<=2)(nm:ByteArray)(fn:Nat)(ff fc:Array Value)
  (hl:∀w0:World,Kp w w0 (λ_=>False)->(Instr.lookup 204 (.map (some a)) (.agg #[.string nm,.int .i64 (m+1)]) false).run prog w0=.ok (.func (.func fn) ff fc) w0):
  Calls prog 200 #[.agg #[pt bk,pt ob,.int .i64 (m+1),.map (some a),.map (some b)],.string nm] w λe w'=>e=.returned (.func (.func fn) ff fc)/\Kp w w' (λ_=>False):=by
 have heF:=eqF;have heN:=eqN;have h1:¬m+1=0:=by omega
 have h2:(m+1==0)=false:=by simpa using h1
 have hk2:=((Kp.refl w (λ_=>False)).alloc (.cells #[pt bk,pt ob,.int .i64 (m+1),.map (some a),.map (some b)] 206)).alloc (.cells #[.string nm,.int .i64 (m+1)] 284);have cZ:=hl _ hk2;have hr1:=hl _ hk2.drew;clear hl;go_enter func200,ntmps200;go_wp2;go_ret;exact⟨rfl,hk2⟩
theorem Mu (w:World)(ob o:Nat)(m:Int)(hm0:0<=m)(zj:m<=2)(nm:ByteArray)(hh hl0:Value)(hbk:aC w bk 106 #[.map (some mb),hh,hl0])(Q:Value->World->Prop)
  (hl:∀w0:World,Kp w w0 (λ_=>False)->(Instr.lookup 204 (.map (some a)) (.agg #[.string nm,.int .i64 (m+1)]) false).run prog w0=.ok .nilFunc w0)
  (hw:∀w0:World,Kp w w0 (λ_=>False)->(Instr.lookup 104 (.map (some mb)) (.string nm) false).run prog w0=.ok (pt o) w0)
  (hB:∀w0,Kp w w0 (λ_=>False)->Calls prog 221 #[.agg #[pt bk,pt ob,.int .i64 (m+1),.map (some a),.map (some b)],pt o] w0 λe w'=>∃fn ff fc w2,e=.returned (.func (.func fn) ff fc)/\(Instr.mapUpdate 204 (.map (some a)) (.agg #[.string nm,.int .i64 (m+1)]) (.func (.func fn) ff fc)).run prog w'=.ok () w2/\(∀k t c,aC w0 k t c->aC w' k t c/\aC w2 k t c)/\(Instr.lookup 204 (.map (some a)) (.agg #[.string nm,.int .i64 (m+1)]) false).run prog w2=.ok (.func (.func fn) ff fc) w2/\Q (.func (.func fn) ff fc) w2):
  Calls prog 200 #[.agg #[pt bk,pt ob,.int .i64 (m+1),.map (some a),.map (some b)],.string nm] w λe w'=>∃c,e=.returned c/\Q c w':=by
 have heF:=eqF;have heN:=eqN;have h1:¬m+1=0:=by omega
 have h2:(m+1==0)=false:=by simpa using h1
 obtain⟨W2,hW2⟩:∃W2,W2=(w.alloc (.cells #[pt bk,pt ob,.int .i64 (m+1),.map (some a),.map (some b)] 206)).alloc (.cells #[.string nm,.int .i64 (m+1)] 284):=⟨_,rfl⟩;have hk2:Kp w W2 (λ_=>False):=by rw[hW2];exact((Kp.refl w (λ_=>False)).alloc _).alloc _
 have hb0:aC W2 w.heap.size 206 #[pt bk,pt ob,.int .i64 (m+1),.map (some a),.map (some b)]:=by rw[hW2];exact(aC.new w _ _).alloc _
 have hb1:aC W2 (w.heap.size+1) 284 #[.string nm,.int .i64 (m+1)]:=by rw[hW2];exact aC.new1 w _ _ _
 have hb2:aC W2 bk 106 #[.map (some mb),hh,hl0]:=hk2.blk hbk (by simp);have cZ:=hl _ hk2;rw[hW2] at cZ;have hw0:=hw _ hk2;have hw1:=hw _ hk2.drew;have HB:=az (hB _ hk2.drew);have HF:Hid (∀w',(∀k t c,aC W2.drew k t c->aC w' k t c)->w'.cell? ⟨w.heap.size,0,none⟩=some (pt bk)/\w'.cell? ⟨w.heap.size,1,none⟩=some (pt ob)/\w'.cell? ⟨w.heap.size,2,none⟩=some (.int .i64 (m+1))/\w'.cell? ⟨w.heap.size,3,none⟩=some (.map (some a))/\w'.cell? ⟨w.heap.size,4,none⟩=some (.map (some b))/\w'.cell? ⟨w.heap.size+1,0,none⟩=some (.string nm)/\w'.cell? ⟨w.heap.size+1,1,none⟩=some (.int .i64 (m+1))/\w'.cell? ⟨bk,0,none⟩=some (.map (some mb))):=λw' hk=>⟨(hk _ _ _ hb0).cell rfl,(hk _ _ _ hb0).cell rfl,(hk _ _ _ hb0).cell rfl,(hk _ _ _ hb0).cell rfl,(hk _ _ _ hb0).cell rfl,(hk _ _ _ hb1).cell rfl,(hk _ _ _ hb1).cell rfl,(hk _ _ _ hb2).cell rfl⟩;obtain⟨d0,d1,d2,d3,d4,d5,d6,d7⟩:=HF.out W2 (λ_ _ _ h=>h);have wz:=az hW2;clear hl hw hB hb0 hb1 hb2 hbk hk2 hW2;go_enter func200,ntmps200;go_wp2;rw[<-wz.out]
 go_region_held3 (λw'=>w'.cell? ⟨w.heap.size,0,none⟩=some (pt bk)/\w'.cell? ⟨w.heap.size,1,none⟩=some (pt ob)/\w'.cell? ⟨w.heap.size,2,none⟩=some (.int .i64 (m+1))/\w'.cell? ⟨w.heap.size,3,none⟩=some (.map (some a))/\w'.cell? ⟨w.heap.size,4,none⟩=some (.map (some b))/\w'.cell? ⟨w.heap.size+1,0,none⟩=some (.string nm)/\w'.cell? ⟨w.heap.size+1,1,none⟩=some (.int .i64 (m+1))/\w'.cell? ⟨bk,0,none⟩=some (.map (some mb))) (go_keep) (first
  | (go_at_call 221;refine HB.out.mono ?_;rintro e w1 ⟨fn,ff,fc,w2,rfl,hup,hbk,hlk,hq⟩;obtain⟨u0,u1,u2,u3,u4,u5,u6,u7⟩:=HF.out w1 (λk t c h=>(hbk k t c h).1);obtain⟨v0,v1,v2,v3,v4,v5,v6,v7⟩:=HF.out w2 (λk t c h=>(hbk k t c h).2);have HQ:=az hq;clear hbk hq))
 go_wp2;go_ret;exact⟨_,rfl,HQ.out⟩
end
section
variable {R C:Nat->Fr->Prop}{K:List Tok}{bo:Tok->Option (List It)}{bk mb a b:Nat}
theorem JCS (n:Nat)(hn:n+1<=3)(hB:Aq R C K bo bk mb a b n):JC R (λt=>t∈K) bo bk (n+1) (some a) (some b) (JB R C K bo bk mb a b) where
 fr:=λ_ _ _ _ _ _ h hk hT hE=>h.fr hk hT hE
 mp:=λ_ _ _ h k t c hf=>h.mp k t c hf
 call:=λE S w ob nm hJ hU hnm hs=>by
  obtain⟨v,hl,hv⟩:=hJ.I6 nm hs (n+1) hn;have hcast:((n+1:Nat):Int)=(n:Int)+1:=by omega
  rw[hcast] at hl ⊢;have hal:=hJ.F9.lt;rcases hv with rfl|⟨hv,hS⟩
  ·obtain⟨o,f,c,q1,q2,q3,q4,q5,q6,q7,q8,q9,S0,S3⟩:=hJ.F8.look nm hnm;obtain⟨hh,hl0,hbk⟩:=hJ.F8.book;obtain⟨n0,XS,hmp⟩:=hJ.F8.mp;refine(Mu w ob o (n:Int) (by omega) (by omega) nm _ _ hbk (λc w'=>Kp w w' (Ft (some a) (some b))/\kM (BD E w') R bk (cQ (BD E w') R bk) nm.data.toList c/\JB R C K bo bk mb a b E (λt=>S t\/Bc bo (n+1) nm.data.toList t) w') (λw0 hk=>hl w0 (hk.block a hal (by simp))) (λw0 hk=>q5 w0 (hk.block mb hmp.lt (by simp))) (λw0 hk=>?_)).mono ?_
   ·have Cl:=bU (D:=E) (D':=E) hk (λb _ h=>⟨h,by simp⟩);have KD:=hJ.kp hk;rw[<-hcast];refine(I7 n hn hB E S w0 ob o f c nm KD (hU.kp hk) hnm q1 q2 q3 q4 (hk.blk q6 (by simp)) q7 hs (q9.mono Cl) (S0.mono Cl (λ_ _ h=>h)) S3).mono ?_;rintro e w1 ⟨cl,rfl,k1,k2,k3⟩;obtain⟨fn,ff,fc,rfl⟩:=jM k2;obtain⟨w2,hrun,hk2,hJ2,hl2⟩:=k3.Mq nm hnm hs (n+1) hn _ k2 (λt ht=>.inr ht);have hne:∀k t c,aC w1 k t c->¬k=a:=λk t c hb e=>k3.F9.ne hb e.symm;refine⟨fn,ff,fc,w2,rfl,hrun,λk t c hb=>?_,hl2 w2 rfl,((hk.ft _ _).trans k1).trans (hk2.mono (λk _ e=>.inl (by rw[show k=a from e]))),?_,hJ2⟩
    ·have h1:=k1.blk hb (λe=>KD.mp k t c e hb);exact⟨h1,hk2.blk h1 (hne k t c h1)⟩
    ·have F7:∀k t c,BD E w1 k t c->BD E w2 k t c:=λk t c h=>⟨h.1,hk2.blk h.2 (hne k t c h.2)⟩;exact iL F7 (λ_ _ h=>h) (λ_ _ _ h=>h.mono F7 (λ_ _ h=>h)) k2
   ·rintro e w' ⟨c,rfl,k1,k2,k3⟩;exact⟨c,rfl,k1,k2,k3⟩
  ·obtain⟨fn,ff,fc,rfl⟩:=jM hv;refine(Mt w ob (n:Int) (by omega) (by omega) nm fn ff fc (λw0 hk=>hl w0 (hk.block a hal (by simp)))).mono ?_;rintro e w' ⟨rfl,hk⟩;have Cl:=bU (D:=E) (D':=E) hk (λb _ h=>⟨h,by simp⟩);refine⟨_,rfl,hk.ft _ _,iL Cl (λ_ _ h=>h) (λ_ _ _ h=>h.mono Cl (λ_ _ h=>h)) hv,?_⟩;rw[show(λt=>S t\/Bc bo (n+1) nm.data.toList t)=S by funext t;exact propext ⟨λq=>q.elim id (hS t),.inl⟩];exact hJ.kp hk
theorem Dq:∀n,n<=3->Aq R C K bo bk mb a b n
 | 0,_=>VG
 | n+1,h=>VH n h (JCS n h (Dq n (by omega)))
theorem QU (n:Nat)(hn:n<=3)(E:Nat->Prop)(w:World)(hU:Up E w)(hb:IZ R C K bo bk mb E w)(ob:Nat)(f:Fr)(c:WC)(ho:aC w ob 111 c.arr)(hI:cV (BD E w) c.iv f.body)(hA:cQ (BD E w) R bk ob c.sv f.body)(hwb:∃G,wb (λt=>t∈K) G false f.body):
  Calls prog 209 #[pt bk,pt ob,.int .i64 (n:Int)] w λe w'=>∃ao cap b,e=.returned (.tuple #[.slice ao f.body.length cap,.map (some b)])/\w.heap.size<=b/\Kp w w' (λ_=>False)/\cQ (BD E w') R bk ob (.slice ao f.body.length cap) f.body/\gq C K (Bd bo n f.body) b w':=by
 have hmm:=@run_makeMap prog;obtain⟨W3,hW3⟩:∃W3,W3=((w.alloc (.map #[] 0)).alloc (.map #[] 0)).alloc (.cells #[pt bk,pt ob,.int .i64 (n:Int),.map (some w.heap.size),.map (some (w.heap.size+1))] 206):=⟨_,rfl⟩;have hk3:Kp w W3 (λ_=>False):=by rw[hW3];exact(((Kp.refl _ _).alloc _).alloc _).alloc _
 have hbs:aC W3 (w.heap.size+1+1) 206 #[pt bk,pt ob,.int .i64 (n:Int),.map (some w.heap.size),.map (some (w.heap.size+1))]:=by rw[hW3];exact aC.new2 w _ _ _ _
 have OE:=bU (D:=E) (D':=E) hk3 (λb _ h=>⟨h,by simp⟩);obtain⟨n0,XS,hmp⟩:=hb.mp;have hml:=hmp.lt;have xJ:W3.ownsMap prog 284 bQ w.heap.size 0 (.map []):=by rw[hW3];exact((World.ownsMap_made w prog 284 bQ).alloc _).alloc _
 have hm2:W3.ownsMap prog 9 bQ (w.heap.size+1) 0 (.map []):=by
  rw[hW3];have:=World.ownsMap_made (w.alloc (.map #[] 0)) prog 9 bQ;rw[World.size_alloc] at this;exact this.alloc _
 have hJ:JB R C K bo bk mb w.heap.size (w.heap.size+1) E (λ_=>False) W3:=by
  refine⟨hb.frame hk3 (λ_ _ _ _ _ e=>e) (λe=>e) OE,⟨.map [],⟨0,xJ⟩,(λkl h=>by cases h)⟩,⟨.map [],⟨0,hm2⟩,λt _=>⟨(λh=>by cases h),False.elim⟩,λkl h=>by cases h⟩,by omega,by omega,by omega⟩
 have HB:Hid (∀w0,Kp W3 w0 (λ_=>False)->Calls prog 232 #[.agg #[pt bk,pt ob,.int .i64 (n:Int),.map (some w.heap.size),.map (some (w.heap.size+1))]] w0 λe w'=>∃ao cap,e=.returned (.slice ao f.body.length cap)/\aC w' (w.heap.size+1+1) 206 #[pt bk,pt ob,.int .i64 (n:Int),.map (some w.heap.size),.map (some (w.heap.size+1))]/\Kp w w' (λ_=>False)/\cQ (BD E w') R bk ob (.slice ao f.body.length cap) f.body/\gq C K (Bd bo n f.body) (w.heap.size+1) w'):=by
  intro w0 bC;have Mw:=hk3.trans bC;have Cl:=bU (D:=E) (D':=E) Mw (λb _ h=>⟨h,by simp⟩);refine(Dq n hn E (λ_=>False) w0 ob f c (hJ.kp bC) (hU.kp Mw) (Mw.blk ho (by simp)) (hI.mono Cl) (hA.mono Cl (λ_ _ h=>h)) hwb).mono ?_;rintro e w' ⟨ao,cap,rfl,h1,h2,h3⟩;refine⟨ao,cap,rfl,h1.blk (bC.blk hbs (by simp)) (λe=>(hJ.kp bC).mp _ _ _ e (bC.blk hbs (by simp))),?_,h2,?_⟩
  ·refine((Mw.ft (some w.heap.size) (some (w.heap.size+1))).trans h1).mono (λk hk e=>?_);rcases e with e|e
   ·injection e with e;omega
   ·injection e with e;omega
  ·have:=h3.pts;rw[show(λt=>False\/Bd bo n f.body t)=Bd bo n f.body by funext t;exact propext ⟨λq=>q.elim False.elim id,.inr⟩] at this;exact this
 have VI:=az hW3;obtain⟨d0,d1,d2,d3,d4⟩:W3.cell? ⟨w.heap.size+1+1,0,none⟩=some (pt bk)/\W3.cell? ⟨w.heap.size+1+1,1,none⟩=some (pt ob)/\W3.cell? ⟨w.heap.size+1+1,2,none⟩=some (.int .i64 (n:Int))/\W3.cell? ⟨w.heap.size+1+1,3,none⟩=some (.map (some w.heap.size))/\W3.cell? ⟨w.heap.size+1+1,4,none⟩=some (.map (some (w.heap.size+1))):=⟨hbs.cell rfl,hbs.cell rfl,hbs.cell rfl,hbs.cell rfl,hbs.cell rfl⟩;clear hW3 hk3 hbs OE hmp xJ hm2 hJ hb ho hI hA hwb hU;go_enter func209,ntmps209;go_wp2;rw[<-VI.out]
 go_region_held3 (λw'=>w'.cell? ⟨w.heap.size+1+1,0,none⟩=some (pt bk)/\w'.cell? ⟨w.heap.size+1+1,1,none⟩=some (pt ob)/\w'.cell? ⟨w.heap.size+1+1,2,none⟩=some (.int .i64 (n:Int))/\w'.cell? ⟨w.heap.size+1+1,3,none⟩=some (.map (some w.heap.size))/\w'.cell? ⟨w.heap.size+1+1,4,none⟩=some (.map (some (w.heap.size+1)))) (go_keep) (first
  | (go_at_call 232;refine(HB.out _ ?_).mono ?_;exact(Kp.refl _ _).drew;rintro e w4 ⟨ao,cap,rfl,uX,q1,q2,q3⟩;have u0:w4.cell? ⟨w.heap.size+1+1,0,none⟩=some (pt bk):=uX.cell rfl;have u1:w4.cell? ⟨w.heap.size+1+1,1,none⟩=some (pt ob):=uX.cell rfl;have u2:w4.cell? ⟨w.heap.size+1+1,2,none⟩=some (.int .i64 (n:Int)):=uX.cell rfl;have u3:w4.cell? ⟨w.heap.size+1+1,3,none⟩=some (.map (some w.heap.size)):=uX.cell rfl;have u4:w4.cell? ⟨w.heap.size+1+1,4,none⟩=some (.map (some (w.heap.size+1))):=uX.cell rfl;have Q1:=az q1;have Q2:=az q2;have Q3:=az q3;clear uX q1 q2 q3))
 all_goals go_wp2
 all_goals go_ret2
 all_goals exact⟨ao,cap,_,rfl,Nat.le_succ _,Q1.out,Q2.out,Q3.out⟩
end
def jS (w:World)(k:Nat):Prop:=(∃c,aC w k 111 c)\/∃n DD,w.ownsMap prog 9 bQ k n DD
theorem I8 {D D':GD}{w w':World}{bk k:Nat}(hW:kQ D w bk)(hk:Kp w w' (FU D w bk))(hp:fT D D' w w' bk)(hu:D.u k)(h:jS w k):jS w' k:=by
 by_cases hf:FU D w bk k
 ·rcases hf with⟨g,hg⟩|⟨o,g,c,hg,hc,hm⟩
  ·obtain⟨c,hc⟩:=hW.ok k g hg;obtain⟨c',_,_,_,_,_,hc'⟩:=hp k g c hg hc;exact .inl ⟨_,hc'.blk⟩
  ·obtain⟨c',_,_,_,_,e5,hc'⟩:=hp o g c hg hc;obtain⟨_,_,DD,⟨⟨n,h1⟩,_⟩⟩:=hc'.wm k (e5.trans hm);exact .inr ⟨n,DD,h1⟩
 ·have hlt:=hW.lt k hu;rcases h with⟨c,hc⟩|⟨n,DD,hm⟩
  ·exact .inl ⟨c,hk.blk hc hf⟩
  ·exact .inr ⟨n,DD,aL hm (hk.block k hlt hf)⟩
def iB (D:GD)(n1 n2 pb ob:Nat):GD:=⟨λk=>D.d k\/(n1<=k/\k<n2/\k≠pb),λk=>D.u k\/k=pb,D.r,λk=>if k=pb then(ob,1) else D.tag k,D.J⟩
def OT (X:XV)(k:Nat)(T L:Nat->Prop):XV:=⟨λi=>if i=k then true else X.fa i,X.ct,λi j=>(i=k/\T j)\/(i≠k/\X.P i j),λi j=>X.H i j\/(i=k/\T j/\¬L j)⟩
section
variable {D:GD}{w:World}{bk mb ob:Nat}{f:Fr}{C:Nat->Fr->Prop}{K:List Tok}{bo:Tok->Option (List It)}{nn k:Nat}{fr:Nat->Fr}{oo:Nat->Nat}{X:XV}
theorem aaa {c:WC}{w2:World}{S:Tok->Prop}(hW:kQ D w bk)(hr:D.r ob f)(hc:dH D w bk ob f c)(hk2:Kp (w.setCell ⟨ob,4,none⟩ (.bool true)) w2 (λ_=>False))(av:Value)(pb:Nat)(hpb:w.heap.size<=pb)(hA:cQ (BD (λk=>D.d k\/w.heap.size<=k) w2) D.r bk ob av f.body)(hp:gq C K S pb w2)(VK:∀o f,C o f->D.r o f)(hX:EX D w bk nn fr oo X (λ_=>False))(hk:k<nn)(ho:oo k=ob)(hf:fr k=f)(Ya:∀o g,C o g->∃j,j<nn/\o=oo j/\g=fr j):
  fT D (iB D w.heap.size w2.heap.size pb ob) w ((w2.setCell ⟨ob,3,none⟩ av).setCell ⟨ob,7,none⟩ (.map (some pb))) bk/\kQ (iB D w.heap.size w2.heap.size pb ob) ((w2.setCell ⟨ob,3,none⟩ av).setCell ⟨ob,7,none⟩ (.map (some pb))) bk/\Kp w ((w2.setCell ⟨ob,3,none⟩ av).setCell ⟨ob,7,none⟩ (.map (some pb))) (λk=>k=ob)/\EX (iB D w.heap.size w2.heap.size pb ob) ((w2.setCell ⟨ob,3,none⟩ av).setCell ⟨ob,7,none⟩ (.map (some pb))) bk nn fr oo (OT X k (λj=>S (fr j).name) (λj=>S (fr j).name)) (λ_=>False)/\∃n DD,((w2.setCell ⟨ob,3,none⟩ av).setCell ⟨ob,7,none⟩ (.map (some pb))).ownsMap prog 9 bQ pb n DD/\(∀j,j<nn->(Maps.has DD (.string (fr j).name)=true<->S (fr j).name))/\∀kl,Maps.has DD kl=true->∃j,j<nn/\kl=.string (fr j).name/\C (oo j) (fr j)/\∀zd,DD.atKey kl zd=.held (pt (oo j)):=by
 obtain⟨W3,hW3⟩:∃W3,W3=(w2.setCell ⟨ob,3,none⟩ av).setCell ⟨ob,7,none⟩ (.map (some pb)):=⟨_,rfl⟩;rw[<-hW3];have Dr:=hc.blk.lt;have hk1:Kp w (w.setCell ⟨ob,4,none⟩ (.bool true)) (λk=>k=ob):=(Kp.refl w (λk=>k=ob)).set (a:=⟨ob,4,none⟩) (λ_=>rfl) _;have hs1:(w.setCell ⟨ob,4,none⟩ (.bool true)).heap.size=w.heap.size:=World.size_setCell _ _ _;have hs2:w.heap.size<=w2.heap.size:=by have:=hk2.size;omega
 have E5:Kp w w2 (λk=>k=ob):=hk1.trans (hk2.mono (λ_ _ e=>e.elim));have hk3:Kp w W3 (λk=>k=ob):=by rw[hW3];exact(E5.set (a:=⟨ob,3,none⟩) (λ_=>rfl) _).set (a:=⟨ob,7,none⟩) (λ_=>rfl) _
 have E6:Kp w2 W3 (λk=>k=ob):=by rw[hW3];exact((Kp.refl w2 (λk=>k=ob)).set (a:=⟨ob,3,none⟩) (λ_=>rfl) _).set (a:=⟨ob,7,none⟩) (λ_=>rfl) _
 have hs3:W3.heap.size=w2.heap.size:=by rw[hW3];simp
 have VL:∀k,D.d k->¬k=ob:=λk hd e=>hW.ud ob hc.u (e▸hd);obtain⟨OU,⟨np,hmp⟩,hps,hpe⟩:=hp;have VM:∀j,j<nn->(Maps.has OU (.string (fr j).name)=true<->S (fr j).name):=λj hj=>hps _ (by
  obtain⟨c0,hc0,_⟩:=hX.wc j hj;have h1:=congrArg List.length hc0.nm;have h2:=hc0.ns;have h3:c0.nm.data.toList.length=c0.nm.size:=rfl;rw[<-h1,h3];exact ai h2 (by decide))
 have hpj:∀kl,Maps.has OU kl=true->∃j,j<nn/\kl=.string (fr j).name/\C (oo j) (fr j)/\∀zd,OU.atKey kl zd=.held (pt (oo j)):=λkl hkl=>by
  obtain⟨o,g,q1,_,q2,q3⟩:=hpe kl hkl;obtain⟨j,hj,e1,e2⟩:=Ya o g q2;subst e1 e2;exact⟨j,hj,q1,q2,q3⟩
 have hpl:=hmp.lt;have hpo:¬pb=ob:=dh hmp (hk2.blk (hc.blk.set 4 _) (by simp));have QV:W3.ownsMap prog 9 bQ pb np OU:=aL hmp (E6.block pb hpl hpo);have hbd:∀k t c,BD D.d w k t c->BD (iB D w.heap.size w2.heap.size pb ob).d W3 k t c:=λk t c h=>⟨.inl h.1,hk3.blk h.2 (VL k h.1)⟩;have hbe:∀k t c,BD (λk=>D.d k\/w.heap.size<=k) w2 k t c->BD (iB D w.heap.size w2.heap.size pb ob).d W3 k t c:=λk t c h=>by
  have hl:=h.2.lt;have hkp:k≠pb:=λe=>dh hmp h.2 e.symm;refine⟨h.1.imp id (λq=>⟨q,hl,hkp⟩),E6.blk h.2 (λe=>?_)⟩;have e:k=ob:=e;rcases h.1 with q|q
  ·exact VL k q e
  ·omega
 have hgl:wD D (iB D w.heap.size w2.heap.size pb ob) w:=⟨λk h=>.inl h,λ_ _ h=>h,λk hk=>by show(if k=pb then _ else _)=_;rw[af (by omega)]⟩;have QO:ot (iB D w.heap.size w2.heap.size pb ob) W3 (some pb) (ob,1):=λb hb=>by
  injection hb with hb;subst hb;exact⟨.inr rfl,by show(if pb=pb then _ else _)=_;rw[ag rfl],OU,⟨np,QV⟩,λkl hkl=>by obtain⟨o,g,q1,_,q2,q3⟩:=hpe kl hkl;exact⟨o,g,q1,VK o g q2,q3⟩⟩
 have yj:aC W3 ob 111 ({c with fa:=true,av:=av,pm:=some pb}:WC).arr:=by rw[hW3];exact((hk2.blk (hc.blk.set 4 _) (by simp)).set 3 _).set 7 _
 have hnew:dH (iB D w.heap.size w2.heap.size pb ob) W3 bk ob f {c with fa:=true,av:=av,pm:=some pb}:=
  ⟨yj,hc.nm,hc.ns,hc.it.mono hbd,hc.sl.mono hbd (λ_ _ h=>h),hA.mono hbe (λ_ _ h=>h),QO,hc.wm.frame hk3 hgl (λb hb e=>hc.wm.gW hb hc.blk e),hc.wn,.inl hc.u,hc.wf⟩
 have nY:fT D (iB D w.heap.size w2.heap.size pb ob) w W3 bk:=λo g c0 cZ hc0=>by
  by_cases ho:o=ob
  ·subst ho;have:=hW.fn o g f cZ hr;subst this;have:=hc0.inj hc;subst this;exact⟨{c0 with fa:=true,av:=av,pm:=some pb},rfl,rfl,rfl,rfl,rfl,hnew⟩
  ·exact⟨c0,rfl,rfl,rfl,rfl,rfl,hc0.frame hk3 hgl hbd ho (λb hb e=>hc0.pm.gW hb hc.blk e) (λb hb e=>hc0.wm.gW hb hc.blk e)⟩
 have hex:EX (iB D w.heap.size w2.heap.size pb ob) W3 bk nn fr oo (OT X k (λj=>S (fr j).name) (λj=>S (fr j).name)) (λ_=>False):=by
  have hHe:∀i j,X.H i j<->(OT X k (λj=>S (fr j).name) (λj=>S (fr j).name)).H i j:=λi j=>⟨.inl,λh=>h.elim id (λh=>ax h.2.1 h.2.2)⟩;refine⟨λj hj=>hX.r j hj,hX.nd,λj hj=>?_⟩;obtain⟨c0,hc0,b1,b2,b3,b4,b5⟩:=hX.wc j hj;by_cases ej:j=k
  ·subst ej;rw[ho,hf] at hc0 ⊢;have:=hc0.inj hc;subst this;exact⟨_,hnew,(ag rfl).symm,b2,.inr ⟨pb,OU,rfl,⟨np,QV⟩,λi hi=>(VM i hi).trans ⟨λh=>.inl ⟨rfl,h⟩,λh=>h.elim (λh=>h.2) (λh=>ax rfl h.1)⟩,λkl hkl=>by obtain⟨i,hi,q1,_,q3⟩:=hpj kl hkl;exact⟨i,hi,q1,q3⟩⟩,λe=>((b4 e).same (λb hb=>hk3.block b (hc.wm.lt hb) (hc.wm.gW hb hc.blk))).iff (λi _=>hHe i j),λe=>e.elim⟩
  ·have hne:¬oo j=ob:=λe=>ej (hX.inj hW hj hk (e.trans ho.symm));have n1:∀b,c0.pm=some b->¬b=ob:=λb hb=>hc0.pm.gW hb hc.blk;have n2:∀b,c0.wm=some b->¬b=ob:=λb hb=>hc0.wm.gW hb hc.blk;exact⟨c0,hc0.frame hk3 hgl hbd hne n1 n2,b1.trans (af ej).symm,b2,(b3.same (λb hb=>hk3.block b (hc0.pm.lt hb) (n1 b hb))).iff (λi _=>⟨λh=>.inr ⟨ej,h⟩,λh=>h.elim (λh=>ax h.1 ej) (λh=>h.2)⟩),λe=>((b4 e).same (λb hb=>hk3.block b (hc0.wm.lt hb) (n2 b hb))).iff (λi _=>hHe i j),λe=>e.elim⟩
 refine⟨nY,⟨λo g cZ=>?_,hW.fn,λk hu hd=>?_,λk hu=>?_,λk hd=>?_⟩,hk3,hex,np,OU,QV,VM,hpj⟩
 ·obtain⟨c0,hc0⟩:=hW.ok o g cZ;obtain⟨c',_,_,_,_,_,h'⟩:=nY o g c0 cZ hc0;exact⟨c',h'⟩
 ·rcases hu with hu|hu
  ·rcases hd with hd|hd
   ·exact hW.ud k hu hd
   ·have:=hW.lt k hu;omega
  ·rcases hd with hd|hd
   ·have:=hW.dl k hd;omega
   ·exact hd.2.2 hu
 ·rcases hu with hu|hu
  ·have:=hW.lt k hu;omega
  ·rw[hu,hs3];exact hpl
 ·rcases hd with hd|hd
  ·have:=hW.dl k hd;omega
  ·omega
structure I9 (D:GD)(bk nn:Nat)(fr:Nat->Fr)(oo:Nat->Nat)(X:XV)(k:Nat)(T:Nat->Prop)(pb r n:Nat)(DD:DataW Value)(w wr:World)(left:Lit->Bool)(cnt:Nat):Prop where
 rg:wr.ranges prog 9 bQ pb r n DD left cnt
 sub:∀kl,left kl=true->Maps.has DD kl=true
 kp:Kp w wr (FU D w bk)
 pr:fT D D w wr bk
 ex:EX D wr bk nn fr oo (OT X k T (λj=>left (.string (fr j).name)=true)) (λ_=>False)
theorem IZ.bF {R:Nat->Fr->Prop}{E E':Nat->Prop}(h:IZ R C K bo bk mb E w){c0:WC}(Dr:aC w ob 111 c0.arr)(hE:∀b t c,BD E w b t c->BD E' (w.setCell ⟨ob,4,none⟩ (.bool true)) b t c):IZ R C K bo bk mb E' (w.setCell ⟨ob,4,none⟩ (.bool true)):=by
 have hk:Kp w (w.setCell ⟨ob,4,none⟩ (.bool true)) (λk=>k=ob):=(Kp.refl w (λk=>k=ob)).set (a:=⟨ob,4,none⟩) (λ_=>rfl) _;obtain⟨h0,b0,hbk⟩:=h.book;obtain⟨n,DD,hmp⟩:=h.mp;have hme:=hk.block mb hmp.lt (dh hmp Dr);refine⟨⟨h0,b0,hk.blk hbk (λe=>ax ((show bk=ob from e)▸hbk) (λq=>ax (q.inj Dr).1 (by decide)))⟩,⟨n,DD,aL hmp hme⟩,h.kl,λnm hnm=>?_⟩;obtain⟨o,f,c,q1,q2,q3,q4,q5,q6,q7,q8,q9,S0,S3⟩:=h.look nm hnm;by_cases ho:o=ob
 ·subst ho;exact⟨o,f,{c with fa:=true},q1,q2,q3,q4,λw0 e=>q5 w0 (e.trans hme),q6.set 4 _,q7,q8,q9.mono hE,S0.mono hE (λ_ _ h=>h),S3⟩
 ·exact⟨o,f,c,q1,q2,q3,q4,λw0 e=>q5 w0 (e.trans hme),hk.blk q6 ho,q7,q8,q9.mono hE,S0.mono hE (λ_ _ h=>h),S3⟩
theorem VN {c:WC}(hW:kQ D w bk)(hX:EX D w bk nn fr oo X (λ_=>False))(hk:k<nn)(ho:oo k=ob)(hf:fr k=f)(Ya:∀o g,C o g->∃j,j<nn/\o=oo j/\g=fr j)(mD:nn<=30)(hr:D.r ob f)(hc:dH D w bk ob f c)(VK:∀o g,C o g->D.r o g/\∃c,dH D w bk o g c/\c.gn=false)(n:Nat)(hn:n<=3)(hot:Int)(hbk:aC w bk 106 #[.map (some mb),.int .i64 hot,.int .i64 (n:Int)])(hb:IZ D.r C K bo bk mb D.d w)(hwb:∃G,wb (λt=>t∈K) G false f.body):
  Calls prog 184 #[pt bk,pt ob] w λe w'=>e=.returned (.tuple #[])/\∃n2 pb,w.heap.size<=pb/\pb<n2/\n2<=w'.heap.size/\Kp w w' (FU D w bk)/\fT D (iB D w.heap.size n2 pb ob) w w' bk/\kQ (iB D w.heap.size n2 pb ob) w' bk/\(∃n DD,w'.ownsMap prog 9 bQ pb n DD)/\EX (iB D w.heap.size n2 pb ob) w' bk nn fr oo (OT X k (λj=>Bd bo n f.body (fr j).name) (λ_=>False)) (λ_=>False):=by
 obtain⟨W1,hW1⟩:∃W1,W1=w.setCell ⟨ob,4,none⟩ (.bool true):=⟨_,rfl⟩;have hw4:Kp w W1 (λk=>k=ob):=by rw[hW1];exact(Kp.refl w (λk=>k=ob)).set (a:=⟨ob,4,none⟩) (λ_=>rfl) _
 have hs1:W1.heap.size=w.heap.size:=by rw[hW1];simp
 have VL:∀k,D.d k->¬k=ob:=λk hd e=>hW.ud ob hc.u (e▸hd);have hU:Up (λk=>D.d k\/w.heap.size<=k) W1:=λk hk=>.inr (by rw[hs1] at hk;exact hk);have KO:∀k t c,BD D.d w k t c->BD (λk=>D.d k\/w.heap.size<=k) W1 k t c:=λk t c h=>⟨.inl h.1,hw4.blk h.2 (VL k h.1)⟩;have hb1:IZ D.r C K bo bk mb (λk=>D.d k\/w.heap.size<=k) W1:=by rw[hW1] at KO ⊢;exact hb.bF hc.blk KO
 have yj:aC W1 ob 111 ({c with fa:=true}:WC).arr:=by rw[hW1];exact hc.blk.set 4 _
 have Mx:aC W1 bk 106 #[.map (some mb),.int .i64 hot,.int .i64 (n:Int)]:=hw4.blk hbk (λe=>ax ((show bk=ob from e)▸hbk) (λq=>ax (q.inj hc.blk).1 (by decide)));have d4:w.cell? ⟨ob,4,none⟩=some (.bool c.fa):=hc.blk.cell rfl;have g4:=hc.blk.free 4;have dk:w.cell? ⟨bk,2,none⟩=some (.int .i64 (n:Int)):=hbk.cell rfl;have l8:¬bk=ob:=λe=>ax (e▸hbk) (λq=>ax (q.inj hc.blk).1 (by decide));have HBu:Hid (∀w0,Kp W1 w0 (λ_=>False)->Calls prog 209 #[pt bk,pt ob,.int .i64 (n:Int)] w0 λe w'=>∃ao cap b,e=.returned (.tuple #[.slice ao f.body.length cap,.map (some b)])/\aC w' ob 111 ({c with fa:=true}:WC).arr/\w.heap.size<=b/\Kp W1 w' (λ_=>False)/\cQ (BD (λk=>D.d k\/w.heap.size<=k) w') D.r bk ob (.slice ao f.body.length cap) f.body/\gq C K (Bd bo n f.body) b w'):=by
  intro w0 bC;have Cl:=bU (D:=λk=>D.d k\/w.heap.size<=k) (D':=λk=>D.d k\/w.heap.size<=k) bC (λb _ h=>⟨h,by simp⟩);refine(QU n hn _ w0 (hU.kp bC) (hb1.frame bC (λ_ _ _ _ _ e=>e) (λe=>e) Cl) ob f {c with fa:=true} (bC.blk yj (by simp)) ((hc.it.mono KO).mono Cl) ((hc.sl.mono KO (λ_ _ h=>h)).mono Cl (λ_ _ h=>h)) hwb).mono ?_;rintro e w' ⟨ao,cap,b,rfl,q1,q2,q3,q4⟩;have hs0:=bC.size;exact⟨ao,cap,b,rfl,q2.blk (bC.blk yj (by simp)) (by simp),by omega,bC.trans q2,q3,q4⟩
 have HHC:Hid (∀w2 ao cap pb,Kp W1 w2 (λ_=>False)->w.heap.size<=pb->cQ (BD (λk=>D.d k\/w.heap.size<=k) w2) D.r bk ob (.slice ao f.body.length cap) f.body->gq C K (Bd bo n f.body) pb w2->fT D (iB D w.heap.size w2.heap.size pb ob) w ((w2.setCell ⟨ob,3,none⟩ (.slice ao f.body.length cap)).setCell ⟨ob,7,none⟩ (.map (some pb))) bk/\kQ (iB D w.heap.size w2.heap.size pb ob) ((w2.setCell ⟨ob,3,none⟩ (.slice ao f.body.length cap)).setCell ⟨ob,7,none⟩ (.map (some pb))) bk/\Kp w ((w2.setCell ⟨ob,3,none⟩ (.slice ao f.body.length cap)).setCell ⟨ob,7,none⟩ (.map (some pb))) (λk=>k=ob)/\EX (iB D w.heap.size w2.heap.size pb ob) ((w2.setCell ⟨ob,3,none⟩ (.slice ao f.body.length cap)).setCell ⟨ob,7,none⟩ (.map (some pb))) bk nn fr oo (OT X k (λj=>Bd bo n f.body (fr j).name) (λj=>Bd bo n f.body (fr j).name)) (λ_=>False)/\∃n' DD,((w2.setCell ⟨ob,3,none⟩ (.slice ao f.body.length cap)).setCell ⟨ob,7,none⟩ (.map (some pb))).ownsMap prog 9 bQ pb n' DD/\(∀j,j<nn->(Maps.has DD (.string (fr j).name)=true<->Bd bo n f.body (fr j).name))/\∀kl,Maps.has DD kl=true->∃j,j<nn/\kl=.string (fr j).name/\C (oo j) (fr j)/\∀zd,DD.atKey kl zd=.held (pt (oo j))):=λw2 ao cap pb h1 h2 h3 h4=>aaa hW hr hc (hW1▸h1) _ pb h2 h3 h4 (λo g q=>(VK o g q).1) hX hk ho hf Ya;have HW:=az hW;have HC:=az hc;have HCr:=az VK;have wN:=az hX.nd;have Ja:Hid (∀j,j<nn->D.r (oo j) (fr j)):=hX.r;have CY:=az hW1;clear hW hc VK hX Ya hU KO hb1 yj Mx VL hw4 hb hbk hwb hW1;go_enter func184,ntmps184
 go_wp2_with fail
 rw[<-CY.out];refine(HBu.out _ (Kp.refl _ _)).mono ?_;rintro e w2 ⟨ao,cap,pb,rfl,yj,hpb,hk2,hA,hP⟩;obtain⟨nY,hwd,hkp,hex,np,DD,hown,VM,hE⟩:=HHC.out w2 ao cap pb hk2 hpb hA hP;obtain⟨OU,⟨npp,VO⟩,_⟩:=hP;have hpl:=VO.lt;have OV:=az nY;have Ch:=az hwd;have mj:=az hkp;have HE:=az hE;have HEX:=az hex;have Yb:=az VM;have d3:w2.cell? ⟨ob,3,none⟩=some c.av:=yj.cell rfl;have d7:w2.cell? ⟨ob,7,none⟩=some (.map c.pm):=yj.cell rfl;have g3:=yj.free 3;have g7:=yj.free 7;have aeU:=yj.lt;have hs2:=hk2.size;clear nY hwd hkp hE hex VM hA hk2 yj VO HBu HHC;obtain⟨W3,hW3⟩:∃W3,W3=(w2.setCell ⟨ob,3,none⟩ (.slice ao f.body.length cap)).setCell ⟨ob,7,none⟩ (.map (some pb)):=⟨_,rfl⟩;rw[<-hW3] at OV Ch mj HEX hown;have hs3:W3.heap.size=w2.heap.size:=by rw[hW3];simp
 have VI:=az hW3;clear hW3
 go_wp2_with (first
  | (at_range;(rw[<-VI.out]);refine wpList_range_own _ rfl _ 104 rfl 9 107 (Maps.string_keyed underlying9) underlying104 _ pb np _ rfl hown ?_;intro w0 hrg0 hg0 hs0)
  | go_in)
 go_frame
 rw[hs3] at hrg0 hs0 ⊢
 go_loopw [5] (λ_ wr=>∃left cnt,I9 (iB D w.heap.size w2.heap.size pb ob) bk nn fr oo X k (λj=>Bd bo n f.body (fr j).name) pb w2.heap.size np DD W3 wr left cnt) (λ_ wr=>wr.rangeLeft pb w2.heap.size)
 case atStart=>
  have bC:Kp W3 w0 (λ_=>False):=(Kp.refl W3 _).grown hg0 (λk _ e=>by cases e);exact⟨_,_,⟨hrg0,λ_ h=>h,bC.mono (λ_ _ e=>e.elim),(Ch.out.kp bC).1,(HEX.out.kp bC).iff (λ_ _=>rfl) (λ_ _=>rfl) (λ_ _ _ _=>Iff.rfl) (λi j _ hj _=>⟨λh=>h.imp id (λh=>⟨h.1,h.2.1,λe=>h.2.2 ((Yb.out j hj).1 e)⟩),λh=>h.imp id (λh=>⟨h.1,h.2.1,λe=>h.2.2 ((Yb.out j hj).2 e)⟩)⟩)⟩⟩
 case round=>
  obtain⟨left,cnt,bK⟩:=hrel;have xR:=Ch.out.next bK.kp.size bK.pr;have hrg:=bK.rg
  go_wp2_with (first
   | (at_next;refine wpList_next_ranges _ rfl _ rfl 9 (Maps.string_keyed underlying9) bQ Value.string (λv:Value=>v) (λkey kl h=>(jR h).imp (λ_ q=>q.1)) (λv _ _=>⟨v,rfl⟩) pb w2.heap.size np _ _ _ rfl hrg ?_ ?_)
   | go_in)
  ·intro hc0 hl0;have Jb:∀k,FU (iB D w.heap.size w2.heap.size pb ob) W3 bk k->k<w.heap.size->FU D w bk k:=λk hk hkl=>by
    rcases hk with⟨g,hg⟩|⟨o,g,c1,hg,hc1,hm⟩
    ·exact .inl ⟨g,hg⟩
    ·obtain⟨c5,hc5⟩:=HW.out.ok o g hg;obtain⟨c6,_,_,_,_,e5,hc6⟩:=OV.out o g c5 hg hc5;have:=hc6.inj hc1;subst this;exact .inr ⟨o,g,c5,hg,hc5,by rw[<-e5];exact hm⟩
   have hkA:Kp w wr (FU D w bk):=by
    refine⟨bK.kp.os.trans mj.out.os,bK.kp.tape.trans mj.out.tape,bK.kp.output.trans mj.out.output,ai mj.out.size bK.kp.size,λk hk hn=>?_⟩;have h1:=mj.out.block k hk (λe=>hn (.inl ⟨f,by rw[show k=ob from e];exact hr⟩));have h2:=bK.kp.block k (aj hk mj.out.size) (λe=>hn (Jb k e hk));exact h2.trans h1
   have hrl:=hrg.owns;have HF:Hid (∃n2 pb,w.heap.size<=pb/\pb<n2/\n2<=wr.heap.size/\Kp w wr (FU D w bk)/\fT D (iB D w.heap.size n2 pb ob) w wr bk/\kQ (iB D w.heap.size n2 pb ob) wr bk/\(∃n DD,wr.ownsMap prog 9 bQ pb n DD)/\EX (iB D w.heap.size n2 pb ob) wr bk nn fr oo (OT X k (λj=>Bd bo n f.body (fr j).name) (λ_=>False)) (λ_=>False)):=⟨w2.heap.size,pb,hpb,hpl,by have:=bK.kp.size;omega,hkA,OV.out.trans (λ_ _ h=>h) bK.pr,xR,⟨np,DD,hrl⟩,bK.ex.iff (λ_ _=>rfl) (λ_ _=>rfl) (λ_ _ _ _=>Iff.rfl) (λi j _ _ _=>⟨λh=>h.imp id (λh=>⟨h.1,h.2.1,λe=>e⟩),λh=>h.imp id (λh=>⟨h.1,h.2.1,λe=>by have e:left (.string (fr j).name)=true:=e;rw[hl0] at e;cases e⟩)⟩)⟩;clear bK xR hrg hrl hkA Jb hc0 hl0 hg0 hs0 hrg0 hown OV Ch mj HE HW HC HCr HEX Yb wN ho hf hk;go_wp2;refine bodyPost_end (results_none rfl _ _ _) rfl ?_;exact⟨rfl,HF.out⟩
  ·intro x v kl yd yp w1 cnt1 hkey hlk hv hat hrg1 hlt hg1 hs1 hen;have QX:=bK.sub kl hlk;obtain⟨j,hj,rfl,bS,kW⟩:=HE.out kl QX;have hjk:=(Yb.out j hj).1 QX;obtain⟨o2,og⟩:∃o2,oo j=o2:=⟨_,rfl⟩;obtain⟨f2,hf2⟩:∃f2,fr j=f2:=⟨_,rfl⟩;rw[og] at kW;rw[og,hf2] at bS;have hvv:v=pt o2:=by
    have h1:=hat (.held (.pointer none));rw[kW] at h1;have h2:some (DataW.held v,[])=some (yd,yp):=hv;have h3:DataW.held v=yd:=congrArg Prod.fst (Option.some.inj h2);have h4:DataW.held (pt o2)=yd:=h1;rw[<-h3] at h4;exact(DataW.held.inj h4).symm
   subst hvv;obtain⟨hr2,c0,hc0,hg0'⟩:=HCr.out o2 f2 bS;have X8:w2.heap.size<wr.heap.size:=hrg.lt;have hk1:Kp wr w1 (λk=>k=w2.heap.size):=(Kp.refl wr _).grown hg1 (λk _ e=>(Option.some.inj e).symm);have uU:∀k,(iB D w.heap.size w2.heap.size pb ob).u k->¬k=w2.heap.size:=λk hk e=>by have:=Ch.out.lt k hk;omega
   obtain⟨hp1,yK⟩:=xR.out hk1.drew uU (λk hd e=>by have:=Ch.out.dl k hd;omega);have hX1:=bK.ex.out hk1.drew uU (λk hd e=>by have:=Ch.out.dl k hd;omega);have hpa:=bK.pr.trans (λ_ _ h=>h) hp1;have hpw:=OV.out.trans (λ_ _ h=>h) hpa;have hka:Kp W3 w1.drew (FU (iB D w.heap.size w2.heap.size pb ob) W3 bk):=((bK.kp.mono (T:=λk=>FU (iB D w.heap.size w2.heap.size pb ob) W3 bk k\/k=w2.heap.size) (λ_ _ e=>.inl e)).trans (hk1.drew.mono (λ_ _ e=>.inr e))).mono (λk hk e=>e.elim id (λe=>by omega));obtain⟨c2,e1,e2,e3,e4,e5,hc2⟩:=hpw o2 f2 c0 hr2 hc0;obtain⟨c1,e11,e12,_,_,_,hc1⟩:=hpw ob f c hr HC.out;obtain⟨b2,hb2⟩:∃b2,c2.wm=some b2:=Option.isSome_iff_exists.1 (hc2.wn (e1.trans hg0'));obtain⟨hu2,ht2,DD2,hm2⟩:=hc2.wm b2 hb2;obtain⟨c3,hc3,_,_,_,b4,_⟩:=hX1.wc j hj;rw[og,hf2] at hc3;have hcc:=hc3.inj hc2;rw[hcc] at b4;have hmx:=b4 (λe=>e);rw[hb2] at hmx;obtain⟨w5,hrun,fS,KP⟩:=hmx.put mD wN.out k hk c1.nm (by rw[hc1.nm,hf]) hc1.ns;rw[ho] at hrun;have XL:EX (iB D w.heap.size w2.heap.size pb ob) w5 bk nn fr oo (OT X k (λj=>Bd bo n f.body (fr j).name) (λi=>(left (.string (fr i).name) && !(Lit.string (fr i).name).sameKey (.string (fr j).name))=true)) (λ_=>False):=hX1.Es yK hj (by rw[og,hf2];exact hc2) hb2 fS KP rfl rfl rfl (λi hi=>⟨λh=>h.elim (λh=>h.elim .inl (λh=>.inr ⟨h.1,h.2.1,λe=>((gM wN.out hj hj).1 e).2 rfl⟩)) (λh=>.inr ⟨h,hjk,λe=>((gM wN.out hj hj).1 e).2 rfl⟩),λh=>h.elim (λh=>.inl (.inl h)) (λh=>.inr h.1)⟩) (λi j' hi hj' ej=>⟨λh=>h.imp id (λh=>⟨h.1,h.2.1,λe=>h.2.2 ((gM wN.out hj' hj).1 e).1⟩),λh=>h.imp id (λh=>⟨h.1,h.2.1,λe=>h.2.2 ((gM wN.out hj' hj).2 ⟨e,ej⟩)⟩)⟩);have hpt:(iB D w.heap.size w2.heap.size pb ob).tag pb=(ob,1):=by show(if pb=pb then _ else _)=_;rw[ag rfl]
   have hne:¬pb=b2:=by rintro rfl;rw[hpt] at ht2;cases ht2
   have s5:=Ch.out.lt b2 hu2;have hsz1:wr.heap.size<=w1.heap.size:=hk1.size;have aac:=bK.kp.size;have HN:Hid (I9 (iB D w.heap.size w2.heap.size pb ob) bk nn fr oo X k (λj=>Bd bo n f.body (fr j).name) pb w2.heap.size np DD W3 w5 (λz=>left z && !z.sameKey (.string (fr j).name)) cnt1):=by
    obtain⟨DD5,aad⟩:=KP.PG Ja.out;refine⟨fJ (fJ hrg1 (w':=w1.drew) rfl rfl) (fS.block pb (by show pb<w1.heap.size;omega) hne) (fS.block w2.heap.size (by show w2.heap.size<w1.heap.size;omega) (by show ¬w2.heap.size=b2;omega)),λk hk=>bK.sub k (by simp at hk;exact hk.1),?_,hpa.trans (λ_ _ h=>h) (yK.Es hr2 hc2 hb2 fS aad),XL⟩;exact hka.trans (fS.mono (λk _ e=>by
     have e:k=b2:=e;rw[e];exact FU.back Ch.out hpa (.inr ⟨o2,f2,c2,hr2,hc2,hb2⟩)))
   have u8:w1.cell? ⟨o2,8,none⟩=some (.map (some b2)):=by rw[<-hb2];exact hc2.blk.cell rfl
   have u0:w1.cell? ⟨ob,0,none⟩=some (.string c1.nm):=hc1.blk.cell rfl;have v8:w5.cell? ⟨o2,8,none⟩=some (.map (some b2)):=by rw[<-hb2];exact(fS.blk hc2.blk (λe=>hm2.ne hc2.blk (show o2=b2 from e).symm)).cell rfl
   have v0:w5.cell? ⟨ob,0,none⟩=some (.string c1.nm):=(fS.blk hc1.blk (λe=>hm2.ne hc1.blk (show ob=b2 from e).symm)).cell rfl;have uW:=HN.out.rg.left_eq;have wO:=hrg.left_eq;clear bK xR hrg hrg1 hg1 hs1 hat kW hv hkey hlk hk1 uU hp1 yK hpa hka hpw hc2 hc1 hm2 fS KP e1 e2 e3 e4 e5 e11 e12 hc0 hX1 XL hmx b4 hc3 hcc og hf2 hjk QX ho hf;go_wp2
   go_region_held3 (λw'=>w'.cell? ⟨o2,8,none⟩=some (.map (some b2))/\w'.cell? ⟨ob,0,none⟩=some (.string c1.nm)) (go_keep) (fail)
   go_wp2
   go_roundw
   case rel=>exact⟨_,_,HN.out⟩
   case measure=>rw[uW,wO];exact hlt
theorem QY (fa gn:Bool)(h:fa=true\/gn=true)(c4:w.cell? ⟨ob,4,none⟩=some (.bool fa))(c6:w.cell? ⟨ob,6,none⟩=some (.bool gn)):
  Calls prog 160 #[pt bk,pt ob] w λe w'=>e=.returned (.tuple #[])/\w'=w:=by
 cases fa with
 | true=>
  clear h;go_enter func160,ntmps160;go_wp2
  first
   | go_ret
   | refine bodyPost_ret (results_none rfl _ _ _) rfl ?_
   | refine bodyPost_end (results_none rfl _ _ _) rfl ?_
  exact⟨rfl,rfl⟩
 | false=>
  have hg:gn=true:=by simpa using h
  subst hg;clear h;go_enter func160,ntmps160;go_wp2
  first
   | go_ret
   | refine bodyPost_ret (results_none rfl _ _ _) rfl ?_
   | refine bodyPost_end (results_none rfl _ _ _) rfl ?_
  exact⟨rfl,rfl⟩
theorem My (ct hot:Int)(l8:¬bk=ob)(Q:World->Prop)(c4:w.cell? ⟨ob,4,none⟩=some (.bool false))(c6:w.cell? ⟨ob,6,none⟩=some (.bool false))(c5:w.cell? ⟨ob,5,none⟩=some (.int .i64 ct))(g5:w.frozen? ⟨ob,5,none⟩=false)(k1:w.cell? ⟨bk,1,none⟩=some (.int .i64 hot))
  (h1:wrap64 (ct+1)<hot->∀nq,Q ((w.setCell ⟨ob,5,none⟩ (.int .i64 (wrap64 (ct+1)))).drewN nq)) (h2:¬wrap64 (ct+1)<hot->∀nq,Calls prog 184 #[pt bk,pt ob] ((w.setCell ⟨ob,5,none⟩ (.int .i64 (wrap64 (ct+1)))).drewN nq) λe w'=>e=.returned (.tuple #[])/\Q w'):
  Calls prog 160 #[pt bk,pt ob] w λe w'=>e=.returned (.tuple #[])/\Q w':=by
 by_cases hh:wrap64 (ct+1)<hot
 ·have HQ:=az (h1 hh);clear h1 h2;have hh2:¬hot<=wrap64 (ct+1):=by omega
  go_enter func160,ntmps160;go_wp2
  go_quiet (fail)
  go_wp2;refine bodyPost_end (results_none rfl _ _ _) rfl ?_;exact⟨rfl,HQ.out _⟩
 ·have HQ:=az (h2 hh);have hle:hot<=wrap64 (ct+1):=by omega
  clear h1 h2 hh;go_enter func160,ntmps160;go_wp2
  go_quiet (fail)
  go_wp2_with fail
  refine(HQ.out _).mono ?_;rintro e w' ⟨rfl,hq⟩;have wP:=az hq;clear hq;go_wp2;refine bodyPost_end (results_none rfl _ _ _) rfl ?_;exact⟨rfl,wP.out⟩
end
def fY (ay:List Def)(t:Tok):Prop:=(ay.findIdx? (λd=>d.name==t)).isSome=true
abbrev o8 (d:Def):Fr:=⟨d.id,d.name,d.body⟩
def gY:Def:=⟨[],0,[],0,false,[]⟩
def iR (ay:List Def)(k:Nat):Fr:=o8 (ay.getD k gY)
def XD (ay:List Def):XV:=⟨λk=>(ay.getD k gY).bF,λk=>(ay.getD k gY).count,λk j=>(ay.getD j gY).name∈(ay.getD k gY).built,λk j=>(ay.getD j gY).name∈(ay.getD k gY).built⟩
theorem cN {ay:List Def}{k:Nat}(h:k<ay.length):ay.getD k gY=ay[k]:=by simp[List.getD,h]
structure WR (D:GD)(w:World)(bk mb:Nat)(ay:List Def)(obs:List Nat)(DD:DataW Value):Prop where
 ol:obs.length=ay.length
 mp:w.ownsMap prog 9 bQ mb ay.length DD
 sz:Maps.size DD=ay.length
 hs:∀t:Tok,t.length<=maxLen->Maps.has DD (.string t)=(ay.findIdx? (λd=>d.name==t)).isSome
 KQ:ay.length<=30
 lk:∀t:Tok,t.length<=maxLen->DD.atKey (.string t) (.held (.pointer none))=.held (.pointer ((ay.findIdx? (λd=>d.name==t)).map (λk=>(⟨obs.getD k 0,0,none⟩:Addr))))
 nd:∀i j (hi:i<ay.length) (hj:j<ay.length),ay[i].name=ay[j].name->i=j
 wd:kQ D w bk
 cur:∀k (h:k<ay.length),D.r (obs.getD k 0) (o8 ay[k])/\(∃c,dH D w bk (obs.getD k 0) (o8 ay[k]) c/\c.gn=false)/\∃G,wb (fY ay) G false ay[k].body
 VP:∀o f,D.r o f->fY ay f.name/\((∃k,∃h:k<ay.length,ay.findIdx? (λd=>d.name==f.name)=some k/\obs.getD k 0=o/\f=o8 ay[k])\/∃c,dH D w bk o f c/\c.gn=true/\∀k (h:k<ay.length),ay.findIdx? (λd=>d.name==f.name)=some k->f.id<ay[k].id)
 ex:EX D w bk ay.length (iR ay) (λk=>obs.getD k 0) (XD ay) (λ_=>False)
 bn:∀d∈ay,(d.bF=false->d.built=[])/\∀t∈d.built,fY ay t
 ub:∀d∈ay,UB d.body
def eP (D:GD)(w:World)(bk mb:Nat)(ay:List Def):Prop:=∃obs DD,WR D w bk mb ay obs DD
section
variable {D D':GD}{w w':World}{bk mb:Nat}{ay:List Def}
theorem eP.yI (h:eP D w bk mb ay):kQ D w bk:=by obtain⟨_,_,h⟩:=h;exact h.wd
theorem eP.Mz (h:eP D w bk mb ay):mb<w.heap.size:=by obtain⟨_,_,h⟩:=h;exact h.mp.lt
theorem eP.ne (h:eP D w bk mb ay){b:Nat}{t:TypeId}{c:Array Value}(hb:aC w b t c):mb≠b:=by obtain⟨_,_,h⟩:=h;exact dh h.mp hb
theorem eP.aA {s:St}{hot blt:Int}(h:eP D w bk mb s.ay)(hb:aC w bk 106 #[.map (some mb),.int .i64 hot,.int .i64 blt]):lT w bk mb s.aA:=by
 obtain⟨obs,DD,h⟩:=h;refine⟨⟨_,_,hb⟩,_,DD,h.mp,λt ht=>⟨_,h.lk t ht,?_⟩⟩;unfold St.aA St.find
 cases s.ay.findIdx? (λd=>d.name==t) <;> rfl
theorem eP.E7 (h:eP D w bk mb ay)(hp:fT D D' w w' bk)(hr:∀o f,D'.r o f->D.r o f)(hr2:∀o f,D.r o f->D'.r o f)(hw:kQ D' w' bk)(hm:w'.heap[mb]? = w.heap[mb]?)(hx:∀n fr ob X,EX D w bk n fr ob X (λ_=>False)->EX D' w' bk n fr ob X (λ_=>False)):eP D' w' bk mb ay:=by
 obtain⟨obs,DD,h⟩:=h;refine⟨obs,DD,h.ol,aL h.mp hm,h.sz,h.hs,h.KQ,h.lk,h.nd,hw,λk hk=>?_,λo f ho=>?_,hx _ _ _ _ h.ex,h.bn,h.ub⟩
 ·obtain⟨h1,⟨c,h2,h3⟩,h4⟩:=h.cur k hk;obtain⟨c',e1,_,_,_,_,h5⟩:=hp _ _ c h1 h2;exact⟨hr2 _ _ h1,⟨c',h5,e1.trans h3⟩,h4⟩
 ·obtain⟨q,h1|⟨c,h2,h3,h4⟩⟩:=h.VP o f (hr o f ho)
  ·exact⟨q,.inl h1⟩
  ·obtain⟨c',e1,_,_,_,_,h5⟩:=hp _ _ c (hr o f ho) h2;exact⟨q,.inr ⟨c',h5,e1.trans h3,h4⟩⟩
end
structure PR (B:Nat)(W w:World)(xb rb mb:Nat)(m:MS)(D:GD)(s:St):Prop where
 inv:∃ns,aW w xb rb m ns/\(s.e=0->ns=s.rs.reverse)
 mem:m.mem=s.mem
 out:m.out=s.out
 st0:0<=m.st
 Di:m.st<=2000
 st:s.e=0->m.st=s.steps
 dp:m.dp=s.depth
 safe:xe B W w xb rb m
 E8:B<=mb
 book:aC w m.bk 106 #[.map (some mb),.int .i64 s.hot,.int .i64 s.built]
 words:eP D w m.bk mb s.ay
 sep:∀k,D.d k->k<w.heap.size/\k≠xb/\k≠rb/\¬own m.sv k/\¬own m.ov k
 us:∀k,D.u k->B<=k/\k≠mb/\((∃c,aC w k 111 c)\/∃n DD,w.ownsMap prog 9 bQ k n DD)
 good:cC s
 ids:0<=s.ids/\s.ids<=D.J+m.st/\D.J<=4611686018427387904
 Cm:∀o f,D.r o f->f.id<=s.ids
def OW (s s':St):Prop:=s'.ay=s.ay/\s'.hot=s.hot/\s'.built=s.built/\s'.ids=s.ids
structure mN (xb rb mb:Nat)(w w':World)(m m':MS)(D D':GD):Prop where
 wt:To (λk=>(k=xb\/k=rb)\/k=mb) w w' (λk=>(own m.sv k\/own m.ov k)\/D.u k) (λk=>(own m'.sv k\/own m'.ov k)\/D'.u k)
 up:∀k,D.d k->D'.d k
 nw:∀k,D'.d k->D.d k\/w.heap.size<=k
 rg:∀o f,D.r o f->D'.r o f
 bk:m'.bk=m.bk
 jj:D'.J=D.J
theorem mN.refl (xb rb mb:Nat)(w:World)(m:MS)(D:GD):mN xb rb mb w w m m D D:=⟨To.refl _ _ _,λ_ h=>h,λ_ h=>.inl h,λ_ _ h=>h,rfl,rfl⟩
theorem mN.trans {xb rb mb:Nat}{w w1 w2:World}{m m1 m2:MS}{D D1 D2:GD}(h:mN xb rb mb w w1 m m1 D D1)(g:mN xb rb mb w1 w2 m1 m2 D1 D2):mN xb rb mb w w2 m m2 D D2:=by
 refine⟨h.wt.trans g.wt,λk hk=>g.up k (h.up k hk),λk hk=>?_,λo f hr=>g.rg o f (h.rg o f hr),g.bk.trans h.bk,g.jj.trans h.jj⟩;rcases g.nw k hk with h1|h1
 ·exact h.nw k h1
 ·exact .inr (ai h.wt.kp.size h1)
theorem mN.of {xb rb mb:Nat}{w w':World}{m m':MS}(h:gL xb rb w w' m m')(hb:m'.bk=m.bk)(D:GD):mN xb rb mb w w' m m' D D:=by
 refine⟨⟨(To.kp h).mono (λk _ hk=>?_),λk hk=>?_⟩,λ_ h=>h,λ_ h=>.inl h,λ_ _ h=>h,hb,rfl⟩
 ·rcases hk with e|e
  ·exact .inl (.inl e)
  ·exact .inr (.inl e)
 ·rcases hk with e|e
  ·rcases To.nx h k e with h1|h1
   ·exact .inl (.inl h1)
   ·exact .inr h1
  ·exact .inl (.inr e)
section
variable {B:Nat}{W w w':World}{xb rb mb:Nat}{m m':MS}{D D':GD}{s s':St}
theorem PR.ult (h:PR B W w xb rb mb m D s){k:Nat}(hk:D.u k):k<w.heap.size:=h.words.yI.lt k hk
theorem PR.KR (h:PR B W w xb rb mb m D s){k:Nat}(hk:D.u k){b:Nat}{t:TypeId}{c:Array Value}(hb:aC w b t c)(ht:t≠111):k≠b:=by
 rintro rfl;obtain⟨_,_,⟨c',hc⟩|⟨n,DD,hm⟩⟩:=h.us k hk
 ·exact ht (hb.inj hc).1
 ·exact dh hm hb rfl
theorem PR.ux (h:PR B W w xb rb mb m D s){k:Nat}(hk:D.u k):k≠xb/\k≠rb/\k≠mb/\k≠m.bk/\¬own m.sv k/\¬own m.ov k:=by
 obtain⟨ns,hi,_⟩:=h.inv;refine⟨h.KR hk hi.bJ (by decide),h.KR hk hi.cF (by decide),(h.us k hk).2.1,h.KR hk h.book (by decide),λe=>?_,λe=>?_⟩
 ·obtain⟨c,hc⟩:=aV hi.dc e;exact h.KR hk hc (by decide) rfl
 ·obtain⟨c,hc⟩:=aV hi.dY e;exact h.KR hk hc (by decide) rfl
theorem PR.fD (h:PR B W w xb rb mb m D s)(ht:mN xb rb mb w w' m m' D D'):∀b t c,BD D.d w b t c->BD D'.d w' b t c:=by
 intro b t c hb;obtain⟨_,h1,h2,h3,h4⟩:=h.sep b hb.1;refine⟨ht.up b hb.1,ht.wt.kp.blk hb.2 ?_⟩;rintro (((e|e)|e)|((e|e)|e))
 ·exact h1 e
 ·exact h2 e
 ·exact h.words.ne hb.2 e.symm
 ·exact h3 e
 ·exact h4 e
 ·exact h.words.yI.ud b e hb.1
theorem PR.turn (h:PR B W w xb rb mb m D s)(hto:gL xb rb w w' m m')(hb:m'.bk=m.bk)(hi:∃ns,aW w' xb rb m' ns/\(s'.e=0->ns=s'.rs.reverse))
  (hm:m'.mem=s'.mem) (ho:m'.out=s'.out) (h0:0<=m'.st) (h1:m'.st<=2000) (hst:s'.e=0->m'.st=s'.steps) (hdp:m'.dp=s'.depth) (hd:OW s s') (hg:cC s') (hsm:m.st<=m'.st:=by first|exact Int.le_refl _|omega|(dsimp only;omega)):PR B W w' xb rb mb m' D s'/\mN xb rb mb w w' m m' D D:=by
 have hP:mN xb rb mb w w' m m' D D:=mN.of hto hb D;have hkp:=To.kp hto;obtain⟨ns,hi0,_⟩:=h.inv;have nb:∀b t c,aC w b t c->t≠80->t≠100->t≠2->t≠5->¬((b=xb\/b=rb)\/(own m.sv b\/own m.ov b)):=by
  intro b t c hbb t1 t2 t3 t4;rintro ((e|e)|(e|e))
  ·subst e;exact t1 (hbb.inj hi0.bJ).1
  ·subst e;exact t2 (hbb.inj hi0.cF).1
  ·exact t3 (aQ hi0.dc e hbb)
  ·exact t4 (aQ hi0.dY e hbb)
 have hnm:¬((mb=xb\/mb=rb)\/(own m.sv mb\/own m.ov mb)):=by
  rintro ((e|e)|(e|e))
  ·exact h.words.ne hi0.bJ e
  ·exact h.words.ne hi0.cF e
  ·obtain⟨c,hc⟩:=aV hi0.dc e;exact h.words.ne hc rfl
  ·obtain⟨c,hc⟩:=aV hi0.dY e;exact h.words.ne hc rfl
 have uU:∀k,D.u k->¬((k=xb\/k=rb)\/(own m.sv k\/own m.ov k)):=λk hk=>by
  obtain⟨e1,e2,_,_,e3,e4⟩:=h.ux hk;rintro ((e|e)|(e|e))
  ·exact e1 e
  ·exact e2 e
  ·exact e3 e
  ·exact e4 e
 have hnd:∀k,D.d k->¬((k=xb\/k=rb)\/(own m.sv k\/own m.ov k)):=λk hk=>by
  obtain⟨_,e1,e2,e3,e4⟩:=h.sep k hk;rintro ((e|e)|(e|e))
  ·exact e1 e
  ·exact e2 e
  ·exact e3 e
  ·exact e4 e
 obtain⟨nY,hwd⟩:=h.words.yI.out hkp uU hnd;refine⟨⟨hi,hm,ho,h0,h1,hst,hdp,h.safe.to hto,h.E8,?_,?_,λk hk=>?_,λk hk=>?_,hg,by rw[hd.2.2.2];have:=h.ids;omega,by rw[hd.2.2.2];exact h.Cm⟩,hP⟩
 ·rw[hb,hd.2.1,hd.2.2.1];exact hkp.blk h.book (nb _ _ _ h.book (by decide) (by decide) (by decide) (by decide))
 ·rw[hb,hd.1];exact h.words.E7 nY (λ_ _ h=>h) (λ_ _ h=>h) hwd (hkp.block mb h.words.Mz hnm) (λ_ _ _ _ q=>q.out hkp uU hnd)
 ·obtain⟨e0,e1,e2,e3,e4⟩:=h.sep k hk;refine⟨aj e0 hkp.size,e1,e2,λe=>?_,λe=>?_⟩
  ·rcases To.nx hto k (.inl e) with (h2|h2)|h2
   ·exact e3 h2
   ·exact e4 h2
   ·omega
  ·rcases To.nx hto k (.inr e) with (h2|h2)|h2
   ·exact e3 h2
   ·exact e4 h2
   ·omega
 ·obtain⟨e0,e1,e2⟩:=h.us k hk;refine⟨e0,e1,?_⟩;rcases e2 with⟨c,hc⟩|⟨n,DD,hm2⟩
  ·exact .inl ⟨c,hkp.blk hc (uU k hk)⟩
  ·exact .inr ⟨n,DD,aL hm2 (hkp.block k hm2.lt (uU k hk))⟩
theorem PR.kp (h:PR B W w xb rb mb m D s)(hk:Kp w w' (λ_=>False)):PR B W w' xb rb mb m D s/\mN xb rb mb w w' m m D D:=by
 obtain⟨ns,hi,hn⟩:=h.inv;exact h.turn (gL.kp hk) rfl ⟨ns,hi.kp hk,hn⟩ h.mem h.out h.st0 h.Di h.st h.dp ⟨rfl,rfl,rfl,rfl⟩ h.good
theorem PR.om {s':St}(h:PR B W w xb rb mb m D s)(hk:Kp w w' (λk=>D.u k\/k=mb))(o9:eP D' w' m.bk mb s'.ay)(zk:s'={s with ay:=s'.ay,ids:=s'.ids})(hr2:∀o f,D.r o f->D'.r o f)(hd:∀k,D.d k->D'.d k)(hd2:∀k,D'.d k->D.d k\/(w.heap.size<=k/\k<w'.heap.size))(hu2:∀k,D'.u k->D.u k\/w.heap.size<=k)(hus:∀k,D'.u k->jS w' k)(hg:cC s')(hj:D'.J=D.J)(uY:0<=s'.ids/\s'.ids<=D.J+m.st)(QZ:∀o f,D'.r o f->f.id<=s'.ids):
  PR B W w' xb rb mb m D' s'/\mN xb rb mb w w' m m D D':=by
 obtain⟨ns,hi,hn⟩:=h.inv;have hs:=h.safe;have hsz:=hk.size;have hsb:=hs.bs;have hml:=h.words.Mz;have Jc:∀b t c,aC w b t c->t≠111->¬(D.u b\/b=mb):=λb t c hb ht e=>e.elim (λe=>h.KR e hb ht rfl) (λe=>h.words.ne hb e.symm);have e1:s'.e=s.e:=by rw[zk]
 have e2:s'.rs=s.rs:=by rw[zk]
 refine⟨⟨⟨ns,⟨hk.blk hi.bJ (Jc _ _ _ hi.bJ (by decide)),hk.blk hi.cF (Jc _ _ _ hi.cF (by decide)),hk.row hi.dc (λk e e2=>by obtain⟨c,hc⟩:=aV hi.dc e;exact Jc _ _ _ hc (by decide) e2),hk.row hi.dY (λk e e2=>by obtain⟨c,hc⟩:=aV hi.dY e;exact Jc _ _ _ hc (by decide) e2),hi.len⟩,by rw[e1,e2];exact hn⟩,by rw[zk];exact h.mem,by rw[zk];exact h.out,h.st0,h.Di,by rw[zk];exact h.st,by rw[zk];exact h.dp,⟨hs.E9.trans (hk.below hs.bs (λk hk2 e=>by
   rcases e with e|e
   ·have:=(h.us k e).1;omega
   ·have:=h.E8;omega)),hs.bx,hs.br,hs.bv,ai hs.bs hsz⟩,h.E8,by rw[zk];exact hk.blk h.book (Jc _ _ _ h.book (by decide)),o9,λk hk2=>?_,λk hk2=>?_,hg,by rw[hj];exact⟨uY.1,uY.2,h.ids.2.2⟩,QZ⟩,⟨⟨hk.mono (λk _ e=>e.elim (λe=>.inr (.inr e)) (λe=>.inl (.inr e))),λk hk2=>?_⟩,hd,λk hk2=>(hd2 k hk2).imp id (λq=>q.1),hr2,rfl,hj⟩⟩
 ·rcases hd2 k hk2 with q|⟨q,q2⟩
  ·obtain⟨e0,e1⟩:=h.sep k q;exact⟨by omega,e1⟩
  ·refine⟨q2,?_,?_,λe=>?_,λe=>?_⟩
   ·have:=hi.bJ.lt;omega
   ·have:=hi.cF.lt;omega
   ·have:=bw hi.dc e;omega
   ·have:=bw hi.dY e;omega
 ·rcases hu2 k hk2 with q|q
  ·exact⟨(h.us k q).1,(h.us k q).2.1,hus k hk2⟩
  ·exact⟨by omega,by omega,hus k hk2⟩
 ·rcases hk2 with e|e
  ·exact .inl (.inl e)
  ·rcases hu2 k e with q|q
   ·exact .inl (.inr q)
   ·exact .inr q
end
end
end Go.Proofs.YteainaiebcphlaaGreatDoor
