import Derived.Test.YteainaiebcphlaaGreatDoorQ24
import Derived.Deep.RegionHeld3
namespace Go.Proofs.YteainaiebcphlaaGreatDoor
set_option maxRecDepth 1000000
set_option maxHeartbeats 4000000
set_option linter.all false
open Go.Proofs.Tryz
section
open Go.RowKit
def AW (PS:World->Nat->(Nat->Prop)->St->Prop)(B:Nat)(W wr:World)(wb m kl:Nat):Prop:=∃c cK kv n ps kept,jy PS B c wr wb cK kv n ps kept/\ps.length=m/\kept.length<=kl/\Below B W wr
theorem AW.at {PS:World->Nat->(Nat->Prop)->St->Prop}{B:Nat}{W w:World}{wb m kl:Nat}(h:AW PS B W w wb m kl):∃ao cap,w.cell? ⟨wb,0,none⟩=some (.slice ao m cap)/\wb<w.heap.size:=by
 obtain⟨c,cK,kv,n,ps,kept,h1,rfl,h3,h4⟩:=h;obtain⟨ao,cap,hv⟩:=aB h1.row;exact⟨ao,cap,by rw[<-hv];exact h1.blk.cell rfl,h1.blk.lt⟩
section
variable {PS:World->Nat->(Nat->Prop)->St->Prop}{B:Nat}{W0:World}(F:PConF B W0 PS)
include F
theorem AW.idle {W w w':World}{wb m kl:Nat}(h:AW PS B W w wb m kl)(hk:Kp w w' (λ_=>False)):AW PS B W w' wb m kl:=by
 obtain⟨c,cK,kv,n,ps,kept,h1,h2,h3,h4⟩:=h;exact⟨_,_,_,_,_,_,h1.idle F.toPCon hk,h2,h3,h4.trans (Kp.low F.toPCon hk h1.bl)⟩
theorem CG {W w:World}{wb m kl q:Nat}(K:Int)(hK:K=3\/K=5\/K=7)(h:AW PS B W w wb m kl)(hq:q<m)(hm:m<=4398046511104)(hkl:kl<=1000000000000):
  Calls prog 14 #[.pointer (some ⟨wb,0,none⟩),.agg #[.int .i64 K,.int .i64 (q:Int),.int .i64 0,.int .i64 0,.string ⟨#[]⟩]] w λe w'=>e=.returned (.bool true)/\AW PS B W w' wb m (kl+4):=by
 obtain⟨c,cK,kv,n,ps,kept,h1,h2,h3,h4⟩:=h;have hA:In (q:Int):=⟨by omega,by omega⟩;have key:Calls prog 14 #[.pointer (some ⟨wb,0,none⟩),.agg #[.int .i64 K,.int .i64 (q:Int),.int .i64 0,.int .i64 0,.string ⟨#[]⟩]] w λe w'=>e=.returned (.bool true)/\cA PS B w w' wb ps.length kept.length:=by
  rcases hK with rfl|rfl|rfl
  ·exact xP F.toPCon c w wb cK kv n ps kept q 0 0 _ h1 hA (by omega) (by omega) (by omega)
  ·exact xQ F.toPCon c w wb cK kv n ps kept q 0 0 _ h1 hA (by omega) (by omega) (by omega)
  ·exact Am F c w wb cK kv n ps kept q 0 0 _ h1 hA (by omega) (by omega) (by omega)
 refine key.mono ?_;rintro e w' ⟨rfl,c',Ci,kv',n',ps',kept',q1,q2,q3,q4⟩;exact⟨rfl,_,_,_,_,_,_,q1,by omega,by omega,h4.trans q4⟩
theorem Nq {W w:World}{wb m kl:Nat}(h:AW PS B W w wb m kl)(hkl:kl<=1000000000000):Calls prog 26 #[.pointer (some ⟨wb,0,none⟩)] w λe w'=>e=.returned (.bool true)/\AW PS B W w' wb m kl:=by
 have hi:=λw'=>AW.idle F (w':=w') h;obtain⟨c,cK,kv,n,ps,kept,h1,h2,h3,h4⟩:=h;refine(ID w wb cK kv n kept h1.blk h1.kD (by omega) (λi hi=>(h1.ke i hi).rd)).mono ?_;rintro e w' ⟨rfl,hk⟩;exact⟨rfl,hi w' hk⟩
theorem R5 {W w:World}{wb m kl q:Nat}(h:AW PS B W w wb m kl)(hq:q<m):∃g cap pb,w.cell? ⟨wb,0,none⟩=some (.slice (some ⟨g,0,none⟩) m cap)/\w.cell? ⟨g,q,none⟩=some (.pointer (some ⟨pb,0,none⟩))/\wb<w.heap.size/\g<w.heap.size /\
      ∀(N:Int),In N->∀w',Kp w w' (λ_=>False)->Calls prog 25 #[.pointer (some ⟨pb,0,none⟩),.int .i64 N] w' λe w2=>e=.returned (.bool true)/\AW PS B W w2 wb m kl/\w2.cell? ⟨wb,0,none⟩=some (.slice (some ⟨g,0,none⟩) m cap)/\w2.cell? ⟨g,q,none⟩=some (.pointer (some ⟨pb,0,none⟩)):=by
  obtain⟨c,cK,kv,n,ps,kept,h1,rfl,h3,h4⟩:=h;obtain⟨g,cap,hv,hc⟩:=bE h1.row (by omega);refine⟨g,cap,ps[q].pb,by rw[<-hv];exact h1.blk.cell rfl,hc q _ (by simp[pX,hq]),h1.blk.lt,bw h1.row (by rw[hv];rfl),λN hN w' hk=>?_⟩;have h2:=h1.idle F.toPCon hk;refine(OC F.toPCon _ _ q _ N (h2.pin q hq) (h2.same q hq) (h2.wf q hq) hN).mono ?_;rintro e w2 ⟨rfl,hp⟩;obtain⟨c',V',rs',s',hpi,hwf,hm⟩:=hp;have hW:=h2.QD F.toPCon q hq hpi hwf hm;refine⟨rfl,⟨_,_,_,_,_,_,hW,by simp,h3,(h4.trans (Kp.low F.toPCon hk h1.bl)).trans (hm.kp.below h2.bl (λk hk e=>?_))⟩,by rw[<-hv];exact hW.blk.cell rfl,?_⟩
  · have e:dJ c w.heap.size 2 k=cx q\/dJ c w.heap.size 2 k=cy q:=e
    rw[h2.low k hk] at e;unfold cx cy at e;omega
  · obtain⟨g',cap',hv',hc'⟩:=bE hW.row (by simp;omega)
    rw[hv] at hv';injection hv' with e1 _ e3;injection e1 with e1;injection e1 with e1;subst e1;exact hc' q _ (by simp[pX,hq])
end
section
variable {PS:Int->World->Nat->(Nat->Prop)->St->Prop}
theorem aa2 (W:World)(F:EU W.heap.size W PS)(b off len cap:Nat)(hb:b<W.heap.size)(hlen:len<=174762)(hS:∀i,i<len->∃K A N M S,Vu W b off i K A N M S):
  Calls prog 12 #[.slice (some ⟨b,off,none⟩) len cap] W λe w'=>e=.returned (.bool true)/\Below W.heap.size W w':=by
 have HS:=az hS;have HH:=az (yG F W (Below.refl _ _) (ah _));clear hS;go_enter func12,ntmps12
 go_wp2_with fail
 refine HH.out.mono ?_;rintro e w1 ⟨rfl,hk1⟩;have hb1:Below W.heap.size W w1:=hk1.below (ah _) (λ_ _ h=>h);have wu:Hid (AW (PS 0) W.heap.size W (w1.alloc (.cells #[.slice none 0 0,.int .i64 0,.slice none 0 0] 28)) w1.heap.size 0 0):=
  ⟨_,_,_,_,_,_,jy.first w1 hb1.size,by simp,by simp,hb1.alloc hb1.size _⟩
 clear hb1 hk1 HH;go_wp2
 go_loopw [5] (λi wr=>∃k m:Nat,k<=len/\m<=k/\i=.int .i64 k/\AW (PS (2000*(k:Int))) W.heap.size W wr w1.heap.size m (2097148*k)) (λi _=>len-(intOf i).toNat)
 case atStart=>exact⟨0,0,Nat.zero_le _,ah _,rfl,wu.out⟩
 case round=>
  clear wu;obtain⟨k,m,hk,hmk,rfl,hAW⟩:=hrel;by_cases hlt:k<len
  ·obtain⟨c,cK,kv,n,ps,kept,hw,hpl,hkl,hbel⟩:=hAW;obtain⟨K,A,N,M,S,hs⟩:=HS.out k hlt;have d0:wr.cell? ⟨b,off+k*5,none⟩=some (.int .i64 K):=(hbel.cell (p:=⟨b,off+k*5,none⟩) hb).trans hs.c0;have d1:wr.cell? ⟨b,off+k*5+1,none⟩=some (.int .i64 A):=(hbel.cell (p:=⟨b,off+k*5+1,none⟩) hb).trans hs.c1;have d2:wr.cell? ⟨b,off+k*5+2,none⟩=some (.int .i64 N):=(hbel.cell (p:=⟨b,off+k*5+2,none⟩) hb).trans hs.c2;have d3:wr.cell? ⟨b,off+k*5+3,none⟩=some (.int .i64 M):=(hbel.cell (p:=⟨b,off+k*5+3,none⟩) hb).trans hs.c3;have d4:wr.cell? ⟨b,off+k*5+4,none⟩=some (.string S):=(hbel.cell (p:=⟨b,off+k*5+4,none⟩) hb).trans hs.c4;have HST:=az (OJ F _ (by omega) (by omega) c wr w1.heap.size cK kv n ps kept K A N M S hw hbel hs.a hs.n (by omega) (by omega));have qM:=az hbel;clear hw hbel hs
   go_wp2_with fail
   refine HST.out.mono ?_;rintro e w2 ⟨rfl,pl,ZX,c2,Vw,kv2,n2,ps2,OL,hw2,QJ,ZY,Ao⟩;have EC:Hid (AW (PS (2000*(k:Int)+2000)) W.heap.size W w2 w1.heap.size pl (2097148*k+4)):=⟨_,_,_,_,_,_,hw2,QJ,by omega,qM.out.trans Ao⟩;clear hw2 Ao qM HST d0 d1 d2 d3 d4;have C:=F.L4 (2000*(k:Int)+2000) (by omega);go_wp2
   go_loopw [6] (λx wr=>∃j:Nat,j<=pl/\x=.int .i64 j/\AW (PS (2000*(k:Int)+2000)) W.heap.size W wr w1.heap.size pl (2097148*k+4+12*j)) (λx _=>pl-(intOf x).toNat)
   case atStart=>exact⟨0,Nat.zero_le _,rfl,EC.out⟩
   case round=>
    clear EC;obtain⟨j,hj,rfl,hA⟩:=hrel;obtain⟨ao,cp,a0,vX⟩:=hA.at;by_cases hjl:j<pl
    ·have SS:=az (CG C 3 (.inl rfl) hA hjl (by omega) (by omega));clear hA
     go_wp2_with fail
     refine SS.out.mono ?_;rintro e w4 ⟨rfl,hA4⟩;have HA5:=az (CG C 5 (.inr (.inl rfl)) hA4 hjl (by omega) (by omega));clear hA4 SS a0 vX
     go_wp2_with fail
     refine HA5.out.mono ?_;rintro e w5 ⟨rfl,hA6⟩;have Ub:=az (CG C 7 (.inr (.inr rfl)) hA6 hjl (by omega) (by omega));clear hA6 HA5
     go_wp2_with fail
     refine Ub.out.mono ?_;rintro e w6 ⟨rfl,hA8⟩;have HA8:=az hA8;clear hA8 Ub;go_wp2
     go_loopw [10] (λx wr=>∃t:Nat,t<=16/\x=.int .i64 t/\AW (PS (2000*(k:Int)+2000)) W.heap.size W wr w1.heap.size pl (2097148*k+4+12*j+4+4+4)) (λx _=>16-(intOf x).toNat)
     case atStart=>exact⟨0,Nat.zero_le _,rfl,HA8.out⟩
     case round=>
      clear HA8;obtain⟨t,ht,rfl,hA⟩:=hrel;by_cases htl:t<16
      ·obtain⟨g,cp,pb,b0,b1,vX,hgl,hC⟩:=R5 C hA hjl;have HC:=az (hC (t:Int) ⟨by omega,by omega⟩);clear hA hC
       go_wp2_with fail
       refine(HC.out _ (Kp.refl _ _)).mono ?_;rintro e w8 ⟨rfl,hA9,-,-⟩;have HA9:=az hA9;clear hA9 HC b0 b1 vX hgl;go_wp2
       go_roundw
       case rel=>exact⟨t+1,by omega,by go_num,HA9.out⟩
       case measure=>simp[intOf];omega
      ·have HA9:=az hA;clear hA;go_wp2
       go_roundw
       case rel=>exact⟨j+1,by omega,by go_num,HA9.out⟩
       case measure=>simp[intOf];omega
    ·have hjp:j=pl:=by omega
     subst hjp;have IV:=az (Nq C hA (by omega));clear hA
     go_wp2_with fail
     refine IV.out.mono ?_;rintro e w7 ⟨rfl,hA7⟩;have HR:Hid (AW (PS (2000*((k+1:Nat):Int))) W.heap.size W w7 w1.heap.size j (2097148*(k+1))):=by
      rw[show 2000*((k+1:Nat):Int)=2000*(k:Int)+2000 by omega];obtain⟨c,cK,kv,n,ps,kept,q1,q2,q3,q4⟩:=hA7;exact⟨c,cK,kv,n,ps,kept,q1,q2,by omega,q4⟩
     clear hA7 IV;go_wp2
     go_roundw
     case rel=>exact⟨k+1,j,by omega,by omega,by go_num,HR.out⟩
     case measure=>simp[intOf];omega
  ·have zh:Hid (Below W.heap.size W wr):=by
    obtain⟨_,_,_,_,_,_,_,_,_,h⟩:=hAW;exact h
   clear hAW;go_wp2;go_ret;exact⟨rfl,zh.out⟩
end
end
end Go.Proofs.YteainaiebcphlaaGreatDoor
