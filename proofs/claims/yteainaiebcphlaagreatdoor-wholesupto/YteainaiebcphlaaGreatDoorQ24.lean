import Derived.Test.YteainaiebcphlaaGreatDoorQ23
import Derived.Deep.LoopGhost
import Derived.Test.YteainaiebcphlaaGreatDoorQ21
namespace Go.Proofs.YteainaiebcphlaaGreatDoor
set_option maxRecDepth 1000000
set_option maxHeartbeats 4000000
set_option linter.all false
open Go.Proofs.Tryz
section
open Go.RowKit
structure Vu (W:World)(b off:Nat)(i:Nat)(K A N M:Int)(S:ByteArray):Prop where
 c0:W.cell? ⟨b,off+i*5,none⟩=some (.int .i64 K)
 c1:W.cell? ⟨b,off+i*5+1,none⟩=some (.int .i64 A)
 c2:W.cell? ⟨b,off+i*5+2,none⟩=some (.int .i64 N)
 c3:W.cell? ⟨b,off+i*5+3,none⟩=some (.int .i64 M)
 c4:W.cell? ⟨b,off+i*5+4,none⟩=some (.string S)
 a:In A
 n:In N
section
variable {PS:Int->World->Nat->(Nat->Prop)->St->Prop}{B:Nat}{W0:World}(F:EU B W0 PS)
include F
theorem OJ (I:Int)(hI:0<=I)(yq:I<=4611686018427387904)(c:Nat->Nat)(w:World)(wb:Nat)(cK kv:Value)(n:Int)(ps:List Pr)(kept:List Ke)(K A N M:Int)(S:ByteArray)(h:jy (PS I) B c w wb cK kv n ps kept)(hb0:Below B W0 w)(hA:In A)(hN:In N)(hn2:ps.length<=4398046511104)(hkl:kept.length<=1000000000000):
  Calls prog 14 #[.pointer (some ⟨wb,0,none⟩),.agg #[.int .i64 K,.int .i64 A,.int .i64 N,.int .i64 M,.string S]] w λe w'=>e=.returned (.bool true)/\∃pl,pl<=ps.length+1/\cA (PS (I+2000)) B w w' wb pl kept.length:=by
 have C:=F.L4 I hI;have P:=C.toPCon;have L:=F.line I hI yq;have md:∀{f pl},Calls prog 14 f w (λe w'=>e=.returned (.bool true)/\cA (PS I) B w w' wb pl kept.length)->pl<=ps.length+1->Calls prog 14 f w (λe w'=>e=.returned (.bool true)/\∃pl,pl<=ps.length+1/\cA (PS (I+2000)) B w w' wb pl kept.length):=λq hl=>q.mono (λ_ _ h=>⟨h.1,_,hl,h.2.mono L.mono⟩);by_cases k1:K=1
 ·subst k1;exact md (Mh P c w wb cK kv n ps kept A N M S h hb0 hn2) (by first|omega|simp)
 by_cases hz:ps.length=0
 ·have:ps=[]:=List.eq_nil_of_length_eq_zero hz;subst this;exact md (IG P c w wb cK kv n kept K A N M S h (by simpa using k1)) (by first|omega|simp)
 by_cases k2:K=2
 ·subst k2;exact(IJ (F.L4 (I+2000) (by omega)).toPCon P L c w wb cK kv n ps kept A N M S h hA (by omega) hn2).mono (λ_ _ h=>⟨h.1,_,by omega,h.2⟩)
 by_cases k3:K=3
 ·subst k3;exact md (xP P c w wb cK kv n ps kept A N M S h hA (by omega) hn2 hkl) (by first|omega|simp)
 by_cases k4:K=4
 ·subst k4;exact md (IK P c w wb cK kv n ps kept A N M S h hA hN (by omega) hn2) (by first|omega|simp)
 by_cases k5:K=5
 ·subst k5;exact md (xQ P c w wb cK kv n ps kept A N M S h hA (by omega) hn2 hkl) (by first|omega|simp)
 by_cases k6:K=6
 ·subst k6;exact md (IU C c w wb cK kv n ps kept A N M S h hA (by omega) hn2) (by first|omega|simp)
 by_cases k7:K=7
 ·subst k7;exact md (Am C c w wb cK kv n ps kept A N M S h hA (by omega) hn2 hkl) (by first|omega|simp)
 by_cases k8:8<=K
 ·exact md (II P c w wb cK kv n ps kept K A N M S h k8 hA (by omega) hn2) (by first|omega|simp)
 ·exact md (EZ P c w wb cK kv n ps kept K A N M S h (by omega) hA (by omega) hn2) (by first|omega|simp)
end
def Ml (PS:World->Nat->(Nat->Prop)->St->Prop)(B:Nat)(W wr:World)(wb k:Nat):Prop:=∃c cK kv n ps kept,jy PS B c wr wb cK kv n ps kept/\ps.length<=k/\kept.length<=4*k/\Below B W wr
theorem jy.first {PS:World->Nat->(Nat->Prop)->St->Prop}{B:Nat}(w1:World)(hB:B<=w1.heap.size):jy PS B (λb=>if b<B then 0 else 2) (w1.alloc (.cells #[.slice none 0 0,.int .i64 0,.slice none 0 0] 28)) w1.heap.size (.slice none 0 0) (.slice none 0 0) 0 [] []:=
 ⟨aC.new _ _ _,af (by omega),World.ownsRow_nil _ _ _ _,λk hk=>by simp[own,Value.ownBlock] at hk,World.ownsRow_nil _ _ _ _,λk hk=>by simp[own,Value.ownBlock] at hk,λi hi=>by simp at hi,λi hi=>by simp at hi,λi hi=>by simp at hi,λi hi=>by simp at hi,λb hb=>ag hb,by simp;omega⟩
section
variable {PS:Int->World->Nat->(Nat->Prop)->St->Prop}
theorem Vv (W:World)(F:EU W.heap.size W PS)(b off len cap:Nat)(hb:b<W.heap.size)(hlen:len<=2000000)(hS:∀i,i<len->∃K A N M S,Vu W b off i K A N M S)
  (hH:Calls prog 13 #[.int .i64 7] W λe w'=>e=.returned (.bool true)/\Below W.heap.size W w'):
  Calls prog 15 #[.slice (some ⟨b,off,none⟩) len cap,.int .i64 7] W λe w'=>e=.returned (.int .i64 (-1))/\Below W.heap.size W w':=by
 have HS:=az hS;clear hS;go_enter func15,ntmps15
 go_wp2_with fail
 refine hH.mono ?_;rintro e w1 ⟨rfl,hb1⟩;have wu:Hid (Ml (PS 0) W.heap.size W (w1.alloc (.cells #[.slice none 0 0,.int .i64 0,.slice none 0 0] 28)) w1.heap.size 0):=
  ⟨_,_,_,_,_,_,jy.first w1 hb1.size,by simp,by simp,hb1.alloc hb1.size _⟩
 clear hb1 hH;go_wp2
 go_loopw [7] (λi wr=>∃k:Nat,k<=len/\i=.int .i64 k/\Ml (PS (2000*(k:Int))) W.heap.size W wr w1.heap.size k) (λi _=>len-(intOf i).toNat)
 case atStart=>exact⟨0,Nat.zero_le _,rfl,wu.out⟩
 case round=>
  clear wu;obtain⟨k,hk,rfl,c,cK,kv,n,ps,kept,hw,hpl,hkl,hbel⟩:=hrel;by_cases hlt:k<len
  ·obtain⟨K,A,N,M,S,hs⟩:=HS.out k hlt;have d0:wr.cell? ⟨b,off+k*5,none⟩=some (.int .i64 K):=(hbel.cell (p:=⟨b,off+k*5,none⟩) hb).trans hs.c0;have d1:wr.cell? ⟨b,off+k*5+1,none⟩=some (.int .i64 A):=(hbel.cell (p:=⟨b,off+k*5+1,none⟩) hb).trans hs.c1;have d2:wr.cell? ⟨b,off+k*5+2,none⟩=some (.int .i64 N):=(hbel.cell (p:=⟨b,off+k*5+2,none⟩) hb).trans hs.c2;have d3:wr.cell? ⟨b,off+k*5+3,none⟩=some (.int .i64 M):=(hbel.cell (p:=⟨b,off+k*5+3,none⟩) hb).trans hs.c3;have d4:wr.cell? ⟨b,off+k*5+4,none⟩=some (.string S):=(hbel.cell (p:=⟨b,off+k*5+4,none⟩) hb).trans hs.c4;by_cases hK:K<=7
   ·have HST:=az (OJ F _ (by omega) (by omega) c wr w1.heap.size cK kv n ps kept K A N M S hw hbel hs.a hs.n (by omega) (by omega));have qM:=az hbel;have XM:¬7<K:=by omega
    clear hw hbel hs hK
    go_wp2_with fail
    refine HST.out.mono ?_;rintro e w2 ⟨rfl,pl,ZX,c2,Vw,kv2,n2,ps2,OL,hw2,QJ,ZY,Ao⟩;have zh:Hid (Below W.heap.size W w2):=qM.out.trans Ao;have wz:=az hw2;have IV:=az (ID w2 w1.heap.size Vw kv2 n2 OL hw2.blk hw2.kD (by omega) (λi hi=>(hw2.ke i hi).rd));clear hw2 Ao qM HST d0 d1 d2 d3 d4
    go_wp2_with fail
    refine IV.out.mono ?_;rintro e w3 ⟨rfl,hk3⟩;have P2:=(F.L4 (2000*(k:Int)+2000) (by omega)).toPCon;have HR:Hid (Ml (PS (2000*((k+1:Nat):Int))) W.heap.size W w3 w1.heap.size (k+1)):=by
     rw[show 2000*((k+1:Nat):Int)=2000*(k:Int)+2000 by omega];exact⟨_,_,_,_,_,_,wz.out.idle P2 hk3,by omega,by omega,zh.out.trans (Kp.low P2 hk3 wz.out.bl)⟩
    clear hk3 wz zh IV P2;go_wp2
    go_roundw
    case rel=>exact⟨k+1,by omega,by go_num,HR.out⟩
    case measure=>simp[intOf];omega
   ·have HR:Hid (Ml (PS (2000*((k+1:Nat):Int))) W.heap.size W wr w1.heap.size (k+1)):=by
     rw[show 2000*((k+1:Nat):Int)=2000*(k:Int)+2000 by omega];exact⟨_,_,_,_,_,_,hw.mono (F.line _ (by omega) (by omega)).mono,by omega,by omega,hbel⟩
    have XM:7<K:=by omega
    clear hw hbel hs hK;go_wp2
    go_roundw
    case rel=>exact⟨k+1,by omega,by go_num,HR.out⟩
    case measure=>simp[intOf];omega
  ·have zh:=az hbel;clear hw hbel;go_wp2;go_ret;exact⟨rfl,zh.out⟩
end
theorem Mm {g g':Nat}{j:XJ}{s:St}{r r':St × Bool}(h:aI g j s=some r)(h':aI g' j s=some r'):r=r':=by
 have h1:=dB (g':=g+g') (by omega) h;have h2:=dB (g':=g+g') (by omega) h';rw[h1] at h2;injection h2
theorem yF {t:List UInt8}(hv:cz t=true):(Lib.fields t).length<=1000:=by
 have h1:=iP t [];have h3:t.length<=400:=by unfold cz at hv;rw[Bool.and_eq_true] at hv;exact of_decide_eq_true hv.1
 have:(Lib.fields t).length<=t.length+1:=h1;omega
theorem QK {g:Nat}{s s1:St}{left:Bool}{t:List UInt8}(hw:iZ s)(hv:cz t=true)(h:aI g (aT (Lib.fields t)) (jP s)=some (s1,left)):iZ (yE s1):=by
 obtain⟨g',s2,l2,h2,hwf⟩:=uK s hw t (yF hv);have:=Mm h h2;injection this with e1 e2;subst e1;exact hwf
def after (g:Nat)(s:St)(t:List UInt8):Option St:=(aI g (aT (Lib.fields t)) (jP s)).map (λp=>p.1)
theorem E1 {g:Nat}{s s1:St}{t:List UInt8}(h:after g s t=some s1):∃left,aI g (aT (Lib.fields t)) (jP s)=some (s1,left):=by
 unfold after at h
 cases hx:aI g (aT (Lib.fields t)) (jP s) with
 | none=>rw[hx] at h;cases h
 | some p=>rw[hx] at h;injection h with h;subst h;exact⟨p.2,rfl⟩
theorem kV {α:Type}{o:Option α}{d:α}(h:o.isSome=true):o=some (o.getD d):=by cases o with|none=>cases h|some x=>rfl
section
variable {PS:World->Nat->(Nat->Prop)->St->Prop}
theorem Ap {L8:World->Nat->(Nat->Prop)->St->Prop}(L:Dl L8 PS)(w:World)(xb g:Nat)(V:Nat->Prop)(s s1:St)(t want:ByteArray)(hx:L8 w xb V s)(hw:iZ s)(hv:cz t.data.toList=true)(ha:after g s t.data.toList=some s1)(ho:s1.out.data.toList=want.data.toList)(he:s1.e=0):
  Calls prog 28 #[.pointer (some ⟨xb,0,none⟩),.string t,.string want] w λe w'=>e=.returned (.bool true)/\iZ s1/\∃V',PS w' xb V' s1/\To (λ_=>False) w w' V V':=by
 obtain⟨left,hrun⟩:=E1 ha;have hwf:=QK hw hv hrun;have hend:yE s1=s1:=ag he;rw[hend] at hwf;have hl:=L.line w xb V s s1 left g t hx hw hw.g hv hrun;rw[hend] at hl;have HL:=az hl;have KJ:=az hwf;have hoo:s1.out=want:=ByteArray.ext (Array.ext' ho);rw[he,hoo] at HL;clear hl hwf hend hrun ha ho hx hw hv;go_enter func28,ntmps28
 go_wp2_with fail
 refine HL.out.mono ?_;rintro e w1 ⟨rfl,V',hx1,bt⟩;have HN:Hid (∃V',PS w1 xb V' s1/\To (λ_=>False) w w1 V V'):=⟨V',hx1,bt⟩;clear hx1 bt;go_wp2;go_ret;exact⟨by simp,KJ.out,HN.out⟩
end
def ld:ByteArray:=⟨#[49,32,50,32,43,32,46,32,45,55,32,50,32,47,32,46,32,45,55,32,50,32,109,111,100,32,46]⟩
def hw1:ByteArray:=⟨#[51,32,45,52,32,49,32]⟩
def hl2:ByteArray:=⟨#[58,32,102,32,100,117,112,32,50,32,60,32,105,102,32,100,114,111,112,32,49,32,101,108,115,101,32,100,117,112,32,49,32,45,32,114,101,99,117,114,115,101,32,42,32,116,104,101,110,32,59,32,53,32,102,32,46]⟩
def hw2:ByteArray:=⟨#[49,50,48,32]⟩
def De:ByteArray:=⟨#[58,32,97,32,49,32,46,32,59,32,58,32,98,32,97,32,123,32,58,32,97,32,50,32,46,32,59,32,125,32,97,32,59,32,98,32,98,32,55]⟩
def hw3:ByteArray:=⟨#[49,32,50,32,50,32,50,32]⟩
def hg:Nat:=150
def hs1:St:=(after hg st0 ld.data.toList).getD st0
def hs2:St:=(after hg hs1 hl2.data.toList).getD st0
def hs3:St:=(after hg hs2 De.data.toList).getD st0
theorem ha1:after hg st0 ld.data.toList=some hs1:=kV (by decide +kernel)
theorem ha2:after hg hs1 hl2.data.toList=some hs2:=kV (by decide +kernel)
theorem ha3:after hg hs2 De.data.toList=some hs3:=kV (by decide +kernel)
theorem Ge:hs1.out.data.toList=hw1.data.toList/\hs1.e=0:=by decide +kernel
theorem og:hs2.out.data.toList=hw2.data.toList/\hs2.e=0:=by decide +kernel
theorem ZZ:hs3.out.data.toList=hw3.data.toList/\hs3.e=0/\hs3.rs=[7]:=by decide +kernel
theorem hv1:cz ld.data.toList=true:=by decide +kernel
theorem hv2:cz hl2.data.toList=true:=by decide +kernel
theorem hv3:cz De.data.toList=true:=by decide +kernel
def hl4:ByteArray:=⟨#[58,32,97,32,49,32,100,114,111,112,32,59,32,58,32,98,32,97,32,59,32,98,32,98,32,98,32,98,32,98]⟩
def SZ:ByteArray:=⟨#[58,32,97,32,59]⟩
def hs4:St:=(after hg hs3 hl4.data.toList).getD st0
def hs5:St:=(after hg hs4 SZ.data.toList).getD st0
theorem ha4:after hg hs3 hl4.data.toList=some hs4:=kV (by decide +kernel)
theorem ha5:after hg hs4 SZ.data.toList=some hs5:=kV (by decide +kernel)
theorem Z0:hs4.out.data.toList=[]/\hs4.e=0/\pU hs4=aD [⟨#[97]⟩,⟨#[98]⟩,⟨#[102]⟩]:=by decide +kernel
theorem SL:hs5.out.data.toList=[]/\hs5.e=0/\(pU hs5).length=1:=by decide +kernel
theorem hv4:cz hl4.data.toList=true:=by decide +kernel
theorem rI:cz SZ.data.toList=true:=by decide +kernel
section
variable {PS:Int->World->Nat->(Nat->Prop)->St->Prop}{B:Nat}{W0:World}(F:EU B W0 PS)
include F
theorem yG (w:World)(hb:Below B W0 w)(hB:B<=w.heap.size):Calls prog 13 #[.int .i64 7] w λe w'=>e=.returned (.bool true)/\Kp w w' (λ_=>False):=by
 have GC:=az (F.line 0 (by decide) (by decide));have GF:=az (F.line (0+2000) (by decide) (by decide));have HL3:=az (F.line (0+2000+2000) (by decide) (by decide));have HL4:=az (F.line (0+2000+2000+2000) (by decide) (by decide));have HL5:=az (F.line (0+2000+2000+2000+2000) (by decide) (by decide));go_enter func13,ntmps13
 go_wp2_with fail
 refine((F.L4 0 (by decide)).new w hb hB).mono ?_;rintro e w1 ⟨xb,V,rfl,hx,hk1,hV⟩;have H1:=az (Ap GC.out w1 xb hg V st0 hs1 ld hw1 hx iZ.first hv1 ha1 Ge.1 Ge.2)
 have oV:=az hk1;have HV:=az hV;clear hx hk1 hV
 go_wp2_with fail
 refine H1.out.mono ?_;rintro e w2 ⟨rfl,wf1,V1,hx1,bt⟩;have H2:=az (Ap GF.out w2 xb hg V1 hs1 hs2 hl2 hw2 hx1 wf1 hv2 ha2 og.1 og.2);have OM:=az bt;clear hx1 bt wf1 H1
 go_wp2_with fail
 refine H2.out.mono ?_;rintro e w3 ⟨rfl,wf2,V2,hx2,bM⟩;have H3:=az (Ap HL3.out w3 xb hg V2 hs2 hs3 De hw3 hx2 wf2 hv3 ha3 ZZ.1 ZZ.2.1);have wI:=az (OM.out.trans bM);clear hx2 bM wf2 H2 OM
 go_wp2_with fail
 refine H3.out.mono ?_;rintro e w4 ⟨rfl,Z1,V3,hx3,dI⟩;have H4:=az ((F.L4 (0+2000+2000+2000) (by decide)).stack w4 xb V3 hs3 hx3 Z1.g);have wJ:=az (wI.out.trans dI);have KJ:=az Z1;clear hx3 dI Z1 H3 wI
 go_wp2_with fail
 refine H4.out.mono ?_;rintro e w5 ⟨v,rfl,aJ,V4,hx4,gQ,Z2⟩;have hrs:hs3.rs=[7]:=ZZ.2.2;rw[hrs] at aJ;have hrow':=Joins.ownsRow_le aJ (Nat.zero_le _);have hgl:∀k,own v k->k<w5.heap.size:=λk hk=>bw hrow' hk;obtain⟨gv,L9,e1,hc⟩:=bE hrow' (by simp);have c7:=hc 0 (.int .i64 7) (by simp[bD]);subst e1;have hgl:=hgl gv rfl;have H5:=az (λw' (hk:Kp w5 w' (λ_=>False))=>Ap HL4.out w' xb hg V4 hs3 hs4 hl4 ⟨#[]⟩ ((F.L4 (0+2000+2000+2000) (by decide)).frame _ _ _ _ _ _ hx4 hk (λ_ _ h=>h) (λ_ _ h=>h) (ai hB (ai oV.out.size (ai wJ.out.kp.size gQ.kp.size)))) KJ.out hv4 ha4 Z0.1 Z0.2.1);have Vx:=az (wJ.out.trans gQ);clear aJ hrow' hc hx4 gQ Z2 H4 wJ hrs KJ;simp only[aq,List.length_nil] at *
 go_wp2_with fail
 refine(H5.out _ (Kp.refl _ _)).mono ?_;rintro e w6 ⟨rfl,wf4,V5,GL,mF⟩;have H6:=az ((F.L4 (0+2000+2000+2000+2000) (by decide)).bF w6 xb V5 hs4 GL);have Ld:=az (Vx.out.trans mF);have KJ:=az wf4;clear GL mF wf4 H5 Vx c7 hgl
 go_wp2_with fail
 refine H6.out.mono ?_;rintro e w7 ⟨v,rfl,⟨L,aJ,hL⟩,V6,hx6,Vy,Vz⟩;rw[Z0.2.2] at hL;have hLe:=nM hL;subst hLe;have IW:=Joins.ownsRow_le aJ (Nat.zero_le _);have H7:=az (Ap HL5.out w7 xb hg V6 hs4 hs5 SZ ⟨#[]⟩ hx6 KJ.out rI ha5 SL.1 SL.2.1);have HT6:=az (Ld.out.trans Vy);have Z3:=az IW;have Z4:=az Vz;obtain⟨ak,pk,rfl⟩:=aB IW;clear hx6 Vy aJ IW Vz H6 Ld KJ hL
 go_wp2_with fail
 refine H7.out.mono ?_;rintro e w8 ⟨rfl,wf5,V7,hx7,Mn⟩;have OO:=Mn.kp.row Z3.out (λk hk e=>e.elim (λe=>e) (λe=>Z4.out k hk e));have VA:=λk (hk:own (.slice ak [(⟨#[97]⟩:ByteArray),⟨#[98]⟩,⟨#[102]⟩].length pk) k) (e:V7 k)=>(Mn.nx k e).elim (Z4.out k hk) (λq=>by have:=bw Z3.out hk;omega);have H8:=az ((F.L4 (0+2000+2000+2000+2000+2000) (by decide)).bF w8 xb V7 hs5 hx7);have HT7:=az (HT6.out.trans Mn);have HR8:=az OO;have HN7:=az VA;clear hx7 Mn OO VA wf5 H7 HT6 Z3 Z4
 go_wp2_with fail
 refine H8.out.mono ?_;rintro e w9 ⟨v2,rfl,⟨L2,hrow2,hL2⟩,V8,hx8,QL,_⟩;have xL:=QL.kp.row HR8.out (λk hk e=>e.elim (λe=>e) (λe=>HN7.out k hk e));have hl2:L2.length=1:=by rw[<-gX,hL2];exact SL.2.2
 rw[hl2] at hrow2;obtain⟨a2,p2,rfl⟩:=aB (Joins.ownsRow_le hrow2 (Nat.zero_le _));have VB:∀k,own (.slice ak [(⟨#[97]⟩:ByteArray),⟨#[98]⟩,⟨#[102]⟩].length pk) k->k<w9.heap.size:=λk hk=>bw xL hk;obtain⟨gk,Qt,e1,hc⟩:=bE xL (by simp);injection e1 with e1 _ e2;subst e1 e2;have VB:=VB gk rfl;have q0:=hc 0 (.string ⟨#[97]⟩) (by simp);have q1:=hc 1 (.string ⟨#[98]⟩) (by simp);have q2:=hc 2 (.string ⟨#[102]⟩) (by simp);have HK:Hid (Kp w w9 (λ_=>False)):=by
  have t1:=HT7.out.trans QL;exact⟨t1.kp.os.trans oV.out.os,t1.kp.tape.trans oV.out.tape,t1.kp.output.trans oV.out.output,ai oV.out.size t1.kp.size,λk hk _=>(t1.kp.block k (aj hk oV.out.size) (λh=>by
   rcases h with h|h
   ·exact h
   ·have:=HV.out k h;omega)).trans (oV.out.block k hk (λh=>h))⟩
 clear xL hrow2 hc hx8 QL hL2 hl2 H8 HT7 HR8 HN7 HV oV;simp only[aq,List.length_nil] at *;go_wp2;go_ret;exact⟨rfl,HK.out⟩
end
end
end Go.Proofs.YteainaiebcphlaaGreatDoor
