import Derived.Test.YteainaiebcphlaaGreatDoorQ22
import Derived.Test.YteainaiebcphlaaGreatDoorQ21
import Derived.Test.YteainaiebcphlaaGreatDoorQ18
import Derived.Deep.RegionHeld3
namespace Go.Proofs.YteainaiebcphlaaGreatDoor
set_option maxRecDepth 1000000
set_option maxHeartbeats 4000000
set_option linter.all false
open Go.Proofs.Tryz
section
open Go.RowKit
section
variable {PS:World->Nat->(Nat->Prop)->St->Prop}{B:Nat}{W0:World}(P:PCon B W0 PS)
include P
theorem jy.listed {c:Nat->Nat}{w w':World}{wb:Nat}{cK kv kv' v:Value}{n n':Int}{ps:List Pr}{kept four:List Ke}(h:jy PS B c w wb cK kv n ps kept)
  (hv:∀k,own v k->k<w.heap.size/\c k≠0/\c k≠1/\c k≠2/\∀j (hj:j<ps.length),c k≠cy j/\¬ps[j].V k)
  (hkp:Kp w w' (λb=>b=wb\/own kv b\/own v b)) (hblk:aC w' wb 28 #[cK,.int .i64 n',kv']) (hkr:w'.ownsRow 0 89 3 kv' (kept++four).length (eu (kept++four))) (hkn:∀b,own kv' b->own kv b\/w.heap.size<=b)
  (LB:Nat->Prop) (hLB:∀b,LB b->own v b\/w.heap.size<=b) (ZM:∀b,LB b->∃t cc,aC w' b t cc/\(t=3\/t=9))
  (hf:∀i (hi:i<four.length),QA w' four[i]/\(∀b,own four[i].nv b->LB b)/\(∀b,own four[i].mv b->LB b)):
  (∃c',jy PS B c' w' wb cK kv' n' ps (kept++four))/\Below B w w':=by
 classical
 have hw2:=h.cw
 let c1:Nat->Nat:=λb=>if own v b then 2 else c b
 have e1:∀b,¬own v b->c1 b=c b:=λb hb=>af hb;have e2:∀b,own v b->c1 b=2:=λb hb=>ag hb;have two:∀b,c b=2->c1 b=2:=λb hb=>by
  by_cases ho:own v b
  ·exact e2 b ho
  ·rw[e1 b ho];exact hb
 have hk1:Kp w w' (λb=>c1 b=2):=hkp.mono (λb _ hb=>by
  rcases hb with e|e|e
  ·rw[e];exact two _ hw2
  ·exact two _ (h.ck b e)
  ·exact e2 b e)
 have hm:=Mv.dJ hk1;have p1:∀i (hi:i<ps.length),jm B PS c1 w i ps[i]:=λi hi=>(h.pin i hi).re P (λb hb=>by
  have ho:own v b:=by
   by_cases ho:own v b
   ·exact ho
   ·exact ax (e1 b ho) hb
  obtain⟨_,q0,_,_,q3⟩:=hv b ho;exact⟨q0,(q3 i hi).1,(q3 i hi).2⟩)
 have p2:∀i (hi:i<ps.length),jm B PS (dJ c1 w.heap.size 2) w' i ps[i]:=λi hi=>(p1 i hi).other P hm (by decide) (o7 i) (qL i);have l2:∀b,LB b->dJ c1 w.heap.size 2 b=2:=λb hb=>by
  rcases hLB b hb with h1|h1
  ·rw[hm.old b (hv b h1).1];exact e2 b h1
  ·exact hm.new b h1
 let c3:Nat->Nat:=λb=>if LB b then 1 else dJ c1 w.heap.size 2 b
 have f1:∀b,¬LB b->c3 b=dJ c1 w.heap.size 2 b:=λb hb=>af hb;have f2:∀b,LB b->c3 b=1:=λb hb=>ag hb;have nw:¬LB wb:=λhb=>by
  obtain⟨t,cc,hcc,ht⟩:=ZM wb hb;have:=(hcc.inj hblk).1;subst this;rcases ht with ht|ht
  ·exact ax ht (by decide)
  ·exact ax ht (by decide)
 have nr:∀k,own cK k->¬(k=wb\/own kv k\/own v k):=by
  rintro k hk (e|e|e)
  ·subst e;exact aH h.row h.blk (by decide) hk
  ·obtain⟨cc,hcc⟩:=aV h.row hk;exact ax (aQ h.kD e hcc) (by decide)
  ·exact(hv k e).2.2.2.1 (h.cr k hk)
 have hrow':=hkp.row h.row nr;have nv:∀b,b<B->¬own v b:=λb hb ho=>(hv b ho).2.1 (h.low b hb);refine⟨⟨c3,hblk,?_,hrow',λk hk=>?_,hkr,λk hk=>?_,λi hi=>?_,h.same,h.wf,λi hi=>?_,λb hb=>?_,ai h.bl hkp.size⟩,hk1.below h.bl (λk hk e=>?_)⟩
 ·rw[f1 _ nw,hm.old _ h.blk.lt];exact two _ hw2
 ·have nk:¬LB k:=λhb=>by
   obtain⟨t,cc,hcc,ht⟩:=ZM k hb;have:=aQ hrow' hk hcc;subst this;rcases ht with ht|ht
   ·exact ax ht (by decide)
   ·exact ax ht (by decide)
  rw[f1 _ nk,hm.old _ (bw h.row hk)];exact two _ (h.cr k hk)
 ·have nk:¬LB k:=λhb=>by
   obtain⟨t,cc,hcc,ht⟩:=ZM k hb;have:=aQ hkr hk hcc;subst this;rcases ht with ht|ht
   ·exact ax ht (by decide)
   ·exact ax ht (by decide)
  rw[f1 _ nk];rcases hkn k hk with h1|h1
  ·rw[hm.old _ (bw h.kD h1)];exact two _ (h.ck k h1)
  ·exact hm.new k h1
 ·refine(p2 i hi).re P (λb hb=>?_);have ho:LB b:=by
   by_cases ho:LB b
   ·exact ho
   ·exact ax (f1 b ho) hb
  have hb2:=l2 b ho;refine⟨by rw[hb2];decide,by rw[hb2];exact λe=>qL i e.symm,λhV=>?_⟩;have:=(p2 i hi).cv b hV;rw[hb2] at this;exact o7 i this.symm
 ·by_cases hlt:i<kept.length
  ·rw[List.getElem_append_left hlt];have k1:KL c1 w kept[i]:=(h.ke i hlt).re (λb hb=>by
    by_cases ho:own v b
    ·exact ax hb (hv b ho).2.2.1
    ·rw[e1 b ho];exact hb)
   refine(k1.mv hm (by decide)).re (λb hb=>?_);by_cases ho:LB b
   ·exact f2 b ho
   ·rw[f1 b ho];exact hb
  ·rw[List.getElem_append_right (by omega)];have hi2:i-kept.length<four.length:=by simp at hi;omega
   obtain⟨hr,h1,h2⟩:=hf (i-kept.length) hi2;exact⟨Dm.of hr.nums (λb hb=>f2 b (h1 b hb)),Dm.of hr.names (λb hb=>f2 b (h2 b hb)),hr.l1,hr.l2⟩
 ·have nl:¬LB b:=λhL=>by
   rcases hLB b hL with h1|h1
   ·exact nv b hb h1
   ·have:=h.bl;omega
  rw[f1 b nl,hm.old b (aj hb h.bl),e1 b (nv b hb)];exact h.low b hb
 ·have e:c1 k=2:=e;rw[e1 k (nv k hk),h.low k hk] at e;omega
end
section
variable {PS:World->Nat->(Nat->Prop)->St->Prop}{B:Nat}{W0:World}(P:PCon B W0 PS)
include P
theorem jy.gave {c:Nat->Nat}{w w1:World}{wb:Nat}{cK kv v:Value}{n:Int}{ps:List Pr}{kept:List Ke}{e:TypeId}{z l:Nat}{xs:List Value}{V':Nat->Prop}(h:jy PS B c w wb cK kv n ps kept)(i:Nat)(hi:i<ps.length)
  (hx:PS w1 ps[i].xb V' ps[i].s) (hto:To (λ_=>False) w w1 ps[i].V V') (aJ:w1.ownsRow w.heap.size e z v l xs) (hne:∀k,own v k->¬V' k):
  ∃c1 ps1,jy PS B c1 w1 wb cK kv n ps1 kept/\(∃hl:ps1.length=ps.length,(ps1[i]'(by omega)).yb=ps[i].yb/\(ps1[i]'(by omega)).rs=ps[i].rs/\(ps1[i]'(by omega)).s=ps[i].s/\(ps1[i]'(by omega)).pb=ps[i].pb)/\Below B w w1 /\
   (∀k,own v k->k<w1.heap.size/\c1 k≠0/\c1 k≠1/\c1 k≠2/\∀j (hj:j<ps1.length),c1 k≠cy j/\¬ps1[j].V k):=by
 obtain⟨hq,hm⟩:=(h.pin i hi).EW P hto hx;have hW:=h.QD P i hi (V':=V') (rs':=ps[i].rs) (s':=ps[i].s) hq (h.wf i hi) (hm.mono (λa h=>.inl h));refine⟨_,_,hW,⟨by simp,by simp,by simp,by simp,by simp⟩,hm.kp.below h.bl (λk hk e=>?_),λk hk=>?_⟩
 ·have e:c k=cx i:=e;rw[h.low k hk] at e;unfold cx at e;omega
 ·have hge:=(aJ.lt k hk).1;have hlt:=(aJ.lt k hk).2;have Iy:dJ c w.heap.size (cx i) k=cx i:=hm.new k hge;refine⟨hlt,by rw[Iy];exact Mg i,by rw[Iy];exact QC i,by rw[Iy];exact o7 i,λj hj=>⟨by rw[Iy];exact Ag i j,λhV=>?_⟩⟩;have hcv:=(hW.pin j hj).cv k hV;rw[Iy] at hcv;have:=Iw hcv;subst this;rw[List.getElem_set_self] at hV;exact hne k hk hV
end
def pY (c n:Int):Int:=if c<0 then(-(c+1)) % n else c % n
theorem IE (c n:Int)(hn:1<=n):0<=pY c n/\pY c n<n:=by
 unfold pY
 split
 ·exact⟨Int.emod_nonneg _ (by omega),Int.emod_lt_of_pos _ (by omega)⟩
 ·exact⟨Int.emod_nonneg _ (by omega),Int.emod_lt_of_pos _ (by omega)⟩
theorem Vq (c n:Int)(w:World)(h0:-9223372036854775808<=c)(h1:c<=9223372036854775807)(hn:1<=n)(hn2:n<=4611686018427387904):
  Calls prog 30 #[.int .i64 c,.int .i64 n] w λe w'=>e=.returned (.int .i64 (pY c n))/\w'=w:=by
 have hne:¬n=0:=by omega
 by_cases hc:c<0
 ·have HV:Hid (pY c n = -((c+1).tmod n)):=by
   have h2:pY c n=(-(c+1)) % n:=ag hc;unfold Hid;rw[h2,<-Int.neg_tmod,Int.tmod_eq_emod_of_nonneg (by omega)]
  go_enter func30,ntmps30;go_wp2;go_ret;exact⟨by rw[HV.out];rfl,rfl⟩
 ·have HV:Hid (pY c n=c % n):=af hc;have hc0:0<=c:=by omega
  clear hc;go_enter func30,ntmps30;go_wp2;go_ret;exact⟨by rw[HV.out];rfl,rfl⟩
theorem jm.mono {PS Iu:World->Nat->(Nat->Prop)->St->Prop}{B:Nat}{c:Nat->Nat}{w:World}{i:Nat}{p:Pr}(h:jm B PS c w i p)(m:∀w xb V s,PS w xb V s->Iu w xb V s):jm B Iu c w i p:=
 ⟨h.blk,h.cp,m _ _ _ _ h.x,h.cv,h.y,h.L5,h.cn,h.cd,h.low,h.bl⟩
theorem jy.mono {PS Iu:World->Nat->(Nat->Prop)->St->Prop}{B:Nat}{c:Nat->Nat}{w:World}{wb:Nat}{cK kv:Value}{n:Int}{ps:List Pr}{kept:List Ke}(h:jy PS B c w wb cK kv n ps kept)(m:∀w xb V s,PS w xb V s->Iu w xb V s):jy Iu B c w wb cK kv n ps kept:=
 ⟨h.blk,h.cw,h.row,h.cr,h.kD,h.ck,λi hi=>(h.pin i hi).mono m,h.same,h.wf,h.ke,h.low,h.bl⟩
section
variable {PS:World->Nat->(Nat->Prop)->St->Prop}{B:Nat}{W0:World}(P:PCon B W0 PS)
include P
theorem jy.idle {c:Nat->Nat}{w w':World}{wb:Nat}{cK kv:Value}{n:Int}{ps:List Pr}{kept:List Ke}(h:jy PS B c w wb cK kv n ps kept)(hk:Kp w w' (λ_=>False)):jy PS B (dJ c w.heap.size 2) w' wb cK kv n ps kept:=by
 have hm:Mv (λa=>a=2) c w (dJ c w.heap.size 2) w':=Mv.dJ (hk.mono (λ_ _ h=>h.elim));exact⟨hk.blk h.blk (λh=>h),by rw[hm.old _ h.blk.lt];exact h.cw,hk.row h.row (λ_ _ h=>h),λk hk=>by rw[hm.old _ (bw h.row hk)];exact h.cr k hk,hk.row h.kD (λ_ _ h=>h),λk hk=>by rw[hm.old _ (bw h.kD hk)];exact h.ck k hk,
  λi hi=>(h.pin i hi).other P hm (by decide) (o7 i) (qL i),h.same,h.wf,λi hi=>(h.ke i hi).mv hm (by decide),λb hb=>by rw[hm.old b (aj hb h.bl)];exact h.low b hb,ai h.bl hk.size⟩
def cA (PS:World->Nat->(Nat->Prop)->St->Prop)(B:Nat)(w w':World)(wb pl kl:Nat):Prop:=
 ∃c cK kv n ps kept,jy PS B c w' wb cK kv n ps kept/\ps.length=pl/\kept.length<=kl+4/\Below B w w'
theorem Kp.low {w w':World}(hk:Kp w w' (λ_=>False))(hB:B<=w.heap.size):Below B w w':=hk.below hB (λ_ _ h=>h)
theorem IG (c:Nat->Nat)(w:World)(wb:Nat)(cK kv:Value)(n:Int)(kept:List Ke)(K A N M:Int)(S:ByteArray)(h:jy PS B c w wb cK kv n [] kept)(hK:(K==1)=false):
  Calls prog 14 #[.pointer (some ⟨wb,0,none⟩),.agg #[.int .i64 K,.int .i64 A,.int .i64 N,.int .i64 M,.string S]] w λe w'=>e=.returned (.bool true)/\cA PS B w w' wb 0 kept.length:=by
 obtain⟨ao,cap,hv⟩:=aB h.row;have c0:w.cell? ⟨wb,0,none⟩=some cK:=h.blk.cell rfl;rw[hv] at c0;have vX:=h.blk.lt;clear hv;simp only[List.length_nil] at c0;go_enter func14,ntmps14;go_wp2;go_ret;exact⟨rfl,_,_,_,_,_,_,h.idle P ((Kp.refl _ _).alloc _),by simp,by omega,Kp.low P ((Kp.refl _ _).alloc _) h.bl⟩
structure QE (w:World)(wb:Nat)(cK:Value)(ps:List Pr)(A:Int)(g cap j:Nat)(hj:j<ps.length):Prop where
 hv:cK=.slice (some ⟨g,0,none⟩) ps.length cap
 c0:w.cell? ⟨wb,0,none⟩=some (.slice (some ⟨g,0,none⟩) ps.length cap)
 cj:w.cell? ⟨g,j,none⟩=some (.pointer (some ⟨ps[j].pb,0,none⟩))
 gl:g<w.heap.size
 pk:∀w,Calls prog 30 #[.int .i64 A,.int .i64 (ps.length:Int)] w λe w'=>e=.returned (.int .i64 (j:Int))/\w'=w
theorem jy.pick {c:Nat->Nat}{w:World}{wb:Nat}{cK kv:Value}{n:Int}{ps:List Pr}{kept:List Ke}(h:jy PS B c w wb cK kv n ps kept)(A:Int)(hA:In A)(hn:1<=ps.length)(hn2:ps.length<=4398046511104):∃g cap j,∃hj:j<ps.length,QE w wb cK ps A g cap j hj:=by
 obtain⟨g,cap,hv,hc⟩:=bE h.row (by omega);obtain⟨hj0,KM⟩:=IE A ps.length (by omega);obtain⟨j,hj⟩:∃j:Nat,pY A ps.length=j:=⟨(pY A ps.length).toNat,by omega⟩;have hjl:j<ps.length:=by omega
 refine⟨g,cap,j,hjl,hv,?_,hc j _ (by simp[pX,hjl]),bw h.row (by rw[hv];rfl),λw=>?_⟩
 ·rw[<-hv];exact h.blk.cell rfl
 ·have:=Vq A ps.length w hA.1 hA.2 (by omega) (by omega);rw[hj] at this;exact this
theorem EZ (c:Nat->Nat)(w:World)(wb:Nat)(cK kv:Value)(n:Int)(ps:List Pr)(kept:List Ke)(K A N M:Int)(S:ByteArray)(h:jy PS B c w wb cK kv n ps kept)(hK:K<=0)(hA:In A)(hn:1<=ps.length)(hn2:ps.length<=4398046511104):
  Calls prog 14 #[.pointer (some ⟨wb,0,none⟩),.agg #[.int .i64 K,.int .i64 A,.int .i64 N,.int .i64 M,.string S]] w λe w'=>e=.returned (.bool true)/\cA PS B w w' wb ps.length kept.length:=by
 obtain⟨g,cap,j,hjl,-,c0,cj,hgl,hpk⟩:=h.pick P A hA hn hn2;have vX:=h.blk.lt;have Cf:=az hpk;have hne:((ps.length:Int)==0)=false:=by rw[beq_eq_false_iff_ne];omega
 clear hpk;go_enter func14,ntmps14;go_wp2
 go_quiet ((go_at_call 30;exact Calls.quiet_of_same (Cf.out _)))
 go_wp2;go_ret;exact⟨rfl,_,_,_,_,_,_,h.idle P (((Kp.refl _ _).alloc _).drewN _),by omega,by omega,Kp.low P (((Kp.refl _ _).alloc _).drewN _) h.bl⟩
theorem II (c:Nat->Nat)(w:World)(wb:Nat)(cK kv:Value)(n:Int)(ps:List Pr)(kept:List Ke)(K A N M:Int)(S:ByteArray)(h:jy PS B c w wb cK kv n ps kept)(hK:8<=K)(hA:In A)(hn:1<=ps.length)(hn2:ps.length<=4398046511104):
  Calls prog 14 #[.pointer (some ⟨wb,0,none⟩),.agg #[.int .i64 K,.int .i64 A,.int .i64 N,.int .i64 M,.string S]] w λe w'=>e=.returned (.bool true)/\cA PS B w w' wb ps.length kept.length:=by
 obtain⟨g,cap,j,hjl,-,c0,cj,hgl,hpk⟩:=h.pick P A hA hn hn2;have vX:=h.blk.lt;have Cf:=az hpk;have hne:((ps.length:Int)==0)=false:=by rw[beq_eq_false_iff_ne];omega
 clear hpk;go_enter func14,ntmps14;go_wp2
 go_quiet ((go_at_call 30;exact Calls.quiet_of_same (Cf.out _)))
 go_wp2;go_ret;exact⟨rfl,_,_,_,_,_,_,h.idle P (((Kp.refl _ _).alloc _).drewN _),by omega,by omega,Kp.low P (((Kp.refl _ _).alloc _).drewN _) h.bl⟩
theorem IJ {L8:World->Nat->(Nat->Prop)->St->Prop}(P0:PCon B W0 L8)(L:Dl L8 PS)(c:Nat->Nat)(w:World)(wb:Nat)(cK kv:Value)(n:Int)(ps:List Pr)(kept:List Ke)(A N M:Int)(S:ByteArray)(h0:jy L8 B c w wb cK kv n ps kept)(hA:In A)(hn:1<=ps.length)(hn2:ps.length<=4398046511104):
  Calls prog 14 #[.pointer (some ⟨wb,0,none⟩),.agg #[.int .i64 2,.int .i64 A,.int .i64 N,.int .i64 M,.string S]] w λe w'=>e=.returned (.bool true)/\cA PS B w w' wb ps.length kept.length:=by
 have h:=h0.mono L.mono;obtain⟨g,cap,j,hjl,-,c0,cj,hgl,hpk⟩:=h.pick P A hA hn hn2;have vX:=h.blk.lt;have Cf:=az hpk;have hne:((ps.length:Int)==0)=false:=by rw[beq_eq_false_iff_ne];omega
 clear hpk;go_enter func14,ntmps14;go_wp2
 go_quiet ((go_at_call 30;exact Calls.quiet_of_same (Cf.out _)))
 go_wp2_with fail
 have bC:Kp w ((w.alloc (.cells #[.int .i64 2,.int .i64 A,.int .i64 N,.int .i64 M,.string S] 30)).drewN nq) (λ_=>False):=((Kp.refl _ _).alloc _).drewN _;have h1:=h.idle P bC;refine(Vd P L _ _ j _ S (h1.pin j hjl) ((h0.idle P0 bC).pin j hjl).x (h1.same j hjl) (h1.wf j hjl)).mono ?_;rintro e w' ⟨rfl,hp⟩;obtain⟨c',ps',hW,hl,hbel⟩:=h1.ran P j hjl hp;have HN:Hid (cA PS B w w' wb ps.length kept.length):=⟨_,_,_,_,_,_,hW,by omega,by omega,(Kp.low P bC h.bl).trans hbel⟩;clear hp hW hbel bC h1 h h0;go_wp2;go_ret;exact⟨rfl,HN.out⟩
theorem IK (c:Nat->Nat)(w:World)(wb:Nat)(cK kv:Value)(n:Int)(ps:List Pr)(kept:List Ke)(A N M:Int)(S:ByteArray)(h:jy PS B c w wb cK kv n ps kept)(hA:In A)(hN:In N)(hn:1<=ps.length)(hn2:ps.length<=4398046511104):
  Calls prog 14 #[.pointer (some ⟨wb,0,none⟩),.agg #[.int .i64 4,.int .i64 A,.int .i64 N,.int .i64 M,.string S]] w λe w'=>e=.returned (.bool true)/\cA PS B w w' wb ps.length kept.length:=by
 obtain⟨g,cap,j,hjl,-,c0,cj,hgl,hpk⟩:=h.pick P A hA hn hn2;have vX:=h.blk.lt;have Cf:=az hpk;have hne:((ps.length:Int)==0)=false:=by rw[beq_eq_false_iff_ne];omega
 clear hpk;go_enter func14,ntmps14;go_wp2
 go_quiet ((go_at_call 30;exact Calls.quiet_of_same (Cf.out _)))
 go_wp2_with fail
 have bC:Kp w ((w.alloc (.cells #[.int .i64 4,.int .i64 A,.int .i64 N,.int .i64 M,.string S] 30)).drewN nq) (λ_=>False):=((Kp.refl _ _).alloc _).drewN _;have h1:=h.idle P bC;refine(OC P _ _ j _ N (h1.pin j hjl) (h1.same j hjl) (h1.wf j hjl) hN).mono ?_;rintro e w' ⟨rfl,hp⟩;obtain⟨c',ps',hW,hl,hbel⟩:=h1.ran P j hjl hp;have HN:Hid (cA PS B w w' wb ps.length kept.length):=⟨_,_,_,_,_,_,hW,by omega,by omega,(Kp.low P bC h.bl).trans hbel⟩;clear hp hW hbel bC h1 h;go_wp2;go_ret;exact⟨rfl,HN.out⟩
end
theorem cA.mono {B:Nat}{PS Iu:World->Nat->(Nat->Prop)->St->Prop}{w w':World}{wb pl kl:Nat}(h:cA PS B w w' wb pl kl)(m:∀w xb V s,PS w xb V s->Iu w xb V s):cA Iu B w w' wb pl kl:=by
 obtain⟨c,cK,kv,n,ps,kept,h1,h2⟩:=h;exact⟨c,cK,kv,n,ps,kept,h1.mono m,h2⟩
theorem Rd.nil (w:World)(u:Value):Rd w (.slice none 0 0) 0 u:=⟨none,0,rfl,λj hj=>by omega⟩
section
variable {PS:World->Nat->(Nat->Prop)->St->Prop}{B:Nat}{W0:World}(P:PCon B W0 PS)
include P
theorem jy.nums {c:Nat->Nat}{w w':World}{wb:Nat}{cK kv v kv' va vb vc:Value}{n n':Int}{ps:List Pr}{kept:List Ke}{l:Nat}(h:jy PS B c w wb cK kv n ps kept)
  (hv:∀k,own v k->k<w.heap.size/\c k≠0/\c k≠1/\c k≠2/\∀j (hj:j<ps.length),c k≠cy j/\¬ps[j].V k) (hp:pV w w' wb cK kv v kv' va vb vc n' kept.length l (eu kept)) (hl:l<=900):
  ∃c' kept',jy PS B c' w' wb cK kv' n' ps kept'/\kept'.length=kept.length+4/\Below B w w':=by
 obtain⟨⟨c',hW⟩,hb⟩:=h.listed P (four:=[⟨n',v,l,.slice none 0 0,0⟩,⟨n',va,l+1,.slice none 0 0,0⟩,⟨n',vb,l+2,.slice none 0 0,0⟩,⟨n',vc,l+3,.slice none 0 0,0⟩]) hv hp.kp hp.blk
  (by rw[mK];simpa [eu] using hp.kD) hp.kn (λb=>own v b\/own va b\/own vb b\/own vc b)
  (λb hb=>by
   rcases hb with hb|hb|hb|hb
   ·exact .inl hb
   ·exact hp.na b hb
   ·exact hp.nb b hb
   ·exact hp.nc b hb)
  (λb hb=>by obtain⟨cc,hcc⟩:=hp.ty b hb;exact⟨3,cc,hcc,.inl rfl⟩)
  (λi hi=>by
   have hno:∀(Q:Prop) b,own (.slice none 0 0) b->Q:=λQ b hb=>by simp[own,Value.ownBlock] at hb
   rcases (show i=0\/i=1\/i=2\/i=3 by simp at hi;omega) with rfl|rfl|rfl|rfl
   ·exact⟨⟨hp.r0,Rd.nil _ _,by show l<=1000;omega,by show(0:Nat)<=1000;omega⟩,λb hb=>.inl hb,λb hb=>hno _ b hb⟩
   ·exact⟨⟨hp.ra,Rd.nil _ _,by show l+1<=1000;omega,by show(0:Nat)<=1000;omega⟩,λb hb=>.inr (.inl hb),λb hb=>hno _ b hb⟩
   ·exact⟨⟨hp.rb,Rd.nil _ _,by show l+2<=1000;omega,by show(0:Nat)<=1000;omega⟩,λb hb=>.inr (.inr (.inl hb)),λb hb=>hno _ b hb⟩
   ·exact⟨⟨hp.rc,Rd.nil _ _,by show l+3<=1000;omega,by show(0:Nat)<=1000;omega⟩,λb hb=>.inr (.inr (.inr hb)),λb hb=>hno _ b hb⟩)
 exact⟨c',_,hW,by simp,hb⟩
theorem xP (c:Nat->Nat)(w:World)(wb:Nat)(cK kv:Value)(n:Int)(ps:List Pr)(kept:List Ke)(A N M:Int)(S:ByteArray)(h:jy PS B c w wb cK kv n ps kept)(hA:In A)(hn:1<=ps.length)(hn2:ps.length<=4398046511104)(hkl:kept.length<=1000000000000):
  Calls prog 14 #[.pointer (some ⟨wb,0,none⟩),.agg #[.int .i64 3,.int .i64 A,.int .i64 N,.int .i64 M,.string S]] w λe w'=>e=.returned (.bool true)/\cA PS B w w' wb ps.length kept.length:=by
 obtain⟨g,cap,j,hjl,-,c0,cj,hgl,hpk⟩:=h.pick P A hA hn hn2;have vX:=h.blk.lt;have hpl:=(h.pin j hjl).blk.lt;have wH:w.cell? ⟨ps[j].pb,0,none⟩=some (.pointer (some ⟨ps[j].xb,0,none⟩)):=(h.pin j hjl).blk.cell rfl;have Cf:=az hpk;have hne:((ps.length:Int)==0)=false:=by rw[beq_eq_false_iff_ne];omega
 clear hpk;go_enter func14,ntmps14;go_wp2
 go_quiet ((go_at_call 30;exact Calls.quiet_of_same (Cf.out _)))
 go_wp2_with fail
 have bC:Kp w ((w.alloc (.cells #[.int .i64 3,.int .i64 A,.int .i64 N,.int .i64 M,.string S] 30)).drewN nq) (λ_=>False):=((Kp.refl _ _).alloc _).drewN _;have h1:=h.idle P bC;have hx1:=(h1.pin j hjl).x;rw[h1.same j hjl] at hx1;refine(P.stack _ _ _ _ hx1 (h1.pin j hjl).y.rel.good).mono ?_;rintro e w1 ⟨v,rfl,aJ,V',hx,hto,sL⟩;obtain⟨c1,ps1,h2,⟨hl2,ey,er,es,ep⟩,hbel,hown⟩:=h1.gave P j hjl hx hto aJ sL;have KM:j<ps1.length:=by omega
 obtain⟨IL,X7,ns,k1,k2,uU,hlen,⟨ak,pk,rfl⟩,⟨av,pv,rfl⟩⟩:∃(IL:Nat) (X7:Value) (ns:List Int),w1.cell? ⟨ps[j].pb,1,none⟩=some (.pointer (some ⟨IL,0,none⟩))/\w1.cell? ⟨IL,0,none⟩=some X7 /\
   Calls prog 32 #[.pointer (some ⟨wb,0,none⟩),v,X7] w1 (λe w'=>e=.returned (.bool true)/\∃kv' va vb vc,pV w1 w' wb cK kv v kv' va vb vc (wrap64 (n+1)) kept.length ns.length (eu kept))/\ns.length<=32/\(∃ak pk,X7=.slice ak ns.length pk)/\(∃av pv,v=.slice av ns.length pv):=by
  have hpi:=h2.pin j KM;have hk2:=hpi.y.inv.row;have hlen:(ps1[j]).s.rs.reverse.length<=32:=by have:=hpi.y.rel.good.g.len;simpa using this
  have hv2:w1.ownsRow 0 3 1 v (ps1[j]).s.rs.reverse.length (bD (ps1[j]).s.rs.reverse):=by
   rw[es];rw[au];exact Joins.ownsRow_le aJ (Nat.zero_le _)
  have ZN:∀b,own v b->¬own (ps1[j]).rs.nv b:=λb hb hn=>((hown b hb).2.2.2.2 j KM).1 (hpi.cn b hn);exact⟨ps1[j].yb,ps1[j].rs.nv,ps1[j].s.rs.reverse,by rw[<-ep];exact hpi.blk.cell rfl,hpi.y.inv.blk.cell rfl,Vf w1 wb cK kv v _ n kept.length (eu kept) _ h2.blk h2.kD hkl hv2 hlen hk2 ZN,hlen,aB hk2,aB hv2⟩
 have OG:=az uU;have qM:Hid (Below B w w1):=(Kp.low P bC h.bl).trans hbel;have H2:=az h2;have HOWN:=az hown;clear aJ hx hto sL hbel hown hx1 h1 bC h h2 ey er es ep uU KM
 go_wp2_with fail
 refine OG.out.mono ?_;rintro e w2 ⟨rfl,kv',va,vb,vc,hp⟩;obtain⟨c',kept',hW,Ai,hb2⟩:=H2.out.nums P HOWN.out hp (by omega);have HN:Hid (cA PS B w w2 wb ps.length kept.length):=⟨_,_,_,_,_,_,hW,by omega,by omega,qM.out.trans hb2⟩;clear hp hW hb2 OG H2 HOWN;go_wp2;go_ret;exact⟨rfl,HN.out⟩
end
theorem nM:∀{a b:List ByteArray},aD a=aD b->a=b
 | [],[],_=>rfl
 | [],_::_,h=>by simp[aD] at h
 | _::_,[],h=>by simp[aD] at h
 | x::a,y::b,h=>by
  simp only[aD,List.map_cons,List.cons.injEq] at h;have h1:x=y:=ByteArray.ext (Array.ext' h.1);have h2:=nM (a:=a) (b:=b) (by simpa [aD] using h.2);rw[h1,h2]
theorem Cg (s:St):(o5 s).length=s.ay.length:=by unfold o5 pT;simp[oZ]
section
variable {PS:World->Nat->(Nat->Prop)->St->Prop}{B:Nat}{W0:World}(P:PCon B W0 PS)
include P
theorem jy.names {c:Nat->Nat}{w w':World}{wb:Nat}{cK kv v kv' va vb vc:Value}{n n':Int}{ps:List Pr}{kept:List Ke}{l:Nat}(h:jy PS B c w wb cK kv n ps kept)
  (hv:∀k,own v k->k<w.heap.size/\c k≠0/\c k≠1/\c k≠2/\∀j (hj:j<ps.length),c k≠cy j/\¬ps[j].V k) (hp:qK w w' wb cK kv v kv' va vb vc n' kept.length l (eu kept)) (hl:l<=900):
  ∃c' kept',jy PS B c' w' wb cK kv' n' ps kept'/\kept'.length=kept.length+4/\Below B w w':=by
 obtain⟨⟨c',hW⟩,hb⟩:=h.listed P (four:=[⟨n',.slice none 0 0,0,v,l⟩,⟨n',.slice none 0 0,0,va,l+1⟩,⟨n',.slice none 0 0,0,vb,l+2⟩,⟨n',.slice none 0 0,0,vc,l+3⟩]) hv hp.kp hp.blk
  (by rw[mK];simpa [eu] using hp.kD) hp.kn (λb=>own v b\/own va b\/own vb b\/own vc b)
  (λb hb=>by
   rcases hb with hb|hb|hb|hb
   ·exact .inl hb
   ·exact hp.na b hb
   ·exact hp.nb b hb
   ·exact hp.nc b hb)
  (λb hb=>by obtain⟨cc,hcc⟩:=hp.ty b hb;exact⟨9,cc,hcc,.inr rfl⟩)
  (λi hi=>by
   have hno:∀(Q:Prop) b,own (.slice none 0 0) b->Q:=λQ b hb=>by simp[own,Value.ownBlock] at hb
   rcases (show i=0\/i=1\/i=2\/i=3 by simp at hi;omega) with rfl|rfl|rfl|rfl
   ·exact⟨⟨Rd.nil _ _,hp.r0,by show(0:Nat)<=1000;omega,by show l<=1000;omega⟩,λb hb=>hno _ b hb,λb hb=>.inl hb⟩
   ·exact⟨⟨Rd.nil _ _,hp.ra,by show(0:Nat)<=1000;omega,by show l+1<=1000;omega⟩,λb hb=>hno _ b hb,λb hb=>.inr (.inl hb)⟩
   ·exact⟨⟨Rd.nil _ _,hp.rb,by show(0:Nat)<=1000;omega,by show l+2<=1000;omega⟩,λb hb=>hno _ b hb,λb hb=>.inr (.inr (.inl hb))⟩
   ·exact⟨⟨Rd.nil _ _,hp.rc,by show(0:Nat)<=1000;omega,by show l+3<=1000;omega⟩,λb hb=>hno _ b hb,λb hb=>.inr (.inr (.inr hb))⟩)
 exact⟨c',_,hW,by simp,hb⟩
theorem xQ (c:Nat->Nat)(w:World)(wb:Nat)(cK kv:Value)(n:Int)(ps:List Pr)(kept:List Ke)(A N M:Int)(S:ByteArray)(h:jy PS B c w wb cK kv n ps kept)(hA:In A)(hn:1<=ps.length)(hn2:ps.length<=4398046511104)(hkl:kept.length<=1000000000000):
  Calls prog 14 #[.pointer (some ⟨wb,0,none⟩),.agg #[.int .i64 5,.int .i64 A,.int .i64 N,.int .i64 M,.string S]] w λe w'=>e=.returned (.bool true)/\cA PS B w w' wb ps.length kept.length:=by
 obtain⟨g,cap,j,hjl,-,c0,cj,hgl,hpk⟩:=h.pick P A hA hn hn2;have vX:=h.blk.lt;have hpl:=(h.pin j hjl).blk.lt;have wH:w.cell? ⟨ps[j].pb,0,none⟩=some (.pointer (some ⟨ps[j].xb,0,none⟩)):=(h.pin j hjl).blk.cell rfl;have Cf:=az hpk;have hne:((ps.length:Int)==0)=false:=by rw[beq_eq_false_iff_ne];omega
 clear hpk;go_enter func14,ntmps14;go_wp2
 go_quiet ((go_at_call 30;exact Calls.quiet_of_same (Cf.out _)))
 go_wp2_with fail
 have bC:Kp w ((w.alloc (.cells #[.int .i64 5,.int .i64 A,.int .i64 N,.int .i64 M,.string S] 30)).drewN nq) (λ_=>False):=((Kp.refl _ _).alloc _).drewN _;have h1:=h.idle P bC;have hx1:=(h1.pin j hjl).x;rw[h1.same j hjl] at hx1;refine(P.words _ _ _ _ hx1).mono ?_;rintro e w1 ⟨v,rfl,⟨L,aJ,hL⟩,V',hx,hto,sL⟩;obtain⟨c1,ps1,h2,⟨hl2,ey,er,es,ep⟩,hbel,hown⟩:=h1.gave P j hjl hx hto aJ sL;have KM:j<ps1.length:=by omega
 obtain⟨IL,k1,hwd,hlen⟩:∃(IL:Nat),w1.cell? ⟨ps[j].pb,1,none⟩=some (.pointer (some ⟨IL,0,none⟩)) /\
   Calls prog 34 #[.pointer (some ⟨IL,0,none⟩)] w1 (λe w'=>∃v,e=.returned v/\eo w1 w' v (aD L))/\L.length<=30:=by
  have hpi:=h2.pin j KM;refine⟨ps1[j].yb,by rw[<-ep];exact hpi.blk.cell rfl,?_,?_⟩
  ·rw[hL,<-es];exact Qm w1 _ _ _ hpi.y
  ·have h3:=congrArg List.length hL;rw[gX,Cg,<-es] at h3;have:=hpi.y.rel.dr.len;omega
 have Ch:=az hwd;have qM:Hid (Below B w w1):=(Kp.low P bC h.bl).trans hbel;have H2:=az h2;have HOWN:=az hown;have wq:=az aJ;obtain⟨av,pv,rfl⟩:=aB (Joins.ownsRow_le aJ (Nat.zero_le _));clear aJ hx hto sL hbel hown hx1 h1 bC h h2 ey er es ep hwd KM hL
 go_wp2_with fail
 refine Ch.out.mono ?_;rintro e w2 ⟨vk,rfl,⟨⟨Lk,GK,ZO⟩,Aj,uV⟩⟩;have ZP:=nM ZO;subst ZP;have h3:=H2.out.idle P uV;have hrow2:=uV.row (Joins.ownsRow_le wq.out (Nat.zero_le _)) (λ_ _ h=>h);have hown2:∀k,own (.slice av Lk.length pv) k->k<w2.heap.size/\dJ c1 w1.heap.size 2 k≠0/\dJ c1 w1.heap.size 2 k≠1/\dJ c1 w1.heap.size 2 k≠2/\∀j (hj:j<ps1.length),dJ c1 w1.heap.size 2 k≠cy j/\¬ps1[j].V k:=λk hk=>by
  obtain⟨q1,q2,q3,q4,q5⟩:=HOWN.out k hk;rw[show dJ c1 w1.heap.size 2 k=c1 k from ag q1];exact⟨aj q1 uV.size,q2,q3,q4,q5⟩
 have OG:=az (IB w2 wb cK kv _ vk n kept.length (eu kept) Lk h3.blk h3.kD hkl hrow2 (by omega) GK (λb hb hb2=>by have:=(HOWN.out b hb).1;have:=Aj b hb2;omega));obtain⟨ak,pk,rfl⟩:=aB GK;have IM:Hid (Below B w w2):=qM.out.trans (Kp.low P uV H2.out.bl);have H3:=az h3;have EY:=az hown2;clear GK Aj uV h3 hrow2 hown2 H2 HOWN wq Ch qM k1
 go_wp2_with fail
 refine OG.out.mono ?_;rintro e w3 ⟨rfl,kv',va,vb,vc,hp⟩;obtain⟨c',kept',hW,Ai,hb2⟩:=H3.out.names P EY.out hp (by omega);have HN:Hid (cA PS B w w3 wb ps.length kept.length):=⟨_,_,_,_,_,_,hW,by omega,by omega,IM.out.trans hb2⟩;clear hp hW hb2 OG H3 EY;go_wp2;go_ret;exact⟨rfl,HN.out⟩
end
theorem Tryz.IP:(prog.info? 55).map (λi=>(i.zero,i.size,i.bytes))=some (some (.pointer none),1,8):=by kernel_rfl
section
variable {PS:World->Nat->(Nat->Prop)->St->Prop}{B:Nat}{W0:World}(P:PCon B W0 PS)
include P
theorem jy.added {c:Nat->Nat}{w w1 w5:World}{wb xb pb:Nat}{cK Ci kv:Value}{n:Int}{ps:List Pr}{kept:List Ke}{V:Nat->Prop}(h:jy PS B c w wb cK kv n ps kept)
  (hx:PS w1 xb V st0) (hk1:Kp w w1 (λ_=>False)) (hV:∀k,V k->w.heap.size<=k)
  (hpb:w1.heap.size<pb) (OH:aC w5 pb 61 #[.pointer (some ⟨xb,0,none⟩),.pointer (some ⟨w1.heap.size,0,none⟩)])
  (fS:Kp (w1.alloc (.cells wL.arr 67)) w5 (λb=>b=wb\/own cK b))
  (hblk:aC w5 wb 28 #[Ci,.int .i64 n,kv]) (aJ:w5.ownsRow 0 55 1 Ci (ps.length+1) (pX ps++[.pointer (some ⟨pb,0,none⟩)])) (hnx:∀k,own Ci k->own cK k\/pb<k):
  (∃c',jy PS B c' w5 wb Ci kv n (ps++[⟨pb,xb,w1.heap.size,V,st0,wL,st0⟩]) kept)/\Below B w w5:=by
 classical
 have ZQ:=P.lt _ _ _ _ hx;have hka:Kp w (w1.alloc (.cells wL.arr 67)) (λ_=>False):=hk1.alloc _;have hsz1:=hk1.size;have hsz2:(w1.alloc (.cells wL.arr 67)).heap.size=w1.heap.size+1:=by simp
 have hkp:Kp w w5 (λb=>b=wb\/own cK b):=(hka.mono (λ_ _ h=>h.elim)).trans fS;have hk2:Kp w w5 (λb=>c b=2):=hkp.mono (λb _ hb=>by
  rcases hb with e|e
  ·rw[e];exact h.cw
  ·exact h.cr b e)
 have hm:=Mv.dJ hk2;have p2:∀i (hi:i<ps.length),jm B PS (dJ c w.heap.size 2) w5 i ps[i]:=λi hi=>(h.pin i hi).other P hm (by decide) (o7 i) (qL i)
 let c3:Nat->Nat:=λb=>if V b then cx ps.length else if b=w1.heap.size then cy ps.length else if b=pb then 0 else dJ c w.heap.size 2 b
 have vX:=h.blk.lt;have old:∀b,b<w.heap.size->c3 b=c b:=λb hb=>by
  show(if V b then _ else _)=_;rw[af (λhv=>by have:=hV b hv;omega),af (by omega),af (by omega)];exact hm.old b hb
 have gV:∀b,V b->c3 b=cx ps.length:=λb hb=>ag hb;have gy:c3 w1.heap.size=cy ps.length:=by
  show(if V _ then _ else _)=_;rw[af (λhv=>by have:=ZQ _ hv;omega),ag rfl]
 have gp:c3 pb=0:=by
  show(if V _ then _ else _)=_;rw[af (λhv=>by have:=ZQ _ hv;omega),af (by omega),ag rfl]
 have npb:¬own Ci pb:=λhv=>by exact ax (aQ aJ hv OH) (by decide)
 have ZR:∀k,own Ci k->c3 k=2:=λk hk=>by
  rcases hnx k hk with h1|h1
  ·rw[old k (bw h.row h1)];exact h.cr k h1
  ·show(if V k then _ else _)=_;rw[af (λhv=>by have:=ZQ k hv;omega),af (by omega),af (by omega)];exact hm.new k (by omega)
 have p3:∀i (hi:i<ps.length),jm B PS c3 w5 i ps[i]:=λi hi=>(p2 i hi).re P (λb hb=>by
  have hge:w.heap.size<=b:=by
   rcases Nat.lt_or_ge b w.heap.size with hlt|hge
   ·exact ax ((old b hlt).trans (hm.old b hlt).symm) hb
   ·exact hge
  have hb2:dJ c w.heap.size 2 b=2:=hm.new b hge;refine⟨by rw[hb2];decide,by rw[hb2];exact λe=>qL i e.symm,λhv=>?_⟩;have:=(p2 i hi).cv b hv;rw[hb2] at this;exact o7 i this.symm)
 have nkr:∀k,own kv k->¬(k=wb\/own cK k):=by
  rintro k hk (e|e)
  ·subst e;exact aH h.kD h.blk (by decide) hk
  ·obtain⟨cc,hcc⟩:=aV h.kD hk;exact ax (aQ h.row e hcc) (by decide)
 have XR:aC (w1.alloc (.cells wL.arr 67)) w1.heap.size 67 wL.arr:=aC.new _ _ _;have nS:¬(w1.heap.size=wb\/own cK w1.heap.size):=by
  rintro (e|e)
  ·omega
  ·have:=bw h.row e;omega
 have hnil:∀k,own wL.nv k->False:=λk hk=>by simp[own,Value.ownBlock,wL] at hk
 have OI:∀k,own wL.d.dv k->False:=λk hk=>by simp[own,Value.ownBlock,wL] at hk
 have Eu:lK (λb=>b<w1.heap.size) (w1.alloc (.cells wL.arr 67)) w1.heap.size wL st0:=lK.first w1 (λb hb=>by rw[hsz2];exact Nat.lt_succ_of_lt hb)
 have Ak:lK (Qp c3 w5 (cy ps.length)) w5 w1.heap.size wL st0:=by
  refine Eu.move fS (λb hb hS=>?_) nS (λb hb=>(hnil b hb).elim) (λb hb=>(OI b hb).elim) (λb hb=>?_) (λb hb=>hb.1)
  ·rcases hS with e|e
   ·rw[e];show wb<w1.heap.size;omega
   ·have:=bw h.row e;show b<w1.heap.size;omega
  ·by_cases hlt:b<w1.heap.size
   ·exact .inl hlt
   ·by_cases he:b=w1.heap.size
    ·subst he;exact ax gy hb.2
    ·right;rw[hsz2];omega
 have GL:PS w5 xb V st0:=by
  have hxa:=P.frame _ _ (λ_=>False) _ _ _ hx (((Kp.refl w1 _).alloc (.cells wL.arr 67))) (λ_ _ h=>h) (λ_ _ h=>h) (ai h.bl hsz1);refine P.frame _ _ _ _ _ _ hxa fS (λk hk hS=>?_) (λk hk hS=>?_) (by rw[hsz2];have:=h.bl;omega)
  ·have:=hV k hk;rcases hS with e|e
   ·omega
   ·have:=bw h.row e;omega
  ·have hc:=h.low k hk;rcases hS with e|e
   ·rw[e,h.cw] at hc;omega
   ·rw[h.cr k e] at hc;omega
 have Vr:∀b,b<B->c3 b=0:=λb hb=>by rw[old b (aj hb h.bl)];exact h.low b hb
 have bl5:B<=w5.heap.size:=ai h.bl hkp.size;refine⟨⟨c3,hblk,by rw[old _ vX];exact h.cw,by simpa [pX] using aJ,ZR,hkp.row h.kD nkr,λk hk=>by rw[old _ (bw h.kD hk)];exact h.ck k hk,λi hi=>?_,λi hi=>?_,λi hi=>?_,λi hi=>?_,Vr,bl5⟩,hk2.below h.bl (λk hk e=>by have e:c k=2:=e;rw[h.low k hk] at e;omega)⟩
 ·by_cases hlt:i<ps.length
  ·rw[List.getElem_append_left hlt];exact p3 i hlt
  ·have QF:i=ps.length:=by simp at hi;omega
   subst QF;rw[List.getElem_append_right (ah _)];simp only[Nat.sub_self,List.getElem_cons_zero];exact⟨OH,gp,GL,gV,Ak,gy,λk hk=>(hnil k hk).elim,λk hk=>(OI k hk).elim,Vr,bl5⟩
 ·by_cases hlt:i<ps.length
  ·rw[List.getElem_append_left hlt];exact h.same i hlt
  ·have QF:i=ps.length:=by simp at hi;omega
   subst QF;rw[List.getElem_append_right (ah _)];simp
 ·by_cases hlt:i<ps.length
  ·rw[List.getElem_append_left hlt];exact h.wf i hlt
  ·have QF:i=ps.length:=by simp at hi;omega
   subst QF;rw[List.getElem_append_right (ah _)]
   simpa using iZ.first
 ·exact((h.ke i hi).mv hm (by decide)).re (λb hb=>by
   have hlt:b<w.heap.size:=by
    rcases Nat.lt_or_ge b w.heap.size with hlt|hge
    ·exact hlt
    ·have:=hm.new b hge;omega
   rw[old b hlt,<-hm.old b hlt];exact hb)
end
section
variable {PS:World->Nat->(Nat->Prop)->St->Prop}{B:Nat}{W0:World}(P:PCon B W0 PS)
include P
theorem Mh (c:Nat->Nat)(w:World)(wb:Nat)(cK kv:Value)(n:Int)(ps:List Pr)(kept:List Ke)(A N M:Int)(S:ByteArray)(h:jy PS B c w wb cK kv n ps kept)(hb0:Below B W0 w)(hn2:ps.length<=4398046511104):
  Calls prog 14 #[.pointer (some ⟨wb,0,none⟩),.agg #[.int .i64 1,.int .i64 A,.int .i64 N,.int .i64 M,.string S]] w λe w'=>e=.returned (.bool true)/\cA PS B w w' wb (ps.length+1) kept.length:=by
 obtain⟨i0,hi,hz0,hz1,hz2⟩:=info_parts Tryz.IP;have vX:=h.blk.lt;go_enter func14,ntmps14
 go_wp2_with fail
 have bC:Kp w (w.alloc (.cells #[.int .i64 1,.int .i64 A,.int .i64 N,.int .i64 M,.string S] 30)) (λ_=>False):=(Kp.refl _ _).alloc _;refine(P.new _ (hb0.trans (Kp.low P bC h.bl)) (ai h.bl bC.size)).mono ?_;rintro e w1 ⟨xb,V,rfl,hx,hk1,hV⟩;have QG:=bC.trans hk1;have hV1:∀k,V k->w.heap.size<=k:=λk hk=>ai bC.size (hV k hk);clear hk1 hV
 go_wp2_with fail
 refine(Ql _).mono ?_;rintro e w2 ⟨rfl,hw2⟩;have hk2:Kp w w2 (λ_=>False):=by rw[hw2];exact QG.alloc _
 have hs2:w2.heap.size=w1.heap.size+1:=by rw[hw2];simp
 have aX:=hk2.blk h.blk (λh=>h);have hr2:=hk2.row h.row (λ_ _ h=>h);obtain⟨ao,cap,hv⟩:=aB h.row;have c0:w2.cell? ⟨wb,0,none⟩=some cK:=aX.cell rfl;rw[hv] at c0 hr2;have hr3:=hr2.alloc (.cells #[.pointer (some ⟨xb,0,none⟩),.pointer (some ⟨w1.heap.size,0,none⟩)] 61);have aew:=aX.lt;have HH:=az h;have HX:=az hx;have QH:=az QG;have Ma:=az hV1;have wz:=az hw2;have vY:=az hs2;have HV:=az hv;have zh:=az aX;clear h hx QG hV1 hw2 hs2 hv hr2 hk2 bC aX
 go_wp2_with (first
  | (at_builtin;refine aP _ rfl _ _ 25 rfl 55 i0 (.pointer none) 1 8 underlying25 hi hz0 hz1 hz2 rfl (by decide) _ _ _ rfl (hr3.alloc _) ⟨w2.heap.size+1,0,none⟩ 1 1 [.pointer (some ⟨w2.heap.size,0,none⟩)] rfl rfl ?c1 ?c2 ?c3 ?c4 ?_)
  | go_in)
 case c1=>
  intro j u hj
  match j,hj with
  | 0,hj=>
   simp at hj;subst hj;rw[qp];have:=(aC.new (w2.alloc (.cells #[.pointer (some ⟨xb,0,none⟩),.pointer (some ⟨w1.heap.size,0,none⟩)] 61)) #[.pointer (some ⟨w2.heap.size,0,none⟩)] 55).cell (o:=0) rfl;rw[show(w2.alloc (.cells #[.pointer (some ⟨xb,0,none⟩),.pointer (some ⟨w1.heap.size,0,none⟩)] 61)).heap.size=w2.heap.size+1 by simp] at this;exact this
 case c2=>intro u hu;simp at hu;subst hu;rfl
 case c3=>unfold maxLen;omega
 case c4=>omega
 intro v' w4 hown hgrow hnx;obtain⟨a4,p4,rfl⟩:=aB hown;have Cj:Kp w2 w4 (λb=>own cK b):=(((Kp.refl w2 _).alloc (.cells #[.pointer (some ⟨xb,0,none⟩),.pointer (some ⟨w1.heap.size,0,none⟩)] 61)).alloc (.cells #[.pointer (some ⟨w2.heap.size,0,none⟩)] 55)).grown hgrow (λb _ e=>by rw[HV.out];exact e);have ZT:¬own cK wb:=aH HH.out.row HH.out.blk (by decide);have hB4:=Cj.blk zh.out ZT;have q0:w4.cell? ⟨wb,0,none⟩=some cK:=hB4.cell rfl;have q1:=hB4.free 0;rw[HV.out] at q0;have hsz:w2.heap.size=w1.heap.size+1:=vY.out;have Vs:aC w4 w2.heap.size 61 #[.pointer (some ⟨xb,0,none⟩),.pointer (some ⟨w1.heap.size,0,none⟩)]:=by
  have hb3:aC ((w2.alloc (.cells #[.pointer (some ⟨xb,0,none⟩),.pointer (some ⟨w1.heap.size,0,none⟩)] 61)).alloc (.cells #[.pointer (some ⟨w2.heap.size,0,none⟩)] 55)) w2.heap.size 61 #[.pointer (some ⟨xb,0,none⟩),.pointer (some ⟨w1.heap.size,0,none⟩)]:=(aC.new w2 _ _).alloc _;refine hb3.same (hgrow.block _ (by simp;omega) (λe=>?_));have ho:own cK w2.heap.size:=by rw[HV.out];exact e.symm
  have h1:=bw HH.out.row ho;have h2:=QH.out.size;omega
 have ZU:Hid (cA PS B w (w4.setCell ⟨wb,0,none⟩ (.slice a4 (ps.length+1) p4)) wb (ps.length+1) kept.length):=by
  have fS:Kp (w1.alloc (.cells wL.arr 67)) (w4.setCell ⟨wb,0,none⟩ (.slice a4 (ps.length+1) p4)) (λb=>b=wb\/own cK b):=by
   rw[<-wz.out];exact(Cj.mono (λ_ _ h=>.inr h)).set (a:=⟨wb,0,none⟩) (λ_=>.inl rfl) _
  have ZV:w2.heap.size≠wb:=by have:=HH.out.blk.lt;have:=QH.out.size;omega
  obtain⟨⟨c',hW⟩,hbel⟩:=HH.out.added P HX.out QH.out Ma.out (pb:=w2.heap.size) (by omega) (Vs.setOther ZV _) fS (hB4.set 0 _)
   (ownsRow_setCell_other hown (a:=⟨wb,0,none⟩) (aH hown hB4 (by decide)) _)
   (λk hk=>by
    rcases hnx k hk with h1|h1
    ·left;rw[HV.out];exact h1
    ·right;first|omega|(simp at h1;omega))
  exact⟨_,_,_,_,_,_,hW,by simp,by omega,hbel⟩
 clear hown hgrow hnx Cj hB4 Vs hsz;go_wp2;go_ret;exact⟨rfl,ZU.out⟩
end
theorem Al (s:St)(hot blt:Int)(t:Tok):(oz s hot blt).aA t=s.aA t:=by
 unfold St.aA St.find;show((s.ay.map cP).findIdx? _).isSome=_;rw[List.findIdx?_map];rfl
theorem IQ {s:St}{hot blt:Int}(h:iZ s)(hb:¬kC hot blt):iZ (oz s hot blt):=by
 have hg:=h.g;refine⟨⟨hg.g,hg.s0,hg.s1,hg.s2,hg.d0,hg.d1,?_,?_,λd hd=>?_⟩,λd hd=>?_,h.st⟩
 ·show 0<=blt;unfold kC at hb;omega
 ·show blt<=3;unfold kC at hb;omega
 ·obtain⟨d0,h0,rfl⟩:=List.mem_map.1 (show d∈s.ay.map cP from hd);exact hg.cb d0 h0
 ·obtain⟨d0,h0,rfl⟩:=List.mem_map.1 (show d∈s.ay.map cP from hd);obtain⟨G,hG⟩:=h.d d0 h0;exact⟨G,cm (λt ht=>(Al s hot blt t).trans ht) _ _ _ hG⟩
theorem E0 (s:St):(pU s).length<=s.ay.length:=by
 unfold pU pT;simp only[au,oZ,List.length_map];exact List.length_filter_le _ _
section
variable {PS:World->Nat->(Nat->Prop)->St->Prop}{B:Nat}{W0:World}
theorem Am (F:PConF B W0 PS)(c:Nat->Nat)(w:World)(wb:Nat)(cK kv:Value)(n:Int)(ps:List Pr)(kept:List Ke)(A N M:Int)(S:ByteArray)(h:jy PS B c w wb cK kv n ps kept)(hA:In A)(hn:1<=ps.length)(hn2:ps.length<=4398046511104)(hkl:kept.length<=1000000000000):
  Calls prog 14 #[.pointer (some ⟨wb,0,none⟩),.agg #[.int .i64 7,.int .i64 A,.int .i64 N,.int .i64 M,.string S]] w λe w'=>e=.returned (.bool true)/\cA PS B w w' wb ps.length kept.length:=by
 obtain⟨g,cap,j,hjl,-,c0,cj,hgl,hpk⟩:=h.pick F.toPCon A hA hn hn2;have vX:=h.blk.lt;have hpl:=(h.pin j hjl).blk.lt;have wH:w.cell? ⟨ps[j].pb,0,none⟩=some (.pointer (some ⟨ps[j].xb,0,none⟩)):=(h.pin j hjl).blk.cell rfl;have Cf:=az hpk;have hne:((ps.length:Int)==0)=false:=by rw[beq_eq_false_iff_ne];omega
 clear hpk;go_enter func14,ntmps14;go_wp2
 go_quiet ((go_at_call 30;exact Calls.quiet_of_same (Cf.out _)))
 go_wp2_with fail
 have bC:Kp w ((w.alloc (.cells #[.int .i64 7,.int .i64 A,.int .i64 N,.int .i64 M,.string S] 30)).drewN nq) (λ_=>False):=((Kp.refl _ _).alloc _).drewN _;have h1:=h.idle F.toPCon bC;have hx1:=(h1.pin j hjl).x;rw[h1.same j hjl] at hx1;refine(F.bF _ _ _ _ hx1).mono ?_;rintro e w1 ⟨v,rfl,⟨L,aJ,hL⟩,V',hx,hto,sL⟩;obtain⟨c1,ps1,h2,⟨hl2,ey,er,es,ep⟩,hbel,hown⟩:=h1.gave F.toPCon j hjl hx hto aJ sL;have KM:j<ps1.length:=by omega
 obtain⟨IL,k1,hwd,hlen⟩:∃(IL:Nat),w1.cell? ⟨ps[j].pb,1,none⟩=some (.pointer (some ⟨IL,0,none⟩)) /\
   Calls prog 36 #[.pointer (some ⟨IL,0,none⟩)] w1 (λe w'=>∃v,e=.returned v/\eo w1 w' v (aD L))/\L.length<=30:=by
  have hpi:=h2.pin j KM;refine⟨ps1[j].yb,by rw[<-ep];exact hpi.blk.cell rfl,?_,?_⟩
  ·rw[hL,<-es];exact Vb w1 _ _ _ hpi.y
  ·have h3:=congrArg List.length hL;rw[gX,<-es] at h3;have h4:=E0 ps1[j].s;have:=hpi.y.rel.dr.len;omega
 have Ch:=az hwd;have qM:Hid (Below B w w1):=(Kp.low F.toPCon bC h.bl).trans hbel;have H2:=az h2;have HOWN:=az hown;have wq:=az aJ;obtain⟨av,pv,rfl⟩:=aB (Joins.ownsRow_le aJ (Nat.zero_le _));clear aJ hx hto sL hbel hown hx1 h1 bC h h2 ey er es ep hwd KM hL
 go_wp2_with fail
 refine Ch.out.mono ?_;rintro e w2 ⟨vk,rfl,⟨⟨Lk,GK,ZO⟩,Aj,uV⟩⟩;have ZP:=nM ZO;subst ZP;have h3:=H2.out.idle F.toPCon uV;have hrow2:=uV.row (Joins.ownsRow_le wq.out (Nat.zero_le _)) (λ_ _ h=>h);have hown2:∀k,own (.slice av Lk.length pv) k->k<w2.heap.size/\dJ c1 w1.heap.size 2 k≠0/\dJ c1 w1.heap.size 2 k≠1/\dJ c1 w1.heap.size 2 k≠2/\∀j (hj:j<ps1.length),dJ c1 w1.heap.size 2 k≠cy j/\¬ps1[j].V k:=λk hk=>by
  obtain⟨q1,q2,q3,q4,q5⟩:=HOWN.out k hk;rw[show dJ c1 w1.heap.size 2 k=c1 k from ag q1];exact⟨aj q1 uV.size,q2,q3,q4,q5⟩
 have OG:=az (IB w2 wb cK kv _ vk n kept.length (eu kept) Lk h3.blk h3.kD hkl hrow2 (by omega) GK (λb hb hb2=>by have:=(HOWN.out b hb).1;have:=Aj b hb2;omega));obtain⟨ak,pk,rfl⟩:=aB GK;have IM:Hid (Below B w w2):=qM.out.trans (Kp.low F.toPCon uV H2.out.bl);have H3:=az h3;have EY:=az hown2;clear GK Aj uV h3 hrow2 hown2 H2 HOWN wq Ch qM k1
 go_wp2_with fail
 refine OG.out.mono ?_;rintro e w3 ⟨rfl,kv',va,vb,vc,hp⟩;obtain⟨c',kept',hW,Ai,hb2⟩:=H3.out.names F.toPCon EY.out hp (by omega);have HN:Hid (cA PS B w w3 wb ps.length kept.length):=⟨_,_,_,_,_,_,hW,by omega,by omega,IM.out.trans hb2⟩;clear hp hW hb2 OG H3 EY;go_wp2;go_ret;exact⟨rfl,HN.out⟩
def TX (PS:World->Nat->(Nat->Prop)->St->Prop)(B:Nat)(w w2:World)(wb:Nat)(cK kv:Value)(n:Int)(ps:List Pr)(kept:List Ke)(p:Pr)(j:Nat)(s':St)(sb:Nat):Prop:=
 ∃w' cc c2 V',Kp w w' (λ_=>False)/\jy PS B cc w' wb cK kv n ps kept/\jm B PS c2 w2 j {p with V:=V',sx:=s'}/\Mv (λa=>a=cx j) cc w' c2 w2/\c2 sb=2
theorem Mi (F:PConF B W0 PS){w:World}{wb:Nat}{cK kv:Value}{n:Int}{ps:List Pr}{kept:List Ke}{c:Nat->Nat}(h:jy PS B c w wb cK kv n ps kept)(j:Nat)(hj:j<ps.length)(N M:Int){W1:World}(bC:Kp w W1 (λ_=>False)){sb:Nat}{t:TypeId}{cs:Array Value}(hsb:aC W1 sb t cs)(hsz:w.heap.size<=sb):
  ∃R s',iZ s'/\(∀w',Kp W1 w' (λ_=>False)->Calls prog 22 #[.pointer (some ⟨ps[j].xb,0,none⟩),.int .i64 N,.int .i64 M] w' λe w2=>e=.returned (.int .i64 R)/\aC w2 sb t cs/\TX PS B w w2 wb cK kv n ps kept ps[j] j s' sb) /\
   ∀w2 w3,TX PS B w w2 wb cK kv n ps kept ps[j] j s' sb->aC w2 sb t cs->Kp w2 w3 (λ_=>False)->Calls prog 38 #[.pointer (some ⟨ps[j].yb,0,none⟩),.int .i64 N,.int .i64 M] w3 λe w4=>e=.returned (.int .i64 R)/\cA PS B w w4 wb ps.length kept.length/\aC w4 sb t cs/\w4.cell? ⟨ps[j].pb,1,none⟩=some (.pointer (some ⟨ps[j].yb,0,none⟩)):=by
 have P:=F.toPCon;have first:∀R s',(∀w',PS w' ps[j].xb ps[j].V ps[j].s->Calls prog 22 #[.pointer (some ⟨ps[j].xb,0,none⟩),.int .i64 N,.int .i64 M] w' λe w2=>e=.returned (.int .i64 R)/\∃V',PS w2 ps[j].xb V' s'/\To (λ_=>False) w' w2 ps[j].V V')->∀w',Kp W1 w' (λ_=>False)->Calls prog 22 #[.pointer (some ⟨ps[j].xb,0,none⟩),.int .i64 N,.int .i64 M] w' λe w2=>e=.returned (.int .i64 R)/\aC w2 sb t cs/\TX PS B w w2 wb cK kv n ps kept ps[j] j s' sb:=λR s' C w' hk=>by
  have kz:Kp w w' (λ_=>False):=bC.trans hk;have h1:=h.idle P kz;have hx:=(h1.pin j hj).x;rw[h1.same j hj] at hx;refine(C w' hx).mono ?_;rintro e w2 ⟨rfl,V',hx2,hto⟩;obtain⟨h2,hm2⟩:=(h1.pin j hj).EW P hto hx2;have hc2:dJ c w.heap.size 2 sb=2:=af (by omega);have Vt:=hk.blk hsb (λe=>e);refine⟨rfl,hm2.kp.blk Vt (λe=>?_),w',_,_,V',kz,h1,h2,hm2,(hm2.old sb Vt.lt).trans hc2⟩;have e:dJ c w.heap.size 2 sb=cx j:=e;rw[hc2] at e;exact o7 j e.symm
 have second:∀R s' w2 w3,iZ s'->TX PS B w w2 wb cK kv n ps kept ps[j] j s' sb->aC w2 sb t cs->Kp w2 w3 (λ_=>False)->(∀K w3,lK K w3 ps[j].yb ps[j].rs ps[j].s->Calls prog 38 #[.pointer (some ⟨ps[j].yb,0,none⟩),.int .i64 N,.int .i64 M] w3 λe w4=>e=.returned (.int .i64 R)/\∃rs',lK K w4 ps[j].yb rs' s'/\fG ps[j].yb w3 w4 ps[j].rs rs')->Calls prog 38 #[.pointer (some ⟨ps[j].yb,0,none⟩),.int .i64 N,.int .i64 M] w3 λe w4=>e=.returned (.int .i64 R)/\cA PS B w w4 wb ps.length kept.length/\aC w4 sb t cs/\w4.cell? ⟨ps[j].pb,1,none⟩=some (.pointer (some ⟨ps[j].yb,0,none⟩)):=λR s' w2 w3 hwf hT hb2 hk C=>by
  obtain⟨w',cc,c2,V',kz,h1,h2,hm2,hcs⟩:=hT;obtain⟨h3,zj⟩:=h2.EW P (V':=V') (s':=s') ⟨hk.mono (λ_ _ e=>e.elim),λ_ e=>.inl e⟩ (P.frame _ _ _ _ _ _ h2.x hk (λ_ _ e=>e) (λ_ _ e=>e) h2.bl);refine(C _ w3 h3.y).mono ?_;rintro e w4 ⟨rfl,rs',hy,hto⟩;obtain⟨h4,Mj⟩:=h3.L6 P hto hy;obtain⟨c',ps',hW,hl,hbel⟩:=h1.ran P j hj ⟨_,V',rs',s',h4,hwf,((hm2.trans zj).mono (λa h=>.inl h)).trans (Mj.mono (λa h=>.inr h))⟩;refine⟨rfl,⟨_,_,_,_,_,_,hW,by omega,by omega,(Kp.low P kz h.bl).trans hbel⟩,Mj.kp.blk (hk.blk hb2 (λe=>e)) (λe=>?_),h4.blk.cell rfl⟩;have e:dJ c2 w2.heap.size (cx j) sb=cy j:=e;rw[zj.old sb hb2.lt,hcs] at e;exact qL j e.symm
 by_cases hb:kC N M
 ·exact⟨1,ps[j].s,h.wf j hj,first 1 _ (λw' hx=>F.L3 w' _ _ _ N M hx hb),λw2 w3 hT hb2 hk=>second 1 _ w2 w3 (h.wf j hj) hT hb2 hk (λK w3 hy=>(ES w3 _ N M hb).mono (by
   rintro e w4 ⟨rfl,hk4⟩;exact⟨rfl,_,hy.cI hk4,fG.cI hk4⟩))⟩
 ·have hwf:=IQ (h.wf j hj) hb;exact⟨0,_,hwf,first 0 _ (λw' hx=>F.ZE w' _ _ _ N M hx hb),λw2 w3 hT hb2 hk=>second 0 _ w2 w3 hwf hT hb2 hk (λK w3 hy=>Vc w3 _ _ _ N M hy (by unfold kC at hb;omega) (by unfold kC at hb;omega) (by unfold kC at hb;omega) (by unfold kC at hb;omega))⟩
theorem ZW (e:Int)(w:World):Calls prog 37 #[.int .i64 e] w λx w'=>x=.returned (.int .i64 e)/\w'=w:=by
 go_enter func37,ntmps37;go_wp2;go_ret;exact⟨rfl,rfl⟩
theorem IU (F:PConF B W0 PS)(c:Nat->Nat)(w:World)(wb:Nat)(cK kv:Value)(n:Int)(ps:List Pr)(kept:List Ke)(A N M:Int)(S:ByteArray)(h:jy PS B c w wb cK kv n ps kept)(hA:In A)(hn:1<=ps.length)(hn2:ps.length<=4398046511104):
  Calls prog 14 #[.pointer (some ⟨wb,0,none⟩),.agg #[.int .i64 6,.int .i64 A,.int .i64 N,.int .i64 M,.string S]] w λe w'=>e=.returned (.bool true)/\cA PS B w w' wb ps.length kept.length:=by
 obtain⟨g,cap,j,hjl,-,c0,cj,hgl,hpk⟩:=h.pick F.toPCon A hA hn hn2;have vX:=h.blk.lt;have hpl:=(h.pin j hjl).blk.lt;have wH:w.cell? ⟨ps[j].pb,0,none⟩=some (.pointer (some ⟨ps[j].xb,0,none⟩)):=(h.pin j hjl).blk.cell rfl;have Cf:=az hpk;have hne:((ps.length:Int)==0)=false:=by rw[beq_eq_false_iff_ne];omega
 clear hpk;go_enter func14,ntmps14;go_wp2
 go_quiet ((go_at_call 30;exact Calls.quiet_of_same (Cf.out _)))
 have bC:Kp w ((w.alloc (.cells #[.int .i64 6,.int .i64 A,.int .i64 N,.int .i64 M,.string S] 30)).drewN nq) (λ_=>False):=((Kp.refl _ _).alloc _).drewN _;have hsb:aC ((w.alloc (.cells #[.int .i64 6,.int .i64 A,.int .i64 N,.int .i64 M,.string S] 30)).drewN nq) w.heap.size 30 #[.int .i64 6,.int .i64 A,.int .i64 N,.int .i64 M,.string S]:=aC.new w _ _;obtain⟨R,s',hwf,hX,hY⟩:=Mi F h j hjl N M bC hsb (ah _);have hyc:∀w2,TX PS B w w2 wb cK kv n ps kept ps[j] j s' w.heap.size->w2.cell? ⟨ps[j].pb,1,none⟩=some (.pointer (some ⟨ps[j].yb,0,none⟩))/\ps[j].pb<w2.heap.size:=λw2 hT=>by
  obtain⟨_,_,_,_,_,_,h2,_⟩:=hT;exact⟨h2.blk.cell rfl,h2.blk.lt⟩
 have k0:((w.alloc (.cells #[.int .i64 6,.int .i64 A,.int .i64 N,.int .i64 M,.string S] 30)).drewN nq).cell? ⟨ps[j].pb,0,none⟩=some (.pointer (some ⟨ps[j].xb,0,none⟩)):=(bC.blk (h.pin j hjl).blk (λe=>e)).cell rfl;have k2:((w.alloc (.cells #[.int .i64 6,.int .i64 A,.int .i64 N,.int .i64 M,.string S] 30)).drewN nq).cell? ⟨w.heap.size,2,none⟩=some (.int .i64 N):=hsb.cell rfl;have k3:((w.alloc (.cells #[.int .i64 6,.int .i64 A,.int .i64 N,.int .i64 M,.string S] 30)).drewN nq).cell? ⟨w.heap.size,3,none⟩=some (.int .i64 M):=hsb.cell rfl;have hF:∀w2,TX PS B w w2 wb cK kv n ps kept ps[j] j s' w.heap.size->w2.cell? ⟨ps[j].pb,0,none⟩=some (.pointer (some ⟨ps[j].xb,0,none⟩)):=λw2 hT=>by
  obtain⟨_,_,_,_,_,_,h2,_⟩:=hT;exact h2.blk.cell rfl
 have HX:=az hX;have HY:=az hY;have HYC:=az hyc;have HFF:=az hF;clear hX hY hyc hF bC hsb h hwf;go_wp2;generalize (w.alloc (.cells #[.int .i64 6,.int .i64 A,.int .i64 N,.int .i64 M,.string S] 30)).drewN nq=W1 at *;clear c0 cj wH
 go_region_held3 (λw'=>w'.cell? ⟨ps[j].pb,0,none⟩=some (.pointer (some ⟨ps[j].xb,0,none⟩))/\w'.cell? ⟨w.heap.size,2,none⟩=some (.int .i64 N)/\w'.cell? ⟨w.heap.size,3,none⟩=some (.int .i64 M)) (go_keep) (first
  | (go_at_call 22;refine(HX.out _ ?_).mono ?_;exact(Kp.refl _ _).drew;rintro e w2 ⟨rfl,Mk,hT⟩;have HT:=az hT;have d0:w2.cell? ⟨ps[j].pb,0,none⟩=some (.pointer (some ⟨ps[j].xb,0,none⟩)):=HFF.out w2 hT;have d2:w2.cell? ⟨w.heap.size,2,none⟩=some (.int .i64 N):=Mk.cell rfl;have d3:w2.cell? ⟨w.heap.size,3,none⟩=some (.int .i64 M):=Mk.cell rfl;have HSB:=az Mk;clear hT Mk))
 obtain⟨dy,QJ⟩:=HYC.out w2 HT.out;have HN:=az (λw' (hk:Kp w2 w' (λ_=>False))=>HY.out w2 w' HT.out HSB.out hk);clear HSB HY HT HX HYC HFF d0 k0 k2 k3;go_wp2
 go_region_held3 (λw'=>w'.cell? ⟨ps[j].pb,1,none⟩=some (.pointer (some ⟨ps[j].yb,0,none⟩))/\w'.cell? ⟨w.heap.size,2,none⟩=some (.int .i64 N)/\w'.cell? ⟨w.heap.size,3,none⟩=some (.int .i64 M)) (go_keep) (first
  | (go_at_call 37;refine(ZW _ _).mono ?_;rintro e w5 ⟨rfl,rfl⟩)
  | (go_at_call 38;refine(HN.out _ ?_).mono ?_;exact(Kp.refl _ _).drew;rintro e w4 ⟨rfl,hq,hb4,y1⟩;have y2:w4.cell? ⟨w.heap.size,2,none⟩=some (.int .i64 N):=hb4.cell rfl;have y3:w4.cell? ⟨w.heap.size,3,none⟩=some (.int .i64 M):=hb4.cell rfl;have HQ:=az hq;clear hq hb4))
 go_wp2;go_ret;exact⟨by simp,HQ.out⟩
end
end
end Go.Proofs.YteainaiebcphlaaGreatDoor
