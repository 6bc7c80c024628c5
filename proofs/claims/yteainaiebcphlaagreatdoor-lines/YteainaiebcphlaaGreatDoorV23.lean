import Derived.Test.YteainaiebcphlaaGreatDoorV22
import Derived.Deep.LoopGhost
namespace Go.Proofs.YteainaiebcphlaaGreatDoor
set_option maxRecDepth 1000000
set_option maxHeartbeats 4000000
set_option linter.all false
section
open Go.RowKit
section
variable {PS:World->Nat->(Nat->Prop)->St->Prop} {B:Nat} {W0:World} (P:PCon B W0 PS)
include P
theorem WIn.listed {c:Nat->Nat} {w w':World} {wb:Nat} {psv kv kv' v:Value} {n n':Int} {ps:List Pr} {kept four:List Ke} (h:WIn PS B c w wb psv kv n ps kept)
  (hv:∀ k,own v k->k < w.heap.size/\c k ≠ 0/\c k ≠ 1/\c k ≠ 2/\∀ j (hj:j < ps.length),c k ≠ cy j/\¬ ps[j].V k)
  (hkp:Kp w w' (fun b=>b=wb\/own kv b\/own v b)) (hblk:Blk w' wb 28 #[psv,.int .i64 n',kv']) (hkr:w'.ownsRow 0 89 3 kv' (kept ++ four).length (keCells (kept ++ four))) (hkn:∀ b,own kv' b->own kv b\/w.heap.size<=b)
  (LB:Nat->Prop) (hLB:∀ b,LB b->own v b\/w.heap.size<=b) (hLT:∀ b,LB b->∃ t cc,Blk w' b t cc/\(t=3\/t=9))
  (hf:∀ i (hi:i < four.length),KeRd w' four[i]/\(∀ b,own four[i].nv b->LB b)/\(∀ b,own four[i].mv b->LB b)):
  (∃ c',WIn PS B c' w' wb psv kv' n' ps (kept ++ four))/\Below B w w':=by
 classical
 have hw2:=h.cw
 let c1:Nat->Nat:=fun b=>if own v b then 2 else c b
 have e1:∀ b,¬ own v b->c1 b=c b:=fun b hb=>if_neg hb;have e2:∀ b,own v b->c1 b=2:=fun b hb=>if_pos hb;have two:∀ b,c b=2->c1 b=2:=fun b hb=>by
  by_cases ho:own v b
  ·exact e2 b ho
  ·rw[e1 b ho];exact hb
 have hk1:Kp w w' (fun b=>c1 b=2):=hkp.mono (fun b _ hb=>by
  rcases hb with e|e|e
  ·rw[e];exact two _ hw2
  ·exact two _ (h.ck b e)
  ·exact e2 b e)
 have hm:=Mv.paint hk1;have p1:∀ i (hi:i < ps.length),PrIn B PS c1 w i ps[i]:=fun i hi=>(h.pin i hi).re P (fun b hb=>by
  have ho:own v b:=by
   by_cases ho:own v b
   ·exact ho
   ·exact absurd (e1 b ho) hb
  obtain⟨_,q0,_,_,q3⟩:=hv b ho;exact⟨q0,(q3 i hi).1,(q3 i hi).2⟩)
 have p2:∀ i (hi:i < ps.length),PrIn B PS (paint c1 w.heap.size 2) w' i ps[i]:=fun i hi=>(p1 i hi).other P hm (by decide) (cx_two i) (cy_two i);have l2:∀ b,LB b->paint c1 w.heap.size 2 b=2:=fun b hb=>by
  rcases hLB b hb with h1|h1
  ·rw[hm.old b (hv b h1).1];exact e2 b h1
  ·exact hm.new b h1
 let c3:Nat->Nat:=fun b=>if LB b then 1 else paint c1 w.heap.size 2 b
 have f1:∀ b,¬ LB b->c3 b=paint c1 w.heap.size 2 b:=fun b hb=>if_neg hb;have f2:∀ b,LB b->c3 b=1:=fun b hb=>if_pos hb;have nw:¬ LB wb:=fun hb=>by
  obtain⟨t,cc,hcc,ht⟩:=hLT wb hb;have:=(hcc.inj hblk).1;subst this;rcases ht with ht|ht
  ·exact absurd ht (by decide)
  ·exact absurd ht (by decide)
 have nr:∀ k,own psv k->¬ (k=wb\/own kv k\/own v k):=by
  rintro k hk (e|e|e)
  ·subst e;exact own_ne h.row h.blk (by decide) hk
  ·obtain⟨cc,hcc⟩:=row_blk h.row hk;exact absurd (row_type h.krow e hcc) (by decide)
  ·exact (hv k e).2.2.2.1 (h.cr k hk)
 have hrow':=hkp.row h.row nr;have nv:∀ b,b < B->¬ own v b:=fun b hb ho=>(hv b ho).2.1 (h.low b hb);refine⟨⟨c3,hblk,?_,hrow',fun k hk=>?_,hkr,fun k hk=>?_,fun i hi=>?_,h.same,h.wf,fun i hi=>?_,fun b hb=>?_,Nat.le_trans h.bl hkp.size⟩,hk1.below h.bl (fun k hk e=>?_)⟩
 ·rw[f1 _ nw,hm.old _ h.blk.lt];exact two _ hw2
 ·have nk:¬ LB k:=fun hb=>by
   obtain⟨t,cc,hcc,ht⟩:=hLT k hb;have:=row_type hrow' hk hcc;subst this;rcases ht with ht|ht
   ·exact absurd ht (by decide)
   ·exact absurd ht (by decide)
  rw[f1 _ nk,hm.old _ (own_lt h.row hk)];exact two _ (h.cr k hk)
 ·have nk:¬ LB k:=fun hb=>by
   obtain⟨t,cc,hcc,ht⟩:=hLT k hb;have:=row_type hkr hk hcc;subst this;rcases ht with ht|ht
   ·exact absurd ht (by decide)
   ·exact absurd ht (by decide)
  rw[f1 _ nk];rcases hkn k hk with h1|h1
  ·rw[hm.old _ (own_lt h.krow h1)];exact two _ (h.ck k h1)
  ·exact hm.new k h1
 ·refine (p2 i hi).re P (fun b hb=>?_);have ho:LB b:=by
   by_cases ho:LB b
   ·exact ho
   ·exact absurd (f1 b ho) hb
  have hb2:=l2 b ho;refine⟨by rw[hb2];decide,by rw[hb2];exact fun e=>cy_two i e.symm,fun hV=>?_⟩;have:=(p2 i hi).cv b hV;rw[hb2] at this;exact cx_two i this.symm
 ·by_cases hlt:i < kept.length
  ·rw[List.getElem_append_left hlt];have k1:KeC c1 w kept[i]:=(h.ke i hlt).re (fun b hb=>by
    by_cases ho:own v b
    ·exact absurd hb (hv b ho).2.2.1
    ·rw[e1 b ho];exact hb)
   refine (k1.mv hm (by decide)).re (fun b hb=>?_);by_cases ho:LB b
   ·exact f2 b ho
   ·rw[f1 b ho];exact hb
  ·rw[List.getElem_append_right (by omega)];have hi2:i - kept.length < four.length:=by simp at hi;omega
   obtain⟨hr,h1,h2⟩:=hf (i - kept.length) hi2;exact⟨RdC.of hr.nums (fun b hb=>f2 b (h1 b hb)),RdC.of hr.names (fun b hb=>f2 b (h2 b hb)),hr.l1,hr.l2⟩
 ·have nl:¬ LB b:=fun hL=>by
   rcases hLB b hL with h1|h1
   ·exact nv b hb h1
   ·have:=h.bl;omega
  rw[f1 b nl,hm.old b (Nat.lt_of_lt_of_le hb h.bl),e1 b (nv b hb)];exact h.low b hb
 ·have e:c1 k=2:=e;rw[e1 k (nv k hk),h.low k hk] at e;omega
end
end
section
open Go.RowKit
section
variable {PS:World->Nat->(Nat->Prop)->St->Prop} {B:Nat} {W0:World} (P:PCon B W0 PS)
include P
theorem WIn.gave {c:Nat->Nat} {w w1:World} {wb:Nat} {psv kv v:Value} {n:Int} {ps:List Pr} {kept:List Ke} {e:TypeId} {z l:Nat} {xs:List Value} {V':Nat->Prop} (h:WIn PS B c w wb psv kv n ps kept) (i:Nat) (hi:i < ps.length)
  (hx:PS w1 ps[i].xb V' ps[i].s) (hto:To (fun _=>False) w w1 ps[i].V V') (hrow:w1.ownsRow w.heap.size e z v l xs) (hne:∀ k,own v k->¬ V' k):
  ∃ c1 ps1,WIn PS B c1 w1 wb psv kv n ps1 kept/\(∃ hl:ps1.length=ps.length,(ps1[i]'(by omega)).yb=ps[i].yb/\(ps1[i]'(by omega)).rs=ps[i].rs/\(ps1[i]'(by omega)).s=ps[i].s/\(ps1[i]'(by omega)).pb=ps[i].pb)/\Below B w w1 /\
   (∀ k,own v k->k < w1.heap.size/\c1 k ≠ 0/\c1 k ≠ 1/\c1 k ≠ 2/\∀ j (hj:j < ps1.length),c1 k ≠ cy j/\¬ ps1[j].V k):=by
 obtain⟨hq,hm⟩:=(h.pin i hi).ranX P hto hx;have hW:=h.ranE P i hi (V':=V') (rs':=ps[i].rs) (s':=ps[i].s) hq (h.wf i hi) (hm.mono (fun a h=>.inl h));refine⟨_,_,hW,⟨by simp,by simp,by simp,by simp,by simp⟩,hm.kp.below h.bl (fun k hk e=>?_),fun k hk=>?_⟩
 ·have e:c k=cx i:=e;rw[h.low k hk] at e;unfold cx at e;omega
 ·have hge:=(hrow.lt k hk).1;have hlt:=(hrow.lt k hk).2;have hck:paint c w.heap.size (cx i) k=cx i:=hm.new k hge;refine⟨hlt,by rw[hck];exact cx_zero i,by rw[hck];exact cx_one i,by rw[hck];exact cx_two i,fun j hj=>⟨by rw[hck];exact cx_cy i j,fun hV=>?_⟩⟩;have hcv:=(hW.pin j hj).cv k hV;rw[hck] at hcv;have:=cx_inj hcv;subst this;rw[List.getElem_set_self] at hV;exact hne k hk hV
end
def pickV (c n:Int):Int:=if c < 0 then (-(c+1)) % n else c % n
theorem pickV_lt (c n:Int) (hn:1<=n):0<=pickV c n/\pickV c n < n:=by
 unfold pickV
 split
 ·exact⟨Int.emod_nonneg _ (by omega),Int.emod_lt_of_pos _ (by omega)⟩
 ·exact⟨Int.emod_nonneg _ (by omega),Int.emod_lt_of_pos _ (by omega)⟩
theorem pickL (c n:Int) (w:World) (h0:-9223372036854775808<=c) (h1:c<=9223372036854775807) (hn:1<=n) (hn2:n<=4611686018427387904):
  Calls Tryz.prog 30 #[.int .i64 c,.int .i64 n] w fun e w'=>e=.returned (.int .i64 (pickV c n))/\w'=w:=by
 have hne:¬ n=0:=by omega
 by_cases hc:c < 0
 ·have HV:Hid (pickV c n = -((c+1).tmod n)):=by
   have h2:pickV c n=(-(c+1)) % n:=if_pos hc;unfold Hid;rw[h2,<-Int.neg_tmod,Int.tmod_eq_emod_of_nonneg (by omega)]
  go_enter Tryz.func30,Tryz.ntmps30;go_wp2;go_ret;exact⟨by rw[HV.out];rfl,rfl⟩
 ·have HV:Hid (pickV c n=c % n):=if_neg hc;have hc0:0<=c:=by omega
  clear hc;go_enter Tryz.func30,Tryz.ntmps30;go_wp2;go_ret;exact⟨by rw[HV.out];rfl,rfl⟩
end
section
open Go.RowKit
section
variable {PS:World->Nat->(Nat->Prop)->St->Prop} {B:Nat} {W0:World} (P:PCon B W0 PS)
include P
theorem WIn.idle {c:Nat->Nat} {w w':World} {wb:Nat} {psv kv:Value} {n:Int} {ps:List Pr} {kept:List Ke} (h:WIn PS B c w wb psv kv n ps kept) (hk:Kp w w' (fun _=>False)):WIn PS B (paint c w.heap.size 2) w' wb psv kv n ps kept:=by
 have hm:Mv (fun a=>a=2) c w (paint c w.heap.size 2) w':=Mv.paint (hk.mono (fun _ _ h=>h.elim));exact⟨hk.blk h.blk (fun h=>h),by rw[hm.old _ h.blk.lt];exact h.cw,hk.row h.row (fun _ _ h=>h),fun k hk=>by rw[hm.old _ (own_lt h.row hk)];exact h.cr k hk,hk.row h.krow (fun _ _ h=>h),fun k hk=>by rw[hm.old _ (own_lt h.krow hk)];exact h.ck k hk,
  fun i hi=>(h.pin i hi).other P hm (by decide) (cx_two i) (cy_two i),h.same,h.wf,fun i hi=>(h.ke i hi).mv hm (by decide),fun b hb=>by rw[hm.old b (Nat.lt_of_lt_of_le hb h.bl)];exact h.low b hb,Nat.le_trans h.bl hk.size⟩
def StepPost (PS:World->Nat->(Nat->Prop)->St->Prop) (B:Nat) (w w':World) (wb pl kl:Nat):Prop:=
 ∃ c psv kv n ps kept,WIn PS B c w' wb psv kv n ps kept/\ps.length<=pl+1/\kept.length<=kl+4/\Below B w w'
theorem Kp.low {w w':World} (hk:Kp w w' (fun _=>False)) (hB:B<=w.heap.size):Below B w w':=hk.below hB (fun _ _ h=>h)
theorem stepNone (c:Nat->Nat) (w:World) (wb:Nat) (psv kv:Value) (n:Int) (kept:List Ke) (K A N M:Int) (S:ByteArray) (h:WIn PS B c w wb psv kv n [] kept) (hK:(K == 1)=false):
  Calls Tryz.prog 14 #[.pointer (some ⟨wb,0,none⟩),.agg #[.int .i64 K,.int .i64 A,.int .i64 N,.int .i64 M,.string S]] w fun e w'=>e=.returned (.bool true)/\StepPost PS B w w' wb 0 kept.length:=by
 obtain⟨ao,cap,hv⟩:=row_slice h.row;have c0:w.cell? ⟨wb,0,none⟩=some psv:=h.blk.cell rfl;rw[hv] at c0;have hwl:=h.blk.lt;clear hv;simp only[List.length_nil] at c0;go_enter Tryz.func14,Tryz.ntmps14;go_wp2;go_ret;exact⟨rfl,_,_,_,_,_,_,h.idle P ((Kp.refl _ _).alloc _),by simp,by omega,Kp.low P ((Kp.refl _ _).alloc _) h.bl⟩
structure PickAt (w:World) (wb:Nat) (psv:Value) (ps:List Pr) (A:Int) (g cap j:Nat) (hj:j < ps.length):Prop where
 hv:psv=.slice (some ⟨g,0,none⟩) ps.length cap
 c0:w.cell? ⟨wb,0,none⟩=some (.slice (some ⟨g,0,none⟩) ps.length cap)
 cj:w.cell? ⟨g,j,none⟩=some (.pointer (some ⟨ps[j].pb,0,none⟩))
 gl:g < w.heap.size
 pk:∀ w,Calls Tryz.prog 30 #[.int .i64 A,.int .i64 (ps.length:Int)] w fun e w'=>e=.returned (.int .i64 (j:Int))/\w'=w
theorem WIn.pick {c:Nat->Nat} {w:World} {wb:Nat} {psv kv:Value} {n:Int} {ps:List Pr} {kept:List Ke} (h:WIn PS B c w wb psv kv n ps kept) (A:Int) (hA:In A) (hn:1<=ps.length) (hn2:ps.length<=4398046511104):∃ g cap j,∃ hj:j < ps.length,PickAt w wb psv ps A g cap j hj:=by
 obtain⟨g,cap,hv,hc⟩:=row_cell h.row (by omega);obtain⟨hj0,hj1⟩:=pickV_lt A ps.length (by omega);obtain⟨j,hj⟩:∃ j:Nat,pickV A ps.length=j:=⟨(pickV A ps.length).toNat,by omega⟩;have hjl:j < ps.length:=by omega
 refine⟨g,cap,j,hjl,hv,?_,hc j _ (by simp[ptrsP,hjl]),own_lt h.row (by rw[hv];rfl),fun w=>?_⟩
 ·rw[<-hv];exact h.blk.cell rfl
 ·have:=pickL A ps.length w hA.1 hA.2 (by omega) (by omega);rw[hj] at this;exact this
theorem stepOther (c:Nat->Nat) (w:World) (wb:Nat) (psv kv:Value) (n:Int) (ps:List Pr) (kept:List Ke) (K A N M:Int) (S:ByteArray) (h:WIn PS B c w wb psv kv n ps kept) (hK:K<=0) (hA:In A) (hn:1<=ps.length) (hn2:ps.length<=4398046511104):
  Calls Tryz.prog 14 #[.pointer (some ⟨wb,0,none⟩),.agg #[.int .i64 K,.int .i64 A,.int .i64 N,.int .i64 M,.string S]] w fun e w'=>e=.returned (.bool true)/\StepPost PS B w w' wb ps.length kept.length:=by
 obtain⟨g,cap,j,hjl,-,c0,cj,hgl,hpk⟩:=h.pick P A hA hn hn2;have hwl:=h.blk.lt;have HPK:=hide hpk;have hne:((ps.length:Int) == 0)=false:=by rw[beq_eq_false_iff_ne];omega
 clear hpk;go_enter Tryz.func14,Tryz.ntmps14;go_wp2
 go_quiet ((go_at_call 30;exact Calls.quiet_of_same (HPK.out _)))
 go_wp2;go_ret;exact⟨rfl,_,_,_,_,_,_,h.idle P (((Kp.refl _ _).alloc _).drewN _),by omega,by omega,Kp.low P (((Kp.refl _ _).alloc _).drewN _) h.bl⟩
theorem stepLine (c:Nat->Nat) (w:World) (wb:Nat) (psv kv:Value) (n:Int) (ps:List Pr) (kept:List Ke) (A N M:Int) (S:ByteArray) (h:WIn PS B c w wb psv kv n ps kept) (hA:In A) (hn:1<=ps.length) (hn2:ps.length<=4398046511104):
  Calls Tryz.prog 14 #[.pointer (some ⟨wb,0,none⟩),.agg #[.int .i64 2,.int .i64 A,.int .i64 N,.int .i64 M,.string S]] w fun e w'=>e=.returned (.bool true)/\StepPost PS B w w' wb ps.length kept.length:=by
 obtain⟨g,cap,j,hjl,-,c0,cj,hgl,hpk⟩:=h.pick P A hA hn hn2;have hwl:=h.blk.lt;have HPK:=hide hpk;have hne:((ps.length:Int) == 0)=false:=by rw[beq_eq_false_iff_ne];omega
 clear hpk;go_enter Tryz.func14,Tryz.ntmps14;go_wp2
 go_quiet ((go_at_call 30;exact Calls.quiet_of_same (HPK.out _)))
 go_wp2_with fail
 have hk0:Kp w ((w.alloc (.cells #[.int .i64 2,.int .i64 A,.int .i64 N,.int .i64 M,.string S] 30)).drewN nq) (fun _=>False):=((Kp.refl _ _).alloc _).drewN _;have h1:=h.idle P hk0;refine (lineL P _ _ j _ S (h1.pin j hjl) (h1.same j hjl) (h1.wf j hjl)).mono ?_;rintro e w' ⟨rfl,hp⟩;obtain⟨c',ps',hW,hl,hbel⟩:=h1.ran P j hjl hp;have HN:Hid (StepPost PS B w w' wb ps.length kept.length):=⟨_,_,_,_,_,_,hW,by omega,by omega,(Kp.low P hk0 h.bl).trans hbel⟩;clear hp hW hbel hk0 h1 h;go_wp2;go_ret;exact⟨rfl,HN.out⟩
theorem stepCell (c:Nat->Nat) (w:World) (wb:Nat) (psv kv:Value) (n:Int) (ps:List Pr) (kept:List Ke) (A N M:Int) (S:ByteArray) (h:WIn PS B c w wb psv kv n ps kept) (hA:In A) (hN:In N) (hn:1<=ps.length) (hn2:ps.length<=4398046511104):
  Calls Tryz.prog 14 #[.pointer (some ⟨wb,0,none⟩),.agg #[.int .i64 4,.int .i64 A,.int .i64 N,.int .i64 M,.string S]] w fun e w'=>e=.returned (.bool true)/\StepPost PS B w w' wb ps.length kept.length:=by
 obtain⟨g,cap,j,hjl,-,c0,cj,hgl,hpk⟩:=h.pick P A hA hn hn2;have hwl:=h.blk.lt;have HPK:=hide hpk;have hne:((ps.length:Int) == 0)=false:=by rw[beq_eq_false_iff_ne];omega
 clear hpk;go_enter Tryz.func14,Tryz.ntmps14;go_wp2
 go_quiet ((go_at_call 30;exact Calls.quiet_of_same (HPK.out _)))
 go_wp2_with fail
 have hk0:Kp w ((w.alloc (.cells #[.int .i64 4,.int .i64 A,.int .i64 N,.int .i64 M,.string S] 30)).drewN nq) (fun _=>False):=((Kp.refl _ _).alloc _).drewN _;have h1:=h.idle P hk0;refine (cellL P _ _ j _ N (h1.pin j hjl) (h1.same j hjl) (h1.wf j hjl) hN).mono ?_;rintro e w' ⟨rfl,hp⟩;obtain⟨c',ps',hW,hl,hbel⟩:=h1.ran P j hjl hp;have HN:Hid (StepPost PS B w w' wb ps.length kept.length):=⟨_,_,_,_,_,_,hW,by omega,by omega,(Kp.low P hk0 h.bl).trans hbel⟩;clear hp hW hbel hk0 h1 h;go_wp2;go_ret;exact⟨rfl,HN.out⟩
end
end
section
open Go.RowKit
theorem Rd.nil (w:World) (u:Value):Rd w (.slice none 0 0) 0 u:=⟨none,0,rfl,fun j hj=>by omega⟩
section
variable {PS:World->Nat->(Nat->Prop)->St->Prop} {B:Nat} {W0:World} (P:PCon B W0 PS)
include P
theorem WIn.nums {c:Nat->Nat} {w w':World} {wb:Nat} {psv kv v kv' va vb vc:Value} {n n':Int} {ps:List Pr} {kept:List Ke} {l:Nat} (h:WIn PS B c w wb psv kv n ps kept)
  (hv:∀ k,own v k->k < w.heap.size/\c k ≠ 0/\c k ≠ 1/\c k ≠ 2/\∀ j (hj:j < ps.length),c k ≠ cy j/\¬ ps[j].V k) (hp:NumsPost w w' wb psv kv v kv' va vb vc n' kept.length l (keCells kept)) (hl:l<=900):
  ∃ c' kept',WIn PS B c' w' wb psv kv' n' ps kept'/\kept'.length=kept.length+4/\Below B w w':=by
 obtain⟨⟨c',hW⟩,hb⟩:=h.listed P (four:=[⟨n',v,l,.slice none 0 0,0⟩,⟨n',va,l+1,.slice none 0 0,0⟩,⟨n',vb,l+2,.slice none 0 0,0⟩,⟨n',vc,l+3,.slice none 0 0,0⟩]) hv hp.kp hp.blk
  (by rw[keCells_app];simpa [keCells] using hp.krow) hp.kn (fun b=>own v b\/own va b\/own vb b\/own vc b)
  (fun b hb=>by
   rcases hb with hb|hb|hb|hb
   ·exact .inl hb
   ·exact hp.na b hb
   ·exact hp.nb b hb
   ·exact hp.nc b hb)
  (fun b hb=>by obtain⟨cc,hcc⟩:=hp.ty b hb;exact⟨3,cc,hcc,.inl rfl⟩)
  (fun i hi=>by
   have hno:∀ (Q:Prop) b,own (.slice none 0 0) b->Q:=fun Q b hb=>by simp[own,Value.ownBlock] at hb
   rcases (show i=0\/i=1\/i=2\/i=3 by simp at hi;omega) with rfl|rfl|rfl|rfl
   ·exact⟨⟨hp.r0,Rd.nil _ _,by show l<=1000;omega,by show (0:Nat)<=1000;omega⟩,fun b hb=>.inl hb,fun b hb=>hno _ b hb⟩
   ·exact⟨⟨hp.ra,Rd.nil _ _,by show l+1<=1000;omega,by show (0:Nat)<=1000;omega⟩,fun b hb=>.inr (.inl hb),fun b hb=>hno _ b hb⟩
   ·exact⟨⟨hp.rb,Rd.nil _ _,by show l+2<=1000;omega,by show (0:Nat)<=1000;omega⟩,fun b hb=>.inr (.inr (.inl hb)),fun b hb=>hno _ b hb⟩
   ·exact⟨⟨hp.rc,Rd.nil _ _,by show l+3<=1000;omega,by show (0:Nat)<=1000;omega⟩,fun b hb=>.inr (.inr (.inr hb)),fun b hb=>hno _ b hb⟩)
 exact⟨c',_,hW,by simp,hb⟩
theorem stepStack (c:Nat->Nat) (w:World) (wb:Nat) (psv kv:Value) (n:Int) (ps:List Pr) (kept:List Ke) (A N M:Int) (S:ByteArray) (h:WIn PS B c w wb psv kv n ps kept) (hA:In A) (hn:1<=ps.length) (hn2:ps.length<=4398046511104) (hkl:kept.length<=1000000000):
  Calls Tryz.prog 14 #[.pointer (some ⟨wb,0,none⟩),.agg #[.int .i64 3,.int .i64 A,.int .i64 N,.int .i64 M,.string S]] w fun e w'=>e=.returned (.bool true)/\StepPost PS B w w' wb ps.length kept.length:=by
 obtain⟨g,cap,j,hjl,-,c0,cj,hgl,hpk⟩:=h.pick P A hA hn hn2;have hwl:=h.blk.lt;have hpl:=(h.pin j hjl).blk.lt;have cx0:w.cell? ⟨ps[j].pb,0,none⟩=some (.pointer (some ⟨ps[j].xb,0,none⟩)):=(h.pin j hjl).blk.cell rfl;have HPK:=hide hpk;have hne:((ps.length:Int) == 0)=false:=by rw[beq_eq_false_iff_ne];omega
 clear hpk;go_enter Tryz.func14,Tryz.ntmps14;go_wp2
 go_quiet ((go_at_call 30;exact Calls.quiet_of_same (HPK.out _)))
 go_wp2_with fail
 have hk0:Kp w ((w.alloc (.cells #[.int .i64 3,.int .i64 A,.int .i64 N,.int .i64 M,.string S] 30)).drewN nq) (fun _=>False):=((Kp.refl _ _).alloc _).drewN _;have h1:=h.idle P hk0;have hx1:=(h1.pin j hjl).x;rw[h1.same j hjl] at hx1;refine (P.stack _ _ _ _ hx1 (h1.pin j hjl).y.rel.good).mono ?_;rintro e w1 ⟨v,rfl,hrow,V',hx,hto,hnv⟩;obtain⟨c1,ps1,h2,⟨hl2,ey,er,es,ep⟩,hbel,hown⟩:=h1.gave P j hjl hx hto hrow hnv;have hj1:j < ps1.length:=by omega
 obtain⟨yb1,nvv,ns,k1,k2,hnu,hlen,⟨ak,pk,rfl⟩,⟨av,pv,rfl⟩⟩:∃ (yb1:Nat) (nvv:Value) (ns:List Int),w1.cell? ⟨ps[j].pb,1,none⟩=some (.pointer (some ⟨yb1,0,none⟩))/\w1.cell? ⟨yb1,0,none⟩=some nvv /\
   Calls Tryz.prog 32 #[.pointer (some ⟨wb,0,none⟩),v,nvv] w1 (fun e w'=>e=.returned (.bool true)/\∃ kv' va vb vc,NumsPost w1 w' wb psv kv v kv' va vb vc (wrap64 (n+1)) kept.length ns.length (keCells kept))/\ns.length<=32/\(∃ ak pk,nvv=.slice ak ns.length pk)/\(∃ av pv,v=.slice av ns.length pv):=by
  have hpi:=h2.pin j hj1;have hk2:=hpi.y.inv.row;have hlen:(ps1[j]).s.rs.reverse.length<=32:=by have:=hpi.y.rel.good.g.len;simpa using this
  have hv2:w1.ownsRow 0 3 1 v (ps1[j]).s.rs.reverse.length (ints (ps1[j]).s.rs.reverse):=by
   rw[es];rw[List.length_reverse];exact Joins.ownsRow_le hrow (Nat.zero_le _)
  have hdis:∀ b,own v b->¬ own (ps1[j]).rs.nv b:=fun b hb hn=>((hown b hb).2.2.2.2 j hj1).1 (hpi.cn b hn);exact⟨ps1[j].yb,ps1[j].rs.nv,ps1[j].s.rs.reverse,by rw[<-ep];exact hpi.blk.cell rfl,hpi.y.inv.blk.cell rfl,numsL w1 wb psv kv v _ n kept.length (keCells kept) _ h2.blk h2.krow hkl hv2 hlen hk2 hdis,hlen,row_slice hk2,row_slice hv2⟩
 have HNU:=hide hnu;have HBEL:Hid (Below B w w1):=(Kp.low P hk0 h.bl).trans hbel;have H2:=hide h2;have HOWN:=hide hown;clear hrow hx hto hnv hbel hown hx1 h1 hk0 h h2 ey er es ep hnu hj1
 go_wp2_with fail
 refine HNU.out.mono ?_;rintro e w2 ⟨rfl,kv',va,vb,vc,hp⟩;obtain⟨c',kept',hW,hkl',hb2⟩:=H2.out.nums P HOWN.out hp (by omega);have HN:Hid (StepPost PS B w w2 wb ps.length kept.length):=⟨_,_,_,_,_,_,hW,by omega,by omega,HBEL.out.trans hb2⟩;clear hp hW hb2 HNU H2 HOWN;go_wp2;go_ret;exact⟨rfl,HN.out⟩
end
end
section
open Go.RowKit
theorem texts_inj:∀ {a b:List ByteArray},texts a=texts b->a=b
 | [],[],_=>rfl
 | [],_ :: _,h=>by simp[texts] at h
 | _ :: _,[],h=>by simp[texts] at h
 | x :: a,y :: b,h=>by
  simp only[texts,List.map_cons,List.cons.injEq] at h;have h1:x=y:=ByteArray.ext (Array.ext' h.1);have h2:=texts_inj (a:=a) (b:=b) (by simpa [texts] using h.2);rw[h1,h2]
theorem wordsP_len (s:St):(wordsP s).length=s.defs.length:=by unfold wordsP sortN;simp[rsortN_len]
section
variable {PS:World->Nat->(Nat->Prop)->St->Prop} {B:Nat} {W0:World} (P:PCon B W0 PS)
include P
theorem WIn.names {c:Nat->Nat} {w w':World} {wb:Nat} {psv kv v kv' va vb vc:Value} {n n':Int} {ps:List Pr} {kept:List Ke} {l:Nat} (h:WIn PS B c w wb psv kv n ps kept)
  (hv:∀ k,own v k->k < w.heap.size/\c k ≠ 0/\c k ≠ 1/\c k ≠ 2/\∀ j (hj:j < ps.length),c k ≠ cy j/\¬ ps[j].V k) (hp:NamesPost w w' wb psv kv v kv' va vb vc n' kept.length l (keCells kept)) (hl:l<=900):
  ∃ c' kept',WIn PS B c' w' wb psv kv' n' ps kept'/\kept'.length=kept.length+4/\Below B w w':=by
 obtain⟨⟨c',hW⟩,hb⟩:=h.listed P (four:=[⟨n',.slice none 0 0,0,v,l⟩,⟨n',.slice none 0 0,0,va,l+1⟩,⟨n',.slice none 0 0,0,vb,l+2⟩,⟨n',.slice none 0 0,0,vc,l+3⟩]) hv hp.kp hp.blk
  (by rw[keCells_app];simpa [keCells] using hp.krow) hp.kn (fun b=>own v b\/own va b\/own vb b\/own vc b)
  (fun b hb=>by
   rcases hb with hb|hb|hb|hb
   ·exact .inl hb
   ·exact hp.na b hb
   ·exact hp.nb b hb
   ·exact hp.nc b hb)
  (fun b hb=>by obtain⟨cc,hcc⟩:=hp.ty b hb;exact⟨9,cc,hcc,.inr rfl⟩)
  (fun i hi=>by
   have hno:∀ (Q:Prop) b,own (.slice none 0 0) b->Q:=fun Q b hb=>by simp[own,Value.ownBlock] at hb
   rcases (show i=0\/i=1\/i=2\/i=3 by simp at hi;omega) with rfl|rfl|rfl|rfl
   ·exact⟨⟨Rd.nil _ _,hp.r0,by show (0:Nat)<=1000;omega,by show l<=1000;omega⟩,fun b hb=>hno _ b hb,fun b hb=>.inl hb⟩
   ·exact⟨⟨Rd.nil _ _,hp.ra,by show (0:Nat)<=1000;omega,by show l+1<=1000;omega⟩,fun b hb=>hno _ b hb,fun b hb=>.inr (.inl hb)⟩
   ·exact⟨⟨Rd.nil _ _,hp.rb,by show (0:Nat)<=1000;omega,by show l+2<=1000;omega⟩,fun b hb=>hno _ b hb,fun b hb=>.inr (.inr (.inl hb))⟩
   ·exact⟨⟨Rd.nil _ _,hp.rc,by show (0:Nat)<=1000;omega,by show l+3<=1000;omega⟩,fun b hb=>hno _ b hb,fun b hb=>.inr (.inr (.inr hb))⟩)
 exact⟨c',_,hW,by simp,hb⟩
theorem stepWords (c:Nat->Nat) (w:World) (wb:Nat) (psv kv:Value) (n:Int) (ps:List Pr) (kept:List Ke) (A N M:Int) (S:ByteArray) (h:WIn PS B c w wb psv kv n ps kept) (hA:In A) (hn:1<=ps.length) (hn2:ps.length<=4398046511104) (hkl:kept.length<=1000000000):
  Calls Tryz.prog 14 #[.pointer (some ⟨wb,0,none⟩),.agg #[.int .i64 5,.int .i64 A,.int .i64 N,.int .i64 M,.string S]] w fun e w'=>e=.returned (.bool true)/\StepPost PS B w w' wb ps.length kept.length:=by
 obtain⟨g,cap,j,hjl,-,c0,cj,hgl,hpk⟩:=h.pick P A hA hn hn2;have hwl:=h.blk.lt;have hpl:=(h.pin j hjl).blk.lt;have cx0:w.cell? ⟨ps[j].pb,0,none⟩=some (.pointer (some ⟨ps[j].xb,0,none⟩)):=(h.pin j hjl).blk.cell rfl;have HPK:=hide hpk;have hne:((ps.length:Int) == 0)=false:=by rw[beq_eq_false_iff_ne];omega
 clear hpk;go_enter Tryz.func14,Tryz.ntmps14;go_wp2
 go_quiet ((go_at_call 30;exact Calls.quiet_of_same (HPK.out _)))
 go_wp2_with fail
 have hk0:Kp w ((w.alloc (.cells #[.int .i64 5,.int .i64 A,.int .i64 N,.int .i64 M,.string S] 30)).drewN nq) (fun _=>False):=((Kp.refl _ _).alloc _).drewN _;have h1:=h.idle P hk0;have hx1:=(h1.pin j hjl).x;rw[h1.same j hjl] at hx1;refine (P.words _ _ _ _ hx1).mono ?_;rintro e w1 ⟨v,rfl,⟨L,hrow,hL⟩,V',hx,hto,hnv⟩;obtain⟨c1,ps1,h2,⟨hl2,ey,er,es,ep⟩,hbel,hown⟩:=h1.gave P j hjl hx hto hrow hnv;have hj1:j < ps1.length:=by omega
 obtain⟨yb1,k1,hwd,hlen⟩:∃ (yb1:Nat),w1.cell? ⟨ps[j].pb,1,none⟩=some (.pointer (some ⟨yb1,0,none⟩)) /\
   Calls Tryz.prog 34 #[.pointer (some ⟨yb1,0,none⟩)] w1 (fun e w'=>∃ v,e=.returned v/\NamesAt w1 w' v (texts L))/\L.length<=30:=by
  have hpi:=h2.pin j hj1;refine⟨ps1[j].yb,by rw[<-ep];exact hpi.blk.cell rfl,?_,?_⟩
  ·rw[hL,<-es];exact wordsX w1 _ _ _ hpi.y
  ·have h3:=congrArg List.length hL;rw[texts_len,wordsP_len,<-es] at h3;have:=hpi.y.rel.dr.len;omega
 have HWD:=hide hwd;have HBEL:Hid (Below B w w1):=(Kp.low P hk0 h.bl).trans hbel;have H2:=hide h2;have HOWN:=hide hown;have HROW:=hide hrow;obtain⟨av,pv,rfl⟩:=row_slice (Joins.ownsRow_le hrow (Nat.zero_le _));clear hrow hx hto hnv hbel hown hx1 h1 hk0 h h2 ey er es ep hwd hj1 hL
 go_wp2_with fail
 refine HWD.out.mono ?_;rintro e w2 ⟨vk,rfl,⟨⟨Lk,hrk,hLk⟩,hnewk,hkpk⟩⟩;have hLL:=texts_inj hLk;subst hLL;have h3:=H2.out.idle P hkpk;have hrow2:=hkpk.row (Joins.ownsRow_le HROW.out (Nat.zero_le _)) (fun _ _ h=>h);have hown2:∀ k,own (.slice av Lk.length pv) k->k < w2.heap.size/\paint c1 w1.heap.size 2 k ≠ 0/\paint c1 w1.heap.size 2 k ≠ 1/\paint c1 w1.heap.size 2 k ≠ 2/\∀ j (hj:j < ps1.length),paint c1 w1.heap.size 2 k ≠ cy j/\¬ ps1[j].V k:=fun k hk=>by
  obtain⟨q1,q2,q3,q4,q5⟩:=HOWN.out k hk;rw[show paint c1 w1.heap.size 2 k=c1 k from if_pos q1];exact⟨Nat.lt_of_lt_of_le q1 hkpk.size,q2,q3,q4,q5⟩
 have HNU:=hide (namesL w2 wb psv kv _ vk n kept.length (keCells kept) Lk h3.blk h3.krow hkl hrow2 (by omega) hrk (fun b hb hb2=>by have:=(HOWN.out b hb).1;have:=hnewk b hb2;omega));obtain⟨ak,pk,rfl⟩:=row_slice hrk;have HBEL2:Hid (Below B w w2):=HBEL.out.trans (Kp.low P hkpk H2.out.bl);have H3:=hide h3;have HO2:=hide hown2;clear hrk hnewk hkpk h3 hrow2 hown2 H2 HOWN HROW HWD HBEL k1
 go_wp2_with fail
 refine HNU.out.mono ?_;rintro e w3 ⟨rfl,kv',va,vb,vc,hp⟩;obtain⟨c',kept',hW,hkl',hb2⟩:=H3.out.names P HO2.out hp (by omega);have HN:Hid (StepPost PS B w w3 wb ps.length kept.length):=⟨_,_,_,_,_,_,hW,by omega,by omega,HBEL2.out.trans hb2⟩;clear hp hW hb2 HNU H3 HO2;go_wp2;go_ret;exact⟨rfl,HN.out⟩
end
end
section
open Go.RowKit
theorem Tryz.infoPair:(Tryz.prog.info? 55).map (fun i=>(i.zero,i.size,i.bytes))=some (some (.pointer none),1,8):=by kernel_rfl
section
variable {PS:World->Nat->(Nat->Prop)->St->Prop} {B:Nat} {W0:World} (P:PCon B W0 PS)
include P
theorem WIn.added {c:Nat->Nat} {w w1 w5:World} {wb xb pb:Nat} {psv psv' kv:Value} {n:Int} {ps:List Pr} {kept:List Ke} {V:Nat->Prop} (h:WIn PS B c w wb psv kv n ps kept)
  (hx:PS w1 xb V st0) (hk1:Kp w w1 (fun _=>False)) (hV:∀ k,V k->w.heap.size<=k)
  (hpb:w1.heap.size < pb) (hpblk:Blk w5 pb 61 #[.pointer (some ⟨xb,0,none⟩),.pointer (some ⟨w1.heap.size,0,none⟩)])
  (hk5:Kp (w1.alloc (.cells rs0.arr 67)) w5 (fun b=>b=wb\/own psv b))
  (hblk:Blk w5 wb 28 #[psv',.int .i64 n,kv]) (hrow:w5.ownsRow 0 55 1 psv' (ps.length+1) (ptrsP ps ++ [.pointer (some ⟨pb,0,none⟩)])) (hnx:∀ k,own psv' k->own psv k\/pb < k):
  (∃ c',WIn PS B c' w5 wb psv' kv n (ps ++ [⟨pb,xb,w1.heap.size,V,st0,rs0,st0⟩]) kept)/\Below B w w5:=by
 classical
 have hVl:=P.lt _ _ _ _ hx;have hka:Kp w (w1.alloc (.cells rs0.arr 67)) (fun _=>False):=hk1.alloc _;have hsz1:=hk1.size;have hsz2:(w1.alloc (.cells rs0.arr 67)).heap.size=w1.heap.size+1:=by simp
 have hkp:Kp w w5 (fun b=>b=wb\/own psv b):=(hka.mono (fun _ _ h=>h.elim)).trans hk5;have hk2:Kp w w5 (fun b=>c b=2):=hkp.mono (fun b _ hb=>by
  rcases hb with e|e
  ·rw[e];exact h.cw
  ·exact h.cr b e)
 have hm:=Mv.paint hk2;have p2:∀ i (hi:i < ps.length),PrIn B PS (paint c w.heap.size 2) w5 i ps[i]:=fun i hi=>(h.pin i hi).other P hm (by decide) (cx_two i) (cy_two i)
 let c3:Nat->Nat:=fun b=>if V b then cx ps.length else if b=w1.heap.size then cy ps.length else if b=pb then 0 else paint c w.heap.size 2 b
 have hwl:=h.blk.lt;have old:∀ b,b < w.heap.size->c3 b=c b:=fun b hb=>by
  show (if V b then _ else _)=_;rw[if_neg (fun hv=>by have:=hV b hv;omega),if_neg (by omega),if_neg (by omega)];exact hm.old b hb
 have gV:∀ b,V b->c3 b=cx ps.length:=fun b hb=>if_pos hb;have gy:c3 w1.heap.size=cy ps.length:=by
  show (if V _ then _ else _)=_;rw[if_neg (fun hv=>by have:=hVl _ hv;omega),if_pos rfl]
 have gp:c3 pb=0:=by
  show (if V _ then _ else _)=_;rw[if_neg (fun hv=>by have:=hVl _ hv;omega),if_neg (by omega),if_pos rfl]
 have npb:¬ own psv' pb:=fun hv=>by exact absurd (row_type hrow hv hpblk) (by decide)
 have nrow:∀ k,own psv' k->c3 k=2:=fun k hk=>by
  rcases hnx k hk with h1|h1
  ·rw[old k (own_lt h.row h1)];exact h.cr k h1
  ·show (if V k then _ else _)=_;rw[if_neg (fun hv=>by have:=hVl k hv;omega),if_neg (by omega),if_neg (by omega)];exact hm.new k (by omega)
 have p3:∀ i (hi:i < ps.length),PrIn B PS c3 w5 i ps[i]:=fun i hi=>(p2 i hi).re P (fun b hb=>by
  have hge:w.heap.size<=b:=by
   rcases Nat.lt_or_ge b w.heap.size with hlt|hge
   ·exact absurd ((old b hlt).trans (hm.old b hlt).symm) hb
   ·exact hge
  have hb2:paint c w.heap.size 2 b=2:=hm.new b hge;refine⟨by rw[hb2];decide,by rw[hb2];exact fun e=>cy_two i e.symm,fun hv=>?_⟩;have:=(p2 i hi).cv b hv;rw[hb2] at this;exact cx_two i this.symm)
 have nkr:∀ k,own kv k->¬ (k=wb\/own psv k):=by
  rintro k hk (e|e)
  ·subst e;exact own_ne h.krow h.blk (by decide) hk
  ·obtain⟨cc,hcc⟩:=row_blk h.krow hk;exact absurd (row_type h.row e hcc) (by decide)
 have hyb:Blk (w1.alloc (.cells rs0.arr 67)) w1.heap.size 67 rs0.arr:=Blk.new _ _ _;have nS:¬ (w1.heap.size=wb\/own psv w1.heap.size):=by
  rintro (e|e)
  ·omega
  ·have:=own_lt h.row e;omega
 have hnil:∀ k,own rs0.nv k->False:=fun k hk=>by simp[own,Value.ownBlock,rs0] at hk
 have hnil2:∀ k,own rs0.d.dv k->False:=fun k hk=>by simp[own,Value.ownBlock,rs0] at hk
 have hS0:Ses (fun b=>b < w1.heap.size) (w1.alloc (.cells rs0.arr 67)) w1.heap.size rs0 st0:=Ses.first w1 (fun b hb=>by rw[hsz2];exact Nat.lt_succ_of_lt hb)
 have hS5:Ses (barK c3 w5 (cy ps.length)) w5 w1.heap.size rs0 st0:=by
  refine hS0.move hk5 (fun b hb hS=>?_) nS (fun b hb=>(hnil b hb).elim) (fun b hb=>(hnil2 b hb).elim) (fun b hb=>?_) (fun b hb=>hb.1)
  ·rcases hS with e|e
   ·rw[e];show wb < w1.heap.size;omega
   ·have:=own_lt h.row e;show b < w1.heap.size;omega
  ·by_cases hlt:b < w1.heap.size
   ·exact .inl hlt
   ·by_cases he:b=w1.heap.size
    ·subst he;exact absurd gy hb.2
    ·right;rw[hsz2];omega
 have hx5:PS w5 xb V st0:=by
  have hxa:=P.frame _ _ (fun _=>False) _ _ _ hx (((Kp.refl w1 _).alloc (.cells rs0.arr 67))) (fun _ _ h=>h) (fun _ _ h=>h) (Nat.le_trans h.bl hsz1);refine P.frame _ _ _ _ _ _ hxa hk5 (fun k hk hS=>?_) (fun k hk hS=>?_) (by rw[hsz2];have:=h.bl;omega)
  ·have:=hV k hk;rcases hS with e|e
   ·omega
   ·have:=own_lt h.row e;omega
  ·have hc:=h.low k hk;rcases hS with e|e
   ·rw[e,h.cw] at hc;omega
   ·rw[h.cr k e] at hc;omega
 have low3:∀ b,b < B->c3 b=0:=fun b hb=>by rw[old b (Nat.lt_of_lt_of_le hb h.bl)];exact h.low b hb
 have bl5:B<=w5.heap.size:=Nat.le_trans h.bl hkp.size;refine⟨⟨c3,hblk,by rw[old _ hwl];exact h.cw,by simpa [ptrsP] using hrow,nrow,hkp.row h.krow nkr,fun k hk=>by rw[old _ (own_lt h.krow hk)];exact h.ck k hk,fun i hi=>?_,fun i hi=>?_,fun i hi=>?_,fun i hi=>?_,low3,bl5⟩,hk2.below h.bl (fun k hk e=>by have e:c k=2:=e;rw[h.low k hk] at e;omega)⟩
 ·by_cases hlt:i < ps.length
  ·rw[List.getElem_append_left hlt];exact p3 i hlt
  ·have hie:i=ps.length:=by simp at hi;omega
   subst hie;rw[List.getElem_append_right (Nat.le_refl _)];simp only[Nat.sub_self,List.getElem_cons_zero];exact⟨hpblk,gp,hx5,gV,hS5,gy,fun k hk=>(hnil k hk).elim,fun k hk=>(hnil2 k hk).elim,low3,bl5⟩
 ·by_cases hlt:i < ps.length
  ·rw[List.getElem_append_left hlt];exact h.same i hlt
  ·have hie:i=ps.length:=by simp at hi;omega
   subst hie;rw[List.getElem_append_right (Nat.le_refl _)];simp
 ·by_cases hlt:i < ps.length
  ·rw[List.getElem_append_left hlt];exact h.wf i hlt
  ·have hie:i=ps.length:=by simp at hi;omega
   subst hie;rw[List.getElem_append_right (Nat.le_refl _)]
   simpa using WFs.first
 ·exact ((h.ke i hi).mv hm (by decide)).re (fun b hb=>by
   have hlt:b < w.heap.size:=by
    rcases Nat.lt_or_ge b w.heap.size with hlt|hge
    ·exact hlt
    ·have:=hm.new b hge;omega
   rw[old b hlt,<-hm.old b hlt];exact hb)
end
end
section
open Go.RowKit
section
variable {PS:World->Nat->(Nat->Prop)->St->Prop} {B:Nat} {W0:World} (P:PCon B W0 PS)
include P
theorem stepNew (c:Nat->Nat) (w:World) (wb:Nat) (psv kv:Value) (n:Int) (ps:List Pr) (kept:List Ke) (A N M:Int) (S:ByteArray) (h:WIn PS B c w wb psv kv n ps kept) (hb0:Below B W0 w) (hn2:ps.length<=4398046511104):
  Calls Tryz.prog 14 #[.pointer (some ⟨wb,0,none⟩),.agg #[.int .i64 1,.int .i64 A,.int .i64 N,.int .i64 M,.string S]] w fun e w'=>e=.returned (.bool true)/\StepPost PS B w w' wb ps.length kept.length:=by
 obtain⟨i0,hi,hz0,hz1,hz2⟩:=info_parts Tryz.infoPair;have hwl:=h.blk.lt;go_enter Tryz.func14,Tryz.ntmps14
 go_wp2_with fail
 have hk0:Kp w (w.alloc (.cells #[.int .i64 1,.int .i64 A,.int .i64 N,.int .i64 M,.string S] 30)) (fun _=>False):=(Kp.refl _ _).alloc _;refine (P.new _ (hb0.trans (Kp.low P hk0 h.bl)) (Nat.le_trans h.bl hk0.size)).mono ?_;rintro e w1 ⟨xb,V,rfl,hx,hk1,hV⟩;have hk01:=hk0.trans hk1;have hV1:∀ k,V k->w.heap.size<=k:=fun k hk=>Nat.le_trans hk0.size (hV k hk);clear hk1 hV
 go_wp2_with fail
 refine (freshX _).mono ?_;rintro e w2 ⟨rfl,hw2⟩;have hk2:Kp w w2 (fun _=>False):=by rw[hw2];exact hk01.alloc _
 have hs2:w2.heap.size=w1.heap.size+1:=by rw[hw2];simp
 have hB2:=hk2.blk h.blk (fun h=>h);have hr2:=hk2.row h.row (fun _ _ h=>h);obtain⟨ao,cap,hv⟩:=row_slice h.row;have c0:w2.cell? ⟨wb,0,none⟩=some psv:=hB2.cell rfl;rw[hv] at c0 hr2;have hr3:=hr2.alloc (.cells #[.pointer (some ⟨xb,0,none⟩),.pointer (some ⟨w1.heap.size,0,none⟩)] 61);have hwl2:=hB2.lt;have HH:=hide h;have HX:=hide hx;have HK01:=hide hk01;have HV1:=hide hV1;have HW2:=hide hw2;have HS2:=hide hs2;have HV:=hide hv;have HB2:=hide hB2;clear h hx hk01 hV1 hw2 hs2 hv hr2 hk2 hk0 hB2
 go_wp2_with (first
  | (at_builtin;refine wpList_append_to _ rfl _ _ 25 rfl 55 i0 (.pointer none) 1 8 Tryz.underlying25 hi hz0 hz1 hz2 rfl (by decide) _ _ _ rfl (hr3.alloc _) ⟨w2.heap.size+1,0,none⟩ 1 1 [.pointer (some ⟨w2.heap.size,0,none⟩)] rfl rfl ?c1 ?c2 ?c3 ?c4 ?_)
  | go_in)
 case c1=>
  intro j u hj
  match j,hj with
  | 0,hj=>
   simp at hj;subst hj;rw[addr_add];have:=(Blk.new (w2.alloc (.cells #[.pointer (some ⟨xb,0,none⟩),.pointer (some ⟨w1.heap.size,0,none⟩)] 61)) #[.pointer (some ⟨w2.heap.size,0,none⟩)] 55).cell (o:=0) rfl;rw[show (w2.alloc (.cells #[.pointer (some ⟨xb,0,none⟩),.pointer (some ⟨w1.heap.size,0,none⟩)] 61)).heap.size=w2.heap.size+1 by simp] at this;exact this
 case c2=>intro u hu;simp at hu;subst hu;rfl
 case c3=>unfold maxLen;omega
 case c4=>omega
 intro v' w4 hown hgrow hnx;obtain⟨a4,p4,rfl⟩:=row_slice hown;have hk24:Kp w2 w4 (fun b=>own psv b):=(((Kp.refl w2 _).alloc (.cells #[.pointer (some ⟨xb,0,none⟩),.pointer (some ⟨w1.heap.size,0,none⟩)] 61)).alloc (.cells #[.pointer (some ⟨w2.heap.size,0,none⟩)] 55)).grown hgrow (fun b _ e=>by rw[HV.out];exact e);have hnwb:¬ own psv wb:=own_ne HH.out.row HH.out.blk (by decide);have hB4:=hk24.blk HB2.out hnwb;have q0:w4.cell? ⟨wb,0,none⟩=some psv:=hB4.cell rfl;have q1:=hB4.free 0;rw[HV.out] at q0;have hsz:w2.heap.size=w1.heap.size+1:=HS2.out;have hpb4:Blk w4 w2.heap.size 61 #[.pointer (some ⟨xb,0,none⟩),.pointer (some ⟨w1.heap.size,0,none⟩)]:=by
  have hb3:Blk ((w2.alloc (.cells #[.pointer (some ⟨xb,0,none⟩),.pointer (some ⟨w1.heap.size,0,none⟩)] 61)).alloc (.cells #[.pointer (some ⟨w2.heap.size,0,none⟩)] 55)) w2.heap.size 61 #[.pointer (some ⟨xb,0,none⟩),.pointer (some ⟨w1.heap.size,0,none⟩)]:=(Blk.new w2 _ _).alloc _;refine hb3.same (hgrow.block _ (by simp;omega) (fun e=>?_));have ho:own psv w2.heap.size:=by rw[HV.out];exact e.symm
  have h1:=own_lt HH.out.row ho;have h2:=HK01.out.size;omega
 have HFIN:Hid (StepPost PS B w (w4.setCell ⟨wb,0,none⟩ (.slice a4 (ps.length+1) p4)) wb ps.length kept.length):=by
  have hk5:Kp (w1.alloc (.cells rs0.arr 67)) (w4.setCell ⟨wb,0,none⟩ (.slice a4 (ps.length+1) p4)) (fun b=>b=wb\/own psv b):=by
   rw[<-HW2.out];exact (hk24.mono (fun _ _ h=>.inr h)).set (a:=⟨wb,0,none⟩) (fun _=>.inl rfl) _
  have hwne:w2.heap.size ≠ wb:=by have:=HH.out.blk.lt;have:=HK01.out.size;omega
  obtain⟨⟨c',hW⟩,hbel⟩:=HH.out.added P HX.out HK01.out HV1.out (pb:=w2.heap.size) (by omega) (hpb4.setOther hwne _) hk5 (hB4.set 0 _)
   (ownsRow_setCell_other hown (a:=⟨wb,0,none⟩) (own_ne hown hB4 (by decide)) _)
   (fun k hk=>by
    rcases hnx k hk with h1|h1
    ·left;rw[HV.out];exact h1
    ·right;first|omega|(simp at h1;omega))
  exact⟨_,_,_,_,_,_,hW,by simp,by omega,hbel⟩
 clear hown hgrow hnx hk24 hB4 hpb4 hsz;go_wp2;go_ret;exact⟨rfl,HFIN.out⟩
end
end
section
open Go.RowKit
structure Scr (W:World) (b off:Nat) (i:Nat) (K A N M:Int) (S:ByteArray):Prop where
 c0:W.cell? ⟨b,off+i * 5,none⟩=some (.int .i64 K)
 c1:W.cell? ⟨b,off+i * 5+1,none⟩=some (.int .i64 A)
 c2:W.cell? ⟨b,off+i * 5+2,none⟩=some (.int .i64 N)
 c3:W.cell? ⟨b,off+i * 5+3,none⟩=some (.int .i64 M)
 c4:W.cell? ⟨b,off+i * 5+4,none⟩=some (.string S)
 a:In A
 n:In N
section
variable {PS:World->Nat->(Nat->Prop)->St->Prop} {B:Nat} {W0:World} (P:PCon B W0 PS)
include P
theorem stepL (c:Nat->Nat) (w:World) (wb:Nat) (psv kv:Value) (n:Int) (ps:List Pr) (kept:List Ke) (K A N M:Int) (S:ByteArray) (h:WIn PS B c w wb psv kv n ps kept) (hb0:Below B W0 w) (hK:K<=5) (hA:In A) (hN:In N) (hn2:ps.length<=4398046511104) (hkl:kept.length<=1000000000):
  Calls Tryz.prog 14 #[.pointer (some ⟨wb,0,none⟩),.agg #[.int .i64 K,.int .i64 A,.int .i64 N,.int .i64 M,.string S]] w fun e w'=>e=.returned (.bool true)/\StepPost PS B w w' wb ps.length kept.length:=by
 by_cases k1:K=1
 ·subst k1;exact stepNew P c w wb psv kv n ps kept A N M S h hb0 hn2
 by_cases hz:ps.length=0
 ·have:ps=[]:=List.eq_nil_of_length_eq_zero hz;subst this;exact stepNone P c w wb psv kv n kept K A N M S h (by simpa using k1)
 by_cases k2:K=2
 ·subst k2;exact stepLine P c w wb psv kv n ps kept A N M S h hA (by omega) hn2
 by_cases k3:K=3
 ·subst k3;exact stepStack P c w wb psv kv n ps kept A N M S h hA (by omega) hn2 hkl
 by_cases k4:K=4
 ·subst k4;exact stepCell P c w wb psv kv n ps kept A N M S h hA hN (by omega) hn2
 by_cases k5:K=5
 ·subst k5;exact stepWords P c w wb psv kv n ps kept A N M S h hA (by omega) hn2 hkl
 ·exact stepOther P c w wb psv kv n ps kept K A N M S h (by omega) hA (by omega) hn2
def URel (PS:World->Nat->(Nat->Prop)->St->Prop) (B:Nat) (W wr:World) (wb k:Nat):Prop:=∃ c psv kv n ps kept,WIn PS B c wr wb psv kv n ps kept/\ps.length<=k/\kept.length<=4 * k/\Below B W wr
theorem WIn.first (w1:World) (hB:B<=w1.heap.size):WIn PS B (fun b=>if b < B then 0 else 2) (w1.alloc (.cells #[.slice none 0 0,.int .i64 0,.slice none 0 0] 28)) w1.heap.size (.slice none 0 0) (.slice none 0 0) 0 [] []:=
 ⟨Blk.new _ _ _,if_neg (by omega),World.ownsRow_nil _ _ _ _,fun k hk=>by simp[own,Value.ownBlock] at hk,World.ownsRow_nil _ _ _ _,fun k hk=>by simp[own,Value.ownBlock] at hk,fun i hi=>by simp at hi,fun i hi=>by simp at hi,fun i hi=>by simp at hi,fun i hi=>by simp at hi,fun b hb=>if_pos hb,by simp;omega⟩
end
section
variable {PS:World->Nat->(Nat->Prop)->St->Prop}
theorem upToL (W:World) (P:PCon W.heap.size W PS) (b off len cap:Nat) (hb:b < W.heap.size) (hlen:len<=2000000) (hS:∀ i,i < len->∃ K A N M S,Scr W b off i K A N M S)
  (hH:Calls Tryz.prog 13 #[.int .i64 5] W fun e w'=>e=.returned (.bool true)/\Below W.heap.size W w'):
  Calls Tryz.prog 15 #[.slice (some ⟨b,off,none⟩) len cap,.int .i64 5] W fun e w'=>e=.returned (.int .i64 (-1))/\Below W.heap.size W w':=by
 have HS:=hide hS;clear hS;go_enter Tryz.func15,Tryz.ntmps15
 go_wp2_with fail
 refine hH.mono ?_;rintro e w1 ⟨rfl,hb1⟩;have HW0:Hid (URel PS W.heap.size W (w1.alloc (.cells #[.slice none 0 0,.int .i64 0,.slice none 0 0] 28)) w1.heap.size 0):=
  ⟨_,_,_,_,_,_,WIn.first P w1 hb1.size,by simp,by simp,hb1.alloc hb1.size _⟩
 clear hb1 hH;go_wp2
 go_loopw [7] (fun i wr=>∃ k:Nat,k<=len/\i=.int .i64 k/\URel PS W.heap.size W wr w1.heap.size k) (fun i _=>len - (intOf i).toNat)
 case atStart=>exact⟨0,Nat.zero_le _,rfl,HW0.out⟩
 case round=>
  clear HW0;obtain⟨k,hk,rfl,c,psv,kv,n,ps,kept,hw,hpl,hkl,hbel⟩:=hrel;by_cases hlt:k < len
  ·obtain⟨K,A,N,M,S,hs⟩:=HS.out k hlt;have d0:wr.cell? ⟨b,off+k * 5,none⟩=some (.int .i64 K):=(hbel.cell (p:=⟨b,off+k * 5,none⟩) hb).trans hs.c0;have d1:wr.cell? ⟨b,off+k * 5+1,none⟩=some (.int .i64 A):=(hbel.cell (p:=⟨b,off+k * 5+1,none⟩) hb).trans hs.c1;have d2:wr.cell? ⟨b,off+k * 5+2,none⟩=some (.int .i64 N):=(hbel.cell (p:=⟨b,off+k * 5+2,none⟩) hb).trans hs.c2;have d3:wr.cell? ⟨b,off+k * 5+3,none⟩=some (.int .i64 M):=(hbel.cell (p:=⟨b,off+k * 5+3,none⟩) hb).trans hs.c3;have d4:wr.cell? ⟨b,off+k * 5+4,none⟩=some (.string S):=(hbel.cell (p:=⟨b,off+k * 5+4,none⟩) hb).trans hs.c4;by_cases hK:K<=5
   ·have HST:=hide (stepL P c wr w1.heap.size psv kv n ps kept K A N M S hw hbel hK hs.a hs.n (by omega) (by omega));have HBEL:=hide hbel;have hK5:¬ 5 < K:=by omega
    clear hw hbel hs hK
    go_wp2_with fail
    refine HST.out.mono ?_;rintro e w2 ⟨rfl,c2,psv2,kv2,n2,ps2,kept2,hw2,hpl2,hkl2,hbel2⟩;have HB2:Hid (Below W.heap.size W w2):=HBEL.out.trans hbel2;have HW2:=hide hw2;have HSTI:=hide (stillL w2 w1.heap.size psv2 kv2 n2 kept2 hw2.blk hw2.krow (by omega) (fun i hi=>(hw2.ke i hi).rd));clear hw2 hbel2 HBEL HST d0 d1 d2 d3 d4
    go_wp2_with fail
    refine HSTI.out.mono ?_;rintro e w3 ⟨rfl,hk3⟩;have HR:Hid (URel PS W.heap.size W w3 w1.heap.size (k+1)):=⟨_,_,_,_,_,_,HW2.out.idle P hk3,by omega,by omega,HB2.out.trans (Kp.low P hk3 HW2.out.bl)⟩;clear hk3 HW2 HB2 HSTI;go_wp2
    go_roundw
    case rel=>exact⟨k+1,by omega,by go_num,HR.out⟩
    case measure=>simp[intOf];omega
   ·have HR:Hid (URel PS W.heap.size W wr w1.heap.size (k+1)):=⟨_,_,_,_,_,_,hw,by omega,by omega,hbel⟩;have hK5:5 < K:=by omega
    clear hw hbel hs hK;go_wp2
    go_roundw
    case rel=>exact⟨k+1,by omega,by go_num,HR.out⟩
    case measure=>simp[intOf];omega
  ·have HB2:=hide hbel;clear hw hbel;go_wp2;go_ret;exact⟨rfl,HB2.out⟩
end
end
end Go.Proofs.YteainaiebcphlaaGreatDoor
