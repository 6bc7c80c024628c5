import Derived.Test.YteainaiebcphlaaGreatDoorV45
namespace Go.Proofs.YteainaiebcphlaaGreatDoor
set_option maxRecDepth 1000000
set_option maxHeartbeats 4000000
set_option linter.all false
section
open Go.RowKit
structure Ke where
 n:Int
 nv:Value
 nl:Nat
 mv:Value
 ml:Nat
def keCells:List Ke->List Value
 | []=>[]
 | e :: l=>.int .i64 e.n :: e.nv :: e.mv :: keCells l
theorem keCells_app:∀ (a b:List Ke),keCells (a ++ b)=keCells a ++ keCells b
 | [],b=>rfl
 | e :: a,b=>by simp[keCells,keCells_app a b]
theorem keCells_at:∀ (l:List Ke) (i:Nat) (h:i < l.length),(keCells l)[i * 3]? = some (.int .i64 l[i].n)/\(keCells l)[i * 3+1]? = some l[i].nv/\(keCells l)[i * 3+2]? = some l[i].mv
 | [],i,h=>absurd h (by simp)
 | e :: l,0,h=>⟨rfl,rfl,rfl⟩
 | e :: l,i+1,h=>by
  have:=keCells_at l i (by simpa using h);rw[show (i+1) * 3=i * 3+1+1+1 by omega,show i * 3+1+1+1+1=i * 3+1+1+1+1 from rfl,show i * 3+1+1+1+2=i * 3+2+1+1+1 by omega];exact this
structure KeRd (w:World) (e:Ke):Prop where
 nums:Rd w e.nv e.nl (.int .i64 (wrap64 (-e.n)))
 names:Rd w e.mv e.ml (.string (markP e.n))
 l1:e.nl<=1000
 l2:e.ml<=1000
theorem Rd.kpF {w w':World} {v:Value} {l:Nat} {u:Value} (h:Rd w v l u) (hk:Kp w w' (fun _=>False)):Rd w' v l u:=h.move (fun _ _ h=>cell_kp hk (fun h=>h) h)
theorem stillL (w:World) (wb:Nat) (psv kv:Value) (n:Int) (kept:List Ke) (hB:Blk w wb 28 #[psv,.int .i64 n,kv]) (hkr:w.ownsRow 0 89 3 kv kept.length (keCells kept)) (hm:kept.length<=2000000000) (hK:∀ i (hi:i < kept.length),KeRd w kept[i]):
  Calls Tryz.prog 26 #[.pointer (some ⟨wb,0,none⟩)] w fun e w'=>e=.returned (.bool true)/\Kp w w' (fun _=>False):=by
 obtain⟨aw,pw,rfl⟩:=row_slice hkr;have HB:=hide hB;have HKR:=hide hkr;have HK:=hide hK;clear hB hkr hK;go_enter Tryz.func26,Tryz.ntmps26;go_wp2
 go_loopw [3] (fun i wr=>∃ k:Nat,k<=kept.length/\i=.int .i64 k/\Kp w wr (fun _=>False)) (fun i _=>kept.length - (intOf i).toNat)
 case atStart=>exact⟨0,Nat.zero_le _,rfl,Kp.refl _ _⟩
 case round=>
  obtain⟨k,hk,rfl,hkp⟩:=hrel;have hB1:=hkp.blk HB.out (fun h=>h);have cw:wr.cell? ⟨wb,2,none⟩=some (.slice aw kept.length pw):=hB1.cell rfl;by_cases hlt:k < kept.length
  ·have hkr1:=hkp.row HKR.out (fun _ _ h=>h);obtain⟨gk,capk,e1,hc⟩:=row_cell hkr1 (by omega);injection e1 with e1 e2 e3;subst e1;clear e2 e3;obtain⟨x0,x1,x2⟩:=keCells_at kept k hlt;have c0:=hc _ _ x0;have c1:=hc _ _ x1;have c2:=hc _ _ x2;have hR:=HK.out k hlt;obtain⟨an,pn,en,-⟩:=hR.nums;obtain⟨am,pm,em,-⟩:=hR.names;rw[en] at c1;rw[em] at c2;clear hc x0 x1 x2 hkr1;go_wp2;have HI:Hid (Kp w (wr.alloc (.cells #[.int .i64 kept[k].n,.slice an kept[k].nl pn,.slice am kept[k].ml pm] 89)) (fun _=>False)/\Blk (wr.alloc (.cells #[.int .i64 kept[k].n,.slice an kept[k].nl pn,.slice am kept[k].ml pm] 89)) wr.heap.size 89 #[.int .i64 kept[k].n,.slice an kept[k].nl pn,.slice am kept[k].ml pm]):=⟨hkp.alloc _,Blk.new _ _ _⟩;generalize wr.heap.size=kb at HI ⊢;generalize wr.alloc (.cells #[.int .i64 kept[k].n,.slice an kept[k].nl pn,.slice am kept[k].ml pm] 89)=w1 at HI ⊢;have HR:=hide hR;have HEN:=hide en;have HEM:=hide em;have hl1:=hR.l1;have hl2:=hR.l2;clear hkp hB1 cw c0 c1 c2 hR en em;generalize hke:kept[k]=e at HI HR HEN HEM hl1 hl2 ⊢;clear hke
   go_loopw [5] (fun j wr=>∃ q:Nat,q<=e.nl/\j=.int .i64 q/\Kp w wr (fun _=>False)/\Blk wr kb 89 #[.int .i64 e.n,.slice an e.nl pn,.slice am e.ml pm]) (fun j _=>e.nl - (intOf j).toNat)
   case atStart=>exact⟨0,Nat.zero_le _,rfl,HI.out.1,HI.out.2⟩
   case round=>
    clear HI;obtain⟨q,hq,rfl,hkp,hblk⟩:=hrel;have d0:wr.cell? ⟨kb,0,none⟩=some (.int .i64 e.n):=hblk.cell rfl;have d1:wr.cell? ⟨kb,1,none⟩=some (.slice an e.nl pn):=hblk.cell rfl;have HN:Hid (Kp w wr (fun _=>False)/\Blk wr kb 89 #[.int .i64 e.n,.slice an e.nl pn,.slice am e.ml pm]):=⟨hkp,hblk⟩;by_cases hql:q < e.nl
    ·obtain⟨ao,cap,ea,hcell⟩:=HR.out.nums.kpF hkp;rw[HEN.out] at ea;injection ea with ea eb ec;subst ea;obtain⟨g,eg,cg⟩:=hcell q hql;subst eg;clear hcell hkp hblk eb ec;go_wp2
     go_quiet (fail)
     go_wp2
     go_roundw
     case rel=>exact⟨q+1,by omega,by go_num,HN.out.1.drewN _,HN.out.2.drewN _⟩
     case measure=>simp[intOf];omega
    ·clear hkp hblk;go_wp2
     go_loopw [6] (fun j wr=>∃ q:Nat,q<=e.ml/\j=.int .i64 q/\Kp w wr (fun _=>False)/\Blk wr kb 89 #[.int .i64 e.n,.slice an e.nl pn,.slice am e.ml pm]) (fun j _=>e.ml - (intOf j).toNat)
     case atStart=>exact⟨0,Nat.zero_le _,rfl,HN.out.1,HN.out.2⟩
     case round=>
      clear HN d0 d1;obtain⟨q2,hq2,rfl,hkp,hblk⟩:=hrel;have d0:wr.cell? ⟨kb,0,none⟩=some (.int .i64 e.n):=hblk.cell rfl;have d2:wr.cell? ⟨kb,2,none⟩=some (.slice am e.ml pm):=hblk.cell rfl;have HN:Hid (Kp w wr (fun _=>False)/\Blk wr kb 89 #[.int .i64 e.n,.slice an e.nl pn,.slice am e.ml pm]):=⟨hkp,hblk⟩;by_cases hql2:q2 < e.ml
      ·obtain⟨ao,cap,ea,hcell⟩:=HR.out.names.kpF hkp;rw[HEM.out] at ea;injection ea with ea eb ec;subst ea;obtain⟨g,eg,cg⟩:=hcell q2 hql2;subst eg;clear hcell hkp hblk eb ec;have HM:Hid (∀ wx,Kp wr wx (fun _=>False)->Calls Tryz.prog 50 #[.int .i64 e.n] wx fun x w'=>x=.returned (.string (markP e.n))/\Kp wr w' (fun _=>False)/\w'.cell? ⟨kb,0,none⟩=some (.int .i64 e.n)/\w'.cell? ⟨kb,2,none⟩=some (.slice (some ⟨g,0,none⟩) e.ml pm)/\w'.cell? ⟨g,q2,none⟩=some (.string (markP e.n))):=by
        intro wx hx;refine (markL e.n wx).mono ?_;rintro x w' ⟨rfl,hk'⟩;have hk2:=hx.trans hk';exact⟨rfl,hk2,cell_kp hk2 (fun h=>h) d0,cell_kp hk2 (fun h=>h) d2,cell_kp hk2 (fun h=>h) cg⟩
       go_wp2_with fail
       go_region_with (go_at_call 50;refine (HM.out _ ?_).mono ?_;exact (Kp.refl wr _).drew;rintro x w5 ⟨rfl,hk5,y0,y2,yg⟩)
       all_goals
        have HN5:Hid (Kp w w5 (fun _=>False)/\Blk w5 kb 89 #[.int .i64 e.n,.slice an e.nl pn,.slice (some ⟨g,0,none⟩) e.ml pm]):=⟨HN.out.1.trans hk5,hk5.blk HN.out.2 (fun h=>h)⟩;clear hk5 HN;go_wp2
        go_roundw
        case rel=>exact⟨q2+1,by omega,by go_num,HN5.out.1,HN5.out.2⟩
        case measure=>simp[intOf];omega
      ·clear hkp hblk;go_wp2
       go_roundw
       case rel=>exact⟨k+1,by omega,by go_num,HN.out.1⟩
       case measure=>simp[intOf];omega
  ·go_wp2;go_ret;exact⟨rfl,hkp⟩
end
section
open Go.RowKit
def RdC (c:Nat->Nat) (w:World) (v:Value) (l:Nat) (u:Value):Prop:=∃ ao cap,v=.slice ao l cap/\∀ j,j < l->∃ g,ao=some ⟨g,0,none⟩/\c g=1/\w.cell? ⟨g,j,none⟩=some u
theorem RdC.rd {c:Nat->Nat} {w:World} {v:Value} {l:Nat} {u:Value} (h:RdC c w v l u):Rd w v l u:=by
 obtain⟨ao,cap,e,h⟩:=h;exact⟨ao,cap,e,fun j hj=>by obtain⟨g,h1,_,h2⟩:=h j hj;exact⟨g,h1,h2⟩⟩
theorem cell_lt {w:World} {q j:Nat} {u:Value} (hc:w.cell? ⟨q,j,none⟩=some u):q < w.heap.size:=by
 rcases Nat.lt_or_ge q w.heap.size with h|h
 ·exact h
 ·unfold World.cell? at hc;rw[Array.getElem?_eq_none h] at hc;cases hc
theorem RdC.mv {A:Nat->Prop} {c c':Nat->Nat} {w w':World} {v:Value} {l:Nat} {u:Value} (h:RdC c w v l u) (hm:Mv A c w c' w') (h1:¬ A 1):RdC c' w' v l u:=by
 obtain⟨ao,cap,e,h⟩:=h;refine⟨ao,cap,e,fun j hj=>?_⟩;obtain⟨g,h2,h3,h4⟩:=h j hj;refine⟨g,h2,by rw[hm.old g (cell_lt h4)];exact h3,cell_kp hm.kp (fun e=>?_) h4⟩;have e:A (c g):=e;rw[h3] at e;exact h1 e
theorem RdC.nil (c:Nat->Nat) (w:World) (u:Value):RdC c w (.slice none 0 0) 0 u:=⟨none,0,rfl,fun j hj=>by omega⟩
theorem RdC.of {c:Nat->Nat} {w:World} {v:Value} {l:Nat} {u:Value} (h:Rd w v l u) (hc:∀ b,own v b->c b=1):RdC c w v l u:=by
 obtain⟨ao,cap,rfl,h⟩:=h;refine⟨ao,cap,rfl,fun j hj=>?_⟩;obtain⟨g,rfl,h2⟩:=h j hj;exact⟨g,rfl,hc g rfl,h2⟩
structure KeC (c:Nat->Nat) (w:World) (e:Ke):Prop where
 nums:RdC c w e.nv e.nl (.int .i64 (wrap64 (-e.n)))
 names:RdC c w e.mv e.ml (.string (markP e.n))
 l1:e.nl<=1000
 l2:e.ml<=1000
theorem KeC.rd {c:Nat->Nat} {w:World} {e:Ke} (h:KeC c w e):KeRd w e:=⟨h.nums.rd,h.names.rd,h.l1,h.l2⟩
theorem KeC.mv {A:Nat->Prop} {c c':Nat->Nat} {w w':World} {e:Ke} (h:KeC c w e) (hm:Mv A c w c' w') (h1:¬ A 1):KeC c' w' e:=⟨h.nums.mv hm h1,h.names.mv hm h1,h.l1,h.l2⟩
theorem RdC.re {c c':Nat->Nat} {w:World} {v:Value} {l:Nat} {u:Value} (h:RdC c w v l u) (hc:∀ b,c b=1->c' b=1):RdC c' w v l u:=by
 obtain⟨ao,cap,e,h⟩:=h;refine⟨ao,cap,e,fun j hj=>?_⟩;obtain⟨g,h2,h3,h4⟩:=h j hj;exact⟨g,h2,hc g h3,h4⟩
theorem KeC.re {c c':Nat->Nat} {w:World} {e:Ke} (h:KeC c w e) (hc:∀ b,c b=1->c' b=1):KeC c' w e:=⟨h.nums.re hc,h.names.re hc,h.l1,h.l2⟩
def ptrsP (ps:List Pr):List Value:=ps.map fun p=>.pointer (some ⟨p.pb,0,none⟩)
structure WIn (PS:World->Nat->(Nat->Prop)->St->Prop) (B:Nat) (c:Nat->Nat) (w:World) (wb:Nat) (psv kv:Value) (n:Int) (ps:List Pr) (kept:List Ke):Prop where
 blk:Blk w wb 28 #[psv,.int .i64 n,kv]
 cw:c wb=2
 row:w.ownsRow 0 55 1 psv ps.length (ptrsP ps)
 cr:∀ k,own psv k->c k=2
 krow:w.ownsRow 0 89 3 kv kept.length (keCells kept)
 ck:∀ k,own kv k->c k=2
 pin:∀ i (hi:i < ps.length),PrIn B PS c w i ps[i]
 same:∀ i (hi:i < ps.length),ps[i].sx=ps[i].s
 wf:∀ i (hi:i < ps.length),WFs ps[i].s
 ke:∀ i (hi:i < kept.length),KeC c w kept[i]
 low:∀ b,b < B->c b=0
 bl:B<=w.heap.size
theorem cx_two (i:Nat):¬ cx i=2:=by unfold cx;omega
theorem cy_two (i:Nat):¬ cy i=2:=by unfold cy;omega
theorem cx_one (i:Nat):¬ cx i=1:=by unfold cx;omega
theorem cx_zero (i:Nat):¬ cx i=0:=by unfold cx;omega
section
variable {PS:World->Nat->(Nat->Prop)->St->Prop} {B:Nat} {W0:World} (P:PCon B W0 PS)
include P
theorem WIn.ranE {c c':Nat->Nat} {w w':World} {wb:Nat} {psv kv:Value} {n:Int} {ps:List Pr} {kept:List Ke} (h:WIn PS B c w wb psv kv n ps kept) (i:Nat) (hi:i < ps.length) {V':Nat->Prop} {rs':RS} {s':St} (hq:PrIn B PS c' w' i { ps[i] with V:=V',sx:=s',rs:=rs',s:=s' }) (hwf:WFs s') (hm:Mv (fun a=>a=cx i\/a=cy i) c w c' w'):
  WIn PS B c' w' wb psv kv n (ps.set i { ps[i] with V:=V',sx:=s',rs:=rs',s:=s' }) kept:=by
 have n0:¬ ((0:Nat)=cx i\/(0:Nat)=cy i):=by unfold cx cy;omega
 have n1:¬ ((1:Nat)=cx i\/(1:Nat)=cy i):=by unfold cx cy;omega
 have n2:∀ k,c k=2->¬ (c k=cx i\/c k=cy i):=fun k hk=>by rw[hk];unfold cx cy;omega
 refine⟨hm.kp.blk h.blk (n2 _ h.cw),by rw[hm.old _ h.blk.lt];exact h.cw,?_,fun k hk=>by rw[hm.old _ (own_lt h.row hk)];exact h.cr k hk,hm.kp.row h.krow (fun k hk=>n2 _ (h.ck k hk)),fun k hk=>by rw[hm.old _ (own_lt h.krow hk)];exact h.ck k hk,?_,?_,?_,fun j hj=>(h.ke j hj).mv hm n1,fun b hb=>by rw[hm.old b (Nat.lt_of_lt_of_le hb h.bl)];exact h.low b hb,Nat.le_trans h.bl hm.kp.size⟩
 ·have e1:ptrsP (ps.set i { ps[i] with V:=V',sx:=s',rs:=rs',s:=s' })=ptrsP ps:=by
   unfold ptrsP
   apply List.ext_getElem?
   intro j;rw[List.getElem?_map,List.getElem?_map,List.getElem?_set]
   split
   ·rename_i e;subst e;simp[hi]
   ·rfl
  rw[List.length_set,e1];exact hm.kp.row h.row (fun k hk=>n2 _ (h.cr k hk))
 ·intro j hj;rw[List.length_set] at hj;rw[List.getElem_set]
  split
  ·rename_i e;subst e;exact hq
  ·rename_i hij
   refine (h.pin j hj).other P hm n0 ?_ ?_
   ·rintro (e|e)
    ·exact hij (cx_inj e).symm
    ·exact cx_cy _ _ e
   ·rintro (e|e)
    ·exact cx_cy _ _ e.symm
    ·exact hij (cy_inj e).symm
 ·intro j hj;rw[List.length_set] at hj;rw[List.getElem_set]
  split
  ·rfl
  ·exact h.same j hj
 ·intro j hj;rw[List.length_set] at hj;rw[List.getElem_set]
  split
  ·exact hwf
  ·exact h.wf j hj
theorem WIn.ran {c:Nat->Nat} {w w':World} {wb:Nat} {psv kv:Value} {n:Int} {ps:List Pr} {kept:List Ke} (h:WIn PS B c w wb psv kv n ps kept) (i:Nat) (hi:i < ps.length) (hp:PrPost B PS c w w' i ps[i]):
  ∃ c' ps',WIn PS B c' w' wb psv kv n ps' kept/\ps'.length=ps.length/\Below B w w':=by
 obtain⟨c',V',rs',s',hq,hwf,hm⟩:=hp;refine⟨c',_,h.ranE P i hi hq hwf hm,by simp,hm.kp.below h.bl (fun k hk e=>?_)⟩;have e:c k=cx i\/c k=cy i:=e;rw[h.low k hk] at e;unfold cx cy at e;omega
theorem PrIn.re {c c':Nat->Nat} {w:World} {i:Nat} {p:Pr} (h:PrIn B PS c w i p) (hc:∀ b,c' b ≠ c b->c b ≠ 0/\c b ≠ cy i/\¬ p.V b):PrIn B PS c' w i p:=by
 have key:∀ b,(c b=0\/c b=cy i\/p.V b)->c' b=c b:=fun b hb=>by
  by_cases e:c' b=c b
  ·exact e
  ·obtain⟨h1,h2,h3⟩:=hc b e;rcases hb with hb|hb|hb
   ·exact absurd hb h1
   ·exact absurd hb h2
   ·exact absurd hb h3
 refine⟨h.blk,by rw[key _ (.inl h.cp)];exact h.cp,h.x,fun k hk=>by rw[key k (.inr (.inr hk))];exact h.cv k hk,h.y.less (fun b hb=>⟨hb.1,fun e=>?_⟩),by rw[key _ (.inr (.inl h.cyb))];exact h.cyb,fun k hk=>by rw[key k (.inr (.inl (h.cn k hk)))];exact h.cn k hk,fun k hk=>by rw[key k (.inr (.inl (h.cd k hk)))];exact h.cd k hk,fun b hb=>by rw[key b (.inl (h.low b hb))];exact h.low b hb,h.bl⟩;exact hb.2 (by rw[key b (.inr (.inl e))];exact e)
end
end
section
open Go.RowKit
section
variable {PS:World->Nat->(Nat->Prop)->St->Prop} {B:Nat} {W0:World} (P:PCon B W0 PS)
include P
theorem WIn.listed {c:Nat->Nat} {w w':World} {wb:Nat} {psv kv kv' v:Value} {n n':Int} {ps:List Pr} {kept four:List Ke} (h:WIn PS B c w wb psv kv n ps kept)
  (hv:∀ k,own v k->k < w.heap.size/\c k ≠ 0/\c k ≠ 1/\c k ≠ 2/\∀ j (hj:j < ps.length),c k ≠ cy j/\¬ ps[j].V k)
  (hkp:Kp w w' (fun b=>b=wb\/own kv b\/own v b)) (hblk:Blk w' wb 28 #[psv,.int .i64 n',kv']) (hkr:w'.ownsRow 0 89 3 kv' (kept ++ four).length (keCells (kept ++ four))) (hkn:∀ b,own kv' b->own kv b\/w.heap.size<=b)
  (LB:Nat->Prop) (hLB:∀ b,LB b->own v b\/w.heap.size<=b) (hLT:∀ b,LB b->∃ t cc,Blk w' b t cc/\(t=3\/t=9))
  (hf:∀ i (hi:i < four.length),KeRd w' four[i]/\(∀ b,own four[i].nv b->LB b)/\(∀ b,own four[i].mv b->LB b)):
  (∃ c',WIn PS B c' w' wb psv kv' n' ps (kept ++ four))/\Below B w w':=by
 classical
 have hw2:=h.cw
 let c1:Nat->Nat:=fun b=>if own v b then 2 else c b
 have e1:∀ b,¬ own v b->c1 b=c b:=fun b hb=>if_neg hb;have e2:∀ b,own v b->c1 b=2:=fun b hb=>if_pos hb;have two:∀ b,c b=2->c1 b=2:=fun b hb=>by
  by_cases ho:own v b
  ·exact e2 b ho
  ·rw[e1 b ho];exact hb
 have hk1:Kp w w' (fun b=>c1 b=2):=hkp.mono (fun b _ hb=>by
  rcases hb with e|e|e
  ·rw[e];exact two _ hw2
  ·exact two _ (h.ck b e)
  ·exact e2 b e)
 have hm:=Mv.paint hk1;have p1:∀ i (hi:i < ps.length),PrIn B PS c1 w i ps[i]:=fun i hi=>(h.pin i hi).re P (fun b hb=>by
  have ho:own v b:=by
   by_cases ho:own v b
   ·exact ho
   ·exact absurd (e1 b ho) hb
  obtain⟨_,q0,_,_,q3⟩:=hv b ho;exact⟨q0,(q3 i hi).1,(q3 i hi).2⟩)
 have p2:∀ i (hi:i < ps.length),PrIn B PS (paint c1 w.heap.size 2) w' i ps[i]:=fun i hi=>(p1 i hi).other P hm (by decide) (cx_two i) (cy_two i);have l2:∀ b,LB b->paint c1 w.heap.size 2 b=2:=fun b hb=>by
  rcases hLB b hb with h1|h1
  ·rw[hm.old b (hv b h1).1];exact e2 b h1
  ·exact hm.new b h1
 let c3:Nat->Nat:=fun b=>if LB b then 1 else paint c1 w.heap.size 2 b
 have f1:∀ b,¬ LB b->c3 b=paint c1 w.heap.size 2 b:=fun b hb=>if_neg hb;have f2:∀ b,LB b->c3 b=1:=fun b hb=>if_pos hb;have nw:¬ LB wb:=fun hb=>by
  obtain⟨t,cc,hcc,ht⟩:=hLT wb hb;have:=(hcc.inj hblk).1;subst this;rcases ht with ht|ht
  ·exact absurd ht (by decide)
  ·exact absurd ht (by decide)
 have nr:∀ k,own psv k->¬ (k=wb\/own kv k\/own v k):=by
  rintro k hk (e|e|e)
  ·subst e;exact own_ne h.row h.blk (by decide) hk
  ·obtain⟨cc,hcc⟩:=row_blk h.row hk;exact absurd (row_type h.krow e hcc) (by decide)
  ·exact (hv k e).2.2.2.1 (h.cr k hk)
 have hrow':=hkp.row h.row nr;have nv:∀ b,b < B->¬ own v b:=fun b hb ho=>(hv b ho).2.1 (h.low b hb);refine⟨⟨c3,hblk,?_,hrow',fun k hk=>?_,hkr,fun k hk=>?_,fun i hi=>?_,h.same,h.wf,fun i hi=>?_,fun b hb=>?_,Nat.le_trans h.bl hkp.size⟩,hk1.below h.bl (fun k hk e=>?_)⟩
 ·rw[f1 _ nw,hm.old _ h.blk.lt];exact two _ hw2
 ·have nk:¬ LB k:=fun hb=>by
   obtain⟨t,cc,hcc,ht⟩:=hLT k hb;have:=row_type hrow' hk hcc;subst this;rcases ht with ht|ht
   ·exact absurd ht (by decide)
   ·exact absurd ht (by decide)
  rw[f1 _ nk,hm.old _ (own_lt h.row hk)];exact two _ (h.cr k hk)
 ·have nk:¬ LB k:=fun hb=>by
   obtain⟨t,cc,hcc,ht⟩:=hLT k hb;have:=row_type hkr hk hcc;subst this;rcases ht with ht|ht
   ·exact absurd ht (by decide)
   ·exact absurd ht (by decide)
  rw[f1 _ nk];rcases hkn k hk with h1|h1
  ·rw[hm.old _ (own_lt h.krow h1)];exact two _ (h.ck k h1)
  ·exact hm.new k h1
 ·refine (p2 i hi).re P (fun b hb=>?_);have ho:LB b:=by
   by_cases ho:LB b
   ·exact ho
   ·exact absurd (f1 b ho) hb
  have hb2:=l2 b ho;refine⟨by rw[hb2];decide,by rw[hb2];exact fun e=>cy_two i e.symm,fun hV=>?_⟩;have:=(p2 i hi).cv b hV;rw[hb2] at this;exact cx_two i this.symm
 ·by_cases hlt:i < kept.length
  ·rw[List.getElem_append_left hlt];have k1:KeC c1 w kept[i]:=(h.ke i hlt).re (fun b hb=>by
    by_cases ho:own v b
    ·exact absurd hb (hv b ho).2.2.1
    ·rw[e1 b ho];exact hb)
   refine (k1.mv hm (by decide)).re (fun b hb=>?_);by_cases ho:LB b
   ·exact f2 b ho
   ·rw[f1 b ho];exact hb
  ·rw[List.getElem_append_right (by omega)];have hi2:i - kept.length < four.length:=by simp at hi;omega
   obtain⟨hr,h1,h2⟩:=hf (i - kept.length) hi2;exact⟨RdC.of hr.nums (fun b hb=>f2 b (h1 b hb)),RdC.of hr.names (fun b hb=>f2 b (h2 b hb)),hr.l1,hr.l2⟩
 ·have nl:¬ LB b:=fun hL=>by
   rcases hLB b hL with h1|h1
   ·exact nv b hb h1
   ·have:=h.bl;omega
  rw[f1 b nl,hm.old b (Nat.lt_of_lt_of_le hb h.bl),e1 b (nv b hb)];exact h.low b hb
 ·have e:c1 k=2:=e;rw[e1 k (nv k hk),h.low k hk] at e;omega
end
end
section
open Go.RowKit
section
variable {PS:World->Nat->(Nat->Prop)->St->Prop} {B:Nat} {W0:World} (P:PCon B W0 PS)
include P
theorem WIn.gave {c:Nat->Nat} {w w1:World} {wb:Nat} {psv kv v:Value} {n:Int} {ps:List Pr} {kept:List Ke} {e:TypeId} {z l:Nat} {xs:List Value} {V':Nat->Prop} (h:WIn PS B c w wb psv kv n ps kept) (i:Nat) (hi:i < ps.length)
  (hx:PS w1 ps[i].xb V' ps[i].s) (hto:To (fun _=>False) w w1 ps[i].V V') (hrow:w1.ownsRow w.heap.size e z v l xs) (hne:∀ k,own v k->¬ V' k):
  ∃ c1 ps1,WIn PS B c1 w1 wb psv kv n ps1 kept/\(∃ hl:ps1.length=ps.length,(ps1[i]'(by omega)).yb=ps[i].yb/\(ps1[i]'(by omega)).rs=ps[i].rs/\(ps1[i]'(by omega)).s=ps[i].s/\(ps1[i]'(by omega)).pb=ps[i].pb)/\Below B w w1 /\
   (∀ k,own v k->k < w1.heap.size/\c1 k ≠ 0/\c1 k ≠ 1/\c1 k ≠ 2/\∀ j (hj:j < ps1.length),c1 k ≠ cy j/\¬ ps1[j].V k):=by
 obtain⟨hq,hm⟩:=(h.pin i hi).ranX P hto hx;have hW:=h.ranE P i hi (V':=V') (rs':=ps[i].rs) (s':=ps[i].s) hq (h.wf i hi) (hm.mono (fun a h=>.inl h));refine⟨_,_,hW,⟨by simp,by simp,by simp,by simp,by simp⟩,hm.kp.below h.bl (fun k hk e=>?_),fun k hk=>?_⟩
 ·have e:c k=cx i:=e;rw[h.low k hk] at e;unfold cx at e;omega
 ·have hge:=(hrow.lt k hk).1;have hlt:=(hrow.lt k hk).2;have hck:paint c w.heap.size (cx i) k=cx i:=hm.new k hge;refine⟨hlt,by rw[hck];exact cx_zero i,by rw[hck];exact cx_one i,by rw[hck];exact cx_two i,fun j hj=>⟨by rw[hck];exact cx_cy i j,fun hV=>?_⟩⟩;have hcv:=(hW.pin j hj).cv k hV;rw[hck] at hcv;have:=cx_inj hcv;subst this;rw[List.getElem_set_self] at hV;exact hne k hk hV
end
def pickV (c n:Int):Int:=if c < 0 then (-(c+1)) % n else c % n
theorem pickV_lt (c n:Int) (hn:1<=n):0<=pickV c n/\pickV c n < n:=by
 unfold pickV
 split
 ·exact⟨Int.emod_nonneg _ (by omega),Int.emod_lt_of_pos _ (by omega)⟩
 ·exact⟨Int.emod_nonneg _ (by omega),Int.emod_lt_of_pos _ (by omega)⟩
theorem pickL (c n:Int) (w:World) (h0:-9223372036854775808<=c) (h1:c<=9223372036854775807) (hn:1<=n) (hn2:n<=4611686018427387904):
  Calls Tryz.prog 30 #[.int .i64 c,.int .i64 n] w fun e w'=>e=.returned (.int .i64 (pickV c n))/\w'=w:=by
 have hne:¬ n=0:=by omega
 by_cases hc:c < 0
 ·have HV:Hid (pickV c n = -((c+1).tmod n)):=by
   have h2:pickV c n=(-(c+1)) % n:=if_pos hc;unfold Hid;rw[h2,<-Int.neg_tmod,Int.tmod_eq_emod_of_nonneg (by omega)]
  go_enter Tryz.func30,Tryz.ntmps30;go_wp2;go_ret;exact⟨by rw[HV.out];rfl,rfl⟩
 ·have HV:Hid (pickV c n=c % n):=if_neg hc;have hc0:0<=c:=by omega
  clear hc;go_enter Tryz.func30,Tryz.ntmps30;go_wp2;go_ret;exact⟨by rw[HV.out];rfl,rfl⟩
end
section
open Go.RowKit
section
variable {PS:World->Nat->(Nat->Prop)->St->Prop} {B:Nat} {W0:World} (P:PCon B W0 PS)
include P
theorem WIn.idle {c:Nat->Nat} {w w':World} {wb:Nat} {psv kv:Value} {n:Int} {ps:List Pr} {kept:List Ke} (h:WIn PS B c w wb psv kv n ps kept) (hk:Kp w w' (fun _=>False)):WIn PS B (paint c w.heap.size 2) w' wb psv kv n ps kept:=by
 have hm:Mv (fun a=>a=2) c w (paint c w.heap.size 2) w':=Mv.paint (hk.mono (fun _ _ h=>h.elim));exact⟨hk.blk h.blk (fun h=>h),by rw[hm.old _ h.blk.lt];exact h.cw,hk.row h.row (fun _ _ h=>h),fun k hk=>by rw[hm.old _ (own_lt h.row hk)];exact h.cr k hk,hk.row h.krow (fun _ _ h=>h),fun k hk=>by rw[hm.old _ (own_lt h.krow hk)];exact h.ck k hk,
  fun i hi=>(h.pin i hi).other P hm (by decide) (cx_two i) (cy_two i),h.same,h.wf,fun i hi=>(h.ke i hi).mv hm (by decide),fun b hb=>by rw[hm.old b (Nat.lt_of_lt_of_le hb h.bl)];exact h.low b hb,Nat.le_trans h.bl hk.size⟩
def StepPost (PS:World->Nat->(Nat->Prop)->St->Prop) (B:Nat) (w w':World) (wb pl kl:Nat):Prop:=
 ∃ c psv kv n ps kept,WIn PS B c w' wb psv kv n ps kept/\ps.length<=pl+1/\kept.length<=kl+4/\Below B w w'
theorem Kp.low {w w':World} (hk:Kp w w' (fun _=>False)) (hB:B<=w.heap.size):Below B w w':=hk.below hB (fun _ _ h=>h)
theorem stepNone (c:Nat->Nat) (w:World) (wb:Nat) (psv kv:Value) (n:Int) (kept:List Ke) (K A N M:Int) (S:ByteArray) (h:WIn PS B c w wb psv kv n [] kept) (hK:(K == 1)=false):
  Calls Tryz.prog 14 #[.pointer (some ⟨wb,0,none⟩),.agg #[.int .i64 K,.int .i64 A,.int .i64 N,.int .i64 M,.string S]] w fun e w'=>e=.returned (.bool true)/\StepPost PS B w w' wb 0 kept.length:=by
 obtain⟨ao,cap,hv⟩:=row_slice h.row;have c0:w.cell? ⟨wb,0,none⟩=some psv:=h.blk.cell rfl;rw[hv] at c0;have hwl:=h.blk.lt;clear hv;simp only[List.length_nil] at c0;go_enter Tryz.func14,Tryz.ntmps14;go_wp2;go_ret;exact⟨rfl,_,_,_,_,_,_,h.idle P ((Kp.refl _ _).alloc _),by simp,by omega,Kp.low P ((Kp.refl _ _).alloc _) h.bl⟩
structure PickAt (w:World) (wb:Nat) (psv:Value) (ps:List Pr) (A:Int) (g cap j:Nat) (hj:j < ps.length):Prop where
 hv:psv=.slice (some ⟨g,0,none⟩) ps.length cap
 c0:w.cell? ⟨wb,0,none⟩=some (.slice (some ⟨g,0,none⟩) ps.length cap)
 cj:w.cell? ⟨g,j,none⟩=some (.pointer (some ⟨ps[j].pb,0,none⟩))
 gl:g < w.heap.size
 pk:∀ w,Calls Tryz.prog 30 #[.int .i64 A,.int .i64 (ps.length:Int)] w fun e w'=>e=.returned (.int .i64 (j:Int))/\w'=w
theorem WIn.pick {c:Nat->Nat} {w:World} {wb:Nat} {psv kv:Value} {n:Int} {ps:List Pr} {kept:List Ke} (h:WIn PS B c w wb psv kv n ps kept) (A:Int) (hA:In A) (hn:1<=ps.length) (hn2:ps.length<=4398046511104):∃ g cap j,∃ hj:j < ps.length,PickAt w wb psv ps A g cap j hj:=by
 obtain⟨g,cap,hv,hc⟩:=row_cell h.row (by omega);obtain⟨hj0,hj1⟩:=pickV_lt A ps.length (by omega);obtain⟨j,hj⟩:∃ j:Nat,pickV A ps.length=j:=⟨(pickV A ps.length).toNat,by omega⟩;have hjl:j < ps.length:=by omega
 refine⟨g,cap,j,hjl,hv,?_,hc j _ (by simp[ptrsP,hjl]),own_lt h.row (by rw[hv];rfl),fun w=>?_⟩
 ·rw[<-hv];exact h.blk.cell rfl
 ·have:=pickL A ps.length w hA.1 hA.2 (by omega) (by omega);rw[hj] at this;exact this
theorem stepOther (c:Nat->Nat) (w:World) (wb:Nat) (psv kv:Value) (n:Int) (ps:List Pr) (kept:List Ke) (K A N M:Int) (S:ByteArray) (h:WIn PS B c w wb psv kv n ps kept) (hK:K<=0) (hA:In A) (hn:1<=ps.length) (hn2:ps.length<=4398046511104):
  Calls Tryz.prog 14 #[.pointer (some ⟨wb,0,none⟩),.agg #[.int .i64 K,.int .i64 A,.int .i64 N,.int .i64 M,.string S]] w fun e w'=>e=.returned (.bool true)/\StepPost PS B w w' wb ps.length kept.length:=by
 obtain⟨g,cap,j,hjl,-,c0,cj,hgl,hpk⟩:=h.pick P A hA hn hn2;have hwl:=h.blk.lt;have HPK:=hide hpk;have hne:((ps.length:Int) == 0)=false:=by rw[beq_eq_false_iff_ne];omega
 clear hpk;go_enter Tryz.func14,Tryz.ntmps14;go_wp2
 go_quiet ((go_at_call 30;exact Calls.quiet_of_same (HPK.out _)))
 go_wp2;go_ret;exact⟨rfl,_,_,_,_,_,_,h.idle P (((Kp.refl _ _).alloc _).drewN _),by omega,by omega,Kp.low P (((Kp.refl _ _).alloc _).drewN _) h.bl⟩
theorem stepLine (c:Nat->Nat) (w:World) (wb:Nat) (psv kv:Value) (n:Int) (ps:List Pr) (kept:List Ke) (A N M:Int) (S:ByteArray) (h:WIn PS B c w wb psv kv n ps kept) (hA:In A) (hn:1<=ps.length) (hn2:ps.length<=4398046511104):
  Calls Tryz.prog 14 #[.pointer (some ⟨wb,0,none⟩),.agg #[.int .i64 2,.int .i64 A,.int .i64 N,.int .i64 M,.string S]] w fun e w'=>e=.returned (.bool true)/\StepPost PS B w w' wb ps.length kept.length:=by
 obtain⟨g,cap,j,hjl,-,c0,cj,hgl,hpk⟩:=h.pick P A hA hn hn2;have hwl:=h.blk.lt;have HPK:=hide hpk;have hne:((ps.length:Int) == 0)=false:=by rw[beq_eq_false_iff_ne];omega
 clear hpk;go_enter Tryz.func14,Tryz.ntmps14;go_wp2
 go_quiet ((go_at_call 30;exact Calls.quiet_of_same (HPK.out _)))
 go_wp2_with fail
 have hk0:Kp w ((w.alloc (.cells #[.int .i64 2,.int .i64 A,.int .i64 N,.int .i64 M,.string S] 30)).drewN nq) (fun _=>False):=((Kp.refl _ _).alloc _).drewN _;have h1:=h.idle P hk0;refine (lineL P _ _ j _ S (h1.pin j hjl) (h1.same j hjl) (h1.wf j hjl)).mono ?_;rintro e w' ⟨rfl,hp⟩;obtain⟨c',ps',hW,hl,hbel⟩:=h1.ran P j hjl hp;have HN:Hid (StepPost PS B w w' wb ps.length kept.length):=⟨_,_,_,_,_,_,hW,by omega,by omega,(Kp.low P hk0 h.bl).trans hbel⟩;clear hp hW hbel hk0 h1 h;go_wp2;go_ret;exact⟨rfl,HN.out⟩
theorem stepCell (c:Nat->Nat) (w:World) (wb:Nat) (psv kv:Value) (n:Int) (ps:List Pr) (kept:List Ke) (A N M:Int) (S:ByteArray) (h:WIn PS B c w wb psv kv n ps kept) (hA:In A) (hN:In N) (hn:1<=ps.length) (hn2:ps.length<=4398046511104):
  Calls Tryz.prog 14 #[.pointer (some ⟨wb,0,none⟩),.agg #[.int .i64 4,.int .i64 A,.int .i64 N,.int .i64 M,.string S]] w fun e w'=>e=.returned (.bool true)/\StepPost PS B w w' wb ps.length kept.length:=by
 obtain⟨g,cap,j,hjl,-,c0,cj,hgl,hpk⟩:=h.pick P A hA hn hn2;have hwl:=h.blk.lt;have HPK:=hide hpk;have hne:((ps.length:Int) == 0)=false:=by rw[beq_eq_false_iff_ne];omega
 clear hpk;go_enter Tryz.func14,Tryz.ntmps14;go_wp2
 go_quiet ((go_at_call 30;exact Calls.quiet_of_same (HPK.out _)))
 go_wp2_with fail
 have hk0:Kp w ((w.alloc (.cells #[.int .i64 4,.int .i64 A,.int .i64 N,.int .i64 M,.string S] 30)).drewN nq) (fun _=>False):=((Kp.refl _ _).alloc _).drewN _;have h1:=h.idle P hk0;refine (cellL P _ _ j _ N (h1.pin j hjl) (h1.same j hjl) (h1.wf j hjl) hN).mono ?_;rintro e w' ⟨rfl,hp⟩;obtain⟨c',ps',hW,hl,hbel⟩:=h1.ran P j hjl hp;have HN:Hid (StepPost PS B w w' wb ps.length kept.length):=⟨_,_,_,_,_,_,hW,by omega,by omega,(Kp.low P hk0 h.bl).trans hbel⟩;clear hp hW hbel hk0 h1 h;go_wp2;go_ret;exact⟨rfl,HN.out⟩
end
end
section
open Go.RowKit
theorem Rd.nil (w:World) (u:Value):Rd w (.slice none 0 0) 0 u:=⟨none,0,rfl,fun j hj=>by omega⟩
section
variable {PS:World->Nat->(Nat->Prop)->St->Prop} {B:Nat} {W0:World} (P:PCon B W0 PS)
include P
theorem WIn.nums {c:Nat->Nat} {w w':World} {wb:Nat} {psv kv v kv' va vb vc:Value} {n n':Int} {ps:List Pr} {kept:List Ke} {l:Nat} (h:WIn PS B c w wb psv kv n ps kept)
  (hv:∀ k,own v k->k < w.heap.size/\c k ≠ 0/\c k ≠ 1/\c k ≠ 2/\∀ j (hj:j < ps.length),c k ≠ cy j/\¬ ps[j].V k) (hp:NumsPost w w' wb psv kv v kv' va vb vc n' kept.length l (keCells kept)) (hl:l<=900):
  ∃ c' kept',WIn PS B c' w' wb psv kv' n' ps kept'/\kept'.length=kept.length+4/\Below B w w':=by
 obtain⟨⟨c',hW⟩,hb⟩:=h.listed P (four:=[⟨n',v,l,.slice none 0 0,0⟩,⟨n',va,l+1,.slice none 0 0,0⟩,⟨n',vb,l+2,.slice none 0 0,0⟩,⟨n',vc,l+3,.slice none 0 0,0⟩]) hv hp.kp hp.blk
  (by rw[keCells_app];simpa [keCells] using hp.krow) hp.kn (fun b=>own v b\/own va b\/own vb b\/own vc b)
  (fun b hb=>by
   rcases hb with hb|hb|hb|hb
   ·exact .inl hb
   ·exact hp.na b hb
   ·exact hp.nb b hb
   ·exact hp.nc b hb)
  (fun b hb=>by obtain⟨cc,hcc⟩:=hp.ty b hb;exact⟨3,cc,hcc,.inl rfl⟩)
  (fun i hi=>by
   have hno:∀ (Q:Prop) b,own (.slice none 0 0) b->Q:=fun Q b hb=>by simp[own,Value.ownBlock] at hb
   rcases (show i=0\/i=1\/i=2\/i=3 by simp at hi;omega) with rfl|rfl|rfl|rfl
   ·exact⟨⟨hp.r0,Rd.nil _ _,by show l<=1000;omega,by show (0:Nat)<=1000;omega⟩,fun b hb=>.inl hb,fun b hb=>hno _ b hb⟩
   ·exact⟨⟨hp.ra,Rd.nil _ _,by show l+1<=1000;omega,by show (0:Nat)<=1000;omega⟩,fun b hb=>.inr (.inl hb),fun b hb=>hno _ b hb⟩
   ·exact⟨⟨hp.rb,Rd.nil _ _,by show l+2<=1000;omega,by show (0:Nat)<=1000;omega⟩,fun b hb=>.inr (.inr (.inl hb)),fun b hb=>hno _ b hb⟩
   ·exact⟨⟨hp.rc,Rd.nil _ _,by show l+3<=1000;omega,by show (0:Nat)<=1000;omega⟩,fun b hb=>.inr (.inr (.inr hb)),fun b hb=>hno _ b hb⟩)
 exact⟨c',_,hW,by simp,hb⟩
theorem stepStack (c:Nat->Nat) (w:World) (wb:Nat) (psv kv:Value) (n:Int) (ps:List Pr) (kept:List Ke) (A N M:Int) (S:ByteArray) (h:WIn PS B c w wb psv kv n ps kept) (hA:In A) (hn:1<=ps.length) (hn2:ps.length<=4398046511104) (hkl:kept.length<=1000000000):
  Calls Tryz.prog 14 #[.pointer (some ⟨wb,0,none⟩),.agg #[.int .i64 3,.int .i64 A,.int .i64 N,.int .i64 M,.string S]] w fun e w'=>e=.returned (.bool true)/\StepPost PS B w w' wb ps.length kept.length:=by
 obtain⟨g,cap,j,hjl,-,c0,cj,hgl,hpk⟩:=h.pick P A hA hn hn2;have hwl:=h.blk.lt;have hpl:=(h.pin j hjl).blk.lt;have cx0:w.cell? ⟨ps[j].pb,0,none⟩=some (.pointer (some ⟨ps[j].xb,0,none⟩)):=(h.pin j hjl).blk.cell rfl;have HPK:=hide hpk;have hne:((ps.length:Int) == 0)=false:=by rw[beq_eq_false_iff_ne];omega
 clear hpk;go_enter Tryz.func14,Tryz.ntmps14;go_wp2
 go_quiet ((go_at_call 30;exact Calls.quiet_of_same (HPK.out _)))
 go_wp2_with fail
 have hk0:Kp w ((w.alloc (.cells #[.int .i64 3,.int .i64 A,.int .i64 N,.int .i64 M,.string S] 30)).drewN nq) (fun _=>False):=((Kp.refl _ _).alloc _).drewN _;have h1:=h.idle P hk0;have hx1:=(h1.pin j hjl).x;rw[h1.same j hjl] at hx1;refine (P.stack _ _ _ _ hx1 (h1.pin j hjl).y.rel.good).mono ?_;rintro e w1 ⟨v,rfl,hrow,V',hx,hto,hnv⟩;obtain⟨c1,ps1,h2,⟨hl2,ey,er,es,ep⟩,hbel,hown⟩:=h1.gave P j hjl hx hto hrow hnv;have hj1:j < ps1.length:=by omega
 obtain⟨yb1,nvv,ns,k1,k2,hnu,hlen,⟨ak,pk,rfl⟩,⟨av,pv,rfl⟩⟩:∃ (yb1:Nat) (nvv:Value) (ns:List Int),w1.cell? ⟨ps[j].pb,1,none⟩=some (.pointer (some ⟨yb1,0,none⟩))/\w1.cell? ⟨yb1,0,none⟩=some nvv /\
   Calls Tryz.prog 32 #[.pointer (some ⟨wb,0,none⟩),v,nvv] w1 (fun e w'=>e=.returned (.bool true)/\∃ kv' va vb vc,NumsPost w1 w' wb psv kv v kv' va vb vc (wrap64 (n+1)) kept.length ns.length (keCells kept))/\ns.length<=32/\(∃ ak pk,nvv=.slice ak ns.length pk)/\(∃ av pv,v=.slice av ns.length pv):=by
  have hpi:=h2.pin j hj1;have hk2:=hpi.y.inv.row;have hlen:(ps1[j]).s.rs.reverse.length<=32:=by have:=hpi.y.rel.good.g.len;simpa using this
  have hv2:w1.ownsRow 0 3 1 v (ps1[j]).s.rs.reverse.length (ints (ps1[j]).s.rs.reverse):=by
   rw[es];rw[List.length_reverse];exact Joins.ownsRow_le hrow (Nat.zero_le _)
  have hdis:∀ b,own v b->¬ own (ps1[j]).rs.nv b:=fun b hb hn=>((hown b hb).2.2.2.2 j hj1).1 (hpi.cn b hn);exact⟨ps1[j].yb,ps1[j].rs.nv,ps1[j].s.rs.reverse,by rw[<-ep];exact hpi.blk.cell rfl,hpi.y.inv.blk.cell rfl,numsL w1 wb psv kv v _ n kept.length (keCells kept) _ h2.blk h2.krow hkl hv2 hlen hk2 hdis,hlen,row_slice hk2,row_slice hv2⟩
 have HNU:=hide hnu;have HBEL:Hid (Below B w w1):=(Kp.low P hk0 h.bl).trans hbel;have H2:=hide h2;have HOWN:=hide hown;clear hrow hx hto hnv hbel hown hx1 h1 hk0 h h2 ey er es ep hnu hj1
 go_wp2_with fail
 refine HNU.out.mono ?_;rintro e w2 ⟨rfl,kv',va,vb,vc,hp⟩;obtain⟨c',kept',hW,hkl',hb2⟩:=H2.out.nums P HOWN.out hp (by omega);have HN:Hid (StepPost PS B w w2 wb ps.length kept.length):=⟨_,_,_,_,_,_,hW,by omega,by omega,HBEL.out.trans hb2⟩;clear hp hW hb2 HNU H2 HOWN;go_wp2;go_ret;exact⟨rfl,HN.out⟩
end
end
section
open Go.RowKit
theorem texts_inj:∀ {a b:List ByteArray},texts a=texts b->a=b
 | [],[],_=>rfl
 | [],_ :: _,h=>by simp[texts] at h
 | _ :: _,[],h=>by simp[texts] at h
 | x :: a,y :: b,h=>by
  simp only[texts,List.map_cons,List.cons.injEq] at h;have h1:x=y:=ByteArray.ext (Array.ext' h.1);have h2:=texts_inj (a:=a) (b:=b) (by simpa [texts] using h.2);rw[h1,h2]
theorem wordsP_len (s:St):(wordsP s).length=s.defs.length:=by unfold wordsP sortN;simp[rsortN_len]
section
variable {PS:World->Nat->(Nat->Prop)->St->Prop} {B:Nat} {W0:World} (P:PCon B W0 PS)
include P
theorem WIn.names {c:Nat->Nat} {w w':World} {wb:Nat} {psv kv v kv' va vb vc:Value} {n n':Int} {ps:List Pr} {kept:List Ke} {l:Nat} (h:WIn PS B c w wb psv kv n ps kept)
  (hv:∀ k,own v k->k < w.heap.size/\c k ≠ 0/\c k ≠ 1/\c k ≠ 2/\∀ j (hj:j < ps.length),c k ≠ cy j/\¬ ps[j].V k) (hp:NamesPost w w' wb psv kv v kv' va vb vc n' kept.length l (keCells kept)) (hl:l<=900):
  ∃ c' kept',WIn PS B c' w' wb psv kv' n' ps kept'/\kept'.length=kept.length+4/\Below B w w':=by
 obtain⟨⟨c',hW⟩,hb⟩:=h.listed P (four:=[⟨n',.slice none 0 0,0,v,l⟩,⟨n',.slice none 0 0,0,va,l+1⟩,⟨n',.slice none 0 0,0,vb,l+2⟩,⟨n',.slice none 0 0,0,vc,l+3⟩]) hv hp.kp hp.blk
  (by rw[keCells_app];simpa [keCells] using hp.krow) hp.kn (fun b=>own v b\/own va b\/own vb b\/own vc b)
  (fun b hb=>by
   rcases hb with hb|hb|hb|hb
   ·exact .inl hb
   ·exact hp.na b hb
   ·exact hp.nb b hb
   ·exact hp.nc b hb)
  (fun b hb=>by obtain⟨cc,hcc⟩:=hp.ty b hb;exact⟨9,cc,hcc,.inr rfl⟩)
  (fun i hi=>by
   have hno:∀ (Q:Prop) b,own (.slice none 0 0) b->Q:=fun Q b hb=>by simp[own,Value.ownBlock] at hb
   rcases (show i=0\/i=1\/i=2\/i=3 by simp at hi;omega) with rfl|rfl|rfl|rfl
   ·exact⟨⟨Rd.nil _ _,hp.r0,by show (0:Nat)<=1000;omega,by show l<=1000;omega⟩,fun b hb=>hno _ b hb,fun b hb=>.inl hb⟩
   ·exact⟨⟨Rd.nil _ _,hp.ra,by show (0:Nat)<=1000;omega,by show l+1<=1000;omega⟩,fun b hb=>hno _ b hb,fun b hb=>.inr (.inl hb)⟩
   ·exact⟨⟨Rd.nil _ _,hp.rb,by show (0:Nat)<=1000;omega,by show l+2<=1000;omega⟩,fun b hb=>hno _ b hb,fun b hb=>.inr (.inr (.inl hb))⟩
   ·exact⟨⟨Rd.nil _ _,hp.rc,by show (0:Nat)<=1000;omega,by show l+3<=1000;omega⟩,fun b hb=>hno _ b hb,fun b hb=>.inr (.inr (.inr hb))⟩)
 exact⟨c',_,hW,by simp,hb⟩
theorem stepWords (c:Nat->Nat) (w:World) (wb:Nat) (psv kv:Value) (n:Int) (ps:List Pr) (kept:List Ke) (A N M:Int) (S:ByteArray) (h:WIn PS B c w wb psv kv n ps kept) (hA:In A) (hn:1<=ps.length) (hn2:ps.length<=4398046511104) (hkl:kept.length<=1000000000):
  Calls Tryz.prog 14 #[.pointer (some ⟨wb,0,none⟩),.agg #[.int .i64 5,.int .i64 A,.int .i64 N,.int .i64 M,.string S]] w fun e w'=>e=.returned (.bool true)/\StepPost PS B w w' wb ps.length kept.length:=by
 obtain⟨g,cap,j,hjl,-,c0,cj,hgl,hpk⟩:=h.pick P A hA hn hn2;have hwl:=h.blk.lt;have hpl:=(h.pin j hjl).blk.lt;have cx0:w.cell? ⟨ps[j].pb,0,none⟩=some (.pointer (some ⟨ps[j].xb,0,none⟩)):=(h.pin j hjl).blk.cell rfl;have HPK:=hide hpk;have hne:((ps.length:Int) == 0)=false:=by rw[beq_eq_false_iff_ne];omega
 clear hpk;go_enter Tryz.func14,Tryz.ntmps14;go_wp2
 go_quiet ((go_at_call 30;exact Calls.quiet_of_same (HPK.out _)))
 go_wp2_with fail
 have hk0:Kp w ((w.alloc (.cells #[.int .i64 5,.int .i64 A,.int .i64 N,.int .i64 M,.string S] 30)).drewN nq) (fun _=>False):=((Kp.refl _ _).alloc _).drewN _;have h1:=h.idle P hk0;have hx1:=(h1.pin j hjl).x;rw[h1.same j hjl] at hx1;refine (P.words _ _ _ _ hx1).mono ?_;rintro e w1 ⟨v,rfl,⟨L,hrow,hL⟩,V',hx,hto,hnv⟩;obtain⟨c1,ps1,h2,⟨hl2,ey,er,es,ep⟩,hbel,hown⟩:=h1.gave P j hjl hx hto hrow hnv;have hj1:j < ps1.length:=by omega
 obtain⟨yb1,k1,hwd,hlen⟩:∃ (yb1:Nat),w1.cell? ⟨ps[j].pb,1,none⟩=some (.pointer (some ⟨yb1,0,none⟩)) /\
   Calls Tryz.prog 34 #[.pointer (some ⟨yb1,0,none⟩)] w1 (fun e w'=>∃ v,e=.returned v/\NamesAt w1 w' v (texts L))/\L.length<=30:=by
  have hpi:=h2.pin j hj1;refine⟨ps1[j].yb,by rw[<-ep];exact hpi.blk.cell rfl,?_,?_⟩
  ·rw[hL,<-es];exact wordsX w1 _ _ _ hpi.y
  ·have h3:=congrArg List.length hL;rw[texts_len,wordsP_len,<-es] at h3;have:=hpi.y.rel.dr.len;omega
 have HWD:=hide hwd;have HBEL:Hid (Below B w w1):=(Kp.low P hk0 h.bl).trans hbel;have H2:=hide h2;have HOWN:=hide hown;have HROW:=hide hrow;obtain⟨av,pv,rfl⟩:=row_slice (Joins.ownsRow_le hrow (Nat.zero_le _));clear hrow hx hto hnv hbel hown hx1 h1 hk0 h h2 ey er es ep hwd hj1 hL
 go_wp2_with fail
 refine HWD.out.mono ?_;rintro e w2 ⟨vk,rfl,⟨⟨Lk,hrk,hLk⟩,hnewk,hkpk⟩⟩;have hLL:=texts_inj hLk;subst hLL;have h3:=H2.out.idle P hkpk;have hrow2:=hkpk.row (Joins.ownsRow_le HROW.out (Nat.zero_le _)) (fun _ _ h=>h);have hown2:∀ k,own (.slice av Lk.length pv) k->k < w2.heap.size/\paint c1 w1.heap.size 2 k ≠ 0/\paint c1 w1.heap.size 2 k ≠ 1/\paint c1 w1.heap.size 2 k ≠ 2/\∀ j (hj:j < ps1.length),paint c1 w1.heap.size 2 k ≠ cy j/\¬ ps1[j].V k:=fun k hk=>by
  obtain⟨q1,q2,q3,q4,q5⟩:=HOWN.out k hk;rw[show paint c1 w1.heap.size 2 k=c1 k from if_pos q1];exact⟨Nat.lt_of_lt_of_le q1 hkpk.size,q2,q3,q4,q5⟩
 have HNU:=hide (namesL w2 wb psv kv _ vk n kept.length (keCells kept) Lk h3.blk h3.krow hkl hrow2 (by omega) hrk (fun b hb hb2=>by have:=(HOWN.out b hb).1;have:=hnewk b hb2;omega));obtain⟨ak,pk,rfl⟩:=row_slice hrk;have HBEL2:Hid (Below B w w2):=HBEL.out.trans (Kp.low P hkpk H2.out.bl);have H3:=hide h3;have HO2:=hide hown2;clear hrk hnewk hkpk h3 hrow2 hown2 H2 HOWN HROW HWD HBEL k1
 go_wp2_with fail
 refine HNU.out.mono ?_;rintro e w3 ⟨rfl,kv',va,vb,vc,hp⟩;obtain⟨c',kept',hW,hkl',hb2⟩:=H3.out.names P HO2.out hp (by omega);have HN:Hid (StepPost PS B w w3 wb ps.length kept.length):=⟨_,_,_,_,_,_,hW,by omega,by omega,HBEL2.out.trans hb2⟩;clear hp hW hb2 HNU H3 HO2;go_wp2;go_ret;exact⟨rfl,HN.out⟩
end
end
end Go.Proofs.YteainaiebcphlaaGreatDoor
