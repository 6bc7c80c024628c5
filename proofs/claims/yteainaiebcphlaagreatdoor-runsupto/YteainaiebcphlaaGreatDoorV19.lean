import Derived.Test.YteainaiebcphlaaGreatDoorV1
import Derived.Test.YteainaiebcphlaaGreatDoorV18
namespace Go.Proofs.YteainaiebcphlaaGreatDoor
set_option maxRecDepth 1000000
set_option maxHeartbeats 4000000
set_option linter.all false
section
open Go.RowKit
section
variable {P:Program} (w:World)
theorem Blk.setRow {w:World} {b:Nat} {t:TypeId} {c:Array Value} (h:Blk w b t c) (c':Array Value):Blk (w.setRow b c') b t c':=by
 have hlt:=h.lt;unfold Blk at h ⊢;have h':w.heap[b]=.cells c t (0,0):=by simpa [Array.getElem?_eq_getElem hlt] using h
 show (w.heap.modify b _)[b]? = _;rw[Array.getElem?_eq_getElem (by simpa using hlt),Array.getElem_modify_self,h']
theorem run_append_keep (t ty e:TypeId) (i:TypeInfo) (z:Value) (size bytes:Nat) (ht:P.underlying t=some (.slice e)) (hi:P.info? e=some i) (hz:i.zero=some z)
  (hsize:i.size=size) (hby:i.bytes=bytes) (hzs:z.cells.size=size) (hsz:0 < size)
  (v:Value) (n:Nat) (xs:List Value) (hown:w.ownsRow 0 e size v n xs)
  (a:Addr) (m c:Nat) (news:List Value) (hl:news.length=m * size) (hnews:∀ j u,news[j]? = some u->w.cell? (a.add j)=some u) (h1:∀ u∈news,u.oneCell'=true)
  (h63:n+m<=maxLen) (hbytes:(n+m) * bytes<=140737488355328):
  ∃ v' w',(Builtin.append_ #[t,t] ty #[v,.slice (some a) m c]).run P w=.ok v' w'/\w'.ownsRow 0 e size v' (n+m) (xs ++ news)/\w.grownBy w' v.ownBlock /\
   ((∀ k,own v' k->own v k\/w.heap.size<=k)/\w'.ownsRow 0 e size v n xs/\(∀ (q j:Nat) (u:Value),w.cell? ⟨q,j,none⟩=some u->w'.cell? ⟨q,j,none⟩=some u\/∃ x∈news,w'.cell? ⟨q,j,none⟩=some x)):=by
 obtain⟨v',w',hr,ho,hg,hn⟩:=run_append_to (P:=P) w t ty e i z size bytes ht hi hz hsize hby hzs hsz v n xs hown a m c news hl hnews h1 h63 hbytes;have same:∀ (q j:Nat) (u:Value),v.ownBlock ≠ some q->w.cell? ⟨q,j,none⟩=some u->w'.cell? ⟨q,j,none⟩=some u:=by
  intro q j u hq hc;have hlt:q < w.heap.size:=by
   rcases Nat.lt_or_ge q w.heap.size with h|h
   ·exact h
   ·unfold World.cell? at hc;rw[Array.getElem?_eq_none h] at hc;cases hc
  have e:=hg.block q hlt (fun h=>hq h.symm);unfold World.cell? at hc ⊢;rw[e];exact hc
 refine⟨v',w',hr,ho,hg,hn,?_⟩;have hlx:=hown.1;rcases hown.2 with⟨rfl,rfl⟩|⟨g,cap,cur,rfl,hbg,hgg,hnc,hcm,hcs,htake⟩
 ·exact⟨⟨hlx,.inl ⟨rfl,rfl⟩⟩,fun q j u hc=>.inl (same q j u (by simp[Value.ownBlock]) hc)⟩
 ·by_cases hroom:n+m<=cap
  ·have hfit:n * i.size+news.length<=cur.size:=by rw[hl,hcs,hsize,<-Nat.add_mul];exact Nat.mul_le_mul_right _ hroom
   have hr2:=run_append_room (P:=P) w t ty e i ht hi g n cap cur hgg a m c news (by rw[hsize];exact hl) hnews h1 hroom hfit;rw[hr] at hr2;injection hr2 with e1 e2;subst e1;rcases ho.2 with⟨hv,_⟩|⟨g',cap',cur',hv,_,hgg',_,_,hcs',htk'⟩
   ·cases hv
   ·injection hv with q1 q2 q3;injection q1 with q1;injection q1 with q1;subst q1;subst q3;refine⟨⟨hlx,.inr ⟨g,cap,cur',rfl,hbg,hgg',hnc,hcm,hcs',?_⟩⟩,fun q j u hc=>?_⟩
    rotate_left
    ·by_cases hq:q=g
     ·subst hq;have hb:Blk w q e cur:=hgg;have hc0:cur[j]? = some u:=by unfold World.cell? at hc;rw[hgg] at hc;simpa using hc
      have hb':Blk w' q e (cur.toList.take (n * i.size) ++ news ++ cur.toList.drop (n * i.size+news.length)).toArray:=by
       rw[e2];exact Blk.setRow hb _
      have hjl:j < cur.size:=by
       rcases Nat.lt_or_ge j cur.size with h|h
       ·exact h
       ·rw[Array.getElem?_eq_none h] at hc0;cases hc0
      have hln:(cur.toList.take (n * i.size)).length=n * i.size:=by simp;omega
      by_cases h2:j < n * i.size
      ·left
       refine hb'.cell ?_;rw[List.getElem?_toArray,List.append_assoc,List.getElem?_append_left (by omega),List.getElem?_take_of_lt h2];simpa using hc0
      ·by_cases h3:j < n * i.size+news.length
       ·right
        refine⟨news[j - n * i.size]'(by omega),List.getElem_mem _,hb'.cell ?_⟩;rw[List.getElem?_toArray,List.append_assoc,List.getElem?_append_right (by omega),hln,List.getElem?_append_left (by omega),List.getElem?_eq_getElem]
       ·left
        refine hb'.cell ?_;rw[List.getElem?_toArray,List.getElem?_append_right (by simp;omega),List.getElem?_drop];have:n * i.size+news.length+(j - (cur.toList.take (n * i.size) ++ news).length)=j:=by simp only[List.length_append,hln];omega
        rw[this];simpa using hc0
     ·exact .inl (same q j u (by simp[Value.ownBlock];omega) hc)
    have h2:(cur'.toList.take ((n+m) * size)).take (n * size)=(xs ++ news).take (n * size):=by rw[htk']
    have h3:(xs ++ news).take (n * size)=xs:=by rw[<-hlx];simp
    rw[List.take_take,Nat.min_eq_left (Nat.mul_le_mul_right _ (by omega)),h3] at h2;exact h2
  ·subst hsize;subst hby;have holds:∀ j u,xs[j]? = some u->w.cell? ((⟨g,0,none⟩:Addr).add j)=some u:=hown.cells (g:=g) rfl;have hr2:=run_append_grow (P:=P) w t ty e i z ht hi hz ⟨g,0,none⟩ n cap xs hown.1 holds a m c news hl hnews (by omega) (by simp only[maxLen] at h63;omega) (growslice_fits (by omega) hbytes);rw[hr] at hr2;injection hr2 with e1 e2;subst e2;refine⟨(World.ownsRow.alloc (w:=w.drew) hown _),fun q j u hc=>.inl ?_⟩;have hlt:q < w.heap.size:=by
    rcases Nat.lt_or_ge q w.heap.size with h|h
    ·exact h
    ·unfold World.cell? at hc;rw[Array.getElem?_eq_none h] at hc;cases hc
   have e:=Below.heap_alloc w.drew (.cells (xs.toArray ++ news.toArray ++ Builtin.zeroCells z.cells (grownCap w (n+m) cap e - (n+m))) e) q hlt;unfold World.cell? at hc ⊢;rw[e];exact hc
theorem wp_append_keep {o:Oper} {a:Act} {K:Act->World->Prop} {Q:Exit->Act->World->Prop} (s x:Operand) (t:TypeId)
  (ho:o.op=.call { callee:=.builtin .append,args:=#[s,x],argTypes:=#[t,t] })
  (e:TypeId) (i:TypeInfo) (z:Value) (size bytes:Nat) (ht:P.underlying t=some (.slice e)) (hi:P.info? e=some i) (hz:i.zero=some z)
  (hsize:i.size=size) (hby:i.bytes=bytes) (hzs:z.cells.size=size) (hsz:0 < size)
  (v:Value) (n:Nat) (xs:List Value) (hs:a.eval s=v) (hown:w.ownsRow 0 e size v n xs)
  (ad:Addr) (m c:Nat) (news:List Value) (hx:a.eval x=.slice (some ad) m c) (hl:news.length=m * size) (hnews:∀ j u,news[j]? = some u->w.cell? (ad.add j)=some u) (h1:∀ u∈news,u.oneCell'=true)
  (h63:n+m<=maxLen) (hbytes:(n+m) * bytes<=140737488355328)
  (h:∀ v' w',w'.ownsRow 0 e size v' (n+m) (xs ++ news)->w.grownBy w' v.ownBlock->((∀ k,own v' k->own v k\/w.heap.size<=k)/\w'.ownsRow 0 e size v n xs/\(∀ (q j:Nat) (u:Value),w.cell? ⟨q,j,none⟩=some u->w'.cell? ⟨q,j,none⟩=some u\/∃ x∈news,w'.cell? ⟨q,j,none⟩=some x))->K (a.put o.dst v') w'):o.wp P a w K Q:=by
 obtain⟨v',w',hr,h2,h3,h4⟩:=run_append_keep (P:=P) w t o.type e i z size bytes ht hi hz hsize hby hzs hsz v n xs hown ad m c news hl hnews h1 h63 hbytes;unfold Oper.wp execOp;simp only[ho,resolve,invoke,builtin,Sem.run_bind,Sem.run_pure,Result.andThen_ok,List.map_toArray,List.map_cons,List.map_nil,hs,hx,hr];exact h v' w' h2 h3 h4
theorem wpList_append_keep {ops:Array Oper} {rest:List Oper} {o:Oper} {a:Act} {Q:Exit->Act->World->Prop} (hgd:o.guard=none) (s x:Operand) (t:TypeId)
  (ho:o.op=.call { callee:=.builtin .append,args:=#[s,x],argTypes:=#[t,t] })
  (e:TypeId) (i:TypeInfo) (z:Value) (size bytes:Nat) (ht:P.underlying t=some (.slice e)) (hi:P.info? e=some i) (hz:i.zero=some z)
  (hsize:i.size=size) (hby:i.bytes=bytes) (hzs:z.cells.size=size) (hsz:0 < size)
  (v:Value) (n:Nat) (xs:List Value) (hs:a.eval s=v) (hown:w.ownsRow 0 e size v n xs)
  (ad:Addr) (m c:Nat) (news:List Value) (hx:a.eval x=.slice (some ad) m c) (hl:news.length=m * size) (hnews:∀ j u,news[j]? = some u->w.cell? (ad.add j)=some u) (h1:∀ u∈news,u.oneCell'=true)
  (h63:n+m<=maxLen) (hbytes:(n+m) * bytes<=140737488355328)
  (h:∀ v' w',w'.ownsRow 0 e size v' (n+m) (xs ++ news)->w.grownBy w' v.ownBlock->((∀ k,own v' k->own v k\/w.heap.size<=k)/\w'.ownsRow 0 e size v n xs/\(∀ (q j:Nat) (u:Value),w.cell? ⟨q,j,none⟩=some u->w'.cell? ⟨q,j,none⟩=some u\/∃ x∈news,w'.cell? ⟨q,j,none⟩=some x))->wpList P ops Q rest (a.put o.dst v') w'):wpList P ops Q (o :: rest) a w:=
 wpList_plain hgd fun _ hK=>wp_append_keep w s x t ho e i z size bytes ht hi hz hsize hby hzs hsz v n xs hs hown ad m c news hx hl hnews h1 h63 hbytes fun v' w' h2 h3 h4=>hK _ _ (h v' w' h2 h3 h4)
end
end
section
open Go.RowKit
variable {K:Nat->Prop}
theorem loopX (g:Nat) (hB:∀ g',g' < g->CB K g'):CL K g:=by
 intro w yb fb rs s s' f lp lv x nm va vb vt left hr he hf hlp hat hx;have HB:=hide hB;clear hB;obtain⟨ns,hi,hns⟩:=hr.inv;have hg:=hr.good;have hns:=hns he;subst hns;obtain⟨i0,hti,hz0,hz1,hz2⟩:=info_parts Tryz.info3;unfold xLoop at hx
 split at hx
 ·rename_i b m r hrs
  have HX:=hide hx;clear hx;have hinb:In b:=hg.g.ins b (by rw[hrs];simp);have hinm:In m:=hg.g.ins m (by rw[hrs];simp);rw[hrs] at hi;go_enter Tryz.func212,Tryz.ntmps212;have hK0:Kp w (w.alloc (.cells #[.int .u8 x.kind,.int .i64 x.n,.string nm,va,vb,vt] 227)) (fun _=>False):=(Kp.refl w _).alloc _;have hr0:=hr.kpF hK0;have hnk:nK K w.heap.size:=fun h=>Nat.lt_irrefl _ (hr.dr.old _ h);obtain⟨hf0,hto0⟩:=hf.sto hr (STo.kpF (rs:=rs) hK0);have hi0:=hi.kp hK0;have hxb:=Blk.new w #[.int .u8 x.kind,.int .i64 x.n,.string nm,va,vb,vt] 227;have hba:=hat.a.keep (Keeps.kpF hK0 (nK K));have hRS:=hrs;clear hr hf hi hK0 hat hrs
  go_wp2_with fail
  generalize hW0:w.alloc (.cells #[.int .u8 x.kind,.int .i64 x.n,.string nm,va,vb,vt] 227)=w0 at hr0 hf0 hto0 hi0 hxb hba ⊢;clear hW0;refine (takeR2 _ _ _ _ _ _ hi0).mono ?_;rintro e w1 ⟨gt,v',rfl,hT⟩;have HN:=hr0.turn (s':={ s with rs:=r }) hT.to rfl ⟨_,hT.inv,fun _=>rfl⟩ hr0.e hr0.st hr0.mem hr0.out rfl rfl rfl rfl rfl ⟨⟨fun y hy=>hg.g.ins y (by rw[hRS];simp[hy]),hg.g.mems,by have:=hg.g.len;rw[hRS] at this;simp only[List.length_cons] at this;show r.length<=32;omega,hg.g.osz⟩,hg.s0,hg.s1,hg.s2,hg.d0,hg.d1,hg.b0,hg.b1,hg.cb⟩;obtain⟨hr1,hsto1⟩:=HN;obtain⟨hf1,hto1⟩:=hf0.sto hr0 hsto1;have hgt:¬ own lv gt:=fun e=>by have:=own_lt hf0.row e;have:=hT.new;omega
  have hkp1:Keeps (nK K) (nK K) w0 w1:=Keeps.to hsto1 hr0.noB _;have hxb1:=(hkp1 _ _ _ hnk hxb (.inl rfl)).1;have HL:Hid (LoopAt K g yb fb gt w w1 rs s' f lp lv va x.a left b m b/\Blk w1 w.heap.size 227 #[.int .u8 x.kind,.int .i64 x.n,.string nm,va,vb,vt]):=
   ⟨⟨⟨g,_,lv,_,Nat.le_refl _,hr1,he,hf1,hlp,hto0.trans hto1,HX.out,hT.blk,hT.apart,hgt⟩,hba.keep hkp1,hinb⟩,hxb1⟩
  have k0:=hT.blk.cell (o:=0) rfl;clear hT hr0 hf0 hto0 hi0 hxb hba hr1 hsto1 hf1 hto1 hgt hkp1 hxb1 HX;go_wp2;clear k0
  go_loopw [9] (fun i wr=>∃ n:Int,i=.int .i64 n/\LoopAt K g yb fb gt w wr rs s' f lp lv va x.a left b m n/\Blk wr w.heap.size 227 #[.int .u8 x.kind,.int .i64 x.n,.string nm,va,vb,vt]) (fun i _=>(m - intOf i).toNat)
  case atStart=>exact⟨b,rfl,HL.out⟩
  case round=>
   clear HL;obtain⟨n,rfl,⟨⟨g',rsk,lvk,sk,hg',hrel,hek,hfk,hlpk,hto,hx,hbt,hnv,hlv⟩,hbd,hinn⟩,hxb⟩:=hrel;have k1:=hbt.cell (o:=1) rfl
   cases g' with
   | zero=>cases hx
   | succ g'=>
    rw[x_do] at hx;by_cases hnm:n < m
    ·rw[if_pos hnm] at hx
     go_wp2_with fail
     refine (stepS wr yb rsk sk hrel hek).mono ?_;rintro e w2 ⟨rfl,rs2,hrel2,hsto2,-⟩;obtain⟨hf2,hto2⟩:=hfk.sto hrel hsto2;obtain⟨hbt2,hnv2,hlv2⟩:=hto2.held hrel hfk hbt hnv hlv;have hkp2:Keeps (nK K) (nK K) wr w2:=Keeps.to hsto2 hrel.noB _;have hxb2:=(hkp2 _ _ _ hnk hxb (.inl rfl)).1;have hbd2:=hbd.keep hkp2;have hTO2:=hto.trans hto2;clear hrel hfk hto hbt hnv hlv hbd hxb k1 hsto2 hto2 hkp2;by_cases hse:sk.step.e=0
     ·rw[if_neg (by simp[hse])] at hx;rw[decide_eq_true hse]
      split at hx
      ·cases hx
      ·rename_i s3 left3 hx3
       have hstp:(lp.length:Int)+1<=sk.step.steps:=by rw[St.step_steps];omega
       have hs2k:=hrel2.good.s1;obtain⟨al,pl,hlve⟩:=row_slice hf2.row;subst hlve;obtain⟨nmf,vbf,hbf,-⟩:=hf2.blk;have cf:w2.cell? ⟨fb,3,none⟩=some (.slice al lp.length pl):=hbf.cell rfl;have hxl:=hxb2.lt;have hfl:=hbf.lt;have HRL:=hide hrel2;have HF2:=hide hf2;have HX3:=hide hx3;have HXX:=hide hx;have HBT2:=hide hbt2;clear hx hx3 hbf
       go_wp2_with (first
        | (at_builtin;refine wpList_append_to _ rfl _ _ 34 rfl 3 i0 (.int .i64 0) 1 8 Tryz.underlying34 hti hz0 hz1 hz2 rfl (by decide) _ _ _ rfl (hf2.row.alloc _) ⟨w2.heap.size,0,none⟩ 1 1 [.int .i64 n] rfl rfl ?c1 ?c2 ?c3 ?c4 ?_)
        | fail)
       case c1=>intro j u hj;match j,hj with|0,hj=>simp at hj;subst hj;simp[Addr.add]
       case c2=>intro u hu;simp at hu;subst hu;rfl
       case c3=>unfold maxLen;omega
       case c4=>omega
       intro v3 w3 hown hgrow hnx;obtain⟨gl,pl3,rfl⟩:∃ gl cap',v3=.slice (some ⟨gl,0,none⟩) (lp.length+1) cap':=by
        rcases hown.2 with⟨_,h0⟩|⟨g,cap',_,hv,_⟩
        ·omega
        ·exact⟨g,cap',hv⟩
       have hnx3:∀ k,own (.slice (some ⟨gl,0,none⟩) (lp.length+1) pl3) k->own (.slice al lp.length pl) k\/w2.heap.size+1<=k:=fun k hk=>(hnx k hk).imp (fun h=>h) (fun h=>by simpa using h);obtain⟨hk3,⟨nm3,vb3,hb3⟩,hrel3,hf3,hto3,hkp3⟩:=HF2.out.push HRL.out hinn hown hgrow hnx3;obtain⟨hbt3,hnv3,hlv3⟩:=hto3.held HRL.out HF2.out HBT2.out hnv2 hlv2;have hxb3:=(hkp3 _ _ _ hnk hxb2 (.inl rfl)).1;have hbd3:=hbd2.keep hkp3;have hTO3:=hTO2.trans hto3;have hxw3:Blk w3 w.heap.size 227 #[.int .u8 x.kind,.int .i64 x.n,.string nm,va,vb,vt]:=hk3.blk hxb2 (own_ne hf2.row hxb2 (by decide));have hxf:¬ w.heap.size=fb:=by intro e;rw[e] at hxw3;exact absurd (hxw3.inj hb3).1 (by decide)
       have cx3:w3.cell? ⟨w.heap.size,3,none⟩=some va:=hxw3.cell rfl;have cf3:w3.cell? ⟨fb,3,none⟩=some (.slice al lp.length pl):=hb3.cell rfl;have ff3:=hb3.free 3;have HR3:=hide hrel3;have HF3:=hide hf3;have HTO3:=hide hTO3;have HBT3:=hide hbt3;have HXB3:=hide hxb3;have HBD3:=hide hbd3;clear hown hgrow hnx hnx3 hk3 hb3 hrel3 hf3 hto3 hkp3 hbt3 hxb3 hbd3 hTO3 hxw3 hbd2 hxb2 hTO2 hrel2 hf2 hbt2 cf HRL HF2 HBT2
       go_wp2_with fail
       refine (HB.out g' (by omega) _ yb fb _ _ s3 f (n :: lp) _ va x.a left3 HR3.out hse HF3.out (by simp only[List.length_cons];omega) HBD3.out HX3.out).mono ?_;rintro e w4 ⟨rfl,rs4,lv4,hrel4,hf4,hto4⟩;obtain⟨hbt4,hnv4,hlv4⟩:=hto4.held HR3.out HF3.out HBT3.out hnv3 hlv3;have hkp4:Keeps (nK K) (nK K) _ w4:=Keeps.to hto4 (HF3.out.noB HR3.out) _;have hxb4:=(hkp4 _ _ _ hnk HXB3.out (.inl rfl)).1;have hbd4:=HBD3.out.keep hkp4;have hTO4:=HTO3.out.trans hto4;obtain⟨gl4,pl4,rfl⟩:∃ gl cap',lv4=.slice (some ⟨gl,0,none⟩) (lp.length+1) cap':=by
        rcases hf4.row.2 with⟨_,h0⟩|⟨g,cap',_,hv,_⟩
        ·simp at h0
        ·exact⟨g,cap',hv⟩
       have hnc4:lp.length+1<=pl4:=by
        rcases hf4.row.2 with⟨hv,h0⟩|⟨g,cap',_,hv,_,_,hnc,_⟩
        ·simp at h0
        ·injection hv with e1 e2 e3;subst e3;simpa using hnc
       obtain⟨hrel5,hf5,hto5,hkp5⟩:=hf4.popD hrel4;obtain⟨hbt5,hnv5,hlv5⟩:=hto5.held hrel4 hf4 hbt4 hnv4 hlv4;have hxb5:=(hkp5 _ _ _ hnk hxb4 (.inl rfl)).1;have hbd5:=hbd4.keep hkp5;have hTO5:=hTO4.trans hto5;have hst5:=(xRun_keep _ _ _ _ _ HX3.out).2;have HE3:Hid (left3=false->s3.e=0):=fun e=>by have h:=HX3.out;rw[e] at h;exact xBody_e _ _ _ _ _ _ hse h
       have hinn1:In (n+1):=by unfold In at hinn hinm ⊢;omega
       obtain⟨nm4,vb4,hb4,-⟩:=hf4.blk;have cf4:w4.cell? ⟨fb,3,none⟩=some (.slice (some ⟨gl4,0,none⟩) (lp.length+1) pl4):=hb4.cell rfl;have ff4:=hb4.free 3;have HR5:=hide hrel5;have HF5:=hide hf5;have HTO5:=hide hTO5;have HBT5:=hide hbt5;have HXB5:=hide hxb5;have HBD5:=hide hbd5;clear hrel4 hf4 hto4 hkp4 hbt4 hxb4 hbd4 hTO4 hrel5 hf5 hto5 hkp5 hbt5 hxb5 hbd5 hTO5 hb4 HR3 HF3 HTO3 HBT3 HXB3 HBD3 HX3 cf3 ff3 cx3 hnv2 hlv2 hnv3 hlv3 hnv4 hlv4;have hxx:=HXX.out;clear HXX;by_cases hl3:left3=true
       ·subst hl3;rw[if_pos rfl] at hxx;injection hxx with hxx;injection hxx with hx1 hx2;subst hx1;subst hx2;go_wp2
        go_region
        all_goals
         go_wp2;go_ret;exact⟨rfl,rs4,_,HR5.out,HF5.out,HTO5.out⟩
       ·have hl3:left3=false:=by simpa using hl3
        subst hl3;rw[if_neg (by simp)] at hxx;have HXX:=hide hxx;have he3:s3.e=0:=HE3.out rfl;clear hxx;go_wp2
        go_region
        all_goals
         have hwn:wrap64 (n+1)=n+1:=by unfold In at hinn1;unfold wrap64;omega
         go_wp2
         go_roundw
         case rel=>exact⟨n+1,by rw[hwn],⟨⟨g',rs4,_,s3,by omega,HR5.out,he3,HF5.out,by omega,HTO5.out,HXX.out,HBT5.out,hnv5,hlv5⟩,HBD5.out,hinn1⟩,HXB5.out⟩
         case measure=>simp[intOf,hwn];omega
     ·rw[if_pos hse] at hx;rw[decide_eq_false hse];injection hx with hx;injection hx with hx1 hx2;subst hx1;subst hx2;clear hbt2 hxb2 hbd2;go_wp2;go_ret;exact⟨rfl,rs2,lvk,hrel2,hf2,hTO2⟩
    ·rw[if_neg hnm] at hx;injection hx with hx;injection hx with hx1 hx2;subst hx1;subst hx2;go_wp2;go_ret;exact⟨rfl,rsk,lvk,hrel,hfk,hto⟩
 ·rename_i hne
  injection hx with hx;injection hx with hx1 hx2;subst hx1;subst hx2;have hlt:(s.rs.reverse.length:Int) < 2:=by
   rw[List.length_reverse]
   match hrs:s.rs with
   | []=>simp
   | [a]=>simp
   | b :: m :: r=>exact absurd hrs (hne b m r)
  go_enter Tryz.func212,Tryz.ntmps212;have hK0:Kp w (w.alloc (.cells #[.int .u8 x.kind,.int .i64 x.n,.string nm,va,vb,vt] 227)) (fun _=>False):=(Kp.refl w _).alloc _;have hr0:=hr.kpF hK0;have hnk:nK K w.heap.size:=fun h=>Nat.lt_irrefl _ (hr.dr.old _ h);obtain⟨hf0,hto0⟩:=hf.sto hr (STo.kpF (rs:=rs) hK0);have hi0:=hi.kp hK0;clear hr hf hi hK0 hat
  go_wp2_with fail
  refine (takeR_under _ _ _ _ _ hi0 hlt).mono ?_;rintro e w2 ⟨v,rfl,hi2,hto2⟩;have HN:=hr0.turn (s':=s.err 6) hto2 rfl ⟨_,hi2,(fun h=>by cases h)⟩ rfl hr0.st hr0.mem hr0.out rfl rfl rfl rfl rfl ⟨hg.g,hg.s0,hg.s1,(fun h=>by cases h),hg.d0,hg.d1,hg.b0,hg.b1,hg.cb⟩;obtain⟨hf2,hto3⟩:=hf0.sto hr0 HN.2;clear hi2 hto2 hi0;go_wp2;go_ret;exact⟨rfl,_,lv,HN.1,hf2,hto0.trans hto3⟩
end
section
open Go.RowKit
variable {K:Nat->Prop}
def stepsOf (w:World) (yb:Nat):Int:=match w.cell? ⟨yb,22,none⟩ with
 | some (.int _ n)=>n
 | _=>0
theorem stepsOf_eq {w:World} {yb:Nat} {rs:RS} {s:St} (h:RRel K w yb rs s):stepsOf w yb=s.steps:=by
 have:w.cell? ⟨yb,22,none⟩=some (.int .i64 s.steps):=by rw[<-h.st];exact h.blk.cell rfl
 unfold stepsOf;rw[this]
def CIk (K:Nat->Prop) (kind:Nat) (g:Nat):Prop:=∀ (w:World) (yb fb:Nat) (rs:RS) (s s':St) (f:Fr) (lp:List Int) (lv:Value) (x:It) (nm:ByteArray) (va vb vt:Value) (left:Bool),x.kind=kind->RRel K w yb rs s->s.e=0->FrAt K w fb f lp lv rs.nv->(lp.length:Int)<=s.steps ->
 ItAt (Body K w) (Toks K w) x nm va vb vt->xRun g (jItem f lp x) s=some (s',left)->Calls Tryz.prog 189 #[.pointer (some ⟨yb,0,none⟩),.pointer (some ⟨fb,0,none⟩),itV x nm va vb vt] w fun e w'=>e=.returned (.bool left)/\FPost K yb fb w w' rs s' f lp lv
structure BeginAt (K:Nat->Prop) (kind g yb fb:Nat) (w wr:World) (rs:RS) (s':St) (f:Fr) (lp:List Int) (lv:Value) (x:It) (nm:ByteArray) (va vb vt:Value) (left:Bool):Prop where
 ex:∃ g' rsk lvk sk,g'<=g/\RRel K wr yb rsk sk/\sk.e=0/\FrAt K wr fb f lp lvk rsk.nv/\(lp.length:Int)<=sk.steps/\FTo yb fb w wr rs rsk lv lvk/\xRun g' (jItem f lp x) sk=some (s',left)
 a:Body K wr va x.a
 b:Body K wr vb x.b
 x:Blk wr w.heap.size 227 #[.int .u8 kind,.int .i64 x.n,.string nm,va,vb,vt]
theorem runIf (g:Nat) (hB:∀ g',g' < g->CB K g'):CIk K 63 g:=by
 intro w yb fb rs s s' f lp lv x nm va vb vt left hk hr he hf hlp hat hx;have HB:=hide hB;clear hB
 cases g with
 | zero=>cases hx
 | succ g=>
 rw[x_if _ _ _ _ _ hk] at hx;have hK0:Kp w (w.alloc (.cells #[.int .u8 63,.int .i64 x.n,.string nm,va,vb,vt] 227)) (fun _=>False):=(Kp.refl w _).alloc _;have hr0:=hr.kpF hK0;have hnk:nK K w.heap.size:=fun h=>Nat.lt_irrefl _ (hr.dr.old _ h);obtain⟨hf0,hto0⟩:=hf.sto hr (STo.kpF (rs:=rs) hK0);have hxb:=Blk.new w #[.int .u8 63,.int .i64 x.n,.string nm,va,vb,vt] 227;have hba:=hat.a.keep (Keeps.kpF hK0 (nK K));have hbb:=hat.b.keep (Keeps.kpF hK0 (nK K));have hbt:=toksIn_keep (Keeps.kpF hK0 (nK K)) hat.t;have hnm:=hat.nm;have hin:=hat.n;have HX:=hide hx;clear hr hf hK0 hat hx;rw[show itV x nm va vb vt=.agg #[.int .u8 63,.int .i64 x.n,.string nm,va,vb,vt] by unfold itV;rw[hk];rfl];have HK:=hide hk;clear hk;go_enter Tryz.func189,Tryz.ntmps189
 go_wp2_with fail
 generalize hW0:w.alloc (.cells #[.int .u8 63,.int .i64 x.n,.string nm,va,vb,vt] 227)=w0 at hr0 hf0 hto0 hxb hba hbb hbt ⊢;clear hW0;refine (testS _ yb rs s hr0 he).mono ?_;rintro e w1 ⟨rfl,rs1,hr1,hsto1⟩;obtain⟨hf1,hto1⟩:=hf0.sto hr0 hsto1;have hkp1:Keeps (nK K) (nK K) w0 w1:=Keeps.to hsto1 hr0.noB _;have hxb1:=(hkp1 _ _ _ hnk hxb (.inl rfl)).1;have hba1:=hba.keep hkp1;have hbb1:=hbb.keep hkp1;have ce:w1.cell? ⟨yb,21,none⟩=some (.int .i64 s.test.1.e):=by rw[<-hr1.e];exact hr1.blk.cell rfl
 have cx0:=hxb1.cell (o:=0) rfl;have cx3:=hxb1.cell (o:=3) rfl;have cx4:=hxb1.cell (o:=4) rfl;have hxx:=HX.out;clear hr0 hf0 hsto1 hxb hba hbb hbt hkp1 hxb1 HX;by_cases he1:s.test.1.e=0
 ·rw[if_neg (by simp[he1])] at hxx;rw[he1] at ce;by_cases ht:s.test.2=true
  ·rw[if_pos ht] at hxx;rw[ht];have HX1:=hide hxx;clear hxx ht hbb1
   go_wp2_with fail
   refine (HB.out g (by omega) _ yb fb _ _ s' f lp lv va x.a left hr1 he1 hf1 (by have:=St.test_steps s;omega) hba1 HX1.out).mono ?_;rintro e w2 ⟨rfl,rs2,lv2,hrel2,hf2,hto2⟩;have hTO:=hto0.trans (hto1.trans hto2);clear hr1 hf1 hto1 hto2;go_wp2;go_ret;exact⟨rfl,rs2,lv2,hrel2,hf2,hTO⟩
  ·rw[if_neg ht] at hxx;rw[show s.test.2=false by simpa using ht];have HX1:=hide hxx;clear hxx ht hba1
   go_wp2_with fail
   refine (HB.out g (by omega) _ yb fb _ _ s' f lp lv vb x.b left hr1 he1 hf1 (by have:=St.test_steps s;omega) hbb1 HX1.out).mono ?_;rintro e w2 ⟨rfl,rs2,lv2,hrel2,hf2,hto2⟩;have hTO:=hto0.trans (hto1.trans hto2);clear hr1 hf1 hto1 hto2;go_wp2;go_ret;exact⟨rfl,rs2,lv2,hrel2,hf2,hTO⟩
 ·rw[if_pos he1] at hxx;injection hxx with hxx;injection hxx with hx1 hx2;subst hx1;subst hx2;clear hba1 hbb1;go_wp2;go_ret;exact⟨rfl,rs1,lv,hr1,hf1,hto0.trans hto1⟩
theorem runUntil (g:Nat) (hB:∀ g',g' < g->CB K g'):CIk K 117 g:=by
 intro w yb fb rs s s' f lp lv x nm va vb vt left hk hr he hf hlp hat hx;have HB:=hide hB;clear hB;have hK0:Kp w (w.alloc (.cells #[.int .u8 117,.int .i64 x.n,.string nm,va,vb,vt] 227)) (fun _=>False):=(Kp.refl w _).alloc _;have hr0:=hr.kpF hK0;have hnk:nK K w.heap.size:=fun h=>Nat.lt_irrefl _ (hr.dr.old _ h);obtain⟨hf0,hto0⟩:=hf.sto hr (STo.kpF (rs:=rs) hK0);have hxb:=Blk.new w #[.int .u8 117,.int .i64 x.n,.string nm,va,vb,vt] 227;have hba:=hat.a.keep (Keeps.kpF hK0 (nK K));have hbb:=hat.b.keep (Keeps.kpF hK0 (nK K));have hbt:=toksIn_keep (Keeps.kpF hK0 (nK K)) hat.t;have hnm:=hat.nm;have hin:=hat.n;have HX:=hide hx;clear hr hf hK0 hat hx;rw[show itV x nm va vb vt=.agg #[.int .u8 117,.int .i64 x.n,.string nm,va,vb,vt] by unfold itV;rw[hk];rfl];have HK:=hide hk;clear hk;go_enter Tryz.func189,Tryz.ntmps189
 go_wp2_with fail
 generalize hW0:w.alloc (.cells #[.int .u8 117,.int .i64 x.n,.string nm,va,vb,vt] 227)=w0 at hr0 hf0 hto0 hxb hba hbb hbt ⊢;clear hW0;have HL:Hid (BeginAt K 117 g yb fb w w0 rs s' f lp lv x nm va vb vt left):=⟨⟨g,rs,lv,s,Nat.le_refl _,hr0,he,hf0,hlp,hto0,HX.out⟩,hba,hbb,hxb⟩;clear hr0 hf0 hto0 HX hba hbb hxb hbt he hlp
 go_loopw [8] (fun _ wr=>BeginAt K 117 g yb fb w wr rs s' f lp lv x nm va vb vt left) (fun _ wr=>(2002 - stepsOf wr yb).toNat)
 case atStart=>exact HL.out
 case round=>
  clear HL;obtain⟨⟨g',rsk,lvk,sk,hg',hrel,hek,hfk,hlpk,hto,hx⟩,hba,hbb,hxb⟩:=hrel;have HSO:=hide (stepsOf_eq hrel);have cx3:=hxb.cell (o:=3) rfl
  cases g' with
  | zero=>cases hx
  | succ g'=>
   rw[x_until _ _ _ _ _ HK.out] at hx
   split at hx
   ·cases hx
   ·rename_i s1 left1 hx1
    go_wp2_with fail
    refine (HB.out g' (by omega) _ yb fb _ _ s1 f lp lvk va x.a left1 hrel hek hfk hlpk hba hx1).mono ?_;rintro e w1 ⟨rfl,rs1,lv1,hrel1,hf1,hto1⟩;have hkp1:Keeps (nK K) (nK K) wr w1:=Keeps.to hto1 (hfk.noB hrel) _;have hxb1:=(hkp1 _ _ _ hnk hxb (.inl rfl)).1;have hba1:=hba.keep hkp1;have hbb1:=hbb.keep hkp1;have hst1:=(xRun_keep _ _ _ _ _ hx1).2;have HE1:Hid (left1=false->s1.e=0):=fun e=>by have h:=hx1;rw[e] at h;exact xBody_e _ _ _ _ _ _ hek h
    have hTO1:=hto.trans hto1;have hxx:=hx;clear hx hx1 hrel hfk hto hba hbb hxb cx3 hto1 hkp1 hek;by_cases hl1:left1=true
    ·subst hl1;rw[if_pos rfl] at hxx;injection hxx with hxx;injection hxx with hx1 hx2;subst hx1;subst hx2;clear hba1 hbb1 hxb1 HE1;go_wp2;go_ret;exact⟨rfl,rs1,lv1,hrel1,hf1,hTO1⟩
    ·have hl1:left1=false:=by simpa using hl1
     subst hl1;rw[if_neg (by simp)] at hxx;have he1:=HE1.out rfl
     go_wp2_with fail
     refine (testS _ yb rs1 s1 hrel1 he1).mono ?_;rintro e w2 ⟨rfl,rs2,hrel2,hsto2⟩;obtain⟨hf2,hto2⟩:=hf1.sto hrel1 hsto2;have hkp2:Keeps (nK K) (nK K) w1 w2:=Keeps.to hsto2 hrel1.noB _;have hxb2:=(hkp2 _ _ _ hnk hxb1 (.inl rfl)).1;have hba2:=hba1.keep hkp2;have hbb2:=hbb1.keep hkp2;have hTO2:=hTO1.trans hto2;have hst2:=St.test_steps s1;have hst3:=hrel2.good.s1;have ce:w2.cell? ⟨yb,21,none⟩=some (.int .i64 s1.test.1.e):=by rw[<-hrel2.e];exact hrel2.blk.cell rfl
     have HSO2:=hide (stepsOf_eq hrel2);have HR2:=hide hrel2;have HF2:=hide hf2;have HT2:=hide hTO2;have HX2:=hide hxb2;have HA2:=hide hba2;have HB2:=hide hbb2;clear hrel1 hf1 hTO1 hxb1 hba1 hbb1 hkp2 hsto2 hto2 hrel2 hf2 hTO2 hba2 hbb2 HE1;by_cases he2:s1.test.1.e=0
     ·rw[if_neg (by simp[he2])] at hxx;rw[he2] at ce;by_cases ht:s1.test.2=true
      ·rw[if_pos ht] at hxx;rw[ht];clear ht;injection hxx with hxx;injection hxx with hx1 hx2;subst hx1;subst hx2;go_wp2;go_ret;exact⟨rfl,rs2,lv1,HR2.out,HF2.out,HT2.out⟩
      ·rw[if_neg ht] at hxx;rw[show s1.test.2=false by simpa using ht];have HXX:=hide hxx;clear ht hxx;go_wp2
       go_roundw
       case rel=>exact⟨⟨g',rs2,lv1,_,by omega,HR2.out,he2,HF2.out,by omega,HT2.out,HXX.out⟩,HA2.out,HB2.out,HX2.out⟩
       case measure=>rw[HSO.out,HSO2.out];omega
     ·rw[if_pos he2] at hxx;injection hxx with hxx;injection hxx with hx1 hx2;subst hx1;subst hx2
      cases ht:s1.test.2 with
      | true=>
       go_wp2;go_ret;exact⟨by first|rfl|(show Ending.returned (.bool (s1.test.1.e != 0))=_;simp[he2]),rs2,lv1,HR2.out,HF2.out,HT2.out⟩
      | false=>
       go_wp2;go_ret;exact⟨by first|rfl|(show Ending.returned (.bool (s1.test.1.e != 0))=_;simp[he2]),rs2,lv1,HR2.out,HF2.out,HT2.out⟩
theorem runWhile (g:Nat) (hB:∀ g',g' < g->CB K g'):CIk K 119 g:=by
 intro w yb fb rs s s' f lp lv x nm va vb vt left hk hr he hf hlp hat hx;have HB:=hide hB;clear hB;have hK0:Kp w (w.alloc (.cells #[.int .u8 119,.int .i64 x.n,.string nm,va,vb,vt] 227)) (fun _=>False):=(Kp.refl w _).alloc _;have hr0:=hr.kpF hK0;have hnk:nK K w.heap.size:=fun h=>Nat.lt_irrefl _ (hr.dr.old _ h);obtain⟨hf0,hto0⟩:=hf.sto hr (STo.kpF (rs:=rs) hK0);have hxb:=Blk.new w #[.int .u8 119,.int .i64 x.n,.string nm,va,vb,vt] 227;have hba:=hat.a.keep (Keeps.kpF hK0 (nK K));have hbb:=hat.b.keep (Keeps.kpF hK0 (nK K));have hbt:=toksIn_keep (Keeps.kpF hK0 (nK K)) hat.t;have hnm:=hat.nm;have hin:=hat.n;have HX:=hide hx;clear hr hf hK0 hat hx;rw[show itV x nm va vb vt=.agg #[.int .u8 119,.int .i64 x.n,.string nm,va,vb,vt] by unfold itV;rw[hk];rfl];have HK:=hide hk;clear hk;go_enter Tryz.func189,Tryz.ntmps189
 go_wp2_with fail
 generalize hW0:w.alloc (.cells #[.int .u8 119,.int .i64 x.n,.string nm,va,vb,vt] 227)=w0 at hr0 hf0 hto0 hxb hba hbb hbt ⊢;clear hW0;have HL:Hid (BeginAt K 119 g yb fb w w0 rs s' f lp lv x nm va vb vt left):=⟨⟨g,rs,lv,s,Nat.le_refl _,hr0,he,hf0,hlp,hto0,HX.out⟩,hba,hbb,hxb⟩;clear hr0 hf0 hto0 HX hba hbb hxb hbt he hlp
 go_loopw [10] (fun _ wr=>BeginAt K 119 g yb fb w wr rs s' f lp lv x nm va vb vt left) (fun _ wr=>(2002 - stepsOf wr yb).toNat)
 case atStart=>exact HL.out
 case round=>
  clear HL;obtain⟨⟨g',rsk,lvk,sk,hg',hrel,hek,hfk,hlpk,hto,hx⟩,hba,hbb,hxb⟩:=hrel;have HSO:=hide (stepsOf_eq hrel);have cx3:=hxb.cell (o:=3) rfl
  cases g' with
  | zero=>cases hx
  | succ g'=>
   rw[x_while _ _ _ _ _ HK.out] at hx
   split at hx
   ·cases hx
   ·rename_i s1 left1 hx1
    go_wp2_with fail
    refine (HB.out g' (by omega) _ yb fb _ _ s1 f lp lvk va x.a left1 hrel hek hfk hlpk hba hx1).mono ?_;rintro e w1 ⟨rfl,rs1,lv1,hrel1,hf1,hto1⟩;have hkp1:Keeps (nK K) (nK K) wr w1:=Keeps.to hto1 (hfk.noB hrel) _;have hxb1:=(hkp1 _ _ _ hnk hxb (.inl rfl)).1;have hba1:=hba.keep hkp1;have hbb1:=hbb.keep hkp1;have hst1:=(xRun_keep _ _ _ _ _ hx1).2;have HE1:Hid (left1=false->s1.e=0):=fun e=>by have h:=hx1;rw[e] at h;exact xBody_e _ _ _ _ _ _ hek h
    have hTO1:=hto.trans hto1;have hxx:=hx;clear hx hx1 hrel hfk hto hba hbb hxb cx3 hto1 hkp1 hek;by_cases hl1:left1=true
    ·subst hl1;rw[if_pos rfl] at hxx;injection hxx with hxx;injection hxx with hx1 hx2;subst hx1;subst hx2;clear hba1 hbb1 hxb1 HE1;go_wp2;go_ret;exact⟨rfl,rs1,lv1,hrel1,hf1,hTO1⟩
    ·have hl1:left1=false:=by simpa using hl1
     subst hl1;rw[if_neg (by simp)] at hxx;have he1:=HE1.out rfl
     go_wp2_with fail
     refine (testS _ yb rs1 s1 hrel1 he1).mono ?_;rintro e w2 ⟨rfl,rs2,hrel2,hsto2⟩;obtain⟨hf2,hto2⟩:=hf1.sto hrel1 hsto2;have hkp2:Keeps (nK K) (nK K) w1 w2:=Keeps.to hsto2 hrel1.noB _;have hxb2:=(hkp2 _ _ _ hnk hxb1 (.inl rfl)).1;have hba2:=hba1.keep hkp2;have hbb2:=hbb1.keep hkp2;have hTO2:=hTO1.trans hto2;have hst2:=St.test_steps s1;have hst3:=hrel2.good.s1;have ce:w2.cell? ⟨yb,21,none⟩=some (.int .i64 s1.test.1.e):=by rw[<-hrel2.e];exact hrel2.blk.cell rfl
     have HSO2:=hide (stepsOf_eq hrel2);have HR2:=hide hrel2;have HF2:=hide hf2;have HT2:=hide hTO2;have HX2:=hide hxb2;have HA2:=hide hba2;have HB2:=hide hbb2;clear hrel1 hf1 hTO1 hxb1 hba1 hbb1 hkp2 hsto2 hto2 hrel2 hf2 hTO2 hba2 hbb2 HE1;by_cases he2:s1.test.1.e=0
     ·rw[if_neg (by simp[he2])] at hxx;rw[he2] at ce;by_cases ht:s1.test.2=false
      ·rw[if_pos ht] at hxx;rw[ht];clear ht;injection hxx with hxx;injection hxx with hx1 hx2;subst hx1;subst hx2;go_wp2;go_ret;exact⟨rfl,rs2,lv1,HR2.out,HF2.out,HT2.out⟩
      ·rw[if_neg ht] at hxx;rw[show s1.test.2=true by simpa using ht];clear ht
       split at hxx
       ·cases hxx
       ·rename_i s3 left3 hx3
        have cx4:=hxb2.cell (o:=4) rfl
        go_wp2_with fail
        refine (HB.out g' (by omega) _ yb fb _ _ s3 f lp lv1 vb x.b left3 HR2.out he2 HF2.out (by omega) HB2.out hx3).mono ?_;rintro e w3 ⟨rfl,rs3,lv3,hrel3,hf3,hto3⟩;have hkp3:Keeps (nK K) (nK K) w2 w3:=Keeps.to hto3 (HF2.out.noB HR2.out) _;have hxb3:=(hkp3 _ _ _ hnk HX2.out (.inl rfl)).1;have hba3:=HA2.out.keep hkp3;have hbb3:=HB2.out.keep hkp3;have hst4:=(xRun_keep _ _ _ _ _ hx3).2;have hst5:=hrel3.good.s1;have HE3:Hid (left3=false->s3.e=0):=fun e=>by have h:=hx3;rw[e] at h;exact xBody_e _ _ _ _ _ _ he2 h
        have hTO3:=HT2.out.trans hto3;have HSO3:=hide (stepsOf_eq hrel3);clear hx3 ce cx4 hto3 hkp3 HR2 HF2 HT2 HX2 HA2 HB2 hxb2;by_cases hl3:left3=true
        ·subst hl3;rw[if_pos rfl] at hxx;injection hxx with hxx;injection hxx with hx1 hx2;subst hx1;subst hx2;clear hba3 hbb3 hxb3 HE3;go_wp2;go_ret;exact⟨rfl,rs3,lv3,hrel3,hf3,hTO3⟩
        ·have hl3:left3=false:=by simpa using hl3
         subst hl3;rw[if_neg (by simp)] at hxx;have HXX:=hide hxx;have he3:=HE3.out rfl;have HR3:=hide hrel3;have HF3:=hide hf3;have HT3:=hide hTO3;have HX3:=hide hxb3;have HA3:=hide hba3;have HB3:=hide hbb3;clear hxx hrel3 hf3 hTO3 hxb3 hba3 hbb3 HE3;go_wp2
         go_roundw
         case rel=>exact⟨⟨g',rs3,lv3,_,by omega,HR3.out,he3,HF3.out,by omega,HT3.out,HXX.out⟩,HA3.out,HB3.out,HX3.out⟩
         case measure=>rw[HSO.out,HSO3.out];omega
     ·rw[if_pos he2] at hxx;injection hxx with hxx;injection hxx with hx1 hx2;subst hx1;subst hx2
      cases ht:s1.test.2 with
      | true=>
       go_wp2;go_ret;exact⟨by first|rfl|(show Ending.returned (.bool (s1.test.1.e != 0))=_;simp[he2]),rs2,lv1,HR2.out,HF2.out,HT2.out⟩
      | false=>
       go_wp2;go_ret;exact⟨by first|rfl|(show Ending.returned (.bool (s1.test.1.e != 0))=_;simp[he2]),rs2,lv1,HR2.out,HF2.out,HT2.out⟩
end
section
open Go.RowKit
variable {K:Nat->Prop}
section
variable (g:Nat) (f:Fr) (lp:List Int) (x:It) (s:St)
theorem one_n (h:x.kind=110):xOne g f lp x s=some (s.put x.n,decide ((s.put x.n).e ≠ 0)):=by unfold xOne;rw[if_pos h]
theorem one_p (h:x.kind=112):xOne g f lp x s=match plainL.findIdx? (· == x.name) with
  | none=>none
  | some k=>some (s.word k,decide ((s.word k).e ≠ 0)):=by unfold xOne;rw[if_neg (by omega),if_pos h];rfl
theorem one_i (h:x.kind=105):xOne g f lp x s=match lp with
  | []=>none
  | i :: _=>some (s.put i,decide ((s.put i).e ≠ 0)):=by unfold xOne;rw[if_neg (by omega),if_neg (by omega),if_pos h];rfl
theorem one_x (h:x.kind=120):xOne g f lp x s=some (s,true):=by unfold xOne;rw[if_neg (by omega),if_neg (by omega),if_neg (by omega),if_pos h]
theorem one_r (h:x.kind=114):xOne g f lp x s=match xRun g (jEnter f) s with
  | none=>none
  | some (s2,_)=>some (s2,decide (s2.e ≠ 0)):=by unfold xOne;rw[if_neg (by omega),if_neg (by omega),if_neg (by omega),if_neg (by omega),if_pos h];rfl
theorem one_c (h:x.kind=99):xOne g f lp x s=match xRun g (jCall x.name) s with
  | none=>none
  | some (s2,_)=>some (s2,decide (s2.e ≠ 0)):=by unfold xOne;rw[if_neg (by omega),if_neg (by omega),if_neg (by omega),if_neg (by omega),if_neg (by omega),if_pos h];rfl
theorem one_b (h:x.kind=123):xOne g f lp x s=if 20<=s.depth then some (s.err 8,true) else
  match xRun g (jToks x.toks) { s with depth:=s.depth+1 } with
  | none=>none
  | some (s2,_)=>some ({ s2 with depth:=s2.depth - 1 },decide (s2.e ≠ 0)):=by unfold xOne;rw[if_neg (by omega),if_neg (by omega),if_neg (by omega),if_neg (by omega),if_neg (by omega),if_neg (by omega),if_pos h];rfl
theorem one_d (h:x.kind=100):xOne g f lp x s=xLoop g f lp x.a s:=by unfold xOne xLoop;rw[if_neg (by omega),if_neg (by omega),if_neg (by omega),if_neg (by omega),if_neg (by omega),if_neg (by omega),if_neg (by omega),if_pos h];rfl
theorem one_none (h1:¬ x.kind=110) (h2:¬ x.kind=112) (h3:¬ x.kind=105) (h4:¬ x.kind=120) (h5:¬ x.kind=114) (h6:¬ x.kind=99) (h7:¬ x.kind=123) (h8:¬ x.kind=100):xOne g f lp x s=none:=by
 unfold xOne;rw[if_neg h1,if_neg h2,if_neg h3,if_neg h4,if_neg h5,if_neg h6,if_neg h7,if_neg h8]
end
theorem plain_at {t:Tok} {k:Nat} (h:plainL.findIdx? (· == t)=some k):plainL[k]? = some t:=by
 obtain⟨h1,h2,_⟩:=List.findIdx?_eq_some_iff_getElem.1 h;rw[List.getElem?_eq_getElem h1];simp at h2;rw[h2]
theorem ne_dec (e:Int):(e != 0)=decide (e ≠ 0):=by by_cases h:e=0 <;> simp[h]
theorem runNu (g:Nat):CIk K 110 g:=by
 intro w yb fb rs s s' f lp lv x nm va vb vt left hk hr he hf hlp hat hx
 cases g with
 | zero=>cases hx
 | succ g=>
 rw[x_one _ _ _ _ _ (by omega) (by omega) (by omega)] at hx;have hK0:Kp w (w.alloc (.cells #[.int .u8 110,.int .i64 x.n,.string nm,va,vb,vt] 227)) (fun _=>False):=(Kp.refl w _).alloc _;have hr0:=hr.kpF hK0;have hnk:nK K w.heap.size:=fun h=>Nat.lt_irrefl _ (hr.dr.old _ h);obtain⟨hf0,hto0⟩:=hf.sto hr (STo.kpF (rs:=rs) hK0);have hxb:=Blk.new w #[.int .u8 110,.int .i64 x.n,.string nm,va,vb,vt] 227;have hba:=hat.a.keep (Keeps.kpF hK0 (nK K));have hbb:=hat.b.keep (Keeps.kpF hK0 (nK K));have hbt:=toksIn_keep (Keeps.kpF hK0 (nK K)) hat.t;have hnm:=hat.nm;have hin:=hat.n;have HX:=hide hx;clear hr hf hK0 hat hx;rw[show itV x nm va vb vt=.agg #[.int .u8 110,.int .i64 x.n,.string nm,va,vb,vt] by unfold itV;rw[hk];rfl];have HK:=hide hk;clear hk;go_enter Tryz.func189,Tryz.ntmps189
 go_wp2_with fail
 generalize hW0:w.alloc (.cells #[.int .u8 110,.int .i64 x.n,.string nm,va,vb,vt] 227)=w0 at hr0 hf0 hto0 hxb hba hbb hbt ⊢;clear hW0;refine (stepS _ yb rs s hr0 he).mono ?_;rintro e w1 ⟨rfl,rs1,hr1,hsto1,-⟩;obtain⟨hf1,hto1⟩:=hf0.sto hr0 hsto1;have hkp1:Keeps (nK K) (nK K) w0 w1:=Keeps.to hsto1 hr0.noB _;have hxb1:=(hkp1 _ _ _ hnk hxb (.inl rfl)).1;have hxx:=HX.out;have cx0:=hxb1.cell (o:=0) rfl;have hTO1:=hto0.trans hto1;have hst1:=St.step_steps s;have HBA:=hide (hba.keep hkp1);have HBB:=hide (hbb.keep hkp1);have HBT:=hide (toksIn_keep hkp1 hbt);clear hr0 hf0 hsto1 hxb hba hbb hbt hkp1 HX hto0 hto1;by_cases he1:s.step.e=0
 ·rw[if_neg (by simp[he1])] at hxx;rw[decide_eq_true he1];generalize s.step=s1 at hr1 hst1 hxx he1;have cx1:=hxb1.cell (o:=1) rfl;rw[one_n _ _ _ _ _ HK.out] at hxx;injection hxx with hxx;injection hxx with hx1 hx2;subst hx1;subst hx2
  go_wp2_with fail
  refine (putS _ yb rs1 s1 x.n hr1 he1 hin.1).mono ?_;rintro e w2 ⟨rfl,rs2,hr2,hsto2⟩;obtain⟨hf2,hto2⟩:=hf1.sto hr1 hsto2;clear hr1 hf1 hsto2 hxb1 cx1;have ce:w2.cell? ⟨yb,21,none⟩=some (.int .i64 (s1.put x.n).e):=by rw[<-hr2.e];exact hr2.blk.cell rfl
  go_wp2;go_ret;exact⟨by show Ending.returned (.bool ((s1.put x.n).e != 0))=_;rw[ne_dec],rs2,lv,hr2,hf2,hTO1.trans hto2⟩
 ·rw[if_pos he1] at hxx;rw[decide_eq_false he1];injection hxx with hxx;injection hxx with hx1 hx2;subst hx1;subst hx2;clear cx0;go_wp2;go_ret;exact⟨rfl,rs1,lv,hr1,hf1,hTO1⟩
theorem runPl (g:Nat):CIk K 112 g:=by
 intro w yb fb rs s s' f lp lv x nm va vb vt left hk hr he hf hlp hat hx
 cases g with
 | zero=>cases hx
 | succ g=>
 rw[x_one _ _ _ _ _ (by omega) (by omega) (by omega)] at hx;have hK0:Kp w (w.alloc (.cells #[.int .u8 112,.int .i64 x.n,.string nm,va,vb,vt] 227)) (fun _=>False):=(Kp.refl w _).alloc _;have hr0:=hr.kpF hK0;have hnk:nK K w.heap.size:=fun h=>Nat.lt_irrefl _ (hr.dr.old _ h);obtain⟨hf0,hto0⟩:=hf.sto hr (STo.kpF (rs:=rs) hK0);have hxb:=Blk.new w #[.int .u8 112,.int .i64 x.n,.string nm,va,vb,vt] 227;have hba:=hat.a.keep (Keeps.kpF hK0 (nK K));have hbb:=hat.b.keep (Keeps.kpF hK0 (nK K));have hbt:=toksIn_keep (Keeps.kpF hK0 (nK K)) hat.t;have hnm:=hat.nm;have hin:=hat.n;have HX:=hide hx;clear hr hf hK0 hat hx;rw[show itV x nm va vb vt=.agg #[.int .u8 112,.int .i64 x.n,.string nm,va,vb,vt] by unfold itV;rw[hk];rfl];have HK:=hide hk;clear hk;go_enter Tryz.func189,Tryz.ntmps189
 go_wp2_with fail
 generalize hW0:w.alloc (.cells #[.int .u8 112,.int .i64 x.n,.string nm,va,vb,vt] 227)=w0 at hr0 hf0 hto0 hxb hba hbb hbt ⊢;clear hW0;refine (stepS _ yb rs s hr0 he).mono ?_;rintro e w1 ⟨rfl,rs1,hr1,hsto1,-⟩;obtain⟨hf1,hto1⟩:=hf0.sto hr0 hsto1;have hkp1:Keeps (nK K) (nK K) w0 w1:=Keeps.to hsto1 hr0.noB _;have hxb1:=(hkp1 _ _ _ hnk hxb (.inl rfl)).1;have hxx:=HX.out;have cx0:=hxb1.cell (o:=0) rfl;have hTO1:=hto0.trans hto1;have hst1:=St.step_steps s;have HBA:=hide (hba.keep hkp1);have HBB:=hide (hbb.keep hkp1);have HBT:=hide (toksIn_keep hkp1 hbt);clear hr0 hf0 hsto1 hxb hba hbb hbt hkp1 HX hto0 hto1;by_cases he1:s.step.e=0
 ·rw[if_neg (by simp[he1])] at hxx;rw[decide_eq_true he1];generalize s.step=s1 at hr1 hst1 hxx he1;have cx2:=hxb1.cell (o:=2) rfl;rw[one_p _ _ _ _ _ HK.out] at hxx
  split at hxx
  ·cases hxx
  ·rename_i k hkk
   have hkk:=plain_at hkk;injection hxx with hxx;injection hxx with hx1 hx2;subst hx1;subst hx2
   go_wp2_with fail
   refine (wordS _ yb rs1 s1 k nm (by rw[ByteArray.toList_eq,hnm];exact hkk) hr1 he1).mono ?_;rintro e w2 ⟨rfl,rs2,hr2,hsto2⟩;obtain⟨hf2,hto2⟩:=hf1.sto hr1 hsto2;clear hr1 hf1 hsto2 hxb1 cx2 hkk;have ce:w2.cell? ⟨yb,21,none⟩=some (.int .i64 (s1.word k).e):=by rw[<-hr2.e];exact hr2.blk.cell rfl
   go_wp2;go_ret;exact⟨by show Ending.returned (.bool ((s1.word k).e != 0))=_;rw[ne_dec],rs2,lv,hr2,hf2,hTO1.trans hto2⟩
 ·rw[if_pos he1] at hxx;rw[decide_eq_false he1];injection hxx with hxx;injection hxx with hx1 hx2;subst hx1;subst hx2;clear cx0;go_wp2;go_ret;exact⟨rfl,rs1,lv,hr1,hf1,hTO1⟩
theorem runEx (g:Nat):CIk K 120 g:=by
 intro w yb fb rs s s' f lp lv x nm va vb vt left hk hr he hf hlp hat hx
 cases g with
 | zero=>cases hx
 | succ g=>
 rw[x_one _ _ _ _ _ (by omega) (by omega) (by omega)] at hx;have hK0:Kp w (w.alloc (.cells #[.int .u8 120,.int .i64 x.n,.string nm,va,vb,vt] 227)) (fun _=>False):=(Kp.refl w _).alloc _;have hr0:=hr.kpF hK0;have hnk:nK K w.heap.size:=fun h=>Nat.lt_irrefl _ (hr.dr.old _ h);obtain⟨hf0,hto0⟩:=hf.sto hr (STo.kpF (rs:=rs) hK0);have hxb:=Blk.new w #[.int .u8 120,.int .i64 x.n,.string nm,va,vb,vt] 227;have hba:=hat.a.keep (Keeps.kpF hK0 (nK K));have hbb:=hat.b.keep (Keeps.kpF hK0 (nK K));have hbt:=toksIn_keep (Keeps.kpF hK0 (nK K)) hat.t;have hnm:=hat.nm;have hin:=hat.n;have HX:=hide hx;clear hr hf hK0 hat hx;rw[show itV x nm va vb vt=.agg #[.int .u8 120,.int .i64 x.n,.string nm,va,vb,vt] by unfold itV;rw[hk];rfl];have HK:=hide hk;clear hk;go_enter Tryz.func189,Tryz.ntmps189
 go_wp2_with fail
 generalize hW0:w.alloc (.cells #[.int .u8 120,.int .i64 x.n,.string nm,va,vb,vt] 227)=w0 at hr0 hf0 hto0 hxb hba hbb hbt ⊢;clear hW0;refine (stepS _ yb rs s hr0 he).mono ?_;rintro e w1 ⟨rfl,rs1,hr1,hsto1,-⟩;obtain⟨hf1,hto1⟩:=hf0.sto hr0 hsto1;have hkp1:Keeps (nK K) (nK K) w0 w1:=Keeps.to hsto1 hr0.noB _;have hxb1:=(hkp1 _ _ _ hnk hxb (.inl rfl)).1;have hxx:=HX.out;have cx0:=hxb1.cell (o:=0) rfl;have hTO1:=hto0.trans hto1;have hst1:=St.step_steps s;have HBA:=hide (hba.keep hkp1);have HBB:=hide (hbb.keep hkp1);have HBT:=hide (toksIn_keep hkp1 hbt);clear hr0 hf0 hsto1 hxb hba hbb hbt hkp1 HX hto0 hto1;by_cases he1:s.step.e=0
 ·rw[if_neg (by simp[he1])] at hxx;rw[decide_eq_true he1];generalize s.step=s1 at hr1 hst1 hxx he1;rw[one_x _ _ _ _ _ HK.out] at hxx;injection hxx with hxx;injection hxx with hx1 hx2;subst hx1;subst hx2;go_wp2;go_ret;exact⟨rfl,rs1,lv,hr1,hf1,hTO1⟩
 ·rw[if_pos he1] at hxx;rw[decide_eq_false he1];injection hxx with hxx;injection hxx with hx1 hx2;subst hx1;subst hx2;clear cx0;go_wp2;go_ret;exact⟨rfl,rs1,lv,hr1,hf1,hTO1⟩
theorem runCa (g:Nat)(hC:∀ g',g' < g->CC K g'):CIk K 99 g:=by
 intro w yb fb rs s s' f lp lv x nm va vb vt left hk hr he hf hlp hat hx
 cases g with
 | zero=>cases hx
 | succ g=>
 rw[x_one _ _ _ _ _ (by omega) (by omega) (by omega)] at hx;have hK0:Kp w (w.alloc (.cells #[.int .u8 99,.int .i64 x.n,.string nm,va,vb,vt] 227)) (fun _=>False):=(Kp.refl w _).alloc _;have hr0:=hr.kpF hK0;have hnk:nK K w.heap.size:=fun h=>Nat.lt_irrefl _ (hr.dr.old _ h);obtain⟨hf0,hto0⟩:=hf.sto hr (STo.kpF (rs:=rs) hK0);have hxb:=Blk.new w #[.int .u8 99,.int .i64 x.n,.string nm,va,vb,vt] 227;have hba:=hat.a.keep (Keeps.kpF hK0 (nK K));have hbb:=hat.b.keep (Keeps.kpF hK0 (nK K));have hbt:=toksIn_keep (Keeps.kpF hK0 (nK K)) hat.t;have hnm:=hat.nm;have hin:=hat.n;have HX:=hide hx;clear hr hf hK0 hat hx;rw[show itV x nm va vb vt=.agg #[.int .u8 99,.int .i64 x.n,.string nm,va,vb,vt] by unfold itV;rw[hk];rfl];have HK:=hide hk;clear hk;go_enter Tryz.func189,Tryz.ntmps189
 go_wp2_with fail
 generalize hW0:w.alloc (.cells #[.int .u8 99,.int .i64 x.n,.string nm,va,vb,vt] 227)=w0 at hr0 hf0 hto0 hxb hba hbb hbt ⊢;clear hW0;refine (stepS _ yb rs s hr0 he).mono ?_;rintro e w1 ⟨rfl,rs1,hr1,hsto1,-⟩;obtain⟨hf1,hto1⟩:=hf0.sto hr0 hsto1;have hkp1:Keeps (nK K) (nK K) w0 w1:=Keeps.to hsto1 hr0.noB _;have hxb1:=(hkp1 _ _ _ hnk hxb (.inl rfl)).1;have hxx:=HX.out;have cx0:=hxb1.cell (o:=0) rfl;have hTO1:=hto0.trans hto1;have hst1:=St.step_steps s;have HBA:=hide (hba.keep hkp1);have HBB:=hide (hbb.keep hkp1);have HBT:=hide (toksIn_keep hkp1 hbt);clear hr0 hf0 hsto1 hxb hba hbb hbt hkp1 HX hto0 hto1;by_cases he1:s.step.e=0
 ·rw[if_neg (by simp[he1])] at hxx;rw[decide_eq_true he1];generalize s.step=s1 at hr1 hst1 hxx he1;have cx2:=hxb1.cell (o:=2) rfl;rw[one_c _ _ _ _ _ HK.out] at hxx
  split at hxx
  ·cases hxx
  ·rename_i s2 l2 hx2
   have HC2:=hC g (by omega) w1 yb rs1 s1 s2 nm l2 hr1 he1 (by rw[hnm];exact hx2);injection hxx with hxx;injection hxx with hx1 hx2;subst hx1;subst hx2
   go_wp2_with fail
   refine HC2.mono ?_;rintro e w2 ⟨rfl,rs2,hr2,hsto2⟩;obtain⟨hf2,hto2⟩:=hf1.sto hr1 hsto2;clear hr1 hf1 hsto2 hxb1 cx2 hx2 HC2;have ce:w2.cell? ⟨yb,21,none⟩=some (.int .i64 s2.e):=by rw[<-hr2.e];exact hr2.blk.cell rfl
   go_wp2;go_ret;exact⟨by show Ending.returned (.bool (s2.e != 0))=_;rw[ne_dec],rs2,lv,hr2,hf2,hTO1.trans hto2⟩
 ·rw[if_pos he1] at hxx;rw[decide_eq_false he1];injection hxx with hxx;injection hxx with hx1 hx2;subst hx1;subst hx2;clear cx0;go_wp2;go_ret;exact⟨rfl,rs1,lv,hr1,hf1,hTO1⟩
end
end Go.Proofs.YteainaiebcphlaaGreatDoor
