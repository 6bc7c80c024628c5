import Derived.Test.YteainaiebcphlaaGreatDoorV21
import Derived.Test.YteainaiebcphlaaGreatDoorV19
namespace Go.Proofs.YteainaiebcphlaaGreatDoor
set_option maxRecDepth 1000000
set_option maxHeartbeats 4000000
set_option linter.all false
section
open Go.RowKit
section
variable {PS:World->Nat->(Nat->Prop)->St->Prop} {B:Nat} {W0:World} (P:PCon B W0 PS)
include P
def PrPost (B:Nat) (PS:World->Nat->(Nat->Prop)->St->Prop) (c:Nat->Nat) (w w':World) (i:Nat) (p:Pr):Prop:=
 ∃ c' V' rs' s',PrIn B PS c' w' i { p with V:=V',sx:=s',rs:=rs',s:=s' }/\WFs s'/\Mv (fun a=>a=cx i\/a=cy i) c w c' w'
theorem lineL (c:Nat->Nat) (w:World) (i:Nat) (p:Pr) (t:ByteArray) (h:PrIn B PS c w i p) (hs:p.sx=p.s) (wf:WFs p.s):
  Calls Tryz.prog 31 #[.pointer (some ⟨p.pb,0,none⟩),.string t] w fun e w'=>e=.returned (.bool true)/\PrPost B PS c w w' i p:=by
 have k0:w.cell? ⟨p.pb,0,none⟩=some (.pointer (some ⟨p.xb,0,none⟩)):=h.blk.cell rfl;have hx:=h.x;rw[hs] at hx
 cases hv:validB t.data.toList with
 | true=>
  have hfl:(Lib.fields t.data.toList).length<=1000:=by
   have h1:=fields_len t.data.toList [];have h3:t.data.toList.length<=400:=by unfold validB at hv;rw[Bool.and_eq_true] at hv;exact of_decide_eq_true hv.1
   have:(Lib.fields t.data.toList).length<=t.data.toList.length+1:=h1;omega
  obtain⟨g,s1,left,hrun,hwf1⟩:=line_total p.s wf t.data.toList hfl;clear hfl;have HRUN:=hide hrun;have HWF:=hide hwf1;clear hrun hwf1;go_enter Tryz.func31,Tryz.ntmps31
  go_wp2_with fail
  refine (P.line w p.xb p.V p.s s1 left g t hx wf h.y.rel.good hv HRUN.out).mono ?_;rintro e w1 ⟨rfl,V',hx1,hto1⟩;obtain⟨h1,hm1⟩:=h.ranX P hto1 hx1;have k1:w1.cell? ⟨p.pb,1,none⟩=some (.pointer (some ⟨p.yb,0,none⟩)):=h1.blk.cell rfl;have HH1:=hide h1;clear h hx hto1 hx1 k0 h1
  go_wp2_with fail
  refine (lineX_ok w1 p.yb p.rs p.s s1 left t g HH1.out.y hv HRUN.out).mono ?_;rintro e w2 ⟨rfl,rs2,hS2,hto2⟩;obtain⟨h2,hm2⟩:=HH1.out.ranY P hto2 hS2;have HN:Hid (PrPost B PS c w w2 i p):=⟨_,V',rs2,endL s1,h2,HWF.out,(hm1.mono (fun a h=>.inl h)).trans (hm2.mono (fun a h=>.inr h))⟩;clear h2 hm2 hto2 hS2 hm1 HH1 k1 HRUN HWF;go_wp2;go_ret;exact⟨by simp,HN.out⟩
 | false=>
  go_enter Tryz.func31,Tryz.ntmps31
  go_wp2_with fail
  refine (P.lineBad w p.xb p.V p.s t hx hv).mono ?_;rintro e w1 ⟨rfl,V',hx1,hto1⟩;obtain⟨h1,hm1⟩:=h.ranX P hto1 hx1;have k1:w1.cell? ⟨p.pb,1,none⟩=some (.pointer (some ⟨p.yb,0,none⟩)):=h1.blk.cell rfl;have HH1:=hide h1;clear h hx hto1 hx1 k0 h1
  go_wp2_with fail
  refine (lineX_bad w1 p.yb t hv).mono ?_;rintro e w2 ⟨rfl,hk2⟩;obtain⟨h2,hm2⟩:=HH1.out.ranY P (STo.kpF hk2) (HH1.out.y.kpF hk2);have HN:Hid (PrPost B PS c w w2 i p):=⟨_,V',p.rs,p.s,h2,wf,(hm1.mono (fun a h=>.inl h)).trans (hm2.mono (fun a h=>.inr h))⟩;clear h2 hm2 hk2 hm1 HH1 k1;go_wp2;go_ret;exact⟨by simp,HN.out⟩
theorem cellL (c:Nat->Nat) (w:World) (i:Nat) (p:Pr) (n:Int) (h:PrIn B PS c w i p) (hs:p.sx=p.s) (wf:WFs p.s) (hn:In n):
  Calls Tryz.prog 25 #[.pointer (some ⟨p.pb,0,none⟩),.int .i64 n] w fun e w'=>e=.returned (.bool true)/\PrPost B PS c w w' i p:=by
 have k0:w.cell? ⟨p.pb,0,none⟩=some (.pointer (some ⟨p.xb,0,none⟩)):=h.blk.cell rfl;have hx:=h.x;rw[hs] at hx;go_enter Tryz.func25,Tryz.ntmps25
 go_wp2_with fail
 refine (P.cell w p.xb p.V p.s n hx hn).mono ?_;rintro e w1 ⟨rfl,V',hx1,hto1⟩;obtain⟨h1,hm1⟩:=h.ranX P hto1 hx1;have k1:w1.cell? ⟨p.pb,1,none⟩=some (.pointer (some ⟨p.yb,0,none⟩)):=h1.blk.cell rfl;have HH1:=hide h1;clear h hx hto1 hx1 k0 h1
 go_wp2_with fail
 refine (cellX w1 p.yb p.rs p.s n HH1.out.y hn).mono ?_;rintro e w2 ⟨rfl,hk2⟩;obtain⟨h2,hm2⟩:=HH1.out.ranY P (STo.kpF hk2) (HH1.out.y.kpF hk2);have HN:Hid (PrPost B PS c w w2 i p):=⟨_,V',p.rs,p.s,h2,wf,(hm1.mono (fun a h=>.inl h)).trans (hm2.mono (fun a h=>.inr h))⟩;clear h2 hm2 hk2 hm1 HH1 k1;generalize cellP p.s n=q;go_wp2;go_ret;exact⟨by simp,HN.out⟩
end
end
section
open Go.RowKit
def fillTo (u:Value) (k:Nat) (xs:List Value):List Value:=List.replicate k u ++ xs.drop k
theorem fillTo_zero (u:Value) (xs:List Value):fillTo u 0 xs=xs:=by simp[fillTo]
theorem fillTo_succ (u:Value) (k:Nat) (xs:List Value) (h:k < xs.length):(fillTo u k xs).set k u=fillTo u (k+1) xs:=by
 unfold fillTo;rw[List.set_append_right _ _ (by simp),List.replicate_succ',List.append_assoc];simp;rw[List.drop_eq_getElem_cons h];rfl
theorem fillTo_end (u:Value) (xs:List Value):fillTo u xs.length xs=List.replicate xs.length u:=by simp[fillTo]
theorem fillTo_len (u:Value) (k:Nat) (xs:List Value) (h:k<=xs.length):(fillTo u k xs).length=xs.length:=by simp[fillTo];omega
structure FillAt (w wr:World) (wb:Nat) (psv kv v:Value) (n:Int) (m:Nat) (cells:List Value) (l:Nat) (e:TypeId) (xs:List Value):Prop where
 blk:Blk wr wb 28 #[psv,.int .i64 n,kv]
 krow:wr.ownsRow 0 89 3 kv m cells
 row:wr.ownsRow 0 e 1 v l xs
 kp:Kp w wr (fun b=>b=wb\/own v b)
def Rd (w:World) (v:Value) (l:Nat) (u:Value):Prop:=∃ ao cap,v=.slice ao l cap/\∀ j,j < l->∃ g,ao=some ⟨g,0,none⟩/\w.cell? ⟨g,j,none⟩=some u
theorem Rd.of {w:World} {e:TypeId} {v:Value} {l:Nat} {u:Value} (h:w.ownsRow 0 e 1 v l (List.replicate l u)):Rd w v l u:=by
 obtain⟨ao,cap,rfl⟩:=row_slice h;refine⟨ao,cap,rfl,fun j hj=>?_⟩;obtain⟨g,cap',e1,hc⟩:=row_cell h (by omega);injection e1 with e1 e2 e3;exact⟨g,e1,hc j u (by simp[hj])⟩
theorem Rd.move {w w':World} {v:Value} {l:Nat} {u:Value} (h:Rd w v l u) (hc:∀ q j,w.cell? ⟨q,j,none⟩=some u->w'.cell? ⟨q,j,none⟩=some u):Rd w' v l u:=by
 obtain⟨ao,cap,rfl,h⟩:=h;exact⟨ao,cap,rfl,fun j hj=>by obtain⟨g,h1,h2⟩:=h j hj;exact⟨g,h1,hc g j h2⟩⟩
theorem cell_alloc {w:World} {q j:Nat} {u:Value} (o:Obj) (hc:w.cell? ⟨q,j,none⟩=some u):(w.alloc o).cell? ⟨q,j,none⟩=some u:=by
 have hlt:q < w.heap.size:=by
  rcases Nat.lt_or_ge q w.heap.size with h|h
  ·exact h
  ·unfold World.cell? at hc;rw[Array.getElem?_eq_none h] at hc;cases hc
 have e:=Below.heap_alloc w o q hlt;unfold World.cell? at hc ⊢;rw[e];exact hc
theorem cell_kp {w w':World} {S:Nat->Prop} {q j:Nat} {u:Value} (hk:Kp w w' S) (hq:¬ S q) (hc:w.cell? ⟨q,j,none⟩=some u):w'.cell? ⟨q,j,none⟩=some u:=by
 have hlt:q < w.heap.size:=by
  rcases Nat.lt_or_ge q w.heap.size with h|h
  ·exact h
  ·unfold World.cell? at hc;rw[Array.getElem?_eq_none h] at hc;cases hc
 have e:=hk.block q hlt hq;unfold World.cell? at hc ⊢;rw[e];exact hc
theorem cell_app {w w':World} {o:Obj} {u:Value} (hE:∀ (q j:Nat) (x:Value),(w.alloc o).cell? ⟨q,j,none⟩=some x->w'.cell? ⟨q,j,none⟩=some x\/w'.cell? ⟨q,j,none⟩=some u) (q j:Nat) (hc:w.cell? ⟨q,j,none⟩=some u):w'.cell? ⟨q,j,none⟩=some u:=by
 rcases hE q j u (cell_alloc o hc) with h|h
 ·exact h
 ·exact h
structure NumsPost (w w':World) (wb:Nat) (psv kv v kv' va vb vc:Value) (n:Int) (m l:Nat) (cells:List Value):Prop where
 blk:Blk w' wb 28 #[psv,.int .i64 n,kv']
 krow:w'.ownsRow 0 89 3 kv' (m+4) (cells ++ [.int .i64 n,v,.slice none 0 0,.int .i64 n,va,.slice none 0 0,.int .i64 n,vb,.slice none 0 0,.int .i64 n,vc,.slice none 0 0])
 kp:Kp w w' (fun b=>b=wb\/own kv b\/own v b)
 kn:∀ b,own kv' b->own kv b\/w.heap.size<=b
 r0:Rd w' v l (.int .i64 (wrap64 (-n)))
 ra:Rd w' va (l+1) (.int .i64 (wrap64 (-n)))
 rb:Rd w' vb (l+2) (.int .i64 (wrap64 (-n)))
 rc:Rd w' vc (l+3) (.int .i64 (wrap64 (-n)))
 na:∀ b,own va b->own v b\/w.heap.size<=b
 nb:∀ b,own vb b->own v b\/w.heap.size<=b
 nc:∀ b,own vc b->own v b\/w.heap.size<=b
 ty:∀ b,(own v b\/own va b\/own vb b\/own vc b)->∃ cc,Blk w' b 3 cc
theorem Tryz.infoKept:(Tryz.prog.info? 89).map (fun i=>(i.zero,i.size,i.bytes))=some (some (.agg #[.int .i64 0,.slice none 0 0,.slice none 0 0]),3,56):=by kernel_rfl
theorem numsL (w:World) (wb:Nat) (psv kv v kvv:Value) (n:Int) (m:Nat) (cells:List Value) (ns:List Int) (hB:Blk w wb 28 #[psv,.int .i64 n,kv]) (hkr:w.ownsRow 0 89 3 kv m cells) (hm:m<=1000000000)
  (hv:w.ownsRow 0 3 1 v ns.length (ints ns)) (hl:ns.length<=32) (hk:w.ownsRow 0 3 1 kvv ns.length (ints ns)) (hd:∀ b,own v b->¬ own kvv b):
  Calls Tryz.prog 32 #[.pointer (some ⟨wb,0,none⟩),v,kvv] w fun e w'=>e=.returned (.bool true)/\∃ kv' va vb vc,NumsPost w w' wb psv kv v kv' va vb vc (wrap64 (n+1)) m ns.length cells:=by
 obtain⟨i0,hi,hz0,hz1,hz2⟩:=info_parts Tryz.info3;obtain⟨ik,hik,hk0,hk1,hk2⟩:=info_parts Tryz.infoKept;obtain⟨av,pv,rfl⟩:=row_slice hv;obtain⟨ak,pk,rfl⟩:=row_slice hk;obtain⟨aw,pw,rfl⟩:=row_slice hkr;have c1:w.cell? ⟨wb,1,none⟩=some (.int .i64 n):=hB.cell rfl;have f1:=hB.free 1;have HV:=hide hv;have HKK:=hide hk;have HB:=hide hB;have HKR:=hide hkr;have HD:=hide hd;clear hv hk hB hkr hd;go_enter Tryz.func32,Tryz.ntmps32;go_wp2
 go_loopw [7,8] (fun o i wr=>o=.bool true/\∃ k:Nat,k<=ns.length/\i=.int .i64 k/\Kp w wr (fun _=>False)) (fun _ i _=>ns.length - (intOf i).toNat)
 case atStart=>exact⟨rfl,0,Nat.zero_le _,rfl,Kp.refl _ _⟩
 case round=>
  obtain⟨rfl,k,hk,rfl,hkp⟩:=hrel;by_cases hlt:k < ns.length
  ·have hv1:=hkp.row HV.out (fun _ _ h=>h);have hk1':=hkp.row HKK.out (fun _ _ h=>h);obtain⟨gv,capv,e1,hcv⟩:=row_cell hv1 (by omega);injection e1 with e1 e2 e3;obtain⟨gk,capk,e4,hck⟩:=row_cell hk1' (by omega);injection e4 with e4 e5 e6;have cv:=hcv k (.int .i64 ns[k]) (by simp[ints,hlt]);have ck:=hck k (.int .i64 ns[k]) (by simp[ints,hlt]);subst e1;subst e4;clear hv1 hk1' hcv hck e2 e3 e5 e6;have HKP:=hide hkp;clear hkp c1 f1;go_wp2
   go_quiet (fail)
   go_wp2
   go_roundw
   case rel=>exact⟨by simp,k+1,by omega,by go_num,HKP.out.drewN _⟩
   case measure=>simp[intOf];omega
  ·have hB1:=hkp.blk HB.out (fun h=>h);have c1':wr.cell? ⟨wb,1,none⟩=some (.int .i64 n):=hB1.cell rfl;have f1':=hB1.free 1;have HV1:=hide (hkp.row HV.out (fun _ _ h=>h));have HKR1:=hide (hkp.row HKR.out (fun _ _ h=>h));have HB1:=hide hB1;have HKP:=hide hkp;clear hkp hB1 c1 f1 HV HKR HB HKK HD;go_wp2;have hF:FillAt w (wr.setCell ⟨wb,1,none⟩ (.int .i64 (wrap64 (n+1)))) wb psv (.slice aw m pw) (.slice av ns.length pv) (wrap64 (n+1)) m cells ns.length 3 (fillTo (.int .i64 (wrap64 (-wrap64 (n+1)))) 0 (ints ns)):=
    ⟨HB1.out.set 1 _,ownsRow_setCell_other HKR1.out (a:=⟨wb,1,none⟩) (own_ne HKR1.out HB1.out (by decide)) _,by rw[fillTo_zero];exact ownsRow_setCell_other HV1.out (a:=⟨wb,1,none⟩) (own_ne HV1.out HB1.out (by decide)) _,(HKP.out.mono (fun _ _ h=>h.elim)).set (a:=⟨wb,1,none⟩) (fun _=>.inl rfl) _⟩
   have HF:=hide hF;clear hF HB1 HKR1 HV1 HKP c1' f1';generalize wr.setCell ⟨wb,1,none⟩ (.int .i64 (wrap64 (n+1)))=w1 at HF ⊢;generalize hn1:wrap64 (n+1)=n1 at HF ⊢;have HN1:=hide hn1;clear hn1;clear hlt hk
   go_loopw [10] (fun i wr=>∃ k:Nat,k<=ns.length/\i=.int .i64 k/\FillAt w wr wb psv (.slice aw m pw) (.slice av ns.length pv) n1 m cells ns.length 3 (fillTo (.int .i64 (wrap64 (-n1))) k (ints ns))) (fun i _=>ns.length - (intOf i).toNat)
   case atStart=>exact⟨0,Nat.zero_le _,rfl,HF.out⟩
   case round=>
    clear HF;obtain⟨k,hk,rfl,hblk,hkr,hrow,hkp⟩:=hrel;by_cases hlt:k < ns.length
    ·obtain⟨gv,capv,e1,hcv⟩:=row_cell hrow (by omega);injection e1 with e1 e2 e3;subst e1;have hgo:own (.slice (some ⟨gv,0,none⟩) ns.length pv) gv:=rfl;obtain⟨cc,hcc⟩:=row_blk hrow hgo;have hil:(ints ns).length=ns.length:=by simp[ints]
     obtain⟨u0,hu0⟩:∃ u0,(fillTo (.int .i64 (wrap64 (-n1))) k (ints ns))[k]? = some u0:=⟨_,List.getElem?_eq_getElem (by rw[fillTo_len _ _ _ (by omega)];omega)⟩;have cv:=hcv k u0 hu0;have fv:=hcc.free k;have hwg:¬ wb=gv:=by rintro rfl;exact absurd (hcc.inj hblk).1 (by decide)
     have HN:Hid (FillAt w (wr.setCell ⟨gv,k,none⟩ (.int .i64 (wrap64 (-n1)))) wb psv (.slice aw m pw) (.slice (some ⟨gv,0,none⟩) ns.length pv) n1 m cells ns.length 3 (fillTo (.int .i64 (wrap64 (-n1))) (k+1) (ints ns))):=by
      refine⟨hblk.setOther hwg _,ownsRow_setCell_other hkr (a:=⟨gv,k,none⟩) (own_ne hkr hcc (by decide)) _,?_,hkp.set (a:=⟨gv,k,none⟩) (fun _=>.inr hgo) _⟩;rw[<-fillTo_succ _ _ _ (by omega)];exact row_set hrow hgo k _
     clear hblk hkr hrow hkp hcv hcc hu0 e2 e3 hil;go_wp2
     go_roundw
     case rel=>exact⟨k+1,by omega,by go_num,HN.out⟩
     case measure=>simp[intOf];omega
    ·have hke:k=ns.length:=by omega
     subst hke;have hil:(ints ns).length=ns.length:=by simp[ints]
     have hrow1:wr.ownsRow 0 3 1 (.slice av ns.length pv) ns.length (List.replicate ns.length (.int .i64 (wrap64 (-n1)))):=by
      have:=fillTo_end (.int .i64 (wrap64 (-n1))) (ints ns);rw[hil] at this;rw[<-this];exact hrow
     have HBL:=hide hblk;have HKR:=hide hkr;have HKP:=hide hkp;have hlw:=hblk.lt;have HR1:=hide hrow1;clear hblk hkr hkp hrow hil
     go_wp2_with (first
      | (at_builtin;refine wpList_append_keep _ rfl _ _ 34 rfl 3 i0 (.int .i64 0) 1 8 Tryz.underlying34 hi hz0 hz1 hz2 rfl (by decide) _ _ _ rfl (hrow1.alloc _) ⟨wr.heap.size,0,none⟩ 1 1 [.int .i64 (wrap64 (-n1))] rfl rfl ?c1 ?c2 ?c3 ?c4 ?_)
      | go_in)
     case c1=>intro j u hj;match j,hj with|0,hj=>simp at hj;subst hj;simp[Addr.add]
     case c2=>intro u hu;simp at hu;subst hu;rfl
     case c3=>unfold maxLen;omega
     case c4=>omega
     intro v2 w2 hown2 hgrow2 hnx2 hrow2 hE2;obtain⟨a2,p2,rfl⟩:=row_slice hown2;have HO2:=hide hown2;have HG2:=hide hgrow2;have HX2:=hide hnx2;have HE2:=hide hE2;clear hE2;clear hown2 hgrow2 hnx2 hrow1
     go_wp2_with (first
      | (at_builtin;refine wpList_append_keep _ rfl _ _ 34 rfl 3 i0 (.int .i64 0) 1 8 Tryz.underlying34 hi hz0 hz1 hz2 rfl (by decide) _ _ _ rfl (hrow2.alloc _) ⟨w2.heap.size,0,none⟩ 2 2 [.int .i64 (wrap64 (-n1)),.int .i64 (wrap64 (-n1))] rfl rfl ?d1 ?d2 ?d3 ?d4 ?_)
      | go_in)
     case d1=>intro j u hj;match j,hj with|0,hj=>simp at hj;subst hj;simp[Addr.add]|1,hj=>simp at hj;subst hj;simp[Addr.add]
     case d2=>intro u hu;simp at hu;subst hu;rfl
     case d3=>unfold maxLen;omega
     case d4=>omega
     intro v3 w3 hown3 hgrow3 hnx3 hrow3 hE3;obtain⟨a3,p3,rfl⟩:=row_slice hown3;have HO3:=hide hown3;have HG3:=hide hgrow3;have HX3:=hide hnx3;have HE3:=hide hE3;clear hE3;clear hown3 hgrow3 hnx3 hrow2
     go_wp2_with (first
      | (at_builtin;refine wpList_append_keep _ rfl _ _ 34 rfl 3 i0 (.int .i64 0) 1 8 Tryz.underlying34 hi hz0 hz1 hz2 rfl (by decide) _ _ _ rfl (hrow3.alloc _) ⟨w3.heap.size,0,none⟩ 3 3 [.int .i64 (wrap64 (-n1)),.int .i64 (wrap64 (-n1)),.int .i64 (wrap64 (-n1))] rfl rfl ?e1 ?e2 ?e3 ?e4 ?_)
      | go_in)
     case e1=>intro j u hj;match j,hj with|0,hj=>simp at hj;subst hj;simp[Addr.add]|1,hj=>simp at hj;subst hj;simp[Addr.add]|2,hj=>simp at hj;subst hj;simp[Addr.add]
     case e2=>intro u hu;simp at hu;subst hu;rfl
     case e3=>unfold maxLen;omega
     case e4=>omega
     intro v4 w4 hown4 hgrow4 hnx4 hrow4 hE4;obtain⟨a4,p4,rfl⟩:=row_slice hown4;have HO4:=hide hown4;have HG4:=hide hgrow4;have HX4:=hide hnx4;have HE4:=hide hE4;clear hE4;have HR4:=hide hrow4;clear hown4 hgrow4 hnx4 hrow3 hrow4;have k12:Kp wr w2 (fun b=>own (.slice av ns.length pv) b):=((Kp.refl wr _).alloc _).grown HG2.out (fun b _ e=>e);have k23:Kp w2 w3 (fun b=>own (.slice av ns.length pv) b):=((Kp.refl w2 _).alloc _).grown HG3.out (fun b _ e=>e);have k34:Kp w3 w4 (fun b=>own (.slice av ns.length pv) b):=((Kp.refl w3 _).alloc _).grown HG4.out (fun b _ e=>e);have k14:=(k12.trans k23).trans k34;have hnv:¬ own (.slice av ns.length pv) wb:=own_ne HR1.out HBL.out (by decide);have hB4:=k14.blk HBL.out hnv;have hkr4:=k14.row HKR.out (fun b hb hv=>by obtain⟨cc,hcc⟩:=row_blk HKR.out hb;exact absurd (row_type HR1.out hv hcc) (by decide));have r0:Rd w4 (.slice av ns.length pv) ns.length (.int .i64 (wrap64 (-n1))):=Rd.of HR4.out;have ra2:Rd w2 (.slice a2 (ns.length+1) p2) (ns.length+1) (.int .i64 (wrap64 (-n1))):=Rd.of (by have:=HO2.out;rw[List.replicate_succ'];exact this);have rb3:Rd w3 (.slice a3 (ns.length+2) p3) (ns.length+2) (.int .i64 (wrap64 (-n1))):=Rd.of (by have:=HO3.out;rw[show List.replicate (ns.length+2) (Value.int .i64 (wrap64 (-n1)))=List.replicate ns.length (Value.int .i64 (wrap64 (-n1))) ++ [.int .i64 (wrap64 (-n1)),.int .i64 (wrap64 (-n1))] by rw[List.replicate_succ',List.replicate_succ'];simp];exact this);have rc4:Rd w4 (.slice a4 (ns.length+3) p4) (ns.length+3) (.int .i64 (wrap64 (-n1))):=Rd.of (by have:=HO4.out;rw[show List.replicate (ns.length+3) (Value.int .i64 (wrap64 (-n1)))=List.replicate ns.length (Value.int .i64 (wrap64 (-n1))) ++ [.int .i64 (wrap64 (-n1)),.int .i64 (wrap64 (-n1)),.int .i64 (wrap64 (-n1))] by rw[List.replicate_succ',List.replicate_succ',List.replicate_succ'];simp];exact this);have ra4:=(ra2.move (cell_app HE3.out)).move (cell_app HE4.out);have rb4:=rb3.move (cell_app HE4.out);have na:∀ b,own (.slice a2 (ns.length+1) p2) b->own (.slice av ns.length pv) b\/w.heap.size<=b:=fun b hb=>(HX2.out b hb).imp (fun h=>h) (fun h=>by have:=HKP.out.size;omega);have nb:∀ b,own (.slice a3 (ns.length+2) p3) b->own (.slice av ns.length pv) b\/w.heap.size<=b:=fun b hb=>(HX3.out b hb).imp (fun h=>h) (fun h=>by have:=HKP.out.size;have:=k12.size;omega);have nc:∀ b,own (.slice a4 (ns.length+3) p4) b->own (.slice av ns.length pv) b\/w.heap.size<=b:=fun b hb=>(HX4.out b hb).imp (fun h=>h) (fun h=>by have:=HKP.out.size;have:=k12.size;have:=k23.size;omega);have hkp4:Kp w w4 (fun b=>b=wb\/own (.slice av ns.length pv) b):=HKP.out.trans (k14.mono (fun _ _ h=>.inr h));have cw2:w4.cell? ⟨wb,2,none⟩=some (.slice aw m pw):=hB4.cell rfl;have fw2:=hB4.free 2;have hlw4:=hB4.lt;have HB4:=hide hB4;have B0:Hid (∀ b,own (.slice av ns.length pv) b->∃ cc,Blk w4 b 3 cc):=fun b hb=>row_blk HR4.out hb;have BA:Hid (∀ b,own (.slice a2 (ns.length+1) p2) b->∃ cc,Blk w4 b 3 cc):=fun b hb=>by
      by_cases hv:own (.slice av ns.length pv) b
      ·exact row_blk HR4.out hv
      ·obtain⟨cc,hcc⟩:=row_blk HO2.out hb;exact⟨cc,(k23.trans k34).blk hcc hv⟩
     have BB:Hid (∀ b,own (.slice a3 (ns.length+2) p3) b->∃ cc,Blk w4 b 3 cc):=fun b hb=>by
      by_cases hv:own (.slice av ns.length pv) b
      ·exact row_blk HR4.out hv
      ·obtain⟨cc,hcc⟩:=row_blk HO3.out hb;exact⟨cc,k34.blk hcc hv⟩
     have BC:Hid (∀ b,own (.slice a4 (ns.length+3) p4) b->∃ cc,Blk w4 b 3 cc):=fun b hb=>row_blk HO4.out hb;have R0:=hide r0;have RA:=hide ra4;have RB:=hide rb4;have RC:=hide rc4;have NA:=hide na;have NB:=hide nb;have NC:=hide nc;have HKP4:=hide hkp4;clear k12 k23 k34 k14 hB4 r0 ra2 rb3 rc4 ra4 rb4 na nb nc hkp4 HG2 HG3 HG4 HX2 HX3 HX4 HE2 HE3 HE4 HO2 HO3 HO4 HKP HBL HKR
     go_wp2_with (first
      | (at_builtin;refine wpList_append_to _ rfl _ _ 26 rfl 89 ik (.agg #[.int .i64 0,.slice none 0 0,.slice none 0 0]) 3 56 Tryz.underlying26 hik hk0 hk1 hk2 rfl (by decide) _ _ _ rfl (hkr4.alloc _) ⟨w4.heap.size,0,none⟩ 4 4 [.int .i64 n1,.slice av ns.length pv,.slice none 0 0,.int .i64 n1,.slice a2 (ns.length+1) p2,.slice none 0 0,.int .i64 n1,.slice a3 (ns.length+2) p3,.slice none 0 0,.int .i64 n1,.slice a4 (ns.length+3) p4,.slice none 0 0] rfl rfl ?g1 ?g2 ?g3 ?g4 ?_)
      | go_in)
     case g1=>intro j u hj;exact new_cells1 w4 _ _ j u hj
     case g2=>intro u hu;simp only[List.mem_cons,List.not_mem_nil,or_false] at hu;rcases hu with rfl|rfl|rfl|rfl|rfl|rfl|rfl|rfl|rfl|rfl|rfl|rfl <;> rfl
     case g3=>unfold maxLen;omega
     case g4=>omega
     intro v5 w5 hown5 hgrow5 hnx5;obtain⟨a5,p5,rfl⟩:=row_slice hown5;have k45:Kp w4 w5 (fun b=>own (.slice aw m pw) b):=((Kp.refl w4 _).alloc _).grown hgrow5 (fun b _ e=>e);have hB5:=k45.blk HB4.out (own_ne hkr4 HB4.out (by decide));have cw5:w5.cell? ⟨wb,2,none⟩=some (.slice aw m pw):=hB5.cell rfl;have fw5:=hB5.free 2;have key:∀ (x:Value) (l:Nat) (u:Int),Rd w4 x l (.int .i64 u)->(∀ b,own x b->∃ cc,Blk w4 b 3 cc)->Rd (w5.setCell ⟨wb,2,none⟩ (.slice a5 (m+4) p5)) x l (.int .i64 u):=by
      intro x l u hR hx;obtain⟨ao,cap,rfl,hR⟩:=hR;refine⟨ao,cap,rfl,fun j hj=>?_⟩;obtain⟨g,e1,hc⟩:=hR j hj;obtain⟨cc,hcc⟩:=hx g (by rw[e1];rfl);refine⟨g,e1,?_⟩;have hk5:Kp w4 (w5.setCell ⟨wb,2,none⟩ (.slice a5 (m+4) p5)) (fun b=>b=wb\/own (.slice aw m pw) b):=(k45.mono (fun _ _ h=>.inr h)).set (a:=⟨wb,2,none⟩) (fun _=>.inl rfl) _;refine cell_kp hk5 ?_ hc;rintro (e|e)
      ·subst e;exact absurd (hcc.inj HB4.out).1 (by decide)
      ·exact absurd (row_type hkr4 e hcc) (by decide)
     have HN:Hid (NumsPost w (w5.setCell ⟨wb,2,none⟩ (.slice a5 (m+4) p5)) wb psv (.slice aw m pw) (.slice av ns.length pv) (.slice a5 (m+4) p5) (.slice a2 (ns.length+1) p2) (.slice a3 (ns.length+2) p3) (.slice a4 (ns.length+3) p4) n1 m ns.length cells):=by
      refine⟨hB5.set 2 _,ownsRow_setCell_other hown5 (a:=⟨wb,2,none⟩) (own_ne hown5 hB5 (by decide)) _,?_,fun b hb=>?_,key _ _ _ R0.out B0.out,key _ _ _ RA.out BA.out,key _ _ _ RB.out BB.out,key _ _ _ RC.out BC.out,NA.out,NB.out,NC.out,fun b hb=>?_⟩
      ·refine ((HKP4.out.mono (fun b _ h=>?_)).trans (k45.mono (fun b _ h=>.inr (.inl h)))).set (a:=⟨wb,2,none⟩) (fun _=>.inl rfl) _;rcases h with h|h
       ·exact .inl h
       ·exact .inr (.inr h)
      ·rcases hnx5 b hb with h|h
       ·exact .inl h
       ·right;have:=HKP4.out.size;omega
      ·have hx:∃ cc,Blk w4 b 3 cc:=by
        rcases hb with hb|hb|hb|hb
        ·exact B0.out b hb
        ·exact BA.out b hb
        ·exact BB.out b hb
        ·exact BC.out b hb
       obtain⟨cc,hcc⟩:=hx;have hk5:Kp w4 (w5.setCell ⟨wb,2,none⟩ (.slice a5 (m+4) p5)) (fun b=>b=wb\/own (.slice aw m pw) b):=(k45.mono (fun _ _ h=>.inr h)).set (a:=⟨wb,2,none⟩) (fun _=>.inl rfl) _;refine⟨cc,hk5.blk hcc ?_⟩;rintro (e|e)
       ·subst e;exact absurd (hcc.inj HB4.out).1 (by decide)
       ·exact absurd (row_type hkr4 e hcc) (by decide)
     clear key k45 hB5 hown5 hgrow5 hnx5 hkr4;go_wp2;go_ret;exact⟨rfl,_,_,_,_,by rw[HN1.out];exact HN.out⟩
end
section
open Go.RowKit
def markP (n:Int):ByteArray:=⟨#[UInt8.ofNat 35,UInt8.ofNat (n / 65536 % 256).toNat,UInt8.ofNat (n / 256 % 256).toNat,UInt8.ofNat (n % 256).toNat]⟩
theorem conv4 (w:World) (a b c d:Int):(convert 85 9 (.slice (some ⟨w.heap.size,0,none⟩) 4 4)).run Tryz.prog (w.alloc (.cells #[.int .u8 a,.int .u8 b,.int .u8 c,.int .u8 d] 5))=.ok (.string ⟨#[UInt8.ofNat a.toNat,UInt8.ofNat b.toNat,UInt8.ofNat c.toNat,UInt8.ofNat d.toNat]⟩) (w.alloc (.cells #[.int .u8 a,.int .u8 b,.int .u8 c,.int .u8 d] 5)):=by
 refine run_convert_bytes_arg _ 85 5 Tryz.underlying85 Tryz.underlying5 w.heap.size 0 4 4 [a,b,c,d] rfl ?_ 9 Tryz.underlying9;intro i hi;rcases (show i=0\/i=1\/i=2\/i=3 by omega) with rfl|rfl|rfl|rfl <;> simp
theorem markL (n:Int) (w:World):Calls Tryz.prog 50 #[.int .i64 n] w fun e w'=>e=.returned (.string (markP n))/\Kp w w' (fun _=>False):=by
 have hcv:=conv4 w 35 (n / 65536 % 256) (n / 256 % 256) (n % 256);go_enter Tryz.func50,Tryz.ntmps50;go_wp2;go_ret;exact⟨rfl,(Kp.refl _ _).alloc _⟩
structure NamesPost (w w':World) (wb:Nat) (psv kv v kv' va vb vc:Value) (n:Int) (m l:Nat) (cells:List Value):Prop where
 blk:Blk w' wb 28 #[psv,.int .i64 n,kv']
 krow:w'.ownsRow 0 89 3 kv' (m+4) (cells ++ [.int .i64 n,.slice none 0 0,v,.int .i64 n,.slice none 0 0,va,.int .i64 n,.slice none 0 0,vb,.int .i64 n,.slice none 0 0,vc])
 kp:Kp w w' (fun b=>b=wb\/own kv b\/own v b)
 kn:∀ b,own kv' b->own kv b\/w.heap.size<=b
 r0:Rd w' v l (.string (markP n))
 ra:Rd w' va (l+1) (.string (markP n))
 rb:Rd w' vb (l+2) (.string (markP n))
 rc:Rd w' vc (l+3) (.string (markP n))
 na:∀ b,own va b->own v b\/w.heap.size<=b
 nb:∀ b,own vb b->own v b\/w.heap.size<=b
 nc:∀ b,own vc b->own v b\/w.heap.size<=b
 ty:∀ b,(own v b\/own va b\/own vb b\/own vc b)->∃ cc,Blk w' b 9 cc
theorem namesL (w:World) (wb:Nat) (psv kv v kvv:Value) (n:Int) (m:Nat) (cells:List Value) (ws:List ByteArray) (hB:Blk w wb 28 #[psv,.int .i64 n,kv]) (hkr:w.ownsRow 0 89 3 kv m cells) (hm:m<=1000000000)
  (hv:w.ownsRow 0 9 1 v ws.length (ws.map Value.string)) (hl:ws.length<=32) (hk:w.ownsRow 0 9 1 kvv ws.length (ws.map Value.string)) (hd:∀ b,own v b->¬ own kvv b):
  Calls Tryz.prog 35 #[.pointer (some ⟨wb,0,none⟩),v,kvv] w fun e w'=>e=.returned (.bool true)/\∃ kv' va vb vc,NamesPost w w' wb psv kv v kv' va vb vc (wrap64 (n+1)) m ws.length cells:=by
 obtain⟨i0,hi,hz0,hz1,hz2⟩:=info_parts Tryz.info9;obtain⟨ik,hik,hk0,hk1,hk2⟩:=info_parts Tryz.infoKept;obtain⟨av,pv,rfl⟩:=row_slice hv;obtain⟨ak,pk,rfl⟩:=row_slice hk;obtain⟨aw,pw,rfl⟩:=row_slice hkr;have c1:w.cell? ⟨wb,1,none⟩=some (.int .i64 n):=hB.cell rfl;have f1:=hB.free 1;have HV:=hide hv;have HKK:=hide hk;have HB:=hide hB;have HKR:=hide hkr;have HD:=hide hd;clear hv hk hB hkr hd;go_enter Tryz.func35,Tryz.ntmps35;go_wp2
 go_loopw [7,8] (fun o i wr=>o=.bool true/\∃ k:Nat,k<=ws.length/\i=.int .i64 k/\Kp w wr (fun _=>False)) (fun _ i _=>ws.length - (intOf i).toNat)
 case atStart=>exact⟨rfl,0,Nat.zero_le _,rfl,Kp.refl _ _⟩
 case round=>
  obtain⟨rfl,k,hk,rfl,hkp⟩:=hrel;by_cases hlt:k < ws.length
  ·have hv1:=hkp.row HV.out (fun _ _ h=>h);have hk1':=hkp.row HKK.out (fun _ _ h=>h);obtain⟨gv,capv,e1,hcv⟩:=row_cell hv1 (by omega);injection e1 with e1 e2 e3;obtain⟨gk,capk,e4,hck⟩:=row_cell hk1' (by omega);injection e4 with e4 e5 e6;have cv:=hcv k (.string ws[k]) (by simp[hlt]);have ck:=hck k (.string ws[k]) (by simp[hlt]);subst e1;subst e4;clear hv1 hk1' hcv hck e2 e3 e5 e6;have HKP:=hide hkp;clear hkp c1 f1;go_wp2
   go_quiet (fail)
   go_wp2
   go_roundw
   case rel=>exact⟨by simp,k+1,by omega,by go_num,HKP.out.drewN _⟩
   case measure=>simp[intOf];omega
  ·have hB1:=hkp.blk HB.out (fun h=>h);have c1':wr.cell? ⟨wb,1,none⟩=some (.int .i64 n):=hB1.cell rfl;have f1':=hB1.free 1;have HV1:=hide (hkp.row HV.out (fun _ _ h=>h));have HKR1:=hide (hkp.row HKR.out (fun _ _ h=>h));have HB1:=hide hB1;have HKP:=hide hkp;clear hkp hB1 c1 f1 HV HKR HB HKK HD;go_wp2;have hF:FillAt w (wr.setCell ⟨wb,1,none⟩ (.int .i64 (wrap64 (n+1)))) wb psv (.slice aw m pw) (.slice av ws.length pv) (wrap64 (n+1)) m cells ws.length 9 (fillTo (.string (markP (wrap64 (n+1)))) 0 (ws.map Value.string)):=
    ⟨HB1.out.set 1 _,ownsRow_setCell_other HKR1.out (a:=⟨wb,1,none⟩) (own_ne HKR1.out HB1.out (by decide)) _,by rw[fillTo_zero];exact ownsRow_setCell_other HV1.out (a:=⟨wb,1,none⟩) (own_ne HV1.out HB1.out (by decide)) _,(HKP.out.mono (fun _ _ h=>h.elim)).set (a:=⟨wb,1,none⟩) (fun _=>.inl rfl) _⟩
   have HF:=hide hF;clear hF HB1 HKR1 HV1 HKP c1' f1';generalize wr.setCell ⟨wb,1,none⟩ (.int .i64 (wrap64 (n+1)))=w1 at HF ⊢;generalize hn1:wrap64 (n+1)=n1 at HF ⊢;have HN1:=hide hn1;clear hn1;clear hlt hk
   go_loopw [10] (fun i wr=>∃ k:Nat,k<=ws.length/\i=.int .i64 k/\FillAt w wr wb psv (.slice aw m pw) (.slice av ws.length pv) n1 m cells ws.length 9 (fillTo (.string (markP n1)) k (ws.map Value.string))) (fun i _=>ws.length - (intOf i).toNat)
   case atStart=>exact⟨0,Nat.zero_le _,rfl,HF.out⟩
   case round=>
    clear HF;obtain⟨k,hk,rfl,hblk,hkr,hrow,hkp⟩:=hrel;by_cases hlt:k < ws.length
    ·go_wp2_with fail
     refine (markL n1 _).mono ?_;rintro e wm ⟨rfl,hkm⟩
     replace hblk:=hkm.blk hblk (fun h=>h)
     replace hkr:=hkm.row hkr (fun _ _ h=>h)
     replace hrow:=hkm.row hrow (fun _ _ h=>h)
     replace hkp:=hkp.trans (hkm.mono (fun _ _ h=>h.elim))
     clear hkm;obtain⟨gv,capv,e1,hcv⟩:=row_cell hrow (by omega);injection e1 with e1 e2 e3;subst e1;have hgo:own (.slice (some ⟨gv,0,none⟩) ws.length pv) gv:=rfl;obtain⟨cc,hcc⟩:=row_blk hrow hgo;have hil:(ws.map Value.string).length=ws.length:=by simp
     obtain⟨u0,hu0⟩:∃ u0,(fillTo (.string (markP n1)) k (ws.map Value.string))[k]? = some u0:=⟨_,List.getElem?_eq_getElem (by rw[fillTo_len _ _ _ (by omega)];omega)⟩;have cv:=hcv k u0 hu0;have fv:=hcc.free k;have hwg:¬ wb=gv:=by rintro rfl;exact absurd (hcc.inj hblk).1 (by decide)
     have HN:Hid (FillAt w (wm.setCell ⟨gv,k,none⟩ (.string (markP n1))) wb psv (.slice aw m pw) (.slice (some ⟨gv,0,none⟩) ws.length pv) n1 m cells ws.length 9 (fillTo (.string (markP n1)) (k+1) (ws.map Value.string))):=by
      refine⟨hblk.setOther hwg _,ownsRow_setCell_other hkr (a:=⟨gv,k,none⟩) (own_ne hkr hcc (by decide)) _,?_,hkp.set (a:=⟨gv,k,none⟩) (fun _=>.inr hgo) _⟩;rw[<-fillTo_succ _ _ _ (by omega)];exact row_set hrow hgo k _
     clear hblk hkr hrow hkp hcv hcc hu0 e2 e3 hil;go_wp2
     go_roundw
     case rel=>exact⟨k+1,by omega,by go_num,HN.out⟩
     case measure=>simp[intOf];omega
    ·have hke:k=ws.length:=by omega
     subst hke;have hil:(ws.map Value.string).length=ws.length:=by simp
     have hrow1:wr.ownsRow 0 9 1 (.slice av ws.length pv) ws.length (List.replicate ws.length (.string (markP n1))):=by
      have:=fillTo_end (.string (markP n1)) (ws.map Value.string);rw[hil] at this;rw[<-this];exact hrow
     go_wp2_with fail
     refine (markL n1 _).mono ?_;rintro e wr1 ⟨rfl,hkm⟩
     replace hblk:=hkm.blk hblk (fun h=>h)
     replace hkr:=hkm.row hkr (fun _ _ h=>h)
     replace hrow1:=hkm.row hrow1 (fun _ _ h=>h)
     replace hkp:=hkp.trans (hkm.mono (fun _ _ h=>h.elim))
     clear hkm hrow;have HBL:=hide hblk;have HKR:=hide hkr;have HKP:=hide hkp;have hlw:=hblk.lt;have HR1:=hide hrow1;clear hblk hkr hkp hil
     go_wp2_with (first
      | (at_builtin;refine wpList_append_keep _ rfl _ _ 47 rfl 9 i0 (.string ByteArray.empty) 1 16 Tryz.underlying47 hi hz0 hz1 hz2 rfl (by decide) _ _ _ rfl (hrow1.alloc _) ⟨wr1.heap.size,0,none⟩ 1 1 [.string (markP n1)] rfl rfl ?c1 ?c2 ?c3 ?c4 ?_)
      | go_in)
     case c1=>intro j u hj;match j,hj with|0,hj=>simp at hj;subst hj;simp[Addr.add]
     case c2=>intro u hu;simp at hu;subst hu;rfl
     case c3=>unfold maxLen;omega
     case c4=>omega
     intro v2 w2 hown2 hgrow2 hnx2 hrow2 hE2;obtain⟨a2,p2,rfl⟩:=row_slice hown2;have HO2:=hide hown2;have HG2:=hide hgrow2;have HX2:=hide hnx2;have HE2:=hide hE2;clear hE2;clear hown2 hgrow2 hnx2 hrow1
     go_wp2_with fail
     refine (markL n1 _).mono ?_;rintro e wa ⟨rfl,hka⟩
     go_wp2_with fail
     refine (markL n1 _).mono ?_;rintro e wb2 ⟨rfl,hkb⟩;have hkab:=hka.trans hkb
     replace hrow2:=hkab.row hrow2 (fun _ _ h=>h)
     have HKAB:=hide hkab;clear hka hkb hkab
     go_wp2_with (first
      | (at_builtin;refine wpList_append_keep _ rfl _ _ 47 rfl 9 i0 (.string ByteArray.empty) 1 16 Tryz.underlying47 hi hz0 hz1 hz2 rfl (by decide) _ _ _ rfl (hrow2.alloc _) ⟨wb2.heap.size,0,none⟩ 2 2 [.string (markP n1),.string (markP n1)] rfl rfl ?d1 ?d2 ?d3 ?d4 ?_)
      | go_in)
     case d1=>intro j u hj;match j,hj with|0,hj=>simp at hj;subst hj;simp[Addr.add]|1,hj=>simp at hj;subst hj;simp[Addr.add]
     case d2=>intro u hu;simp at hu;subst hu;rfl
     case d3=>unfold maxLen;omega
     case d4=>omega
     intro v3 w3 hown3 hgrow3 hnx3 hrow3 hE3;obtain⟨a3,p3,rfl⟩:=row_slice hown3;have HO3:=hide hown3;have HG3:=hide hgrow3;have HX3:=hide hnx3;have HE3:=hide hE3;clear hE3;clear hown3 hgrow3 hnx3 hrow2
     go_wp2_with fail
     refine (markL n1 _).mono ?_;rintro e wc ⟨rfl,hkc⟩
     go_wp2_with fail
     refine (markL n1 _).mono ?_;rintro e wd ⟨rfl,hkd⟩
     go_wp2_with fail
     refine (markL n1 _).mono ?_;rintro e we ⟨rfl,hke⟩;have hkcd:=(hkc.trans hkd).trans hke
     replace hrow3:=hkcd.row hrow3 (fun _ _ h=>h)
     have HKCD:=hide hkcd;clear hkc hkd hke hkcd
     go_wp2_with (first
      | (at_builtin;refine wpList_append_keep _ rfl _ _ 47 rfl 9 i0 (.string ByteArray.empty) 1 16 Tryz.underlying47 hi hz0 hz1 hz2 rfl (by decide) _ _ _ rfl (hrow3.alloc _) ⟨we.heap.size,0,none⟩ 3 3 [.string (markP n1),.string (markP n1),.string (markP n1)] rfl rfl ?e1 ?e2 ?e3 ?e4 ?_)
      | go_in)
     case e1=>intro j u hj;match j,hj with|0,hj=>simp at hj;subst hj;simp[Addr.add]|1,hj=>simp at hj;subst hj;simp[Addr.add]|2,hj=>simp at hj;subst hj;simp[Addr.add]
     case e2=>intro u hu;simp at hu;subst hu;rfl
     case e3=>unfold maxLen;omega
     case e4=>omega
     intro v4 w4 hown4 hgrow4 hnx4 hrow4 hE4;obtain⟨a4,p4,rfl⟩:=row_slice hown4;have HO4:=hide hown4;have HG4:=hide hgrow4;have HX4:=hide hnx4;have HE4:=hide hE4;clear hE4;have HR4:=hide hrow4;clear hown4 hgrow4 hnx4 hrow3 hrow4;have k12:Kp wr1 w2 (fun b=>own (.slice av ws.length pv) b):=((Kp.refl wr1 _).alloc _).grown HG2.out (fun b _ e=>e);have k23:Kp w2 w3 (fun b=>own (.slice av ws.length pv) b):=(HKAB.out.mono (fun _ _ h=>h.elim)).trans (((Kp.refl wb2 _).alloc _).grown HG3.out (fun b _ e=>e));have k34:Kp w3 w4 (fun b=>own (.slice av ws.length pv) b):=(HKCD.out.mono (fun _ _ h=>h.elim)).trans (((Kp.refl we _).alloc _).grown HG4.out (fun b _ e=>e));have k14:=(k12.trans k23).trans k34;have hnv:¬ own (.slice av ws.length pv) wb:=own_ne HR1.out HBL.out (by decide);have hB4:=k14.blk HBL.out hnv;have hkr4:=k14.row HKR.out (fun b hb hv=>by obtain⟨cc,hcc⟩:=row_blk HKR.out hb;exact absurd (row_type HR1.out hv hcc) (by decide));have r0:Rd w4 (.slice av ws.length pv) ws.length (.string (markP n1)):=Rd.of HR4.out;have ra2:Rd w2 (.slice a2 (ws.length+1) p2) (ws.length+1) (.string (markP n1)):=Rd.of (by have:=HO2.out;rw[List.replicate_succ'];exact this);have rb3:Rd w3 (.slice a3 (ws.length+2) p3) (ws.length+2) (.string (markP n1)):=Rd.of (by have:=HO3.out;rw[show List.replicate (ws.length+2) (Value.string (markP n1))=List.replicate ws.length (Value.string (markP n1)) ++ [.string (markP n1),.string (markP n1)] by rw[List.replicate_succ',List.replicate_succ'];simp];exact this);have rc4:Rd w4 (.slice a4 (ws.length+3) p4) (ws.length+3) (.string (markP n1)):=Rd.of (by have:=HO4.out;rw[show List.replicate (ws.length+3) (Value.string (markP n1))=List.replicate ws.length (Value.string (markP n1)) ++ [.string (markP n1),.string (markP n1),.string (markP n1)] by rw[List.replicate_succ',List.replicate_succ',List.replicate_succ'];simp];exact this);have ra4:=(((ra2.move (fun q j h=>cell_kp HKAB.out (fun h=>h) h)).move (cell_app HE3.out)).move (fun q j h=>cell_kp HKCD.out (fun h=>h) h)).move (cell_app HE4.out);have rb4:=(rb3.move (fun q j h=>cell_kp HKCD.out (fun h=>h) h)).move (cell_app HE4.out);have na:∀ b,own (.slice a2 (ws.length+1) p2) b->own (.slice av ws.length pv) b\/w.heap.size<=b:=fun b hb=>(HX2.out b hb).imp (fun h=>h) (fun h=>by have:=HKP.out.size;omega);have nb:∀ b,own (.slice a3 (ws.length+2) p3) b->own (.slice av ws.length pv) b\/w.heap.size<=b:=fun b hb=>(HX3.out b hb).imp (fun h=>h) (fun h=>by have:=HKP.out.size;have:=k12.size;have:=HKAB.out.size;omega);have nc:∀ b,own (.slice a4 (ws.length+3) p4) b->own (.slice av ws.length pv) b\/w.heap.size<=b:=fun b hb=>(HX4.out b hb).imp (fun h=>h) (fun h=>by have:=HKP.out.size;have:=k12.size;have:=k23.size;have:=HKCD.out.size;omega);have hkp4:Kp w w4 (fun b=>b=wb\/own (.slice av ws.length pv) b):=HKP.out.trans (k14.mono (fun _ _ h=>.inr h));have cw2:w4.cell? ⟨wb,2,none⟩=some (.slice aw m pw):=hB4.cell rfl;have fw2:=hB4.free 2;have hlw4:=hB4.lt;have HB4:=hide hB4;have B0:Hid (∀ b,own (.slice av ws.length pv) b->∃ cc,Blk w4 b 9 cc):=fun b hb=>row_blk HR4.out hb;have BA:Hid (∀ b,own (.slice a2 (ws.length+1) p2) b->∃ cc,Blk w4 b 9 cc):=fun b hb=>by
      by_cases hv:own (.slice av ws.length pv) b
      ·exact row_blk HR4.out hv
      ·obtain⟨cc,hcc⟩:=row_blk HO2.out hb;exact⟨cc,(k23.trans k34).blk hcc hv⟩
     have BB:Hid (∀ b,own (.slice a3 (ws.length+2) p3) b->∃ cc,Blk w4 b 9 cc):=fun b hb=>by
      by_cases hv:own (.slice av ws.length pv) b
      ·exact row_blk HR4.out hv
      ·obtain⟨cc,hcc⟩:=row_blk HO3.out hb;exact⟨cc,k34.blk hcc hv⟩
     have BC:Hid (∀ b,own (.slice a4 (ws.length+3) p4) b->∃ cc,Blk w4 b 9 cc):=fun b hb=>row_blk HO4.out hb;have R0:=hide r0;have RA:=hide ra4;have RB:=hide rb4;have RC:=hide rc4;have NA:=hide na;have NB:=hide nb;have NC:=hide nc;have HKP4:=hide hkp4;clear HKAB HKCD k12 k23 k34 k14 hB4 r0 ra2 rb3 rc4 ra4 rb4 na nb nc hkp4 HG2 HG3 HG4 HX2 HX3 HX4 HE2 HE3 HE4 HO2 HO3 HO4 HKP HBL HKR
     go_wp2_with (first
      | (at_builtin;refine wpList_append_to _ rfl _ _ 26 rfl 89 ik (.agg #[.int .i64 0,.slice none 0 0,.slice none 0 0]) 3 56 Tryz.underlying26 hik hk0 hk1 hk2 rfl (by decide) _ _ _ rfl (hkr4.alloc _) ⟨w4.heap.size,0,none⟩ 4 4 [.int .i64 n1,.slice none 0 0,.slice av ws.length pv,.int .i64 n1,.slice none 0 0,.slice a2 (ws.length+1) p2,.int .i64 n1,.slice none 0 0,.slice a3 (ws.length+2) p3,.int .i64 n1,.slice none 0 0,.slice a4 (ws.length+3) p4] rfl rfl ?g1 ?g2 ?g3 ?g4 ?_)
      | go_in)
     case g1=>intro j u hj;exact new_cells1 w4 _ _ j u hj
     case g2=>intro u hu;simp only[List.mem_cons,List.not_mem_nil,or_false] at hu;rcases hu with rfl|rfl|rfl|rfl|rfl|rfl|rfl|rfl|rfl|rfl|rfl|rfl <;> rfl
     case g3=>unfold maxLen;omega
     case g4=>omega
     intro v5 w5 hown5 hgrow5 hnx5;obtain⟨a5,p5,rfl⟩:=row_slice hown5;have k45:Kp w4 w5 (fun b=>own (.slice aw m pw) b):=((Kp.refl w4 _).alloc _).grown hgrow5 (fun b _ e=>e);have hB5:=k45.blk HB4.out (own_ne hkr4 HB4.out (by decide));have cw5:w5.cell? ⟨wb,2,none⟩=some (.slice aw m pw):=hB5.cell rfl;have fw5:=hB5.free 2;have key:∀ (x:Value) (l:Nat) (u:ByteArray),Rd w4 x l (.string u)->(∀ b,own x b->∃ cc,Blk w4 b 9 cc)->Rd (w5.setCell ⟨wb,2,none⟩ (.slice a5 (m+4) p5)) x l (.string u):=by
      intro x l u hR hx;obtain⟨ao,cap,rfl,hR⟩:=hR;refine⟨ao,cap,rfl,fun j hj=>?_⟩;obtain⟨g,e1,hc⟩:=hR j hj;obtain⟨cc,hcc⟩:=hx g (by rw[e1];rfl);refine⟨g,e1,?_⟩;have hk5:Kp w4 (w5.setCell ⟨wb,2,none⟩ (.slice a5 (m+4) p5)) (fun b=>b=wb\/own (.slice aw m pw) b):=(k45.mono (fun _ _ h=>.inr h)).set (a:=⟨wb,2,none⟩) (fun _=>.inl rfl) _;refine cell_kp hk5 ?_ hc;rintro (e|e)
      ·subst e;exact absurd (hcc.inj HB4.out).1 (by decide)
      ·exact absurd (row_type hkr4 e hcc) (by decide)
     have HN:Hid (NamesPost w (w5.setCell ⟨wb,2,none⟩ (.slice a5 (m+4) p5)) wb psv (.slice aw m pw) (.slice av ws.length pv) (.slice a5 (m+4) p5) (.slice a2 (ws.length+1) p2) (.slice a3 (ws.length+2) p3) (.slice a4 (ws.length+3) p4) n1 m ws.length cells):=by
      refine⟨hB5.set 2 _,ownsRow_setCell_other hown5 (a:=⟨wb,2,none⟩) (own_ne hown5 hB5 (by decide)) _,?_,fun b hb=>?_,key _ _ _ R0.out B0.out,key _ _ _ RA.out BA.out,key _ _ _ RB.out BB.out,key _ _ _ RC.out BC.out,NA.out,NB.out,NC.out,fun b hb=>?_⟩
      ·refine ((HKP4.out.mono (fun b _ h=>?_)).trans (k45.mono (fun b _ h=>.inr (.inl h)))).set (a:=⟨wb,2,none⟩) (fun _=>.inl rfl) _;rcases h with h|h
       ·exact .inl h
       ·exact .inr (.inr h)
      ·rcases hnx5 b hb with h|h
       ·exact .inl h
       ·right;have:=HKP4.out.size;omega
      ·have hx:∃ cc,Blk w4 b 9 cc:=by
        rcases hb with hb|hb|hb|hb
        ·exact B0.out b hb
        ·exact BA.out b hb
        ·exact BB.out b hb
        ·exact BC.out b hb
       obtain⟨cc,hcc⟩:=hx;have hk5:Kp w4 (w5.setCell ⟨wb,2,none⟩ (.slice a5 (m+4) p5)) (fun b=>b=wb\/own (.slice aw m pw) b):=(k45.mono (fun _ _ h=>.inr h)).set (a:=⟨wb,2,none⟩) (fun _=>.inl rfl) _;refine⟨cc,hk5.blk hcc ?_⟩;rintro (e|e)
       ·subst e;exact absurd (hcc.inj HB4.out).1 (by decide)
       ·exact absurd (row_type hkr4 e hcc) (by decide)
     clear key k45 hB5 hown5 hgrow5 hnx5 hkr4;go_wp2;go_ret;exact⟨rfl,_,_,_,_,by rw[HN1.out];exact HN.out⟩
end
section
open Go.RowKit
structure Ke where
 n:Int
 nv:Value
 nl:Nat
 mv:Value
 ml:Nat
def keCells:List Ke->List Value
 | []=>[]
 | e :: l=>.int .i64 e.n :: e.nv :: e.mv :: keCells l
theorem keCells_app:∀ (a b:List Ke),keCells (a ++ b)=keCells a ++ keCells b
 | [],b=>rfl
 | e :: a,b=>by simp[keCells,keCells_app a b]
theorem keCells_at:∀ (l:List Ke) (i:Nat) (h:i < l.length),(keCells l)[i * 3]? = some (.int .i64 l[i].n)/\(keCells l)[i * 3+1]? = some l[i].nv/\(keCells l)[i * 3+2]? = some l[i].mv
 | [],i,h=>absurd h (by simp)
 | e :: l,0,h=>⟨rfl,rfl,rfl⟩
 | e :: l,i+1,h=>by
  have:=keCells_at l i (by simpa using h);rw[show (i+1) * 3=i * 3+1+1+1 by omega,show i * 3+1+1+1+1=i * 3+1+1+1+1 from rfl,show i * 3+1+1+1+2=i * 3+2+1+1+1 by omega];exact this
structure KeRd (w:World) (e:Ke):Prop where
 nums:Rd w e.nv e.nl (.int .i64 (wrap64 (-e.n)))
 names:Rd w e.mv e.ml (.string (markP e.n))
 l1:e.nl<=1000
 l2:e.ml<=1000
theorem Rd.kpF {w w':World} {v:Value} {l:Nat} {u:Value} (h:Rd w v l u) (hk:Kp w w' (fun _=>False)):Rd w' v l u:=h.move (fun _ _ h=>cell_kp hk (fun h=>h) h)
theorem stillL (w:World) (wb:Nat) (psv kv:Value) (n:Int) (kept:List Ke) (hB:Blk w wb 28 #[psv,.int .i64 n,kv]) (hkr:w.ownsRow 0 89 3 kv kept.length (keCells kept)) (hm:kept.length<=2000000000) (hK:∀ i (hi:i < kept.length),KeRd w kept[i]):
  Calls Tryz.prog 26 #[.pointer (some ⟨wb,0,none⟩)] w fun e w'=>e=.returned (.bool true)/\Kp w w' (fun _=>False):=by
 obtain⟨aw,pw,rfl⟩:=row_slice hkr;have HB:=hide hB;have HKR:=hide hkr;have HK:=hide hK;clear hB hkr hK;go_enter Tryz.func26,Tryz.ntmps26;go_wp2
 go_loopw [3] (fun i wr=>∃ k:Nat,k<=kept.length/\i=.int .i64 k/\Kp w wr (fun _=>False)) (fun i _=>kept.length - (intOf i).toNat)
 case atStart=>exact⟨0,Nat.zero_le _,rfl,Kp.refl _ _⟩
 case round=>
  obtain⟨k,hk,rfl,hkp⟩:=hrel;have hB1:=hkp.blk HB.out (fun h=>h);have cw:wr.cell? ⟨wb,2,none⟩=some (.slice aw kept.length pw):=hB1.cell rfl;by_cases hlt:k < kept.length
  ·have hkr1:=hkp.row HKR.out (fun _ _ h=>h);obtain⟨gk,capk,e1,hc⟩:=row_cell hkr1 (by omega);injection e1 with e1 e2 e3;subst e1;clear e2 e3;obtain⟨x0,x1,x2⟩:=keCells_at kept k hlt;have c0:=hc _ _ x0;have c1:=hc _ _ x1;have c2:=hc _ _ x2;have hR:=HK.out k hlt;obtain⟨an,pn,en,-⟩:=hR.nums;obtain⟨am,pm,em,-⟩:=hR.names;rw[en] at c1;rw[em] at c2;clear hc x0 x1 x2 hkr1;go_wp2;have HI:Hid (Kp w (wr.alloc (.cells #[.int .i64 kept[k].n,.slice an kept[k].nl pn,.slice am kept[k].ml pm] 89)) (fun _=>False)/\Blk (wr.alloc (.cells #[.int .i64 kept[k].n,.slice an kept[k].nl pn,.slice am kept[k].ml pm] 89)) wr.heap.size 89 #[.int .i64 kept[k].n,.slice an kept[k].nl pn,.slice am kept[k].ml pm]):=⟨hkp.alloc _,Blk.new _ _ _⟩;generalize wr.heap.size=kb at HI ⊢;generalize wr.alloc (.cells #[.int .i64 kept[k].n,.slice an kept[k].nl pn,.slice am kept[k].ml pm] 89)=w1 at HI ⊢;have HR:=hide hR;have HEN:=hide en;have HEM:=hide em;have hl1:=hR.l1;have hl2:=hR.l2;clear hkp hB1 cw c0 c1 c2 hR en em;generalize hke:kept[k]=e at HI HR HEN HEM hl1 hl2 ⊢;clear hke
   go_loopw [5] (fun j wr=>∃ q:Nat,q<=e.nl/\j=.int .i64 q/\Kp w wr (fun _=>False)/\Blk wr kb 89 #[.int .i64 e.n,.slice an e.nl pn,.slice am e.ml pm]) (fun j _=>e.nl - (intOf j).toNat)
   case atStart=>exact⟨0,Nat.zero_le _,rfl,HI.out.1,HI.out.2⟩
   case round=>
    clear HI;obtain⟨q,hq,rfl,hkp,hblk⟩:=hrel;have d0:wr.cell? ⟨kb,0,none⟩=some (.int .i64 e.n):=hblk.cell rfl;have d1:wr.cell? ⟨kb,1,none⟩=some (.slice an e.nl pn):=hblk.cell rfl;have HN:Hid (Kp w wr (fun _=>False)/\Blk wr kb 89 #[.int .i64 e.n,.slice an e.nl pn,.slice am e.ml pm]):=⟨hkp,hblk⟩;by_cases hql:q < e.nl
    ·obtain⟨ao,cap,ea,hcell⟩:=HR.out.nums.kpF hkp;rw[HEN.out] at ea;injection ea with ea eb ec;subst ea;obtain⟨g,eg,cg⟩:=hcell q hql;subst eg;clear hcell hkp hblk eb ec;go_wp2
     go_quiet (fail)
     go_wp2
     go_roundw
     case rel=>exact⟨q+1,by omega,by go_num,HN.out.1.drewN _,HN.out.2.drewN _⟩
     case measure=>simp[intOf];omega
    ·clear hkp hblk;go_wp2
     go_loopw [6] (fun j wr=>∃ q:Nat,q<=e.ml/\j=.int .i64 q/\Kp w wr (fun _=>False)/\Blk wr kb 89 #[.int .i64 e.n,.slice an e.nl pn,.slice am e.ml pm]) (fun j _=>e.ml - (intOf j).toNat)
     case atStart=>exact⟨0,Nat.zero_le _,rfl,HN.out.1,HN.out.2⟩
     case round=>
      clear HN d0 d1;obtain⟨q2,hq2,rfl,hkp,hblk⟩:=hrel;have d0:wr.cell? ⟨kb,0,none⟩=some (.int .i64 e.n):=hblk.cell rfl;have d2:wr.cell? ⟨kb,2,none⟩=some (.slice am e.ml pm):=hblk.cell rfl;have HN:Hid (Kp w wr (fun _=>False)/\Blk wr kb 89 #[.int .i64 e.n,.slice an e.nl pn,.slice am e.ml pm]):=⟨hkp,hblk⟩;by_cases hql2:q2 < e.ml
      ·obtain⟨ao,cap,ea,hcell⟩:=HR.out.names.kpF hkp;rw[HEM.out] at ea;injection ea with ea eb ec;subst ea;obtain⟨g,eg,cg⟩:=hcell q2 hql2;subst eg;clear hcell hkp hblk eb ec;have HM:Hid (∀ wx,Kp wr wx (fun _=>False)->Calls Tryz.prog 50 #[.int .i64 e.n] wx fun x w'=>x=.returned (.string (markP e.n))/\Kp wr w' (fun _=>False)/\w'.cell? ⟨kb,0,none⟩=some (.int .i64 e.n)/\w'.cell? ⟨kb,2,none⟩=some (.slice (some ⟨g,0,none⟩) e.ml pm)/\w'.cell? ⟨g,q2,none⟩=some (.string (markP e.n))):=by
        intro wx hx;refine (markL e.n wx).mono ?_;rintro x w' ⟨rfl,hk'⟩;have hk2:=hx.trans hk';exact⟨rfl,hk2,cell_kp hk2 (fun h=>h) d0,cell_kp hk2 (fun h=>h) d2,cell_kp hk2 (fun h=>h) cg⟩
       go_wp2_with fail
       go_region_with (go_at_call 50;refine (HM.out _ ?_).mono ?_;exact (Kp.refl wr _).drew;rintro x w5 ⟨rfl,hk5,y0,y2,yg⟩)
       all_goals
        have HN5:Hid (Kp w w5 (fun _=>False)/\Blk w5 kb 89 #[.int .i64 e.n,.slice an e.nl pn,.slice (some ⟨g,0,none⟩) e.ml pm]):=⟨HN.out.1.trans hk5,hk5.blk HN.out.2 (fun h=>h)⟩;clear hk5 HN;go_wp2
        go_roundw
        case rel=>exact⟨q2+1,by omega,by go_num,HN5.out.1,HN5.out.2⟩
        case measure=>simp[intOf];omega
      ·clear hkp hblk;go_wp2
       go_roundw
       case rel=>exact⟨k+1,by omega,by go_num,HN.out.1⟩
       case measure=>simp[intOf];omega
  ·go_wp2;go_ret;exact⟨rfl,hkp⟩
end
section
open Go.RowKit
def RdC (c:Nat->Nat) (w:World) (v:Value) (l:Nat) (u:Value):Prop:=∃ ao cap,v=.slice ao l cap/\∀ j,j < l->∃ g,ao=some ⟨g,0,none⟩/\c g=1/\w.cell? ⟨g,j,none⟩=some u
theorem RdC.rd {c:Nat->Nat} {w:World} {v:Value} {l:Nat} {u:Value} (h:RdC c w v l u):Rd w v l u:=by
 obtain⟨ao,cap,e,h⟩:=h;exact⟨ao,cap,e,fun j hj=>by obtain⟨g,h1,_,h2⟩:=h j hj;exact⟨g,h1,h2⟩⟩
theorem cell_lt {w:World} {q j:Nat} {u:Value} (hc:w.cell? ⟨q,j,none⟩=some u):q < w.heap.size:=by
 rcases Nat.lt_or_ge q w.heap.size with h|h
 ·exact h
 ·unfold World.cell? at hc;rw[Array.getElem?_eq_none h] at hc;cases hc
theorem RdC.mv {A:Nat->Prop} {c c':Nat->Nat} {w w':World} {v:Value} {l:Nat} {u:Value} (h:RdC c w v l u) (hm:Mv A c w c' w') (h1:¬ A 1):RdC c' w' v l u:=by
 obtain⟨ao,cap,e,h⟩:=h;refine⟨ao,cap,e,fun j hj=>?_⟩;obtain⟨g,h2,h3,h4⟩:=h j hj;refine⟨g,h2,by rw[hm.old g (cell_lt h4)];exact h3,cell_kp hm.kp (fun e=>?_) h4⟩;have e:A (c g):=e;rw[h3] at e;exact h1 e
theorem RdC.nil (c:Nat->Nat) (w:World) (u:Value):RdC c w (.slice none 0 0) 0 u:=⟨none,0,rfl,fun j hj=>by omega⟩
theorem RdC.of {c:Nat->Nat} {w:World} {v:Value} {l:Nat} {u:Value} (h:Rd w v l u) (hc:∀ b,own v b->c b=1):RdC c w v l u:=by
 obtain⟨ao,cap,rfl,h⟩:=h;refine⟨ao,cap,rfl,fun j hj=>?_⟩;obtain⟨g,rfl,h2⟩:=h j hj;exact⟨g,rfl,hc g rfl,h2⟩
structure KeC (c:Nat->Nat) (w:World) (e:Ke):Prop where
 nums:RdC c w e.nv e.nl (.int .i64 (wrap64 (-e.n)))
 names:RdC c w e.mv e.ml (.string (markP e.n))
 l1:e.nl<=1000
 l2:e.ml<=1000
theorem KeC.rd {c:Nat->Nat} {w:World} {e:Ke} (h:KeC c w e):KeRd w e:=⟨h.nums.rd,h.names.rd,h.l1,h.l2⟩
theorem KeC.mv {A:Nat->Prop} {c c':Nat->Nat} {w w':World} {e:Ke} (h:KeC c w e) (hm:Mv A c w c' w') (h1:¬ A 1):KeC c' w' e:=⟨h.nums.mv hm h1,h.names.mv hm h1,h.l1,h.l2⟩
theorem RdC.re {c c':Nat->Nat} {w:World} {v:Value} {l:Nat} {u:Value} (h:RdC c w v l u) (hc:∀ b,c b=1->c' b=1):RdC c' w v l u:=by
 obtain⟨ao,cap,e,h⟩:=h;refine⟨ao,cap,e,fun j hj=>?_⟩;obtain⟨g,h2,h3,h4⟩:=h j hj;exact⟨g,h2,hc g h3,h4⟩
theorem KeC.re {c c':Nat->Nat} {w:World} {e:Ke} (h:KeC c w e) (hc:∀ b,c b=1->c' b=1):KeC c' w e:=⟨h.nums.re hc,h.names.re hc,h.l1,h.l2⟩
def ptrsP (ps:List Pr):List Value:=ps.map fun p=>.pointer (some ⟨p.pb,0,none⟩)
structure WIn (PS:World->Nat->(Nat->Prop)->St->Prop) (B:Nat) (c:Nat->Nat) (w:World) (wb:Nat) (psv kv:Value) (n:Int) (ps:List Pr) (kept:List Ke):Prop where
 blk:Blk w wb 28 #[psv,.int .i64 n,kv]
 cw:c wb=2
 row:w.ownsRow 0 55 1 psv ps.length (ptrsP ps)
 cr:∀ k,own psv k->c k=2
 krow:w.ownsRow 0 89 3 kv kept.length (keCells kept)
 ck:∀ k,own kv k->c k=2
 pin:∀ i (hi:i < ps.length),PrIn B PS c w i ps[i]
 same:∀ i (hi:i < ps.length),ps[i].sx=ps[i].s
 wf:∀ i (hi:i < ps.length),WFs ps[i].s
 ke:∀ i (hi:i < kept.length),KeC c w kept[i]
 low:∀ b,b < B->c b=0
 bl:B<=w.heap.size
theorem cx_two (i:Nat):¬ cx i=2:=by unfold cx;omega
theorem cy_two (i:Nat):¬ cy i=2:=by unfold cy;omega
theorem cx_one (i:Nat):¬ cx i=1:=by unfold cx;omega
theorem cx_zero (i:Nat):¬ cx i=0:=by unfold cx;omega
section
variable {PS:World->Nat->(Nat->Prop)->St->Prop} {B:Nat} {W0:World} (P:PCon B W0 PS)
include P
theorem WIn.ranE {c c':Nat->Nat} {w w':World} {wb:Nat} {psv kv:Value} {n:Int} {ps:List Pr} {kept:List Ke} (h:WIn PS B c w wb psv kv n ps kept) (i:Nat) (hi:i < ps.length) {V':Nat->Prop} {rs':RS} {s':St} (hq:PrIn B PS c' w' i { ps[i] with V:=V',sx:=s',rs:=rs',s:=s' }) (hwf:WFs s') (hm:Mv (fun a=>a=cx i\/a=cy i) c w c' w'):
  WIn PS B c' w' wb psv kv n (ps.set i { ps[i] with V:=V',sx:=s',rs:=rs',s:=s' }) kept:=by
 have n0:¬ ((0:Nat)=cx i\/(0:Nat)=cy i):=by unfold cx cy;omega
 have n1:¬ ((1:Nat)=cx i\/(1:Nat)=cy i):=by unfold cx cy;omega
 have n2:∀ k,c k=2->¬ (c k=cx i\/c k=cy i):=fun k hk=>by rw[hk];unfold cx cy;omega
 refine⟨hm.kp.blk h.blk (n2 _ h.cw),by rw[hm.old _ h.blk.lt];exact h.cw,?_,fun k hk=>by rw[hm.old _ (own_lt h.row hk)];exact h.cr k hk,hm.kp.row h.krow (fun k hk=>n2 _ (h.ck k hk)),fun k hk=>by rw[hm.old _ (own_lt h.krow hk)];exact h.ck k hk,?_,?_,?_,fun j hj=>(h.ke j hj).mv hm n1,fun b hb=>by rw[hm.old b (Nat.lt_of_lt_of_le hb h.bl)];exact h.low b hb,Nat.le_trans h.bl hm.kp.size⟩
 ·have e1:ptrsP (ps.set i { ps[i] with V:=V',sx:=s',rs:=rs',s:=s' })=ptrsP ps:=by
   unfold ptrsP
   apply List.ext_getElem?
   intro j;rw[List.getElem?_map,List.getElem?_map,List.getElem?_set]
   split
   ·rename_i e;subst e;simp[hi]
   ·rfl
  rw[List.length_set,e1];exact hm.kp.row h.row (fun k hk=>n2 _ (h.cr k hk))
 ·intro j hj;rw[List.length_set] at hj;rw[List.getElem_set]
  split
  ·rename_i e;subst e;exact hq
  ·rename_i hij
   refine (h.pin j hj).other P hm n0 ?_ ?_
   ·rintro (e|e)
    ·exact hij (cx_inj e).symm
    ·exact cx_cy _ _ e
   ·rintro (e|e)
    ·exact cx_cy _ _ e.symm
    ·exact hij (cy_inj e).symm
 ·intro j hj;rw[List.length_set] at hj;rw[List.getElem_set]
  split
  ·rfl
  ·exact h.same j hj
 ·intro j hj;rw[List.length_set] at hj;rw[List.getElem_set]
  split
  ·exact hwf
  ·exact h.wf j hj
theorem WIn.ran {c:Nat->Nat} {w w':World} {wb:Nat} {psv kv:Value} {n:Int} {ps:List Pr} {kept:List Ke} (h:WIn PS B c w wb psv kv n ps kept) (i:Nat) (hi:i < ps.length) (hp:PrPost B PS c w w' i ps[i]):
  ∃ c' ps',WIn PS B c' w' wb psv kv n ps' kept/\ps'.length=ps.length/\Below B w w':=by
 obtain⟨c',V',rs',s',hq,hwf,hm⟩:=hp;refine⟨c',_,h.ranE P i hi hq hwf hm,by simp,hm.kp.below h.bl (fun k hk e=>?_)⟩;have e:c k=cx i\/c k=cy i:=e;rw[h.low k hk] at e;unfold cx cy at e;omega
theorem PrIn.re {c c':Nat->Nat} {w:World} {i:Nat} {p:Pr} (h:PrIn B PS c w i p) (hc:∀ b,c' b ≠ c b->c b ≠ 0/\c b ≠ cy i/\¬ p.V b):PrIn B PS c' w i p:=by
 have key:∀ b,(c b=0\/c b=cy i\/p.V b)->c' b=c b:=fun b hb=>by
  by_cases e:c' b=c b
  ·exact e
  ·obtain⟨h1,h2,h3⟩:=hc b e;rcases hb with hb|hb|hb
   ·exact absurd hb h1
   ·exact absurd hb h2
   ·exact absurd hb h3
 refine⟨h.blk,by rw[key _ (.inl h.cp)];exact h.cp,h.x,fun k hk=>by rw[key k (.inr (.inr hk))];exact h.cv k hk,h.y.less (fun b hb=>⟨hb.1,fun e=>?_⟩),by rw[key _ (.inr (.inl h.cyb))];exact h.cyb,fun k hk=>by rw[key k (.inr (.inl (h.cn k hk)))];exact h.cn k hk,fun k hk=>by rw[key k (.inr (.inl (h.cd k hk)))];exact h.cd k hk,fun b hb=>by rw[key b (.inl (h.low b hb))];exact h.low b hb,h.bl⟩;exact hb.2 (by rw[key b (.inr (.inl e))];exact e)
end
end
end Go.Proofs.YteainaiebcphlaaGreatDoor
