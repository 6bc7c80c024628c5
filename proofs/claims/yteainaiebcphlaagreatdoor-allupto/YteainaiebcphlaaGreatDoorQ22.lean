import Derived.Test.YteainaiebcphlaaGreatDoorQ21
import Derived.Test.YteainaiebcphlaaGreatDoorQ19
namespace Go.Proofs.YteainaiebcphlaaGreatDoor
set_option maxRecDepth 1000000
set_option maxHeartbeats 4000000
set_option linter.all false
open Go.Proofs.Tryz
section
open Go.RowKit
section
variable {PS:World->Nat->(Nat->Prop)->St->Prop}{B:Nat}{W0:World}(P:PCon B W0 PS)
include P
def qI (B:Nat)(PS:World->Nat->(Nat->Prop)->St->Prop)(c:Nat->Nat)(w w':World)(i:Nat)(p:Pr):Prop:=
 ∃c' V' rs' s',jm B PS c' w' i {p with V:=V',sx:=s',rs:=rs',s:=s'}/\iZ s'/\Mv (λa=>a=cx i\/a=cy i) c w c' w'
theorem Vd {L8:World->Nat->(Nat->Prop)->St->Prop}(L:Dl L8 PS)(c:Nat->Nat)(w:World)(i:Nat)(p:Pr)(t:ByteArray)(h:jm B PS c w i p)(hx0:L8 w p.xb p.V p.sx)(hs:p.sx=p.s)(wf:iZ p.s):
  Calls prog 31 #[.pointer (some ⟨p.pb,0,none⟩),.string t] w λe w'=>e=.returned (.bool true)/\qI B PS c w w' i p:=by
 have k0:w.cell? ⟨p.pb,0,none⟩=some (.pointer (some ⟨p.xb,0,none⟩)):=h.blk.cell rfl;have hx:=h.x;rw[hs] at hx hx0
 cases hv:cz t.data.toList with
 | true=>
  have hfl:(Lib.fields t.data.toList).length<=1000:=by
   have h1:=iP t.data.toList [];have h3:t.data.toList.length<=400:=by unfold cz at hv;rw[Bool.and_eq_true] at hv;exact of_decide_eq_true hv.1
   have:(Lib.fields t.data.toList).length<=t.data.toList.length+1:=h1;omega
  obtain⟨g,s1,left,hrun,Ve⟩:=uK p.s wf t.data.toList hfl;clear hfl;have Qq:=az hrun;have KJ:=az Ve;clear hrun Ve;go_enter func31,ntmps31
  go_wp2_with fail
  refine(L.line w p.xb p.V p.s s1 left g t hx0 wf h.y.rel.good hv Qq.out).mono ?_;rintro e w1 ⟨rfl,V',hx1,bt⟩;obtain⟨h1,xJ⟩:=h.EW P bt hx1;have k1:w1.cell? ⟨p.pb,1,none⟩=some (.pointer (some ⟨p.yb,0,none⟩)):=h1.blk.cell rfl;have F6:=az h1;clear h hx hx0 bt hx1 k0 h1
  go_wp2_with fail
  refine(Ii w1 p.yb p.rs p.s s1 left t g F6.out.y hv Qq.out).mono ?_;rintro e w2 ⟨rfl,mo,fM,bM⟩;obtain⟨h2,hm2⟩:=F6.out.L6 P bM fM;have HN:Hid (qI B PS c w w2 i p):=⟨_,V',mo,yE s1,h2,KJ.out,(xJ.mono (λa h=>.inl h)).trans (hm2.mono (λa h=>.inr h))⟩;clear h2 hm2 bM fM xJ F6 k1 Qq KJ;go_wp2;go_ret;exact⟨by simp,HN.out⟩
 | false=>
  go_enter func31,ntmps31
  go_wp2_with fail
  refine(P.L1 w p.xb p.V p.s t hx hv).mono ?_;rintro e w1 ⟨rfl,V',hx1,bt⟩;obtain⟨h1,xJ⟩:=h.EW P bt hx1;have k1:w1.cell? ⟨p.pb,1,none⟩=some (.pointer (some ⟨p.yb,0,none⟩)):=h1.blk.cell rfl;have F6:=az h1;clear h hx hx0 bt hx1 k0 h1
  go_wp2_with fail
  refine(EO w1 p.yb t hv).mono ?_;rintro e w2 ⟨rfl,hk2⟩;obtain⟨h2,hm2⟩:=F6.out.L6 P (fG.cI hk2) (F6.out.y.cI hk2);have HN:Hid (qI B PS c w w2 i p):=⟨_,V',p.rs,p.s,h2,wf,(xJ.mono (λa h=>.inl h)).trans (hm2.mono (λa h=>.inr h))⟩;clear h2 hm2 hk2 xJ F6 k1;go_wp2;go_ret;exact⟨by simp,HN.out⟩
theorem OC (c:Nat->Nat)(w:World)(i:Nat)(p:Pr)(n:Int)(h:jm B PS c w i p)(hs:p.sx=p.s)(wf:iZ p.s)(hn:In n):
  Calls prog 25 #[.pointer (some ⟨p.pb,0,none⟩),.int .i64 n] w λe w'=>e=.returned (.bool true)/\qI B PS c w w' i p:=by
 have k0:w.cell? ⟨p.pb,0,none⟩=some (.pointer (some ⟨p.xb,0,none⟩)):=h.blk.cell rfl;have hx:=h.x;rw[hs] at hx;go_enter func25,ntmps25
 go_wp2_with fail
 refine(P.cell w p.xb p.V p.s n hx hn).mono ?_;rintro e w1 ⟨rfl,V',hx1,bt⟩;obtain⟨h1,xJ⟩:=h.EW P bt hx1;have k1:w1.cell? ⟨p.pb,1,none⟩=some (.pointer (some ⟨p.yb,0,none⟩)):=h1.blk.cell rfl;have F6:=az h1;clear h hx bt hx1 k0 h1
 go_wp2_with fail
 refine(U9 w1 p.yb p.rs p.s n F6.out.y hn).mono ?_;rintro e w2 ⟨rfl,hk2⟩;obtain⟨h2,hm2⟩:=F6.out.L6 P (fG.cI hk2) (F6.out.y.cI hk2);have HN:Hid (qI B PS c w w2 i p):=⟨_,V',p.rs,p.s,h2,wf,(xJ.mono (λa h=>.inl h)).trans (hm2.mono (λa h=>.inr h))⟩;clear h2 hm2 hk2 xJ F6 k1;generalize jQ p.s n=q;go_wp2;go_ret;exact⟨by simp,HN.out⟩
end
def fX (u:Value)(k:Nat)(xs:List Value):List Value:=List.replicate k u++xs.drop k
theorem sj (u:Value)(xs:List Value):fX u 0 xs=xs:=by simp[fX]
theorem su (u:Value)(k:Nat)(xs:List Value)(h:k<xs.length):(fX u k xs).set k u=fX u (k+1) xs:=by
 unfold fX;rw[List.set_append_right _ _ (by simp),List.replicate_succ',List.append_assoc];simp;rw[List.drop_eq_getElem_cons h];rfl
theorem uL (u:Value)(xs:List Value):fX u xs.length xs=List.replicate xs.length u:=by simp[fX]
theorem uM (u:Value)(k:Nat)(xs:List Value)(h:k<=xs.length):(fX u k xs).length=xs.length:=by simp[fX];omega
structure qJ (w wr:World)(wb:Nat)(cK kv v:Value)(n:Int)(m:Nat)(cells:List Value)(l:Nat)(e:TypeId)(xs:List Value):Prop where
 blk:aC wr wb 28 #[cK,.int .i64 n,kv]
 kD:wr.ownsRow 0 89 3 kv m cells
 row:wr.ownsRow 0 e 1 v l xs
 kp:Kp w wr (λb=>b=wb\/own v b)
def Rd (w:World)(v:Value)(l:Nat)(u:Value):Prop:=∃ao cap,v=.slice ao l cap/\∀j,j<l->∃g,ao=some ⟨g,0,none⟩/\w.cell? ⟨g,j,none⟩=some u
theorem Rd.of {w:World}{e:TypeId}{v:Value}{l:Nat}{u:Value}(h:w.ownsRow 0 e 1 v l (List.replicate l u)):Rd w v l u:=by
 obtain⟨ao,cap,rfl⟩:=aB h;refine⟨ao,cap,rfl,λj hj=>?_⟩;obtain⟨g,cap',e1,hc⟩:=bE h (by omega);injection e1 with e1 e2 e3;exact⟨g,e1,hc j u (by simp[hj])⟩
theorem Rd.move {w w':World}{v:Value}{l:Nat}{u:Value}(h:Rd w v l u)(hc:∀q j,w.cell? ⟨q,j,none⟩=some u->w'.cell? ⟨q,j,none⟩=some u):Rd w' v l u:=by
 obtain⟨ao,cap,rfl,h⟩:=h;exact⟨ao,cap,rfl,λj hj=>by obtain⟨g,h1,h2⟩:=h j hj;exact⟨g,h1,hc g j h2⟩⟩
theorem Cb {w:World}{q j:Nat}{u:Value}(o:Obj)(hc:w.cell? ⟨q,j,none⟩=some u):(w.alloc o).cell? ⟨q,j,none⟩=some u:=by
 have hlt:q<w.heap.size:=by
  rcases Nat.lt_or_ge q w.heap.size with h|h
  ·exact h
  ·unfold World.cell? at hc;rw[Array.getElem?_eq_none h] at hc;cases hc
 have e:=Below.heap_alloc w o q hlt;unfold World.cell? at hc ⊢;rw[e];exact hc
theorem iU {w w':World}{S:Nat->Prop}{q j:Nat}{u:Value}(hk:Kp w w' S)(hq:¬S q)(hc:w.cell? ⟨q,j,none⟩=some u):w'.cell? ⟨q,j,none⟩=some u:=by
 have hlt:q<w.heap.size:=by
  rcases Nat.lt_or_ge q w.heap.size with h|h
  ·exact h
  ·unfold World.cell? at hc;rw[Array.getElem?_eq_none h] at hc;cases hc
 have e:=hk.block q hlt hq;unfold World.cell? at hc ⊢;rw[e];exact hc
theorem kU {w w':World}{o:Obj}{u:Value}(hE:∀(q j:Nat) (x:Value),(w.alloc o).cell? ⟨q,j,none⟩=some x->w'.cell? ⟨q,j,none⟩=some x\/w'.cell? ⟨q,j,none⟩=some u)(q j:Nat)(hc:w.cell? ⟨q,j,none⟩=some u):w'.cell? ⟨q,j,none⟩=some u:=by
 rcases hE q j u (Cb o hc) with h|h
 ·exact h
 ·exact h
structure pV (w w':World)(wb:Nat)(cK kv v kv' va vb vc:Value)(n:Int)(m l:Nat)(cells:List Value):Prop where
 blk:aC w' wb 28 #[cK,.int .i64 n,kv']
 kD:w'.ownsRow 0 89 3 kv' (m+4) (cells++[.int .i64 n,v,.slice none 0 0,.int .i64 n,va,.slice none 0 0,.int .i64 n,vb,.slice none 0 0,.int .i64 n,vc,.slice none 0 0])
 kp:Kp w w' (λb=>b=wb\/own kv b\/own v b)
 kn:∀b,own kv' b->own kv b\/w.heap.size<=b
 r0:Rd w' v l (.int .i64 (wrap64 (-n)))
 ra:Rd w' va (l+1) (.int .i64 (wrap64 (-n)))
 rb:Rd w' vb (l+2) (.int .i64 (wrap64 (-n)))
 rc:Rd w' vc (l+3) (.int .i64 (wrap64 (-n)))
 na:∀b,own va b->own v b\/w.heap.size<=b
 nb:∀b,own vb b->own v b\/w.heap.size<=b
 nc:∀b,own vc b->own v b\/w.heap.size<=b
 ty:∀b,(own v b\/own va b\/own vb b\/own vc b)->∃cc,aC w' b 3 cc
theorem Tryz.Ah:(prog.info? 89).map (λi=>(i.zero,i.size,i.bytes))=some (some (.agg #[.int .i64 0,.slice none 0 0,.slice none 0 0]),3,56):=by kernel_rfl
theorem Vf (w:World)(wb:Nat)(cK kv v Qr:Value)(n:Int)(m:Nat)(cells:List Value)(ns:List Int)(hB:aC w wb 28 #[cK,.int .i64 n,kv])(hkr:w.ownsRow 0 89 3 kv m cells)(hm:m<=1000000000000)
  (hv:w.ownsRow 0 3 1 v ns.length (bD ns)) (hl:ns.length<=32) (hk:w.ownsRow 0 3 1 Qr ns.length (bD ns)) (hd:∀b,own v b->¬own Qr b):
  Calls prog 32 #[.pointer (some ⟨wb,0,none⟩),v,Qr] w λe w'=>e=.returned (.bool true)/\∃kv' va vb vc,pV w w' wb cK kv v kv' va vb vc (wrap64 (n+1)) m ns.length cells:=by
 obtain⟨i0,hi,hz0,hz1,hz2⟩:=info_parts Tryz.info3;obtain⟨ik,hik,bC,hk1,hk2⟩:=info_parts Tryz.Ah;obtain⟨av,pv,rfl⟩:=aB hv;obtain⟨ak,pk,rfl⟩:=aB hk;obtain⟨aw,pw,rfl⟩:=aB hkr;have c1:w.cell? ⟨wb,1,none⟩=some (.int .i64 n):=hB.cell rfl;have f1:=hB.free 1;have HV:=az hv;have Qs:=az hk;have HB:=az hB;have Cc:=az hkr;have HD:=az hd;clear hv hk hB hkr hd;go_enter func32,ntmps32;go_wp2
 go_loopw [7,8] (λo i wr=>o=.bool true/\∃k:Nat,k<=ns.length/\i=.int .i64 k/\Kp w wr (λ_=>False)) (λ_ i _=>ns.length-(intOf i).toNat)
 case atStart=>exact⟨rfl,0,Nat.zero_le _,rfl,Kp.refl _ _⟩
 case round=>
  obtain⟨rfl,k,hk,rfl,hkp⟩:=hrel;by_cases hlt:k<ns.length
  ·have hv1:=hkp.row HV.out (λ_ _ h=>h);have Ix:=hkp.row Qs.out (λ_ _ h=>h);obtain⟨gv,L9,e1,hcv⟩:=bE hv1 (by omega);injection e1 with e1 e2 e3;obtain⟨gk,Qt,e4,Iy⟩:=bE Ix (by omega);injection e4 with e4 e5 e6;have cv:=hcv k (.int .i64 ns[k]) (by simp[bD,hlt]);have ck:=Iy k (.int .i64 ns[k]) (by simp[bD,hlt]);subst e1 e4;clear hv1 Ix hcv Iy e2 e3 e5 e6;have mj:=az hkp;clear hkp c1 f1;go_wp2
   go_quiet (fail)
   go_wp2
   go_roundw
   case rel=>exact⟨by simp,k+1,by omega,by go_num,mj.out.drewN _⟩
   case measure=>simp[intOf];omega
  ·have cX:=hkp.blk HB.out (λh=>h);have c1':wr.cell? ⟨wb,1,none⟩=some (.int .i64 n):=cX.cell rfl;have ZF:=cX.free 1;have Ma:=az (hkp.row HV.out (λ_ _ h=>h));have Ce:=az (hkp.row Cc.out (λ_ _ h=>h));have Mb:=az cX;have mj:=az hkp;clear hkp cX c1 f1 HV Cc HB Qs HD;go_wp2;have hF:qJ w (wr.setCell ⟨wb,1,none⟩ (.int .i64 (wrap64 (n+1)))) wb cK (.slice aw m pw) (.slice av ns.length pv) (wrap64 (n+1)) m cells ns.length 3 (fX (.int .i64 (wrap64 (-wrap64 (n+1)))) 0 (bD ns)):=
    ⟨Mb.out.set 1 _,ownsRow_setCell_other Ce.out (a:=⟨wb,1,none⟩) (aH Ce.out Mb.out (by decide)) _,by rw[sj];exact ownsRow_setCell_other Ma.out (a:=⟨wb,1,none⟩) (aH Ma.out Mb.out (by decide)) _,(mj.out.mono (λ_ _ h=>h.elim)).set (a:=⟨wb,1,none⟩) (λ_=>.inl rfl) _⟩
   have HF:=az hF;clear hF Mb Ce Ma mj c1' ZF;generalize wr.setCell ⟨wb,1,none⟩ (.int .i64 (wrap64 (n+1)))=w1 at HF ⊢;generalize Ej:wrap64 (n+1)=n1 at HF ⊢;have ZG:=az Ej;clear Ej;clear hlt hk
   go_loopw [10] (λi wr=>∃k:Nat,k<=ns.length/\i=.int .i64 k/\qJ w wr wb cK (.slice aw m pw) (.slice av ns.length pv) n1 m cells ns.length 3 (fX (.int .i64 (wrap64 (-n1))) k (bD ns))) (λi _=>ns.length-(intOf i).toNat)
   case atStart=>exact⟨0,Nat.zero_le _,rfl,HF.out⟩
   case round=>
    clear HF;obtain⟨k,hk,rfl,hblk,hkr,aJ,hkp⟩:=hrel;by_cases hlt:k<ns.length
    ·obtain⟨gv,L9,e1,hcv⟩:=bE aJ (by omega);injection e1 with e1 e2 e3;subst e1;have hgo:own (.slice (some ⟨gv,0,none⟩) ns.length pv) gv:=rfl;obtain⟨cc,hcc⟩:=aV aJ hgo;have hil:(bD ns).length=ns.length:=by simp[bD]
     obtain⟨u0,hu0⟩:∃u0,(fX (.int .i64 (wrap64 (-n1))) k (bD ns))[k]? = some u0:=⟨_,List.getElem?_eq_getElem (by rw[uM _ _ _ (by omega)];omega)⟩;have cv:=hcv k u0 hu0;have fv:=hcc.free k;have ZH:¬wb=gv:=by rintro rfl;exact ax (hcc.inj hblk).1 (by decide)
     have HN:Hid (qJ w (wr.setCell ⟨gv,k,none⟩ (.int .i64 (wrap64 (-n1)))) wb cK (.slice aw m pw) (.slice (some ⟨gv,0,none⟩) ns.length pv) n1 m cells ns.length 3 (fX (.int .i64 (wrap64 (-n1))) (k+1) (bD ns))):=by
      refine⟨hblk.setOther ZH _,ownsRow_setCell_other hkr (a:=⟨gv,k,none⟩) (aH hkr hcc (by decide)) _,?_,hkp.set (a:=⟨gv,k,none⟩) (λ_=>.inr hgo) _⟩;rw[<-su _ _ _ (by omega)];exact eU aJ hgo k _
     clear hblk hkr aJ hkp hcv hcc hu0 e2 e3 hil;go_wp2
     go_roundw
     case rel=>exact⟨k+1,by omega,by go_num,HN.out⟩
     case measure=>simp[intOf];omega
    ·have OD:k=ns.length:=by omega
     subst OD;have hil:(bD ns).length=ns.length:=by simp[bD]
     have aZ:wr.ownsRow 0 3 1 (.slice av ns.length pv) ns.length (List.replicate ns.length (.int .i64 (wrap64 (-n1)))):=by
      have:=uL (.int .i64 (wrap64 (-n1))) (bD ns);rw[hil] at this;rw[<-this];exact aJ
     have Qu:=az hblk;have Cc:=az hkr;have mj:=az hkp;have XT:=hblk.lt;have Ex:=az aZ;clear hblk hkr hkp aJ hil
     go_wp2_with (first
      | (at_builtin;refine cW _ rfl _ _ 34 rfl 3 i0 (.int .i64 0) 1 8 underlying34 hi hz0 hz1 hz2 rfl (by decide) _ _ _ rfl (aZ.alloc _) ⟨wr.heap.size,0,none⟩ 1 1 [.int .i64 (wrap64 (-n1))] rfl rfl ?c1 ?c2 ?c3 ?c4 ?_)
      | go_in)
     case c1=>intro j u hj;match j,hj with|0,hj=>simp at hj;subst hj;simp[Addr.add]
     case c2=>intro u hu;simp at hu;subst hu;rfl
     case c3=>unfold maxLen;omega
     case c4=>omega
     intro v2 w2 hown2 hgrow2 zB hrow2 F7;obtain⟨a2,p2,rfl⟩:=aB hown2;have EY:=az hown2;have HG2:=az hgrow2;have uy:=az zB;have ZI:=az F7;clear F7;clear hown2 hgrow2 zB aZ
     go_wp2_with (first
      | (at_builtin;refine cW _ rfl _ _ 34 rfl 3 i0 (.int .i64 0) 1 8 underlying34 hi hz0 hz1 hz2 rfl (by decide) _ _ _ rfl (hrow2.alloc _) ⟨w2.heap.size,0,none⟩ 2 2 [.int .i64 (wrap64 (-n1)),.int .i64 (wrap64 (-n1))] rfl rfl ?d1 ?d2 ?d3 ?d4 ?_)
      | go_in)
     case d1=>intro j u hj;match j,hj with|0,hj=>simp at hj;subst hj;simp[Addr.add]|1,hj=>simp at hj;subst hj;simp[Addr.add]
     case d2=>intro u hu;simp at hu;subst hu;rfl
     case d3=>unfold maxLen;omega
     case d4=>omega
     intro v3 w3 uN uO zX hrow3 OE;obtain⟨a3,p3,rfl⟩:=aB uN;have Qv:=az uN;have Vg:=az uO;have zg:=az zX;have Hs:=az OE;clear OE;clear uN uO zX hrow2
     go_wp2_with (first
      | (at_builtin;refine cW _ rfl _ _ 34 rfl 3 i0 (.int .i64 0) 1 8 underlying34 hi hz0 hz1 hz2 rfl (by decide) _ _ _ rfl (hrow3.alloc _) ⟨w3.heap.size,0,none⟩ 3 3 [.int .i64 (wrap64 (-n1)),.int .i64 (wrap64 (-n1)),.int .i64 (wrap64 (-n1))] rfl rfl ?e1 ?e2 ?e3 ?e4 ?_)
      | go_in)
     case e1=>intro j u hj;match j,hj with|0,hj=>simp at hj;subst hj;simp[Addr.add]|1,hj=>simp at hj;subst hj;simp[Addr.add]|2,hj=>simp at hj;subst hj;simp[Addr.add]
     case e2=>intro u hu;simp at hu;subst hu;rfl
     case e3=>unfold maxLen;omega
     case e4=>omega
     intro v4 w4 uP uQ tU hrow4 Vh;obtain⟨a4,p4,rfl⟩:=aB uP;have Qw:=az uP;have Vi:=az uQ;have Od:=az tU;have Qx:=az Vh;clear Vh;have Dh:=az hrow4;clear uP uQ tU hrow3 hrow4;have k12:Kp wr w2 (λb=>own (.slice av ns.length pv) b):=((Kp.refl wr _).alloc _).grown HG2.out (λb _ e=>e);have k23:Kp w2 w3 (λb=>own (.slice av ns.length pv) b):=((Kp.refl w2 _).alloc _).grown Vg.out (λb _ e=>e);have Mc:Kp w3 w4 (λb=>own (.slice av ns.length pv) b):=((Kp.refl w3 _).alloc _).grown Vi.out (λb _ e=>e);have k14:=(k12.trans k23).trans Mc;have sL:¬own (.slice av ns.length pv) wb:=aH Ex.out Qu.out (by decide);have hB4:=k14.blk Qu.out sL;have uR:=k14.row Cc.out (λb hb hv=>by obtain⟨cc,hcc⟩:=aV Cc.out hb;exact ax (aQ Ex.out hv hcc) (by decide));have r0:Rd w4 (.slice av ns.length pv) ns.length (.int .i64 (wrap64 (-n1))):=Rd.of Dh.out;have Vj:Rd w2 (.slice a2 (ns.length+1) p2) (ns.length+1) (.int .i64 (wrap64 (-n1))):=Rd.of (by have:=EY.out;rw[List.replicate_succ'];exact this);have Vk:Rd w3 (.slice a3 (ns.length+2) p3) (ns.length+2) (.int .i64 (wrap64 (-n1))):=Rd.of (by have:=Qv.out;rw[show List.replicate (ns.length+2) (Value.int .i64 (wrap64 (-n1)))=List.replicate ns.length (Value.int .i64 (wrap64 (-n1)))++[.int .i64 (wrap64 (-n1)),.int .i64 (wrap64 (-n1))] by rw[List.replicate_succ',List.replicate_succ'];simp];exact this);have Vl:Rd w4 (.slice a4 (ns.length+3) p4) (ns.length+3) (.int .i64 (wrap64 (-n1))):=Rd.of (by have:=Qw.out;rw[show List.replicate (ns.length+3) (Value.int .i64 (wrap64 (-n1)))=List.replicate ns.length (Value.int .i64 (wrap64 (-n1)))++[.int .i64 (wrap64 (-n1)),.int .i64 (wrap64 (-n1)),.int .i64 (wrap64 (-n1))] by rw[List.replicate_succ',List.replicate_succ',List.replicate_succ'];simp];exact this);have Vm:=(Vj.move (kU Hs.out)).move (kU Qx.out);have Vn:=Vk.move (kU Qx.out);have na:∀b,own (.slice a2 (ns.length+1) p2) b->own (.slice av ns.length pv) b\/w.heap.size<=b:=λb hb=>(uy.out b hb).imp (λh=>h) (λh=>by have:=mj.out.size;omega);have nb:∀b,own (.slice a3 (ns.length+2) p3) b->own (.slice av ns.length pv) b\/w.heap.size<=b:=λb hb=>(zg.out b hb).imp (λh=>h) (λh=>by have:=mj.out.size;have:=k12.size;omega);have nc:∀b,own (.slice a4 (ns.length+3) p4) b->own (.slice av ns.length pv) b\/w.heap.size<=b:=λb hb=>(Od.out b hb).imp (λh=>h) (λh=>by have:=mj.out.size;have:=k12.size;have:=k23.size;omega);have fH:Kp w w4 (λb=>b=wb\/own (.slice av ns.length pv) b):=mj.out.trans (k14.mono (λ_ _ h=>.inr h));have cw2:w4.cell? ⟨wb,2,none⟩=some (.slice aw m pw):=hB4.cell rfl;have fw2:=hB4.free 2;have ZJ:=hB4.lt;have Md:=az hB4;have B0:Hid (∀b,own (.slice av ns.length pv) b->∃cc,aC w4 b 3 cc):=λb hb=>aV Dh.out hb;have BA:Hid (∀b,own (.slice a2 (ns.length+1) p2) b->∃cc,aC w4 b 3 cc):=λb hb=>by
      by_cases hv:own (.slice av ns.length pv) b
      ·exact aV Dh.out hv
      ·obtain⟨cc,hcc⟩:=aV EY.out hb;exact⟨cc,(k23.trans Mc).blk hcc hv⟩
     have BB:Hid (∀b,own (.slice a3 (ns.length+2) p3) b->∃cc,aC w4 b 3 cc):=λb hb=>by
      by_cases hv:own (.slice av ns.length pv) b
      ·exact aV Dh.out hv
      ·obtain⟨cc,hcc⟩:=aV Qv.out hb;exact⟨cc,Mc.blk hcc hv⟩
     have BC:Hid (∀b,own (.slice a4 (ns.length+3) p4) b->∃cc,aC w4 b 3 cc):=λb hb=>aV Qw.out hb;have R0:=az r0;have RA:=az Vm;have RB:=az Vn;have RC:=az Vl;have NA:=az na;have NB:=az nb;have NC:=az nc;have Iz:=az fH;clear k12 k23 Mc k14 hB4 r0 Vj Vk Vl Vm Vn na nb nc fH HG2 Vg Vi uy zg Od ZI Hs Qx EY Qv Qw mj Qu Cc
     go_wp2_with (first
      | (at_builtin;refine aP _ rfl _ _ 26 rfl 89 ik (.agg #[.int .i64 0,.slice none 0 0,.slice none 0 0]) 3 56 underlying26 hik bC hk1 hk2 rfl (by decide) _ _ _ rfl (uR.alloc _) ⟨w4.heap.size,0,none⟩ 4 4 [.int .i64 n1,.slice av ns.length pv,.slice none 0 0,.int .i64 n1,.slice a2 (ns.length+1) p2,.slice none 0 0,.int .i64 n1,.slice a3 (ns.length+2) p3,.slice none 0 0,.int .i64 n1,.slice a4 (ns.length+3) p4,.slice none 0 0] rfl rfl ?g1 ?g2 ?g3 ?g4 ?_)
      | go_in)
     case g1=>intro j u hj;exact oQ w4 _ _ j u hj
     case g2=>intro u hu;simp only[List.mem_cons,List.not_mem_nil,or_false] at hu;rcases hu with rfl|rfl|rfl|rfl|rfl|rfl|rfl|rfl|rfl|rfl|rfl|rfl <;> rfl
     case g3=>unfold maxLen;omega
     case g4=>omega
     intro v5 w5 pW uS tW;obtain⟨a5,p5,rfl⟩:=aB pW;have IA:Kp w4 w5 (λb=>own (.slice aw m pw) b):=((Kp.refl w4 _).alloc _).grown uS (λb _ e=>e);have wM:=IA.blk Md.out (aH uR Md.out (by decide));have cw5:w5.cell? ⟨wb,2,none⟩=some (.slice aw m pw):=wM.cell rfl;have fw5:=wM.free 2;have key:∀(x:Value) (l:Nat) (u:Int),Rd w4 x l (.int .i64 u)->(∀b,own x b->∃cc,aC w4 b 3 cc)->Rd (w5.setCell ⟨wb,2,none⟩ (.slice a5 (m+4) p5)) x l (.int .i64 u):=by
      intro x l u hR hx;obtain⟨ao,cap,rfl,hR⟩:=hR;refine⟨ao,cap,rfl,λj hj=>?_⟩;obtain⟨g,e1,hc⟩:=hR j hj;obtain⟨cc,hcc⟩:=hx g (by rw[e1];rfl);refine⟨g,e1,?_⟩;have fS:Kp w4 (w5.setCell ⟨wb,2,none⟩ (.slice a5 (m+4) p5)) (λb=>b=wb\/own (.slice aw m pw) b):=(IA.mono (λ_ _ h=>.inr h)).set (a:=⟨wb,2,none⟩) (λ_=>.inl rfl) _;refine iU fS ?_ hc;rintro (e|e)
      ·subst e;exact ax (hcc.inj Md.out).1 (by decide)
      ·exact ax (aQ uR e hcc) (by decide)
     have HN:Hid (pV w (w5.setCell ⟨wb,2,none⟩ (.slice a5 (m+4) p5)) wb cK (.slice aw m pw) (.slice av ns.length pv) (.slice a5 (m+4) p5) (.slice a2 (ns.length+1) p2) (.slice a3 (ns.length+2) p3) (.slice a4 (ns.length+3) p4) n1 m ns.length cells):=by
      refine⟨wM.set 2 _,ownsRow_setCell_other pW (a:=⟨wb,2,none⟩) (aH pW wM (by decide)) _,?_,λb hb=>?_,key _ _ _ R0.out B0.out,key _ _ _ RA.out BA.out,key _ _ _ RB.out BB.out,key _ _ _ RC.out BC.out,NA.out,NB.out,NC.out,λb hb=>?_⟩
      ·refine((Iz.out.mono (λb _ h=>?_)).trans (IA.mono (λb _ h=>.inr (.inl h)))).set (a:=⟨wb,2,none⟩) (λ_=>.inl rfl) _;rcases h with h|h
       ·exact .inl h
       ·exact .inr (.inr h)
      ·rcases tW b hb with h|h
       ·exact .inl h
       ·right;have:=Iz.out.size;omega
      ·have hx:∃cc,aC w4 b 3 cc:=by
        rcases hb with hb|hb|hb|hb
        ·exact B0.out b hb
        ·exact BA.out b hb
        ·exact BB.out b hb
        ·exact BC.out b hb
       obtain⟨cc,hcc⟩:=hx;have fS:Kp w4 (w5.setCell ⟨wb,2,none⟩ (.slice a5 (m+4) p5)) (λb=>b=wb\/own (.slice aw m pw) b):=(IA.mono (λ_ _ h=>.inr h)).set (a:=⟨wb,2,none⟩) (λ_=>.inl rfl) _;refine⟨cc,fS.blk hcc ?_⟩;rintro (e|e)
       ·subst e;exact ax (hcc.inj Md.out).1 (by decide)
       ·exact ax (aQ uR e hcc) (by decide)
     clear key IA wM pW uS tW uR;go_wp2;go_ret;exact⟨rfl,_,_,_,_,by rw[ZG.out];exact HN.out⟩
def dV (n:Int):ByteArray:=⟨#[UInt8.ofNat 35,UInt8.ofNat (n / 65536 % 256).toNat,UInt8.ofNat (n / 256 % 256).toNat,UInt8.ofNat (n % 256).toNat]⟩
theorem Vo (w:World)(a b c d:Int):(convert 85 9 (.slice (some ⟨w.heap.size,0,none⟩) 4 4)).run prog (w.alloc (.cells #[.int .u8 a,.int .u8 b,.int .u8 c,.int .u8 d] 5))=.ok (.string ⟨#[UInt8.ofNat a.toNat,UInt8.ofNat b.toNat,UInt8.ofNat c.toNat,UInt8.ofNat d.toNat]⟩) (w.alloc (.cells #[.int .u8 a,.int .u8 b,.int .u8 c,.int .u8 d] 5)):=by
 refine run_convert_bytes_arg _ 85 5 underlying85 underlying5 w.heap.size 0 4 4 [a,b,c,d] rfl ?_ 9 underlying9;intro i hi;rcases (show i=0\/i=1\/i=2\/i=3 by omega) with rfl|rfl|rfl|rfl <;> simp
theorem sy (n:Int)(w:World):Calls prog 50 #[.int .i64 n] w λe w'=>e=.returned (.string (dV n))/\Kp w w' (λ_=>False):=by
 have hcv:=Vo w 35 (n / 65536 % 256) (n / 256 % 256) (n % 256);go_enter func50,ntmps50;go_wp2;go_ret;exact⟨rfl,(Kp.refl _ _).alloc _⟩
structure qK (w w':World)(wb:Nat)(cK kv v kv' va vb vc:Value)(n:Int)(m l:Nat)(cells:List Value):Prop where
 blk:aC w' wb 28 #[cK,.int .i64 n,kv']
 kD:w'.ownsRow 0 89 3 kv' (m+4) (cells++[.int .i64 n,.slice none 0 0,v,.int .i64 n,.slice none 0 0,va,.int .i64 n,.slice none 0 0,vb,.int .i64 n,.slice none 0 0,vc])
 kp:Kp w w' (λb=>b=wb\/own kv b\/own v b)
 kn:∀b,own kv' b->own kv b\/w.heap.size<=b
 r0:Rd w' v l (.string (dV n))
 ra:Rd w' va (l+1) (.string (dV n))
 rb:Rd w' vb (l+2) (.string (dV n))
 rc:Rd w' vc (l+3) (.string (dV n))
 na:∀b,own va b->own v b\/w.heap.size<=b
 nb:∀b,own vb b->own v b\/w.heap.size<=b
 nc:∀b,own vc b->own v b\/w.heap.size<=b
 ty:∀b,(own v b\/own va b\/own vb b\/own vc b)->∃cc,aC w' b 9 cc
theorem IB (w:World)(wb:Nat)(cK kv v Qr:Value)(n:Int)(m:Nat)(cells:List Value)(ws:List ByteArray)(hB:aC w wb 28 #[cK,.int .i64 n,kv])(hkr:w.ownsRow 0 89 3 kv m cells)(hm:m<=1000000000000)
  (hv:w.ownsRow 0 9 1 v ws.length (ws.map Value.string)) (hl:ws.length<=32) (hk:w.ownsRow 0 9 1 Qr ws.length (ws.map Value.string)) (hd:∀b,own v b->¬own Qr b):
  Calls prog 35 #[.pointer (some ⟨wb,0,none⟩),v,Qr] w λe w'=>e=.returned (.bool true)/\∃kv' va vb vc,qK w w' wb cK kv v kv' va vb vc (wrap64 (n+1)) m ws.length cells:=by
 obtain⟨i0,hi,hz0,hz1,hz2⟩:=info_parts Tryz.pL;obtain⟨ik,hik,bC,hk1,hk2⟩:=info_parts Tryz.Ah;obtain⟨av,pv,rfl⟩:=aB hv;obtain⟨ak,pk,rfl⟩:=aB hk;obtain⟨aw,pw,rfl⟩:=aB hkr;have c1:w.cell? ⟨wb,1,none⟩=some (.int .i64 n):=hB.cell rfl;have f1:=hB.free 1;have HV:=az hv;have Qs:=az hk;have HB:=az hB;have Cc:=az hkr;have HD:=az hd;clear hv hk hB hkr hd;go_enter func35,ntmps35;go_wp2
 go_loopw [7,8] (λo i wr=>o=.bool true/\∃k:Nat,k<=ws.length/\i=.int .i64 k/\Kp w wr (λ_=>False)) (λ_ i _=>ws.length-(intOf i).toNat)
 case atStart=>exact⟨rfl,0,Nat.zero_le _,rfl,Kp.refl _ _⟩
 case round=>
  obtain⟨rfl,k,hk,rfl,hkp⟩:=hrel;by_cases hlt:k<ws.length
  ·have hv1:=hkp.row HV.out (λ_ _ h=>h);have Ix:=hkp.row Qs.out (λ_ _ h=>h);obtain⟨gv,L9,e1,hcv⟩:=bE hv1 (by omega);injection e1 with e1 e2 e3;obtain⟨gk,Qt,e4,Iy⟩:=bE Ix (by omega);injection e4 with e4 e5 e6;have cv:=hcv k (.string ws[k]) (by simp[hlt]);have ck:=Iy k (.string ws[k]) (by simp[hlt]);subst e1 e4;clear hv1 Ix hcv Iy e2 e3 e5 e6;have mj:=az hkp;clear hkp c1 f1;go_wp2
   go_quiet (fail)
   go_wp2
   go_roundw
   case rel=>exact⟨by simp,k+1,by omega,by go_num,mj.out.drewN _⟩
   case measure=>simp[intOf];omega
  ·have cX:=hkp.blk HB.out (λh=>h);have c1':wr.cell? ⟨wb,1,none⟩=some (.int .i64 n):=cX.cell rfl;have ZF:=cX.free 1;have Ma:=az (hkp.row HV.out (λ_ _ h=>h));have Ce:=az (hkp.row Cc.out (λ_ _ h=>h));have Mb:=az cX;have mj:=az hkp;clear hkp cX c1 f1 HV Cc HB Qs HD;go_wp2;have hF:qJ w (wr.setCell ⟨wb,1,none⟩ (.int .i64 (wrap64 (n+1)))) wb cK (.slice aw m pw) (.slice av ws.length pv) (wrap64 (n+1)) m cells ws.length 9 (fX (.string (dV (wrap64 (n+1)))) 0 (ws.map Value.string)):=
    ⟨Mb.out.set 1 _,ownsRow_setCell_other Ce.out (a:=⟨wb,1,none⟩) (aH Ce.out Mb.out (by decide)) _,by rw[sj];exact ownsRow_setCell_other Ma.out (a:=⟨wb,1,none⟩) (aH Ma.out Mb.out (by decide)) _,(mj.out.mono (λ_ _ h=>h.elim)).set (a:=⟨wb,1,none⟩) (λ_=>.inl rfl) _⟩
   have HF:=az hF;clear hF Mb Ce Ma mj c1' ZF;generalize wr.setCell ⟨wb,1,none⟩ (.int .i64 (wrap64 (n+1)))=w1 at HF ⊢;generalize Ej:wrap64 (n+1)=n1 at HF ⊢;have ZG:=az Ej;clear Ej;clear hlt hk
   go_loopw [10] (λi wr=>∃k:Nat,k<=ws.length/\i=.int .i64 k/\qJ w wr wb cK (.slice aw m pw) (.slice av ws.length pv) n1 m cells ws.length 9 (fX (.string (dV n1)) k (ws.map Value.string))) (λi _=>ws.length-(intOf i).toNat)
   case atStart=>exact⟨0,Nat.zero_le _,rfl,HF.out⟩
   case round=>
    clear HF;obtain⟨k,hk,rfl,hblk,hkr,aJ,hkp⟩:=hrel;by_cases hlt:k<ws.length
    ·go_wp2_with fail
     refine(sy n1 _).mono ?_;rintro e wm ⟨rfl,hkm⟩
     replace hblk:=hkm.blk hblk (λh=>h)
     replace hkr:=hkm.row hkr (λ_ _ h=>h)
     replace aJ:=hkm.row aJ (λ_ _ h=>h)
     replace hkp:=hkp.trans (hkm.mono (λ_ _ h=>h.elim))
     clear hkm;obtain⟨gv,L9,e1,hcv⟩:=bE aJ (by omega);injection e1 with e1 e2 e3;subst e1;have hgo:own (.slice (some ⟨gv,0,none⟩) ws.length pv) gv:=rfl;obtain⟨cc,hcc⟩:=aV aJ hgo;have hil:(ws.map Value.string).length=ws.length:=by simp
     obtain⟨u0,hu0⟩:∃u0,(fX (.string (dV n1)) k (ws.map Value.string))[k]? = some u0:=⟨_,List.getElem?_eq_getElem (by rw[uM _ _ _ (by omega)];omega)⟩;have cv:=hcv k u0 hu0;have fv:=hcc.free k;have ZH:¬wb=gv:=by rintro rfl;exact ax (hcc.inj hblk).1 (by decide)
     have HN:Hid (qJ w (wm.setCell ⟨gv,k,none⟩ (.string (dV n1))) wb cK (.slice aw m pw) (.slice (some ⟨gv,0,none⟩) ws.length pv) n1 m cells ws.length 9 (fX (.string (dV n1)) (k+1) (ws.map Value.string))):=by
      refine⟨hblk.setOther ZH _,ownsRow_setCell_other hkr (a:=⟨gv,k,none⟩) (aH hkr hcc (by decide)) _,?_,hkp.set (a:=⟨gv,k,none⟩) (λ_=>.inr hgo) _⟩;rw[<-su _ _ _ (by omega)];exact eU aJ hgo k _
     clear hblk hkr aJ hkp hcv hcc hu0 e2 e3 hil;go_wp2
     go_roundw
     case rel=>exact⟨k+1,by omega,by go_num,HN.out⟩
     case measure=>simp[intOf];omega
    ·have OD:k=ws.length:=by omega
     subst OD;have hil:(ws.map Value.string).length=ws.length:=by simp
     have aZ:wr.ownsRow 0 9 1 (.slice av ws.length pv) ws.length (List.replicate ws.length (.string (dV n1))):=by
      have:=uL (.string (dV n1)) (ws.map Value.string);rw[hil] at this;rw[<-this];exact aJ
     go_wp2_with fail
     refine(sy n1 _).mono ?_;rintro e ZK ⟨rfl,hkm⟩
     replace hblk:=hkm.blk hblk (λh=>h)
     replace hkr:=hkm.row hkr (λ_ _ h=>h)
     replace aZ:=hkm.row aZ (λ_ _ h=>h)
     replace hkp:=hkp.trans (hkm.mono (λ_ _ h=>h.elim))
     clear hkm aJ;have Qu:=az hblk;have Cc:=az hkr;have mj:=az hkp;have XT:=hblk.lt;have Ex:=az aZ;clear hblk hkr hkp hil
     go_wp2_with (first
      | (at_builtin;refine cW _ rfl _ _ 47 rfl 9 i0 (.string ByteArray.empty) 1 16 underlying47 hi hz0 hz1 hz2 rfl (by decide) _ _ _ rfl (aZ.alloc _) ⟨ZK.heap.size,0,none⟩ 1 1 [.string (dV n1)] rfl rfl ?c1 ?c2 ?c3 ?c4 ?_)
      | go_in)
     case c1=>intro j u hj;match j,hj with|0,hj=>simp at hj;subst hj;simp[Addr.add]
     case c2=>intro u hu;simp at hu;subst hu;rfl
     case c3=>unfold maxLen;omega
     case c4=>omega
     intro v2 w2 hown2 hgrow2 zB hrow2 F7;obtain⟨a2,p2,rfl⟩:=aB hown2;have EY:=az hown2;have HG2:=az hgrow2;have uy:=az zB;have ZI:=az F7;clear F7;clear hown2 hgrow2 zB aZ
     go_wp2_with fail
     refine(sy n1 _).mono ?_;rintro e wa ⟨rfl,hka⟩
     go_wp2_with fail
     refine(sy n1 _).mono ?_;rintro e wb2 ⟨rfl,hkb⟩;have Qy:=hka.trans hkb
     replace hrow2:=Qy.row hrow2 (λ_ _ h=>h)
     have Me:=az Qy;clear hka hkb Qy
     go_wp2_with (first
      | (at_builtin;refine cW _ rfl _ _ 47 rfl 9 i0 (.string ByteArray.empty) 1 16 underlying47 hi hz0 hz1 hz2 rfl (by decide) _ _ _ rfl (hrow2.alloc _) ⟨wb2.heap.size,0,none⟩ 2 2 [.string (dV n1),.string (dV n1)] rfl rfl ?d1 ?d2 ?d3 ?d4 ?_)
      | go_in)
     case d1=>intro j u hj;match j,hj with|0,hj=>simp at hj;subst hj;simp[Addr.add]|1,hj=>simp at hj;subst hj;simp[Addr.add]
     case d2=>intro u hu;simp at hu;subst hu;rfl
     case d3=>unfold maxLen;omega
     case d4=>omega
     intro v3 w3 uN uO zX hrow3 OE;obtain⟨a3,p3,rfl⟩:=aB uN;have Qv:=az uN;have Vg:=az uO;have zg:=az zX;have Hs:=az OE;clear OE;clear uN uO zX hrow2
     go_wp2_with fail
     refine(sy n1 _).mono ?_;rintro e wc ⟨rfl,hkc⟩
     go_wp2_with fail
     refine(sy n1 _).mono ?_;rintro e wd ⟨rfl,kG⟩
     go_wp2_with fail
     refine(sy n1 _).mono ?_;rintro e we ⟨rfl,OD⟩;have Qz:=(hkc.trans kG).trans OD
     replace hrow3:=Qz.row hrow3 (λ_ _ h=>h)
     have IC:=az Qz;clear hkc kG OD Qz
     go_wp2_with (first
      | (at_builtin;refine cW _ rfl _ _ 47 rfl 9 i0 (.string ByteArray.empty) 1 16 underlying47 hi hz0 hz1 hz2 rfl (by decide) _ _ _ rfl (hrow3.alloc _) ⟨we.heap.size,0,none⟩ 3 3 [.string (dV n1),.string (dV n1),.string (dV n1)] rfl rfl ?e1 ?e2 ?e3 ?e4 ?_)
      | go_in)
     case e1=>intro j u hj;match j,hj with|0,hj=>simp at hj;subst hj;simp[Addr.add]|1,hj=>simp at hj;subst hj;simp[Addr.add]|2,hj=>simp at hj;subst hj;simp[Addr.add]
     case e2=>intro u hu;simp at hu;subst hu;rfl
     case e3=>unfold maxLen;omega
     case e4=>omega
     intro v4 w4 uP uQ tU hrow4 Vh;obtain⟨a4,p4,rfl⟩:=aB uP;have Qw:=az uP;have Vi:=az uQ;have Od:=az tU;have Qx:=az Vh;clear Vh;have Dh:=az hrow4;clear uP uQ tU hrow3 hrow4;have k12:Kp ZK w2 (λb=>own (.slice av ws.length pv) b):=((Kp.refl ZK _).alloc _).grown HG2.out (λb _ e=>e);have k23:Kp w2 w3 (λb=>own (.slice av ws.length pv) b):=(Me.out.mono (λ_ _ h=>h.elim)).trans (((Kp.refl wb2 _).alloc _).grown Vg.out (λb _ e=>e));have Mc:Kp w3 w4 (λb=>own (.slice av ws.length pv) b):=(IC.out.mono (λ_ _ h=>h.elim)).trans (((Kp.refl we _).alloc _).grown Vi.out (λb _ e=>e));have k14:=(k12.trans k23).trans Mc;have sL:¬own (.slice av ws.length pv) wb:=aH Ex.out Qu.out (by decide);have hB4:=k14.blk Qu.out sL;have uR:=k14.row Cc.out (λb hb hv=>by obtain⟨cc,hcc⟩:=aV Cc.out hb;exact ax (aQ Ex.out hv hcc) (by decide));have r0:Rd w4 (.slice av ws.length pv) ws.length (.string (dV n1)):=Rd.of Dh.out;have Vj:Rd w2 (.slice a2 (ws.length+1) p2) (ws.length+1) (.string (dV n1)):=Rd.of (by have:=EY.out;rw[List.replicate_succ'];exact this);have Vk:Rd w3 (.slice a3 (ws.length+2) p3) (ws.length+2) (.string (dV n1)):=Rd.of (by have:=Qv.out;rw[show List.replicate (ws.length+2) (Value.string (dV n1))=List.replicate ws.length (Value.string (dV n1))++[.string (dV n1),.string (dV n1)] by rw[List.replicate_succ',List.replicate_succ'];simp];exact this);have Vl:Rd w4 (.slice a4 (ws.length+3) p4) (ws.length+3) (.string (dV n1)):=Rd.of (by have:=Qw.out;rw[show List.replicate (ws.length+3) (Value.string (dV n1))=List.replicate ws.length (Value.string (dV n1))++[.string (dV n1),.string (dV n1),.string (dV n1)] by rw[List.replicate_succ',List.replicate_succ',List.replicate_succ'];simp];exact this);have Vm:=(((Vj.move (λq j h=>iU Me.out (λh=>h) h)).move (kU Hs.out)).move (λq j h=>iU IC.out (λh=>h) h)).move (kU Qx.out);have Vn:=(Vk.move (λq j h=>iU IC.out (λh=>h) h)).move (kU Qx.out);have na:∀b,own (.slice a2 (ws.length+1) p2) b->own (.slice av ws.length pv) b\/w.heap.size<=b:=λb hb=>(uy.out b hb).imp (λh=>h) (λh=>by have:=mj.out.size;omega);have nb:∀b,own (.slice a3 (ws.length+2) p3) b->own (.slice av ws.length pv) b\/w.heap.size<=b:=λb hb=>(zg.out b hb).imp (λh=>h) (λh=>by have:=mj.out.size;have:=k12.size;have:=Me.out.size;omega);have nc:∀b,own (.slice a4 (ws.length+3) p4) b->own (.slice av ws.length pv) b\/w.heap.size<=b:=λb hb=>(Od.out b hb).imp (λh=>h) (λh=>by have:=mj.out.size;have:=k12.size;have:=k23.size;have:=IC.out.size;omega);have fH:Kp w w4 (λb=>b=wb\/own (.slice av ws.length pv) b):=mj.out.trans (k14.mono (λ_ _ h=>.inr h));have cw2:w4.cell? ⟨wb,2,none⟩=some (.slice aw m pw):=hB4.cell rfl;have fw2:=hB4.free 2;have ZJ:=hB4.lt;have Md:=az hB4;have B0:Hid (∀b,own (.slice av ws.length pv) b->∃cc,aC w4 b 9 cc):=λb hb=>aV Dh.out hb;have BA:Hid (∀b,own (.slice a2 (ws.length+1) p2) b->∃cc,aC w4 b 9 cc):=λb hb=>by
      by_cases hv:own (.slice av ws.length pv) b
      ·exact aV Dh.out hv
      ·obtain⟨cc,hcc⟩:=aV EY.out hb;exact⟨cc,(k23.trans Mc).blk hcc hv⟩
     have BB:Hid (∀b,own (.slice a3 (ws.length+2) p3) b->∃cc,aC w4 b 9 cc):=λb hb=>by
      by_cases hv:own (.slice av ws.length pv) b
      ·exact aV Dh.out hv
      ·obtain⟨cc,hcc⟩:=aV Qv.out hb;exact⟨cc,Mc.blk hcc hv⟩
     have BC:Hid (∀b,own (.slice a4 (ws.length+3) p4) b->∃cc,aC w4 b 9 cc):=λb hb=>aV Qw.out hb;have R0:=az r0;have RA:=az Vm;have RB:=az Vn;have RC:=az Vl;have NA:=az na;have NB:=az nb;have NC:=az nc;have Iz:=az fH;clear Me IC k12 k23 Mc k14 hB4 r0 Vj Vk Vl Vm Vn na nb nc fH HG2 Vg Vi uy zg Od ZI Hs Qx EY Qv Qw mj Qu Cc
     go_wp2_with (first
      | (at_builtin;refine aP _ rfl _ _ 26 rfl 89 ik (.agg #[.int .i64 0,.slice none 0 0,.slice none 0 0]) 3 56 underlying26 hik bC hk1 hk2 rfl (by decide) _ _ _ rfl (uR.alloc _) ⟨w4.heap.size,0,none⟩ 4 4 [.int .i64 n1,.slice none 0 0,.slice av ws.length pv,.int .i64 n1,.slice none 0 0,.slice a2 (ws.length+1) p2,.int .i64 n1,.slice none 0 0,.slice a3 (ws.length+2) p3,.int .i64 n1,.slice none 0 0,.slice a4 (ws.length+3) p4] rfl rfl ?g1 ?g2 ?g3 ?g4 ?_)
      | go_in)
     case g1=>intro j u hj;exact oQ w4 _ _ j u hj
     case g2=>intro u hu;simp only[List.mem_cons,List.not_mem_nil,or_false] at hu;rcases hu with rfl|rfl|rfl|rfl|rfl|rfl|rfl|rfl|rfl|rfl|rfl|rfl <;> rfl
     case g3=>unfold maxLen;omega
     case g4=>omega
     intro v5 w5 pW uS tW;obtain⟨a5,p5,rfl⟩:=aB pW;have IA:Kp w4 w5 (λb=>own (.slice aw m pw) b):=((Kp.refl w4 _).alloc _).grown uS (λb _ e=>e);have wM:=IA.blk Md.out (aH uR Md.out (by decide));have cw5:w5.cell? ⟨wb,2,none⟩=some (.slice aw m pw):=wM.cell rfl;have fw5:=wM.free 2;have key:∀(x:Value) (l:Nat) (u:ByteArray),Rd w4 x l (.string u)->(∀b,own x b->∃cc,aC w4 b 9 cc)->Rd (w5.setCell ⟨wb,2,none⟩ (.slice a5 (m+4) p5)) x l (.string u):=by
      intro x l u hR hx;obtain⟨ao,cap,rfl,hR⟩:=hR;refine⟨ao,cap,rfl,λj hj=>?_⟩;obtain⟨g,e1,hc⟩:=hR j hj;obtain⟨cc,hcc⟩:=hx g (by rw[e1];rfl);refine⟨g,e1,?_⟩;have fS:Kp w4 (w5.setCell ⟨wb,2,none⟩ (.slice a5 (m+4) p5)) (λb=>b=wb\/own (.slice aw m pw) b):=(IA.mono (λ_ _ h=>.inr h)).set (a:=⟨wb,2,none⟩) (λ_=>.inl rfl) _;refine iU fS ?_ hc;rintro (e|e)
      ·subst e;exact ax (hcc.inj Md.out).1 (by decide)
      ·exact ax (aQ uR e hcc) (by decide)
     have HN:Hid (qK w (w5.setCell ⟨wb,2,none⟩ (.slice a5 (m+4) p5)) wb cK (.slice aw m pw) (.slice av ws.length pv) (.slice a5 (m+4) p5) (.slice a2 (ws.length+1) p2) (.slice a3 (ws.length+2) p3) (.slice a4 (ws.length+3) p4) n1 m ws.length cells):=by
      refine⟨wM.set 2 _,ownsRow_setCell_other pW (a:=⟨wb,2,none⟩) (aH pW wM (by decide)) _,?_,λb hb=>?_,key _ _ _ R0.out B0.out,key _ _ _ RA.out BA.out,key _ _ _ RB.out BB.out,key _ _ _ RC.out BC.out,NA.out,NB.out,NC.out,λb hb=>?_⟩
      ·refine((Iz.out.mono (λb _ h=>?_)).trans (IA.mono (λb _ h=>.inr (.inl h)))).set (a:=⟨wb,2,none⟩) (λ_=>.inl rfl) _;rcases h with h|h
       ·exact .inl h
       ·exact .inr (.inr h)
      ·rcases tW b hb with h|h
       ·exact .inl h
       ·right;have:=Iz.out.size;omega
      ·have hx:∃cc,aC w4 b 9 cc:=by
        rcases hb with hb|hb|hb|hb
        ·exact B0.out b hb
        ·exact BA.out b hb
        ·exact BB.out b hb
        ·exact BC.out b hb
       obtain⟨cc,hcc⟩:=hx;have fS:Kp w4 (w5.setCell ⟨wb,2,none⟩ (.slice a5 (m+4) p5)) (λb=>b=wb\/own (.slice aw m pw) b):=(IA.mono (λ_ _ h=>.inr h)).set (a:=⟨wb,2,none⟩) (λ_=>.inl rfl) _;refine⟨cc,fS.blk hcc ?_⟩;rintro (e|e)
       ·subst e;exact ax (hcc.inj Md.out).1 (by decide)
       ·exact ax (aQ uR e hcc) (by decide)
     clear key IA wM pW uS tW uR;go_wp2;go_ret;exact⟨rfl,_,_,_,_,by rw[ZG.out];exact HN.out⟩
structure Ke where
 n:Int
 nv:Value
 nl:Nat
 mv:Value
 ml:Nat
def eu:List Ke->List Value
 | []=>[]
 | e::l=>.int .i64 e.n::e.nv::e.mv::eu l
theorem mK:∀(a b:List Ke),eu (a++b)=eu a++eu b
 | [],b=>rfl
 | e::a,b=>by simp[eu,mK a b]
theorem uT:∀(l:List Ke) (i:Nat) (h:i<l.length),(eu l)[i*3]? = some (.int .i64 l[i].n)/\(eu l)[i*3+1]? = some l[i].nv/\(eu l)[i*3+2]? = some l[i].mv
 | [],i,h=>ax h (by simp)
 | e::l,0,h=>⟨rfl,rfl,rfl⟩
 | e::l,i+1,h=>by
  have:=uT l i (by simpa using h);rw[show(i+1)*3=i*3+1+1+1 by omega,show i*3+1+1+1+1=i*3+1+1+1+1 from rfl,show i*3+1+1+1+2=i*3+2+1+1+1 by omega];exact this
structure QA (w:World)(e:Ke):Prop where
 nums:Rd w e.nv e.nl (.int .i64 (wrap64 (-e.n)))
 names:Rd w e.mv e.ml (.string (dV e.n))
 l1:e.nl<=1000
 l2:e.ml<=1000
theorem Rd.cI {w w':World}{v:Value}{l:Nat}{u:Value}(h:Rd w v l u)(hk:Kp w w' (λ_=>False)):Rd w' v l u:=h.move (λ_ _ h=>iU hk (λh=>h) h)
theorem ID (w:World)(wb:Nat)(cK kv:Value)(n:Int)(kept:List Ke)(hB:aC w wb 28 #[cK,.int .i64 n,kv])(hkr:w.ownsRow 0 89 3 kv kept.length (eu kept))(hm:kept.length<=2000000000000)(hK:∀i (hi:i<kept.length),QA w kept[i]):
  Calls prog 26 #[.pointer (some ⟨wb,0,none⟩)] w λe w'=>e=.returned (.bool true)/\Kp w w' (λ_=>False):=by
 obtain⟨aw,pw,rfl⟩:=aB hkr;have HB:=az hB;have Cc:=az hkr;have HK:=az hK;clear hB hkr hK;go_enter func26,ntmps26;go_wp2
 go_loopw [3] (λi wr=>∃k:Nat,k<=kept.length/\i=.int .i64 k/\Kp w wr (λ_=>False)) (λi _=>kept.length-(intOf i).toNat)
 case atStart=>exact⟨0,Nat.zero_le _,rfl,Kp.refl _ _⟩
 case round=>
  obtain⟨k,hk,rfl,hkp⟩:=hrel;have cX:=hkp.blk HB.out (λh=>h);have cw:wr.cell? ⟨wb,2,none⟩=some (.slice aw kept.length pw):=cX.cell rfl;by_cases hlt:k<kept.length
  ·have Vp:=hkp.row Cc.out (λ_ _ h=>h);obtain⟨gk,Qt,e1,hc⟩:=bE Vp (by omega);injection e1 with e1 e2 e3;subst e1;clear e2 e3;obtain⟨x0,x1,x2⟩:=uT kept k hlt;have c0:=hc _ _ x0;have c1:=hc _ _ x1;have c2:=hc _ _ x2;have hR:=HK.out k hlt;obtain⟨an,pn,en,-⟩:=hR.nums;obtain⟨am,pm,em,-⟩:=hR.names;rw[en] at c1;rw[em] at c2;clear hc x0 x1 x2 Vp;go_wp2;have HI:Hid (Kp w (wr.alloc (.cells #[.int .i64 kept[k].n,.slice an kept[k].nl pn,.slice am kept[k].ml pm] 89)) (λ_=>False)/\aC (wr.alloc (.cells #[.int .i64 kept[k].n,.slice an kept[k].nl pn,.slice am kept[k].ml pm] 89)) wr.heap.size 89 #[.int .i64 kept[k].n,.slice an kept[k].nl pn,.slice am kept[k].ml pm]):=⟨hkp.alloc _,aC.new _ _ _⟩;generalize wr.heap.size=kb at HI ⊢;generalize wr.alloc (.cells #[.int .i64 kept[k].n,.slice an kept[k].nl pn,.slice am kept[k].ml pm] 89)=w1 at HI ⊢;have HR:=az hR;have SR:=az en;have HEM:=az em;have ld:=hR.l1;have hl2:=hR.l2;clear hkp cX cw c0 c1 c2 hR en em;generalize OD:kept[k]=e at HI HR SR HEM ld hl2 ⊢;clear OD
   go_loopw [5] (λj wr=>∃q:Nat,q<=e.nl/\j=.int .i64 q/\Kp w wr (λ_=>False)/\aC wr kb 89 #[.int .i64 e.n,.slice an e.nl pn,.slice am e.ml pm]) (λj _=>e.nl-(intOf j).toNat)
   case atStart=>exact⟨0,Nat.zero_le _,rfl,HI.out.1,HI.out.2⟩
   case round=>
    clear HI;obtain⟨q,hq,rfl,hkp,hblk⟩:=hrel;have d0:wr.cell? ⟨kb,0,none⟩=some (.int .i64 e.n):=hblk.cell rfl;have d1:wr.cell? ⟨kb,1,none⟩=some (.slice an e.nl pn):=hblk.cell rfl;have HN:Hid (Kp w wr (λ_=>False)/\aC wr kb 89 #[.int .i64 e.n,.slice an e.nl pn,.slice am e.ml pm]):=⟨hkp,hblk⟩;by_cases hql:q<e.nl
    ·obtain⟨ao,cap,ea,hcell⟩:=HR.out.nums.cI hkp;rw[SR.out] at ea;injection ea with ea eb ec;subst ea;obtain⟨g,eg,cg⟩:=hcell q hql;subst eg;clear hcell hkp hblk eb ec;go_wp2
     go_quiet (fail)
     go_wp2
     go_roundw
     case rel=>exact⟨q+1,by omega,by go_num,HN.out.1.drewN _,HN.out.2.drewN _⟩
     case measure=>simp[intOf];omega
    ·clear hkp hblk;go_wp2
     go_loopw [6] (λj wr=>∃q:Nat,q<=e.ml/\j=.int .i64 q/\Kp w wr (λ_=>False)/\aC wr kb 89 #[.int .i64 e.n,.slice an e.nl pn,.slice am e.ml pm]) (λj _=>e.ml-(intOf j).toNat)
     case atStart=>exact⟨0,Nat.zero_le _,rfl,HN.out.1,HN.out.2⟩
     case round=>
      clear HN d0 d1;obtain⟨q2,hq2,rfl,hkp,hblk⟩:=hrel;have d0:wr.cell? ⟨kb,0,none⟩=some (.int .i64 e.n):=hblk.cell rfl;have d2:wr.cell? ⟨kb,2,none⟩=some (.slice am e.ml pm):=hblk.cell rfl;have HN:Hid (Kp w wr (λ_=>False)/\aC wr kb 89 #[.int .i64 e.n,.slice an e.nl pn,.slice am e.ml pm]):=⟨hkp,hblk⟩;by_cases ZL:q2<e.ml
      ·obtain⟨ao,cap,ea,hcell⟩:=HR.out.names.cI hkp;rw[HEM.out] at ea;injection ea with ea eb ec;subst ea;obtain⟨g,eg,cg⟩:=hcell q2 ZL;subst eg;clear hcell hkp hblk eb ec;have HM:Hid (∀wx,Kp wr wx (λ_=>False)->Calls prog 50 #[.int .i64 e.n] wx λx w'=>x=.returned (.string (dV e.n))/\Kp wr w' (λ_=>False)/\w'.cell? ⟨kb,0,none⟩=some (.int .i64 e.n)/\w'.cell? ⟨kb,2,none⟩=some (.slice (some ⟨g,0,none⟩) e.ml pm)/\w'.cell? ⟨g,q2,none⟩=some (.string (dV e.n))):=by
        intro wx hx;refine(sy e.n wx).mono ?_;rintro x w' ⟨rfl,hk'⟩;have hk2:=hx.trans hk';exact⟨rfl,hk2,iU hk2 (λh=>h) d0,iU hk2 (λh=>h) d2,iU hk2 (λh=>h) cg⟩
       go_wp2_with fail
       go_region_with (go_at_call 50;refine(HM.out _ ?_).mono ?_;exact(Kp.refl wr _).drew;rintro x w5 ⟨rfl,fS,y0,y2,yg⟩)
       all_goals
        have HN5:Hid (Kp w w5 (λ_=>False)/\aC w5 kb 89 #[.int .i64 e.n,.slice an e.nl pn,.slice (some ⟨g,0,none⟩) e.ml pm]):=⟨HN.out.1.trans fS,fS.blk HN.out.2 (λh=>h)⟩;clear fS HN;go_wp2
        go_roundw
        case rel=>exact⟨q2+1,by omega,by go_num,HN5.out.1,HN5.out.2⟩
        case measure=>simp[intOf];omega
      ·clear hkp hblk;go_wp2
       go_roundw
       case rel=>exact⟨k+1,by omega,by go_num,HN.out.1⟩
       case measure=>simp[intOf];omega
  ·go_wp2;go_ret;exact⟨rfl,hkp⟩
def Dm (c:Nat->Nat)(w:World)(v:Value)(l:Nat)(u:Value):Prop:=∃ao cap,v=.slice ao l cap/\∀j,j<l->∃g,ao=some ⟨g,0,none⟩/\c g=1/\w.cell? ⟨g,j,none⟩=some u
theorem Dm.rd {c:Nat->Nat}{w:World}{v:Value}{l:Nat}{u:Value}(h:Dm c w v l u):Rd w v l u:=by
 obtain⟨ao,cap,e,h⟩:=h;exact⟨ao,cap,e,λj hj=>by obtain⟨g,h1,_,h2⟩:=h j hj;exact⟨g,h1,h2⟩⟩
theorem Mf {w:World}{q j:Nat}{u:Value}(hc:w.cell? ⟨q,j,none⟩=some u):q<w.heap.size:=by
 rcases Nat.lt_or_ge q w.heap.size with h|h
 ·exact h
 ·unfold World.cell? at hc;rw[Array.getElem?_eq_none h] at hc;cases hc
theorem Dm.mv {A:Nat->Prop}{c c':Nat->Nat}{w w':World}{v:Value}{l:Nat}{u:Value}(h:Dm c w v l u)(hm:Mv A c w c' w')(h1:¬A 1):Dm c' w' v l u:=by
 obtain⟨ao,cap,e,h⟩:=h;refine⟨ao,cap,e,λj hj=>?_⟩;obtain⟨g,h2,h3,h4⟩:=h j hj;refine⟨g,h2,by rw[hm.old g (Mf h4)];exact h3,iU hm.kp (λe=>?_) h4⟩;have e:A (c g):=e;rw[h3] at e;exact h1 e
theorem Dm.of {c:Nat->Nat}{w:World}{v:Value}{l:Nat}{u:Value}(h:Rd w v l u)(hc:∀b,own v b->c b=1):Dm c w v l u:=by
 obtain⟨ao,cap,rfl,h⟩:=h;refine⟨ao,cap,rfl,λj hj=>?_⟩;obtain⟨g,rfl,h2⟩:=h j hj;exact⟨g,rfl,hc g rfl,h2⟩
structure KL (c:Nat->Nat)(w:World)(e:Ke):Prop where
 nums:Dm c w e.nv e.nl (.int .i64 (wrap64 (-e.n)))
 names:Dm c w e.mv e.ml (.string (dV e.n))
 l1:e.nl<=1000
 l2:e.ml<=1000
theorem KL.rd {c:Nat->Nat}{w:World}{e:Ke}(h:KL c w e):QA w e:=⟨h.nums.rd,h.names.rd,h.l1,h.l2⟩
theorem KL.mv {A:Nat->Prop}{c c':Nat->Nat}{w w':World}{e:Ke}(h:KL c w e)(hm:Mv A c w c' w')(h1:¬A 1):KL c' w' e:=⟨h.nums.mv hm h1,h.names.mv hm h1,h.l1,h.l2⟩
theorem Dm.re {c c':Nat->Nat}{w:World}{v:Value}{l:Nat}{u:Value}(h:Dm c w v l u)(hc:∀b,c b=1->c' b=1):Dm c' w v l u:=by
 obtain⟨ao,cap,e,h⟩:=h;refine⟨ao,cap,e,λj hj=>?_⟩;obtain⟨g,h2,h3,h4⟩:=h j hj;exact⟨g,h2,hc g h3,h4⟩
theorem KL.re {c c':Nat->Nat}{w:World}{e:Ke}(h:KL c w e)(hc:∀b,c b=1->c' b=1):KL c' w e:=⟨h.nums.re hc,h.names.re hc,h.l1,h.l2⟩
def pX (ps:List Pr):List Value:=ps.map λp=>.pointer (some ⟨p.pb,0,none⟩)
structure jy (PS:World->Nat->(Nat->Prop)->St->Prop)(B:Nat)(c:Nat->Nat)(w:World)(wb:Nat)(cK kv:Value)(n:Int)(ps:List Pr)(kept:List Ke):Prop where
 blk:aC w wb 28 #[cK,.int .i64 n,kv]
 cw:c wb=2
 row:w.ownsRow 0 55 1 cK ps.length (pX ps)
 cr:∀k,own cK k->c k=2
 kD:w.ownsRow 0 89 3 kv kept.length (eu kept)
 ck:∀k,own kv k->c k=2
 pin:∀i (hi:i<ps.length),jm B PS c w i ps[i]
 same:∀i (hi:i<ps.length),ps[i].sx=ps[i].s
 wf:∀i (hi:i<ps.length),iZ ps[i].s
 ke:∀i (hi:i<kept.length),KL c w kept[i]
 low:∀b,b<B->c b=0
 bl:B<=w.heap.size
theorem o7 (i:Nat):¬cx i=2:=by unfold cx;omega
theorem qL (i:Nat):¬cy i=2:=by unfold cy;omega
theorem QC (i:Nat):¬cx i=1:=by unfold cx;omega
theorem Mg (i:Nat):¬cx i=0:=by unfold cx;omega
section
variable {PS:World->Nat->(Nat->Prop)->St->Prop}{B:Nat}{W0:World}(P:PCon B W0 PS)
include P
theorem jy.QD {c c':Nat->Nat}{w w':World}{wb:Nat}{cK kv:Value}{n:Int}{ps:List Pr}{kept:List Ke}(h:jy PS B c w wb cK kv n ps kept)(i:Nat)(hi:i<ps.length){V':Nat->Prop}{rs':RS}{s':St}(hq:jm B PS c' w' i {ps[i] with V:=V',sx:=s',rs:=rs',s:=s'})(hwf:iZ s')(hm:Mv (λa=>a=cx i\/a=cy i) c w c' w'):
  jy PS B c' w' wb cK kv n (ps.set i {ps[i] with V:=V',sx:=s',rs:=rs',s:=s'}) kept:=by
 have n0:¬((0:Nat)=cx i\/(0:Nat)=cy i):=by unfold cx cy;omega
 have n1:¬((1:Nat)=cx i\/(1:Nat)=cy i):=by unfold cx cy;omega
 have n2:∀k,c k=2->¬(c k=cx i\/c k=cy i):=λk hk=>by rw[hk];unfold cx cy;omega
 refine⟨hm.kp.blk h.blk (n2 _ h.cw),by rw[hm.old _ h.blk.lt];exact h.cw,?_,λk hk=>by rw[hm.old _ (bw h.row hk)];exact h.cr k hk,hm.kp.row h.kD (λk hk=>n2 _ (h.ck k hk)),λk hk=>by rw[hm.old _ (bw h.kD hk)];exact h.ck k hk,?_,?_,?_,λj hj=>(h.ke j hj).mv hm n1,λb hb=>by rw[hm.old b (aj hb h.bl)];exact h.low b hb,ai h.bl hm.kp.size⟩
 ·have e1:pX (ps.set i {ps[i] with V:=V',sx:=s',rs:=rs',s:=s'})=pX ps:=by
   unfold pX
   apply List.ext_getElem?
   intro j;rw[List.getElem?_map,List.getElem?_map,List.getElem?_set]
   split
   ·rename_i e;subst e;simp[hi]
   ·rfl
  rw[List.length_set,e1];exact hm.kp.row h.row (λk hk=>n2 _ (h.cr k hk))
 ·intro j hj;rw[List.length_set] at hj;rw[List.getElem_set]
  split
  ·rename_i e;subst e;exact hq
  ·rename_i hij
   refine(h.pin j hj).other P hm n0 ?_ ?_
   ·rintro (e|e)
    ·exact hij (Iw e).symm
    ·exact Ag _ _ e
   ·rintro (e|e)
    ·exact Ag _ _ e.symm
    ·exact hij (Qo e).symm
 ·intro j hj;rw[List.length_set] at hj;rw[List.getElem_set]
  split
  ·rfl
  ·exact h.same j hj
 ·intro j hj;rw[List.length_set] at hj;rw[List.getElem_set]
  split
  ·exact hwf
  ·exact h.wf j hj
theorem jy.ran {c:Nat->Nat}{w w':World}{wb:Nat}{cK kv:Value}{n:Int}{ps:List Pr}{kept:List Ke}(h:jy PS B c w wb cK kv n ps kept)(i:Nat)(hi:i<ps.length)(hp:qI B PS c w w' i ps[i]):
  ∃c' ps',jy PS B c' w' wb cK kv n ps' kept/\ps'.length=ps.length/\Below B w w':=by
 obtain⟨c',V',rs',s',hq,hwf,hm⟩:=hp;refine⟨c',_,h.QD P i hi hq hwf hm,by simp,hm.kp.below h.bl (λk hk e=>?_)⟩;have e:c k=cx i\/c k=cy i:=e;rw[h.low k hk] at e;unfold cx cy at e;omega
theorem jm.re {c c':Nat->Nat}{w:World}{i:Nat}{p:Pr}(h:jm B PS c w i p)(hc:∀b,c' b≠c b->c b≠0/\c b≠cy i/\¬p.V b):jm B PS c' w i p:=by
 have key:∀b,(c b=0\/c b=cy i\/p.V b)->c' b=c b:=λb hb=>by
  by_cases e:c' b=c b
  ·exact e
  ·obtain⟨h1,h2,h3⟩:=hc b e;rcases hb with hb|hb|hb
   ·exact ax hb h1
   ·exact ax hb h2
   ·exact ax hb h3
 refine⟨h.blk,by rw[key _ (.inl h.cp)];exact h.cp,h.x,λk hk=>by rw[key k (.inr (.inr hk))];exact h.cv k hk,h.y.less (λb hb=>⟨hb.1,λe=>?_⟩),by rw[key _ (.inr (.inl h.L5))];exact h.L5,λk hk=>by rw[key k (.inr (.inl (h.cn k hk)))];exact h.cn k hk,λk hk=>by rw[key k (.inr (.inl (h.cd k hk)))];exact h.cd k hk,λb hb=>by rw[key b (.inl (h.low b hb))];exact h.low b hb,h.bl⟩;exact hb.2 (by rw[key b (.inr (.inl e))];exact e)
end
end
end Go.Proofs.YteainaiebcphlaaGreatDoor
