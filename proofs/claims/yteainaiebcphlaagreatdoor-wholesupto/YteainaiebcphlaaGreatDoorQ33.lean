import Derived.Test.YteainaiebcphlaaGreatDoorQ32
import Derived.Test.YteainaiebcphlaaGreatDoorQ21
import Derived.Test.YteainaiebcphlaaGreatDoorQ23
import Derived.Handy
namespace Go.Proofs.YteainaiebcphlaaGreatDoor
set_option maxRecDepth 1000000
set_option maxHeartbeats 4000000
set_option linter.all false
open Go.Proofs.Tryz
section
open Go.RowKit
theorem xZ {x:ByteArray}{kl:Lit}(h:keyOf prog 9 (.string x)=some kl):kl=.string x.data.toList/\x.data.toList.length<=maxLen:=by
 simp[keyOf,underlying9,mapKey] at h;exact⟨h.2.symm,h.1⟩
section
variable {D:GD}{w:World}{bk mb:Nat}
structure WN (D:GD)(bk mb r:Nat)(ay:List Def)(obs:List Nat)(DD:DataW Value)(w wr:World)(left:Lit->Bool)(cnt:Nat):Prop where
 rg:wr.ranges prog 9 bQ mb r ay.length DD left cnt
 sub:∀kl,left kl=true->Maps.has DD kl=true
 kp:Kp w wr (FU D w bk)
 pr:fT D D w wr bk
 ex:EX D wr bk ay.length (iR ay) (λk=>obs.getD k 0) (qN (XD ay) (λi=>left (.string (iR ay i).name)=false)) (λ_=>False)
theorem mX {ay:List Def}{k:Nat}(hk:k<ay.length):(ay.map cP).getD k gY=cP (ay.getD k gY):=by
 simp[List.getD,hk]
theorem EX.slow {ay:List Def}{oo:Nat->Nat}{A:Nat->Prop}(h:EX D w bk ay.length (iR ay) oo (qN (XD ay) A) (λ_=>False))(hA:∀i,i<ay.length->A i):EX D w bk (ay.map cP).length (iR (ay.map cP)) oo (XD (ay.map cP)) (λ_=>False):=by
 have hfr:∀k,k<ay.length->iR (ay.map cP) k=iR ay k:=λk hk=>by unfold iR;rw[mX hk];rfl
 have h1:EX D w bk ay.length (iR ay) oo (XD (ay.map cP)) (λ_=>False):=by
  refine h.iff (λi hi=>?_) (λi hi=>?_) (λi j hi _=>?_) (λi j hi _ _=>?_)
  ·show((ay.map cP).getD i gY).bF=_;rw[mX hi];exact(ag (hA i hi)).symm
  ·show((ay.map cP).getD i gY).count=_;rw[mX hi];exact(ag (hA i hi)).symm
  ·refine⟨λq=>ax (hA i hi) q.1,λq=>?_⟩;have q:_∈((ay.map cP).getD i gY).built:=q;rw[mX hi] at q;cases q
  ·refine⟨λq=>ax (hA i hi) q.1,λq=>?_⟩;have q:_∈((ay.map cP).getD i gY).built:=q;rw[mX hi] at q;cases q
 rw[List.length_map];refine⟨λk hk=>by rw[hfr k hk];exact h1.r k hk,λi j hi hj e=>h1.nd i j hi hj (by rw[hfr i hi,hfr j hj] at e;exact e),λk hk=>?_⟩;obtain⟨c,hc,a1,a2,a3,a4,a5⟩:=h1.wc k hk;have re:∀o S,jv ay.length (iR ay) oo w o S->jv ay.length (iR (ay.map cP)) oo w o S:=λo S q=>q.re (ah _) (λj hj _=>⟨by rw[hfr j hj],rfl⟩) (λj hj=>⟨λq=>⟨hj,q⟩,λq=>q.2⟩) (λi j hi hj e=>h1.nd i j hi hj (by rw[hfr i hi,hfr j hj] at e;exact e));exact⟨c,by rw[hfr k hk];exact hc,a1,a2,re _ _ a3,λe=>re _ _ (a4 e),a5⟩
theorem JW (w:World)(bk:Nat)(hot blt:Int)(hb:kC hot blt):Calls prog 47 #[pt bk,.int .i64 hot,.int .i64 blt] w λe w'=>e=.returned (.int .i64 1)/\w'=w:=by
 by_cases h1:hot<1
 ·clear hb;go_enter func47,ntmps47;go_wp2;go_ret;exact⟨rfl,rfl⟩
 by_cases h2:1000<hot
 ·clear hb;go_enter func47,ntmps47;go_wp2;go_ret;exact⟨rfl,rfl⟩
 by_cases h3:blt<0
 ·clear hb;go_enter func47,ntmps47;go_wp2;go_ret;exact⟨rfl,rfl⟩
 have h4:3<blt:=by unfold kC at hb;omega
 clear hb;go_enter func47,ntmps47;go_wp2;go_ret;exact⟨rfl,rfl⟩
theorem Nk (hot blt h0 b0:Int)(hg:¬kC hot blt){ay:List Def}{obs:List Nat}{DD:DataW Value}(hwr:WR D w bk mb ay obs DD)(hbk:aC w bk 106 #[.map (some mb),.int .i64 h0,.int .i64 b0])(K0:¬D.u mb)(O5:¬D.u bk)(hbd:¬D.d bk):
  Calls prog 47 #[pt bk,.int .i64 hot,.int .i64 blt] w λe w'=>e=.returned (.int .i64 0)/\Kp w w' (λk=>FU D w bk k\/k=bk)/\fT D D w w' bk/\EX D w' bk (ay.map cP).length (iR (ay.map cP)) (λk=>obs.getD k 0) (XD (ay.map cP)) (λ_=>False)/\aC w' bk 106 #[.map (some mb),.int .i64 hot,.int .i64 blt]:=by
 have g1:¬hot<1:=by unfold kC at hg;omega
 have g2:¬1000<hot:=by unfold kC at hg;omega
 have g3:¬blt<0:=by unfold kC at hg;omega
 have g4:¬3<blt:=by unfold kC at hg;omega
 obtain⟨W1,hW1⟩:∃W1,W1=(w.setCell ⟨bk,1,none⟩ (.int .i64 hot)).setCell ⟨bk,2,none⟩ (.int .i64 blt):=⟨_,rfl⟩;have hk1:Kp w W1 (λk=>k=bk):=by rw[hW1];exact((Kp.refl w (λk=>k=bk)).set (a:=⟨bk,1,none⟩) (λ_=>rfl) _).set (a:=⟨bk,2,none⟩) (λ_=>rfl) _
 have hs1:W1.heap.size=w.heap.size:=by rw[hW1];simp
 have Mx:aC W1 bk 106 #[.map (some mb),.int .i64 hot,.int .i64 blt]:=by rw[hW1];exact(hbk.set 1 _).set 2 _
 have hml:=hwr.mp.lt;have hmb:¬mb=bk:=dh hwr.mp hbk;have hown:W1.ownsMap prog 9 bQ mb ay.length DD:=aL hwr.mp (hk1.block mb hml hmb);obtain⟨WO,WQ⟩:=hwr.wd.out hk1 (λk hu e=>O5 ((show k=bk from e)▸hu)) (λk hd e=>hbd ((show k=bk from e)▸hd));have hx1:=hwr.ex.out hk1 (λk hu e=>O5 ((show k=bk from e)▸hu)) (λk hd e=>hbd ((show k=bk from e)▸hd));have hE:∀t:Tok,t.length<=maxLen->Maps.has DD (.string t)=true->∃k,k<ay.length/\(iR ay k).name=t/\DD.atKey (.string t) (.held (.pointer none))=.held (pt (obs.getD k 0)):=λt ht hh=>by
  have h1:=hwr.hs t ht;rw[hh] at h1;obtain⟨k,hk⟩:=Option.isSome_iff_exists.1 h1.symm;obtain⟨hkl,hkn,_⟩:=List.findIdx?_eq_some_iff_getElem.1 hk;have h2:=hwr.lk t ht;rw[hk] at h2;exact⟨k,hkl,by unfold iR;rw[cN hkl];simpa using hkn,h2⟩
 have OQ:EX D W1 bk ay.length (iR ay) (λk=>obs.getD k 0) (qN (XD ay) (λi=>Maps.has DD (.string (iR ay i).name)=false)) (λ_=>False):=hx1.Z6 (λi hi e=>by
  obtain⟨c,hc,_⟩:=hx1.wc i hi;have h1:=congrArg List.length hc.nm;have h2:=hc.ns;have h3:c.nm.data.toList.length=c.nm.size:=rfl;have h4:=hwr.hs (iR ay i).name (by rw[<-h1,h3];exact ai h2 (by decide));rw[e] at h4;have h5:=List.findIdx?_eq_none_iff.1 (Option.isNone_iff_eq_none.1 (by rw[<-Option.not_isSome,<-h4];rfl)) ay[i] (List.getElem_mem hi);unfold iR at h5;rw[cN hi] at h5;simp at h5)
 have c0:w.cell? ⟨bk,0,none⟩=some (.map (some mb)):=hbk.cell rfl;have c1:w.cell? ⟨bk,1,none⟩=some (.int .i64 h0):=hbk.cell rfl;have c2:w.cell? ⟨bk,2,none⟩=some (.int .i64 b0):=hbk.cell rfl;have f1:=hbk.free 1;have f2:=hbk.free 2;have vH:=az WQ;have OV:=az WO;have oV:=az hk1;have PW:=az Mx;have HE:=az hE;have DV:=az OQ;have wN:=az hwr.ex.nd;have HW:=az hwr.wd;have CY:=az hW1;clear hwr hbk hk1 Mx WO WQ hE hg hW1 hx1 OQ;go_enter func47,ntmps47
 go_wp2_with (first
  | (at_range;(rw[<-CY.out]);refine wpList_range_own _ rfl _ 104 rfl 9 107 (Maps.string_keyed underlying9) underlying104 _ mb ay.length _ rfl hown ?_;intro w0 hrg0 hg0 hs0)
  | go_in)
 rw[hs1] at hrg0 hs0
 go_loopw [8] (λ_ wr=>∃left cnt,WN D bk mb w.heap.size ay obs DD W1 wr left cnt) (λ_ wr=>wr.rangeLeft mb w.heap.size)
 case atStart=>
  have bC:Kp W1 w0 (λ_=>False):=(Kp.refl W1 _).grown hg0 (λk _ e=>by cases e);exact⟨_,_,⟨hrg0,λ_ h=>h,bC.mono (λ_ _ e=>e.elim),(vH.out.kp bC).1,DV.out.kp bC⟩⟩
 case round=>
  clear DV;obtain⟨left,cnt,bK⟩:=hrel;have xR:=vH.out.next bK.kp.size bK.pr;have hrg:=bK.rg
  go_wp2_with (first
   | (at_next;refine wpList_next_ranges _ rfl _ rfl 9 (Maps.string_keyed underlying9) bQ Value.string (λv:Value=>v) (λkey kl h=>(jR h).imp (λ_ q=>q.1)) (λv _ _=>⟨v,rfl⟩) mb w.heap.size ay.length _ _ _ rfl hrg ?_ ?_)
   | go_in)
  ·intro hc0 hl0;have HP:Hid (fT D D w wr bk):=OV.out.trans (λ_ _ h=>h) bK.pr;have hnf:¬FU D W1 bk bk:=λe=>O5 (e.u vH.out);have HK:Hid (Kp w wr (λk=>FU D w bk k\/k=bk)):=(oV.out.mono (λ_ _ e=>.inr e)).trans (bK.kp.mono (λk _ e=>.inl (e.back HW.out OV.out)));have HB:Hid (aC wr bk 106 #[.map (some mb),.int .i64 hot,.int .i64 blt]):=bK.kp.blk PW.out hnf;have KH:=az (bK.ex.slow (λi _=>hl0 _));clear bK xR hrg hc0 hl0 hg0 hs0 hrg0 hown hnf;go_wp2;go_ret;exact⟨rfl,HK.out,HP.out,KH.out,HB.out⟩
  ·intro x v kl yd yp w1 cnt1 hkey hlk hv hat hrg1 hlt hg1 aa0 hen;obtain⟨rfl,hxl⟩:=xZ hkey;obtain⟨j,hj,hjn,kW⟩:=HE.out _ hxl (bK.sub _ hlk);obtain⟨o2,og⟩:∃o2,obs.getD j 0=o2:=⟨_,rfl⟩;rw[og] at kW;have hvv:v=pt o2:=by
    have h1:=hat (.held (.pointer none));rw[kW] at h1;have h2:some (DataW.held v,[])=some (yd,yp):=hv;have h3:DataW.held v=yd:=congrArg Prod.fst (Option.some.inj h2);have h4:DataW.held (pt o2)=yd:=h1;rw[<-h3] at h4;exact(DataW.held.inj h4).symm
   subst hvv;have X8:w.heap.size<wr.heap.size:=hrg.lt;have hk1:Kp wr w1 (λk=>k=w.heap.size):=(Kp.refl wr _).grown hg1 (λk _ e=>(Option.some.inj e).symm);have uU:∀k,D.u k->¬k=w.heap.size:=λk hk e=>by have:=vH.out.lt k hk;omega
   obtain⟨hp1,yK⟩:=xR.out hk1 uU (λk hd e=>by have:=vH.out.dl k hd;omega);have hpa:=bK.pr.trans (λ_ _ h=>h) hp1;have hka:Kp W1 w1 (FU D W1 bk):=((bK.kp.mono (T:=λk=>FU D W1 bk k\/k=w.heap.size) (λ_ _ e=>.inl e)).trans (hk1.mono (λ_ _ e=>.inr e))).mono (λk hk e=>e.elim id (λe=>by omega));have hX1:=bK.ex.out hk1 uU (λk hd e=>by have:=vH.out.dl k hd;omega);have HC:=az (IX (w:=w1) yK hX1 hj og rfl (λi hi h=>h));have HN:Hid (∀w2,Kp w1 w2 (FU D w1 bk)->fT D D w1 w2 bk->EX D w2 bk ay.length (iR ay) (λk=>obs.getD k 0) (mL (qN (XD ay) (λi=>left (.string (iR ay i).name)=false)) j) (λ_=>False)->WN D bk mb w.heap.size ay obs DD W1 w2 (λz=>left z && !z.sameKey (.string x.data.toList)) cnt1):=by
    intro w2 hk2 hp2 hx2;rw[<-hjn] at hrg1 ⊢;have qR:=hk2.mono (λk _ e=>FU.back vH.out hpa e);have hs2:=hk1.size;refine⟨fJ hrg1 (qR.block mb (by omega) (λe=>K0 (e.u vH.out))) (qR.block w.heap.size (by omega) (λe=>by have:=vH.out.lt _ (e.u vH.out);omega)),λk hk=>bK.sub k (by simp at hk;exact hk.1),hka.trans qR,hpa.trans (λ_ _ h=>h) hp2,hx2.Z7 (λi hi=>?_)⟩;have hl:=gM (left:=left) wN.out hi hj
    constructor
    ·intro h2;by_cases e:i=j
     ·exact .inr e
     ·refine .inl ?_
      cases hq:left (.string (iR ay i).name) with
      | false=>rfl
      | true=>have:=hl.2 ⟨hq,e⟩;rw[this] at h2;cases h2
    ·rintro (h2|e)
     ·show(_&&_)=false;rw[h2];rfl
     ·cases hq:(left (.string (iR ay i).name) && !(Lit.string (iR ay i).name).sameKey (.string (iR ay j).name)) with
      | false=>rfl
      | true=>exact ax e (hl.1 hq).2
   have wO:=hrg.left_eq;clear bK xR hrg hrg1 hg1 aa0 hat kW hv hkey hlk hk1 uU hp1 yK hpa hka hX1 og hjn
   go_wp2_with fail
   refine HC.out.mono ?_;rintro e w2 ⟨rfl,hk2,hp2,hx2⟩;have hN:=HN.out w2 hk2 hp2 hx2;have G9:=az hN;have uW:=hN.rg.left_eq;clear hN hk2 hp2 hx2 HN HC;go_wp2
   go_roundw
   case rel=>exact⟨_,_,G9.out⟩
   case measure=>rw[uW,wO];exact hlt
end
theorem FA (s:St)(hot blt:Int):(oz s hot blt).ay.map qO=s.ay.map qO:=by
 show(s.ay.map cP).map qO=_;rw[List.map_map];rfl
section
variable {B:Nat}{I:Int}{W w:World}{xb bk mb:Nat}{sv:Value}{D:GD}{V:Nat->Prop}{s:St}
theorem qT.WS (h:qT B W I w xb bk mb sv D V s){w':World}{hot blt:Int}(hk:Kp w w' (λk=>FU D w bk k\/k=bk))(hp:fT D D w w' bk){obs:List Nat}{DD:DataW Value}(hwr:WR D w bk mb s.ay obs DD)(hx:EX D w' bk (s.ay.map cP).length (iR (s.ay.map cP)) (λk=>obs.getD k 0) (XD (s.ay.map cP)) (λ_=>False))(hb:aC w' bk 106 #[.map (some mb),.int .i64 hot,.int .i64 blt]):qT B W I w' xb bk mb sv D V (oz s hot blt)/\Kp w w' V:=by
 have hW:=h.words.yI;have Jb:∀k,FU D w bk k->D.u k:=λk e=>e.u hW;have hne:∀b t c,aC w b t c->t≠111->t≠106->¬(FU D w bk b\/b=bk):=λb t c q t1 t2 e=>by
  rcases e with e|e
  ·rcases (h.us b (Jb b e)).2.2 with⟨c',hc'⟩|⟨n,DD,hm⟩
   ·exact t1 (q.inj hc').1
   ·exact dh hm q rfl
  ·subst e;exact t2 (q.inj h.book).1
 have hmb:¬(FU D w bk mb\/mb=bk):=λe=>e.elim (λe=>(h.us mb (Jb mb e)).2.1 rfl) (λe=>h.words.ne h.book e);have hbs:=h.bs;have hsz:=hk.size;refine⟨⟨hk.blk h.bJ (hne _ _ _ h.bJ (by decide) (by decide)),hk.row h.dc (λk e e2=>by obtain⟨c,hc⟩:=aV h.dc e;exact hne _ _ _ hc (by decide) (by decide) e2),h.len,h.E9.trans (hk.below h.bs (λk hkb e=>by
   rcases e with e|e
   ·have:=(h.us k (Jb k e)).1;omega
   ·have:=h.Te;omega)),h.bx,h.bv,ai h.bs hsz,h.E8,hb,⟨obs,DD,hwr.same (FA s hot blt) hp (λ_ _ h=>h) (λ_ _ h=>h) (hW.next hsz hp) (hk.block mb h.words.Mz hmb) hx (λd hd=>by
   obtain⟨d0,_,rfl⟩:=List.mem_map.1 (show d∈s.ay.map cP from hd);exact⟨λ_=>rfl,λt ht=>by cases ht⟩)⟩,λk e=>?_,λk e=>?_,h.nb,h.Te,h.vs,h.ids,h.Cm⟩,hk.mono (λk _ e=>(h.vs k).2 (e.elim (λe=>.inr (.inr (.inr (.inr (.inr (Jb k e)))))) (λe=>.inr (.inl e))))⟩
 ·obtain⟨e0,e1⟩:=h.sep k e;exact⟨by omega,e1⟩
 ·obtain⟨e0,e1,e2⟩:=h.us k e;refine⟨e0,e1,?_⟩;by_cases hf:FU D w bk k
  ·rcases hf with⟨g,hg⟩|⟨o,g,c,hg,hc,hm⟩
   ·obtain⟨c,hc⟩:=hW.ok k g hg;obtain⟨c',_,_,_,_,_,hc'⟩:=hp k g c hg hc;exact .inl ⟨_,hc'.blk⟩
   ·obtain⟨c',_,_,_,_,e5,hc'⟩:=hp o g c hg hc;obtain⟨_,_,DD,⟨⟨n,h1⟩,_⟩⟩:=hc'.wm k (e5.trans hm);exact .inr ⟨n,DD,h1⟩
  ·have hkb:¬(FU D w bk k\/k=bk):=λq=>q.elim hf (λq=>by
    subst q;rcases e2 with⟨c,hc⟩|⟨n,DD,hm⟩
    ·exact ax (hc.inj h.book).1 (by decide)
    ·exact dh hm h.book rfl)
   rcases e2 with⟨c,hc⟩|⟨n,DD,hm⟩
   ·exact .inl ⟨c,hk.blk hc hkb⟩
   ·exact .inr ⟨n,DD,aL hm (hk.block k hm.lt hkb)⟩
theorem JX (h:qT B W I w xb bk mb sv D V s)(hot blt:Int)(hb:kC hot blt):Calls prog 22 #[pt xb,.int .i64 hot,.int .i64 blt] w λe w'=>e=.returned (.int .i64 1)/\w'=w:=by
 have c17:w.cell? ⟨xb,17,none⟩=some (pt bk):=h.bJ.cell rfl;have HT:=az (JW w bk hot blt hb);clear h hb;go_enter func22,ntmps22
 go_wp2_with fail
 refine HT.out.mono ?_;rintro e w1 ⟨rfl,rfl⟩;go_wp2;go_ret;exact⟨rfl,rfl⟩
theorem Nl (h:qT B W I w xb bk mb sv D V s)(hot blt:Int)(hb:¬kC hot blt):Calls prog 22 #[pt xb,.int .i64 hot,.int .i64 blt] w λe w'=>e=.returned (.int .i64 0)/\qT B W I w' xb bk mb sv D V (oz s hot blt)/\Kp w w' V:=by
 have c17:w.cell? ⟨xb,17,none⟩=some (pt bk):=h.bJ.cell rfl;obtain⟨obs,DD,hwr⟩:=h.words;have O5:¬D.u bk:=λe=>by
  rcases (h.us bk e).2.2 with⟨c,hc⟩|⟨n,DD,hm⟩
  ·exact ax (hc.inj h.book).1 (by decide)
  ·exact dh hm h.book rfl
 have HT:=az (Nk hot blt s.hot s.built hb hwr h.book (λe=>(h.us mb e).2.1 rfl) O5 h.nb);have H:=az h;have HWR:=az hwr;clear h hb hwr O5;go_enter func22,ntmps22
 go_wp2_with fail
 refine HT.out.mono ?_;rintro e w1 ⟨rfl,q1,q2,qx,q3⟩;have HF:=az (H.out.WS q1 q2 HWR.out qx q3);clear q1 q2 qx q3 HT HWR;go_wp2;go_ret;exact⟨rfl,HF.out⟩
end
end
section
open Go.RowKit Go.Sort
structure RZ (mb r:Nat)(ay:List Def)(DD:DataW Value)(w wr:World)(left:Lit->Bool)(cnt:Nat)(v:Value)(ss:List Tok):Prop where
 rg:wr.ranges prog 9 bQ mb r ay.length DD left cnt
 sub:∀kl,left kl=true->Maps.has DD kl=true
 kp:Kp w wr (λ_=>False)
 row:wr.ownsRow (r+1) 9 1 v ss.length (ss.map encStr)
 nd:ss.Nodup
 me:∀t,t∈ss<->∃k,∃h:k<ay.length,ay[k].name=t/\ay[k].bF=true/\left (.string t)=false
theorem mS {left:Lit->Bool}{t x:Tok}:(left (.string t) && !(Lit.string t).sameKey (.string x))=false<->(left (.string t)=false\/t=x):=by
 by_cases e:t=x
 ·subst e;simp[Lit.sameKey]
 ·have:(Lit.string t).sameKey (.string x)=false:=Maps.sameKey_ne (λq=>e (by injection q));rw[this];simp[e]
section
variable {ay:List Def}{left:Lit->Bool}{ss:List Tok}
theorem R3 (h:∀t,t∈ss<->∃k,∃h:k<ay.length,ay[k].name=t/\ay[k].bF=true/\left (.string t)=false)(j:Nat)(hj:j<ay.length)(hf:ay[j].bF=true):∀t,t∈ss++[ay[j].name]<->∃k,∃h:k<ay.length,ay[k].name=t/\ay[k].bF=true/\(left (.string t) && !(Lit.string t).sameKey (.string ay[j].name))=false:=λt=>by
 rw[List.mem_append,List.mem_singleton,h t]
 constructor
 ·rintro (⟨k,hk,a,b,c⟩|e)
  ·exact⟨k,hk,a,b,mS.2 (.inl c)⟩
  ·exact⟨j,hj,e.symm,hf,mS.2 (.inr e)⟩
 ·rintro⟨k,hk,a,b,c⟩;rcases mS.1 c with c|c
  ·exact .inl ⟨k,hk,a,b,c⟩
  ·exact .inr c
theorem WT (nd:∀i j (hi:i<ay.length) (hj:j<ay.length),ay[i].name=ay[j].name->i=j)(h:∀t,t∈ss<->∃k,∃h:k<ay.length,ay[k].name=t/\ay[k].bF=true/\left (.string t)=false)(j:Nat)(hj:j<ay.length)(hf:ay[j].bF=false):∀t,t∈ss<->∃k,∃h:k<ay.length,ay[k].name=t/\ay[k].bF=true/\(left (.string t) && !(Lit.string t).sameKey (.string ay[j].name))=false:=λt=>by
 rw[h t]
 constructor
 ·rintro⟨k,hk,a,b,c⟩;exact⟨k,hk,a,b,mS.2 (.inl c)⟩
 ·rintro⟨k,hk,a,b,c⟩;rcases mS.1 c with c|c
  ·exact⟨k,hk,a,b,c⟩
  ·have:=nd k j hk hj (a.trans c);subst this;rw[hf] at b;cases b
theorem R4 (nd:∀i j (hi:i<ay.length) (hj:j<ay.length),ay[i].name=ay[j].name->i=j)(hn:ss.Nodup)(h:∀t,t∈ss<->∃k,∃h:k<ay.length,ay[k].name=t/\ay[k].bF=true/\left (.string t)=false)(hl:∀kl,left kl=false):ss.Perm ((ay.filter (λd=>d.bF)).map Def.name):=by
 refine(List.perm_ext_iff_of_nodup hn ?_).2 λt=>?_
 ·have hp:ay.Pairwise (λa b=>a.name≠b.name):=List.pairwise_iff_getElem.2 (λi j hi hj hij e=>by have:=nd i j hi hj e;omega);exact List.pairwise_map.2 (hp.filter _)
 ·rw[h t,List.mem_map]
  constructor
  ·rintro⟨k,hk,a,b,c⟩;exact⟨ay[k],List.mem_filter.2 ⟨List.getElem_mem hk,b⟩,a⟩
  ·rintro⟨d,hd,rfl⟩;obtain⟨h1,h2⟩:=List.mem_filter.1 hd;obtain⟨k,hk,rfl⟩:=List.getElem_of_mem h1;exact⟨k,hk,rfl,h2,hl _⟩
end
section
variable {D:GD}{w:World}{bk mb:Nat}
theorem WU (h0 b0:Int){ay:List Def}{obs:List Nat}{DD:DataW Value}(hwr:WR D w bk mb ay obs DD)(hbk:aC w bk 106 #[.map (some mb),.int .i64 h0,.int .i64 b0]):
  Calls prog 48 #[pt bk] w λe w'=>∃(v:Value) (ss:List Tok),e=.returned v/\ss.Perm ((ay.filter (λd=>d.bF)).map Def.name)/\w'.ownsRow w.heap.size 9 1 v ss.length ((ss.mergeSort leB).map encStr)/\Kp w w' (λ_=>False):=by
 have c0:w.cell? ⟨bk,0,none⟩=some (.map (some mb)):=hbk.cell rfl;have hml:=hwr.mp.lt;have hE:∀t:Tok,t.length<=maxLen->Maps.has DD (.string t)=true->∃k,∃hk:k<ay.length,ay[k].name=t/\DD.atKey (.string t) (.held (.pointer none))=.held (pt (obs.getD k 0))/\∃c:WC,aC w (obs.getD k 0) 111 c.arr/\c.fa=ay[k].bF:=λt ht hh=>by
  have h1:=hwr.hs t ht;rw[hh] at h1;obtain⟨k,hk⟩:=Option.isSome_iff_exists.1 h1.symm;obtain⟨hkl,hkn,_⟩:=List.findIdx?_eq_some_iff_getElem.1 hk;have h2:=hwr.lk t ht;rw[hk] at h2;obtain⟨c,hc,a1,_⟩:=hwr.ex.wc k hkl;have a1:c.fa=(ay.getD k gY).bF:=a1;rw[cN hkl] at a1;exact⟨k,hkl,by simpa using hkn,h2,c,hc.blk,a1⟩
 have O6:∀k (h:k<ay.length),Maps.has DD (.string ay[k].name)=true:=λi hi=>by
  obtain⟨c,hc,_⟩:=hwr.ex.wc i hi;have h1:=congrArg List.length hc.nm;have h2:=hc.ns;have h3:c.nm.data.toList.length=c.nm.size:=rfl;have h5:(iR ay i).name=ay[i].name:=by unfold iR;rw[cN hi]
  rw[h5] at h1;rw[hwr.hs ay[i].name (by rw[<-h1,h3];exact ai h2 (by decide))];rw[List.findIdx?_isSome,List.any_eq_true];exact⟨ay[i],List.getElem_mem hi,by simp⟩
 have mD:=hwr.KQ;have wN:=az hwr.nd;have HE:=az hE;have HA0:=az O6;have hown:=hwr.mp;obtain⟨i0,hi,hz0,hz1,hz2⟩:=info_parts Tryz.pL;clear hwr hE O6 hbk;go_enter func48,ntmps48
 go_wp2_with (first
  | (at_range;refine wpList_range_own _ rfl _ 104 rfl 9 107 (Maps.string_keyed underlying9) underlying104 _ mb ay.length _ rfl hown ?_;intro w0 hrg0 hg0 hs0)
  | go_in)
 go_frame
 go_loopw [3] (λv wr=>∃left cnt ss,RZ mb w.heap.size ay DD w wr left cnt v ss) (λ_ wr=>wr.rangeLeft mb w.heap.size)
 case atStart=>
  have bC:Kp w w0 (λ_=>False):=(Kp.refl w _).grown hg0 (λk _ e=>by cases e);exact⟨_,_,[],⟨hrg0,λ_ h=>h,bC,World.ownsRow_nil _ _ _ _,List.nodup_nil,λt=>⟨λq=>(by cases q),λ⟨k,hk,a,_,c⟩=>(by rw[<-a,HA0.out k hk] at c;cases c)⟩⟩⟩
 case round=>
  clear HA0;obtain⟨left,cnt,ss,bK⟩:=hrel;have hrg:=bK.rg;have X8:w.heap.size<wr.heap.size:=hrg.lt;obtain⟨ao,cap,rfl⟩:=aB (Joins.ownsRow_le bK.row (Nat.zero_le _))
  go_wp2_with (first
   | (at_next;refine wpList_next_ranges _ rfl _ rfl 9 (Maps.string_keyed underlying9) bQ Value.string (λv:Value=>v) (λkey kl h=>(jR h).imp (λ_ q=>q.1)) (λv _ _=>⟨v,rfl⟩) mb w.heap.size ay.length _ _ _ rfl hrg ?_ ?_)
   | go_in)
  ·intro hc0 hl0;have HP:=az (R4 wN.out bK.nd bK.me hl0);have HK:=az bK.kp;have aJ:=bK.row;have hlen:ss.length<=30:=by
    have h1:=HP.out.length_eq;have h2:=List.length_filter_le (λd:Def=>d.bF) ay;simp at h1;omega
   clear bK hrg hc0 hl0 hg0 hs0 hrg0 hown;rcases aJ.2 with⟨e,hz⟩|⟨gb,cap',cur,e,hbase,hgb,r1,r2,r3,r4⟩
   ·injection e with e1 _ e3;subst e1 e3;have zk:ss=[]:=List.eq_nil_of_length_eq_zero hz;subst zk;have HS:Hid (Calls prog 61 #[.slice none 0 0] wr λe w'=>e=.returned (.tuple #[])/\w'=wr):=AnyM.slices_Sort_string_none Tryz.sort61 none 0 wr;clear aJ hz
    go_wp2_with fail
    refine HS.out.mono ?_;rintro e w' ⟨rfl,rfl⟩;clear HS;go_wp2;go_ret;exact⟨.slice none 0 0,[],rfl,HP.out,by simpa using World.ownsRow_nil _ _ _ _,HK.out⟩
   ·injection e with e1 _ e3;subst e1 e3;have hgl:gb<wr.heap.size:=(Array.getElem?_eq_some_iff.1 hgb).1;have HS:Hid (Calls prog 61 #[.slice (some ⟨gb,0,none⟩) ss.length cap] wr λe w'=>e=.returned (.tuple #[])/\∃n os,w'=grow (putRow encStr (Sort.ahead wr n) gb 0 (ss.mergeSort leB).toArray) os):=AnyM.slices_Sort_string Tryz.sort61 gb 0 cap ss wr (holds_of_block hgb (by simpa using r4)) hgl (by omega);have HR:Hid (∀n os,(grow (putRow encStr (Sort.ahead wr n) gb 0 (ss.mergeSort leB).toArray) os).ownsRow w.heap.size 9 1 (.slice (some ⟨gb,0,none⟩) ss.length cap) ss.length ((ss.mergeSort leB).map encStr)/\Kp w (grow (putRow encStr (Sort.ahead wr n) gb 0 (ss.mergeSort leB).toArray) os) (λ_=>False)):=λn os=>
     ⟨ownsRow_sorted (by simp) (by omega) hgb r1 r2 r3,HK.out.grown (grownBy_sorted _) (λk hk e=>by injection e with e;omega)⟩
    clear aJ hgb r1 r2 r3 r4 HK
    go_wp2_with fail
    refine HS.out.mono ?_;rintro e w' ⟨rfl,n1,os1,rfl⟩;have kH:=az (HR.out n1 os1);generalize grow (putRow encStr (Sort.ahead wr n1) gb 0 (ss.mergeSort leB).toArray) os1=w9 at kH ⊢;clear HS HR;go_wp2;go_ret;exact⟨.slice (some ⟨gb,0,none⟩) ss.length cap,ss,rfl,HP.out,kH.out.1,kH.out.2⟩
  ·intro x vv kl yd yp w1 cnt1 hkey hlk hv hat hrg1 hlt hg1 hs1 hen;obtain⟨rfl,hxl⟩:=xZ hkey;obtain⟨j,hj,hjn,kW,c9,Oa,hf9⟩:=HE.out _ hxl (bK.sub _ hlk);obtain⟨o2,og⟩:∃o2,obs.getD j 0=o2:=⟨_,rfl⟩;rw[og] at kW Oa;have hvv:vv=pt o2:=by
    have h1:=hat (.held (.pointer none));rw[kW] at h1;have h2:some (DataW.held vv,[])=some (yd,yp):=hv;have h3:DataW.held vv=yd:=congrArg Prod.fst (Option.some.inj h2);have h4:DataW.held (pt o2)=yd:=h1;rw[<-h3] at h4;exact(DataW.held.inj h4).symm
   subst hvv;have hk1:Kp wr w1 (λk=>k=w.heap.size):=(Kp.refl wr _).grown hg1 (λk _ e=>(Option.some.inj e).symm);have kz:Kp w w1 (λ_=>False):=((bK.kp.mono (T:=λk=>k=w.heap.size) (λ_ _ e=>e.elim)).trans hk1).mono (λk hk e=>by omega);have d4:w1.cell? ⟨o2,4,none⟩=some (.bool ay[j].bF):=by rw[<-hf9];exact(kz.blk Oa (λe=>e)).cell rfl
   have hol:=(kz.blk Oa (λe=>e)).lt;have aZ:w1.ownsRow (w.heap.size+1) 9 1 (.slice ao ss.length cap) ss.length (ss.map encStr):=hk1.row bK.row (λk hk e=>by have:=(bK.row.lt k hk).1;omega);have wO:=hrg.left_eq;have Yn:encStr x.data.toList=.string x:=by simp[encStr]
   have hnew:x.data.toList ∉ ss:=λq=>by
    obtain⟨_,_,_,_,c⟩:=(bK.me _).1 q;rw[hlk] at c;cases c
   have hlen:ss.length<=30:=by
    have h1:=bK.nd.length_le_of_subset (l₂:=ay.map Def.name) (λt ht=>by
     obtain⟨k,hk,a,_⟩:=(bK.me t).1 ht;exact List.mem_map.2 ⟨ay[k],List.getElem_mem hk,a⟩)
    simp at h1;omega
   have hs9:=hk1.size;rw[<-hjn] at hrg1 hnew Yn
   cases hf:ay[j].bF with
   | false=>
    rw[hf] at d4;have HN:Hid (RZ mb w.heap.size ay DD w w1 (λz=>left z && !z.sameKey (.string ay[j].name)) cnt1 (.slice ao ss.length cap) ss):=⟨hrg1,λk hk=>bK.sub k (by simp at hk;exact hk.1),kz,aZ,bK.nd,WT wN.out bK.me j hj hf⟩;have uW:=hrg1.left_eq;clear bK hrg hrg1 hg1 hs1 hat kW hv hkey hlk hk1 kz aZ hnew Oa hf9 Yn;go_wp2
    go_roundw
    case rel=>exact⟨_,_,_,HN.out⟩
    case measure=>rw[uW,wO];exact hlt
   | true=>
    rw[hf] at d4;have HN:Hid (∀v2 w2,w2.ownsRow (w.heap.size+1) 9 1 v2 (ss.length+1) (ss.map encStr++[.string x])->(w1.alloc (.cells #[.string x] 9)).grownBy w2 (Value.slice ao ss.length cap).ownBlock->RZ mb w.heap.size ay DD w w2 (λz=>left z && !z.sameKey (.string ay[j].name)) cnt1 v2 (ss++[ay[j].name])):=λv2 w2 hr2 hg2=>by
     have hk2:Kp w1 w2 (λk=>own (.slice ao ss.length cap) k):=((Kp.refl w1 (λk=>own (.slice ao ss.length cap) k)).alloc _).grown hg2 (λb _ e=>e);have hno:∀k,k<=w.heap.size->¬own (.slice ao ss.length cap) k:=λk hk e=>by have:=(aZ.lt k e).1;omega
     refine⟨fJ hrg1 (hk2.block mb (by omega) (hno mb (by omega))) (hk2.block w.heap.size (by omega) (hno _ (ah _))),λk hk=>bK.sub k (by simp at hk;exact hk.1),(kz.mono (T:=λk=>own (.slice ao ss.length cap) k) (λ_ _ e=>e.elim)).trans hk2 |>.mono (λk hk e=>hno k (by omega) e),?_,?_,R3 bK.me j hj hf⟩
     ·rw[List.length_append,List.map_append,List.map_singleton,Yn];exact hr2
     ·exact List.nodup_append.2 ⟨bK.nd,by simp,λa ha b hb e=>by simp at hb;subst hb;exact hnew (e▸ha)⟩
    have HL:Hid (∀w2:World,w2.ranges prog 9 bQ mb w.heap.size ay.length DD (λz=>left z && !z.sameKey (.string ay[j].name)) cnt1->w2.rangeLeft mb w.heap.size=cnt1):=λw2 h=>h.left_eq;clear bK hrg hrg1 hg1 hs1 hat kW hv hkey hlk hk1 kz hnew Oa hf9 Yn
    go_wp2_with (first
     | (at_builtin;refine wpList_append_own _ rfl _ _ 47 rfl (w.heap.size+1) 9 i0 (.string ByteArray.empty) 1 16 underlying47 hi hz0 hz1 hz2 rfl (by decide) _ _ _ rfl (aZ.alloc _) ⟨w1.heap.size,0,none⟩ 1 1 [.string x] rfl rfl ?c1 ?c2 ?c3 ?c4 ?c5 ?_)
     | go_in)
    case c1=>intro j u hj;match j,hj with|0,hj=>simp at hj;subst hj;simp[Addr.add]
    case c2=>intro u hu;simp at hu;subst hu;rfl
    case c3=>unfold maxLen;omega
    case c4=>omega
    case c5=>first|omega|(simp;omega)
    intro v2 w2 hr2 hg2 _;have G9:=az (HN.out v2 w2 hr2 hg2);have uW:=HL.out w2 G9.out.rg;clear hr2 hg2 HN HL aZ;go_wp2
    go_roundw
    case rel=>exact⟨_,_,_,G9.out⟩
    case measure=>rw[uW,wO];exact hlt
end
section
variable {B:Nat}{I:Int}{W w:World}{xb bk mb:Nat}{sv:Value}{D:GD}{V:Nat->Prop}{s:St}
theorem WV (h:qT B W I w xb bk mb sv D V s):
  Calls prog 24 #[pt xb] w λe w'=>∃v,e=.returned v/\(∃L:List ByteArray,w'.ownsRow w.heap.size 9 1 v L.length (L.map Value.string)/\aD L=pU s)/\∃V',AP B W I w' xb V' s/\To (λ_=>False) w w' V V'/\∀k,own v k->¬V' k:=by
 obtain⟨obs,DD,hwr⟩:=h.words;have HN:=az (WU s.hot s.built hwr h.book);have c17:w.cell? ⟨xb,17,none⟩=some (pt bk):=h.bJ.cell rfl;have H:=az h;clear h hwr;go_enter func24,ntmps24
 go_wp2_with fail
 refine HN.out.mono ?_;rintro e w1 ⟨v,ss,rfl,hp,aJ,hkp⟩;have HR:=az aJ;have HB:=az hkp;have HQ:=az hp;clear aJ hkp hp;go_wp2;go_ret;refine⟨v,rfl,⟨(ss.mergeSort leB).map λl=>⟨l.toArray⟩,?_,?_⟩,V,⟨bk,mb,sv,D,H.out.kp HB.out⟩,⟨HB.out.mono (λ_ _ e=>e.elim),λk e=>.inl e⟩,λk e hv=>?_⟩
 ·have:=HR.out;rw[List.map_map,List.length_map,(List.mergeSort_perm ss leB).length_eq];exact this
 ·unfold aD pU;rw[List.map_map,<-AR _ ss HQ.out];exact List.map_id _
 ·have h1:=(HR.out.lt k e).1;have h2:=H.out.lt k hv;omega
end
end
section
open Go.RowKit
theorem qT.more {B:Nat}{I J:Int}{W w:World}{xb bk mb:Nat}{sv:Value}{D:GD}{V:Nat->Prop}{s:St}(h:qT B W I w xb bk mb sv D V s)(hI:I<=J):qT B W J w xb bk mb sv D V s:=
 ⟨h.bJ,h.dc,h.len,h.E9,h.bx,h.bv,h.bs,h.E8,h.book,h.words,h.sep,h.us,h.nb,h.Te,h.vs,⟨h.ids.1,Int.le_trans h.ids.2 hI⟩,h.Cm⟩
section
variable {B:Nat}{W:World}
theorem Nn (hE:Env B W):EU B W (AP B W):=by
 refine⟨λI hI=>⟨⟨?_,?_,?_,?_,?_,?_,?_⟩,?_,?_,?_⟩,λI hI yq=>⟨?_,?_⟩⟩
 ·exact λw xb V s ⟨bk,mb,sv,D,h⟩=>h.lt
 ·exact λw w' S xb V s ⟨bk,mb,sv,D,h⟩ hk hV hB _=>⟨bk,mb,sv,D,h.frame hk hV hB⟩
 ·exact λw hb hs=>aaP w hI hb hs
 ·rintro w xb V s t ⟨bk,mb,sv,D,h⟩ hv;refine(Fx w xb t hv).mono ?_;rintro e w' ⟨rfl,rfl⟩;exact⟨rfl,h.to (Kp.refl _ _)⟩
 ·exact λw xb V s ⟨bk,mb,sv,D,h⟩ hg=>RV h hg
 ·exact λw xb V s n ⟨bk,mb,sv,D,h⟩ _=>RX h n
 ·exact λw xb V s ⟨bk,mb,sv,D,h⟩=>RR h
 ·exact λw xb V s ⟨bk,mb,sv,D,h⟩=>WV h
 ·rintro w xb V s hot built ⟨bk,mb,sv,D,h⟩ hb;refine(Nl h hot built hb).mono ?_;rintro e w' ⟨rfl,q1,q2⟩;exact⟨rfl,V,⟨bk,mb,sv,D,q1⟩,⟨q2.mono (λ_ _ e=>.inr e),λ_ e=>.inl e⟩⟩
 ·rintro w xb V s hot built ⟨bk,mb,sv,D,h⟩ hb;refine(JX h hot built hb).mono ?_;rintro e w' ⟨rfl,rfl⟩;exact⟨rfl,h.to (Kp.refl _ _)⟩
 ·exact λw xb V s ⟨bk,mb,sv,D,h⟩=>⟨bk,mb,sv,D,h.more (by omega)⟩
 ·exact λw xb V s s1 left g t ⟨bk,mb,sv,D,h⟩ _ hg hv hx=>RP hE h yq hg t hv g s1 left hx
end
end
end Go.Proofs.YteainaiebcphlaaGreatDoor
