import Derived.Test.YteainaiebcphlaaGreatDoorQ8
namespace Go.Proofs.YteainaiebcphlaaGreatDoor
set_option maxRecDepth 1000000
set_option maxHeartbeats 4000000
set_option linter.all false
open Go.Proofs.Tryz
section
open Go.RowKit
variable {K:Nat->Prop}
theorem aF.of {S S':Nat->Prop}{w w':World}{V:Nat->Prop}(h:Kp w w' V)(hv:∀b t c,S b->aC w b t c->t=227\/t=9->¬V b)(hs:∀b,S b->b<w.heap.size->S' b):aF S S' w w':=
 λb t c hb hbl ht=>⟨h.blk hbl (hv b t c hb hbl ht),hs b hb hbl.lt⟩
theorem Ks {w:World}{sb:Nat}{c:Array Value}(hb:aC w sb 181 c){b:Nat}{t:TypeId}{c':Array Value}(h:aC w b t c')(ht:t=227\/t=9):¬b=sb:=by
 rintro rfl;have:=(h.inj hb).1;rcases ht with rfl|rfl <;> exact ax this (by decide)
theorem nU {w w2 w3 wf:World}{sb rb:Nat}{c:Array Value}(hB:aC w3 sb 181 c)(hk:Kp w3 wf (λb=>b=sb\/b=rb))(hrb:rb<w2.heap.size)(hw:w.heap.size<=w2.heap.size):aF (New w2) (New w) w3 wf:=
 aF.of hk (λb t c hb hbl ht=>by
  rintro (e|e)
  ·exact Ks hB hbl ht e
  ·have hb:w2.heap.size<=b:=hb;omega) (λb hb _=>ai hw hb)
theorem DL:aD [⟨#[108,111,111,112]⟩]=[mA]:=rfl
theorem DM:aD [⟨#[116,104,101,110]⟩]=[dF]:=rfl
theorem x9:aD [⟨#[114,101,112,101,97,116]⟩]=[gj]:=rfl
theorem O7:aD [⟨#[101,108,115,101]⟩,⟨#[116,104,101,110]⟩]=[eY,dF]:=rfl
theorem A9:aD [⟨#[117,110,116,105,108]⟩,⟨#[119,104,105,108,101]⟩]=[fL,di]:=rfl
theorem Kp.vW {w w1:World}{S:Nat->Prop}{b:Nat}(h:Kp w w1 S)(hb:S b)(v0 v1 v2 v3 v4 v5:Value):
  Kp w ((((((w1.setCell ⟨b,0,none⟩ v0).setCell ⟨b,1,none⟩ v1).setCell ⟨b,2,none⟩ v2).setCell ⟨b,3,none⟩ v3).setCell ⟨b,4,none⟩ v4).setCell ⟨b,5,none⟩ v5) S:=
 (((((h.set (a:=⟨b,0,none⟩) (λ_=>hb) v0).set (a:=⟨b,1,none⟩) (λ_=>hb) v1).set (a:=⟨b,2,none⟩) (λ_=>hb) v2).set (a:=⟨b,3,none⟩) (λ_=>hb) v3).set (a:=⟨b,4,none⟩) (λ_=>hb) v4).set (a:=⟨b,5,none⟩) (λ_=>hb) v5
theorem SB (w:World)(sb yb:Nat)(rs:RS)(ay:List Def)(lv:Value)(ws:List ByteArray)(k lo:Nat)(tb:ByteArray)(bT:bA tb.toList=none)(hpl:aN.any (· == tb.toList)=false)(b0:(tb.toList==[105,102])=false)(b1:(tb.toList==[98,101,103,105,110])=false)(b2:(tb.toList==[100,111])=true)(g:Nat)(IH:rB K g)(hlo:lo<k)(res:fh)(aG:aK (dW ay) (g+1) ⟨true,lo,[],Gr⟩ ((aD ws).drop k)=some res)(h:bI K w sb yb rs ay lv ws k 0 lo):
  Calls prog 170 #[.pointer (some ⟨sb,0,none⟩),.string tb] w λx w'=>Kp w w' (λb=>b=sb)/\A8 K w sb yb rs ay lv ws k lo x w' (res):=by
 have HI:=az IH;have HR:=az (Oi aG);clear IH aG;have hsb:=h.blk.lt;have tq:=h.len;have hkl:=h.gf;go_enter func170,ntmps170
 go_wp2_with fail
 refine(dZ _ _).mono ?_;rintro e w' ⟨rfl,hw⟩;rw[hw,bR bT];clear hw
 go_wp2_with fail
 refine(cS _ _).mono ?_;rintro e w1 ⟨rfl,hk1⟩
 go_wp2_with fail
 refine(dQ _ _).mono ?_;rintro e w2 ⟨rfl,hk2⟩;have hkp:Kp w w2 (λb=>b=sb):=(((Kp.refl _ _).alloc _).trans (hk1.mono (λ_ _ h=>h.elim))).trans (hk2.mono (λ_ _ h=>h.elim));have hC:aC w2 w.heap.size 227 gK:=hk2.blk (hk1.blk (aC.new w _ _) (by simp)) (by simp);have hS:bI K w2 sb yb rs ay lv ws k 0 lo:=h.to hkp (hk2.blk (hk1.blk (h.blk.alloc _) (by simp)) (by simp)) h.gf;have hcs:¬w.heap.size=sb:=by omega
 clear hk1 hk2;have c4:w2.cell? ⟨sb,4,none⟩=some (.int .i64 lo):=hS.blk.cell rfl;have f4:=hS.blk.free 4;have SA:=hkp.size;have Yo:=hC.lt;have XA:=hS.Ki (lo+1);have hC':=hC.setOther (a:=⟨sb,4,none⟩) hcs (.int .i64 ((lo+1:Nat):Int));have uv:Kp w (w2.setCell ⟨sb,4,none⟩ (.int .i64 ((lo+1:Nat):Int))) (λb=>b=sb):=hkp.set (λ_=>rfl) _;have hsz':(w2.setCell ⟨sb,4,none⟩ (.int .i64 ((lo+1:Nat):Int))).heap.size=w2.heap.size:=by simp[World.setCell]
 go_wp2_with fail
 generalize hw0:w2.setCell ⟨sb,4,none⟩ (.int .i64 ((lo+1:Nat):Int))=w0 at XA hC' uv hsz';have XB:w2.setCell ⟨sb,4,none⟩ (.int .i64 ((lo:Int)+1))=w0:=hw0;rw[XB];clear hw0 XB hS hC hkp c4 f4;have hE:=aC.new w0 #[.string ⟨#[108,111,111,112]⟩] 9;rw[hsz'] at hE;rcases HR.out with⟨er,hp,hre⟩|⟨a,t1,r1,hp,hre⟩
 ·have pI:=az hre;clear hre HR;refine(HI.out _ sb yb rs ay lv ws k (lo+1) _ [⟨#[108,111,111,112]⟩] _ (by rw[DL];exact hp) (XA.kp ((Kp.refl _ _).alloc _)) (by omega) hE (by decide)).mono ?_;rintro x w3 ⟨hk3,her,k2,rfl,hkk,iw⟩;have c4:w3.cell? ⟨sb,4,none⟩=some (.int .i64 ((lo+1:Nat):Int)):=iw.blk.cell rfl;have f4:=iw.blk.free 4;have hC:=(hk3.blk (hC'.alloc _) hcs).setOther (a:=⟨sb,4,none⟩) hcs (.int .i64 lo);have hkp:Kp w (w3.setCell ⟨sb,4,none⟩ (.int .i64 lo)) (λb=>b=sb):=((uv.alloc _).trans hk3).set (λ_=>rfl) _;have hS:=iw.Ki lo;clear hp hk3 hC' uv XA hE HI iw;obtain⟨y0,y1,y2,y3,y4,y5⟩:=hC.six;obtain⟨z0,z1,z2,z3,z4,z5⟩:=hC.iT;go_wp2;have bS:=hC.dN (.int .u8 100) (.int .i64 0) (.string ⟨#[]⟩) (.slice none 0 0) (.slice none 0 0) (.slice none 0 0);have hk2:=hkp.dN (ah _) (.int .u8 100) (.int .i64 0) (.string ⟨#[]⟩) (.slice none 0 0) (.slice none 0 0) (.slice none 0 0);have aX:=hS.blk.dG (Ne.symm hcs) (.int .u8 100) (.int .i64 0) (.string ⟨#[]⟩) (.slice none 0 0) (.slice none 0 0) (.slice none 0 0);generalize (((((((w3.setCell ⟨sb,4,none⟩ (.int .i64 lo)).setCell ⟨w.heap.size,0,none⟩ (.int .u8 100)).setCell ⟨w.heap.size,1,none⟩ (.int .i64 0)).setCell ⟨w.heap.size,2,none⟩ (.string ⟨#[]⟩)).setCell ⟨w.heap.size,3,none⟩ (.slice none 0 0)).setCell ⟨w.heap.size,4,none⟩ (.slice none 0 0)).setCell ⟨w.heap.size,5,none⟩ (.slice none 0 0))=wf at bS hk2 aX ⊢;obtain⟨q0,q1,q2,q3,q4,q5⟩:=bS.six;refine bodyPost_ret (v:=.agg #[.int .u8 100,.int .i64 0,.string ⟨#[]⟩,.slice none 0 0,.slice none 0 0,.slice none 0 0]) (by simp[results,results170,go_sem,q0,q1,q2,q3,q4,q5]) rfl ?_;rw[pI.out];exact⟨hk2,her,_,_,_,_,_,_,_,_,_,_,_,_,k2,rfl,hkk,h.to hk2 aX hS.gf⟩
 ·have pI:=az hre;clear hre HR;refine(HI.out _ sb yb rs ay lv ws k (lo+1) _ [⟨#[108,111,111,112]⟩] _ (by rw[DL];exact hp) (XA.kp ((Kp.refl _ _).alloc _)) (by omega) hE (by decide)).mono ?_;rintro x w3 ⟨hk3,v,Yp,k2,rfl,-,l8,rfl,hkk,iw⟩;have c4:w3.cell? ⟨sb,4,none⟩=some (.int .i64 ((lo+1:Nat):Int)):=iw.blk.cell rfl;have f4:=iw.blk.free 4;obtain⟨K6,hr3,-⟩:=l8.out;obtain⟨a3,p3,rfl⟩:=aB hr3;have EJ:=az l8;have hC:=(hk3.blk (hC'.alloc _) hcs).setOther (a:=⟨sb,4,none⟩) hcs (.int .i64 lo);have hkp:Kp w (w3.setCell ⟨sb,4,none⟩ (.int .i64 lo)) (λb=>b=sb):=((uv.alloc _).trans hk3).set (λ_=>rfl) _;have Ba:Kp w3 (w3.setCell ⟨sb,4,none⟩ (.int .i64 lo)) (λb=>b=sb\/b=w.heap.size):=(Kp.one _ _ _ _).mono (λ_ _ h=>.inl h);have je:=iw.blk;have hS:=iw.Ki lo;clear hp hk3 hC' uv XA hE HI iw hr3 l8;obtain⟨y0,y1,y2,y3,y4,y5⟩:=hC.six;obtain⟨z0,z1,z2,z3,z4,z5⟩:=hC.iT;go_wp2;have bS:=hC.dN (.int .u8 100) (.int .i64 0) (.string ⟨#[]⟩) (.slice a3 a.length p3) (.slice none 0 0) (.slice none 0 0);have hk2:=hkp.dN (ah _) (.int .u8 100) (.int .i64 0) (.string ⟨#[]⟩) (.slice a3 a.length p3) (.slice none 0 0) (.slice none 0 0);have aX:=hS.blk.dG (Ne.symm hcs) (.int .u8 100) (.int .i64 0) (.string ⟨#[]⟩) (.slice a3 a.length p3) (.slice none 0 0) (.slice none 0 0);have yJ:=Ba.vW (b:=w.heap.size) (.inr rfl) (.int .u8 100) (.int .i64 0) (.string ⟨#[]⟩) (.slice a3 a.length p3) (.slice none 0 0) (.slice none 0 0);generalize (((((((w3.setCell ⟨sb,4,none⟩ (.int .i64 lo)).setCell ⟨w.heap.size,0,none⟩ (.int .u8 100)).setCell ⟨w.heap.size,1,none⟩ (.int .i64 0)).setCell ⟨w.heap.size,2,none⟩ (.string ⟨#[]⟩)).setCell ⟨w.heap.size,3,none⟩ (.slice a3 a.length p3)).setCell ⟨w.heap.size,4,none⟩ (.slice none 0 0)).setCell ⟨w.heap.size,5,none⟩ (.slice none 0 0))=wf at bS hk2 aX yJ ⊢;obtain⟨q0,q1,q2,q3,q4,q5⟩:=bS.six;refine bodyPost_ret (v:=.agg #[.int .u8 100,.int .i64 0,.string ⟨#[]⟩,.slice a3 a.length p3,.slice none 0 0,.slice none 0 0]) (by simp[results,results170,go_sem,q0,q1,q2,q3,q4,q5]) rfl ?_;rw[pI.out];have hkeep:aF (New (w0.alloc (.cells #[.string ⟨#[108,111,111,112]⟩] 9))) (New w) w3 wf:=nU je yJ (by simp;omega) (by simp;omega);exact⟨hk2,_,⟨#[]⟩,_,_,_,k2,rfl,rfl,⟨rfl,EJ.out.keep hkeep,fE.nil _ _,ek.nil _ _,⟨Cu,by simp⟩⟩,rfl,hkk,h.to hk2 aX hS.gf⟩
theorem SC (w:World)(sb yb:Nat)(rs:RS)(ay:List Def)(lv:Value)(ws:List ByteArray)(k lo:Nat)(tb:ByteArray)(bT:bA tb.toList=none)(hpl:aN.any (· == tb.toList)=false)(b0:(tb.toList==[105,102])=true)(g:Nat)(IH:rB K g)(hlo:lo<k)(res:fh)(aG:aK (dW ay) (g+1) ⟨true,lo,[],FW⟩ ((aD ws).drop k)=some res)(h:bI K w sb yb rs ay lv ws k 0 lo):
  Calls prog 170 #[.pointer (some ⟨sb,0,none⟩),.string tb] w λx w'=>Kp w w' (λb=>b=sb)/\A8 K w sb yb rs ay lv ws k lo x w' (res):=by
 have HI:=az IH;have HR:=az (Oj aG);clear IH aG;have hsb:=h.blk.lt;have tq:=h.len;have hkl:=h.gf;go_enter func170,ntmps170
 go_wp2_with fail
 refine(dZ _ _).mono ?_;rintro e w' ⟨rfl,hw⟩;rw[hw,bR bT];clear hw
 go_wp2_with fail
 refine(cS _ _).mono ?_;rintro e w1 ⟨rfl,hk1⟩
 go_wp2_with fail
 refine(dQ _ _).mono ?_;rintro e w2 ⟨rfl,hk2⟩;have hkp:Kp w w2 (λb=>b=sb):=(((Kp.refl _ _).alloc _).trans (hk1.mono (λ_ _ h=>h.elim))).trans (hk2.mono (λ_ _ h=>h.elim));have hC:aC w2 w.heap.size 227 gK:=hk2.blk (hk1.blk (aC.new w _ _) (by simp)) (by simp);have hS:bI K w2 sb yb rs ay lv ws k 0 lo:=h.to hkp (hk2.blk (hk1.blk (h.blk.alloc _) (by simp)) (by simp)) h.gf;have hcs:¬w.heap.size=sb:=by omega
 clear hk1 hk2;have SA:=hkp.size;have Yo:=hC.lt;have hE:=aC.new w2 #[.string ⟨#[101,108,115,101]⟩,.string ⟨#[116,104,101,110]⟩] 9
 go_wp2_with fail
 rcases HR.out with⟨er,hp,hre⟩|⟨a,t1,r1,hp,hrest⟩
 ·have pI:=az hre;clear hre HR;refine(HI.out _ sb yb rs ay lv ws k lo _ [⟨#[101,108,115,101]⟩,⟨#[116,104,101,110]⟩] _ (by rw[O7];exact hp) (hS.kp ((Kp.refl _ _).alloc _)) (by omega) hE (by decide)).mono ?_;rintro x w3 ⟨hk3,her,k2,rfl,hkk,iw⟩
  replace hC:=hk3.blk (hC.alloc _) hcs
  replace hkp:=(hkp.alloc _).trans hk3
  have je:=iw.blk;have za:=iw.gf;clear hp hk3 hS hE HI iw
  replace hC:=hC.alloc (.cells #[.int .u8 63,.int .i64 0,.string ⟨#[]⟩,.slice none 0 0,.slice none 0 0,.slice none 0 0] 227)
  replace hkp:=hkp.alloc (.cells #[.int .u8 63,.int .i64 0,.string ⟨#[]⟩,.slice none 0 0,.slice none 0 0,.slice none 0 0] 227)
  replace je:=je.alloc (.cells #[.int .u8 63,.int .i64 0,.string ⟨#[]⟩,.slice none 0 0,.slice none 0 0,.slice none 0 0] 227)
  obtain⟨y0,y1,y2,y3,y4,y5⟩:=hC.six;obtain⟨z0,z1,z2,z3,z4,z5⟩:=hC.iT;go_wp2;have bS:=hC.dN (.int .u8 63) (.int .i64 0) (.string ⟨#[]⟩) (.slice none 0 0) (.slice none 0 0) (.slice none 0 0);have hk2:=hkp.dN (ah _) (.int .u8 63) (.int .i64 0) (.string ⟨#[]⟩) (.slice none 0 0) (.slice none 0 0) (.slice none 0 0);have aX:=je.dG (Ne.symm hcs) (.int .u8 63) (.int .i64 0) (.string ⟨#[]⟩) (.slice none 0 0) (.slice none 0 0) (.slice none 0 0);generalize (((((((w3.alloc (.cells #[.int .u8 63,.int .i64 0,.string ⟨#[]⟩,.slice none 0 0,.slice none 0 0,.slice none 0 0] 227)).setCell ⟨w.heap.size,0,none⟩ (.int .u8 63)).setCell ⟨w.heap.size,1,none⟩ (.int .i64 0)).setCell ⟨w.heap.size,2,none⟩ (.string ⟨#[]⟩)).setCell ⟨w.heap.size,3,none⟩ (.slice none 0 0)).setCell ⟨w.heap.size,4,none⟩ (.slice none 0 0)).setCell ⟨w.heap.size,5,none⟩ (.slice none 0 0))=wf at bS hk2 aX ⊢;obtain⟨q0,q1,q2,q3,q4,q5⟩:=bS.six;refine bodyPost_ret (v:=.agg #[.int .u8 63,.int .i64 0,.string ⟨#[]⟩,.slice none 0 0,.slice none 0 0,.slice none 0 0]) (by simp[results,results170,go_sem,q0,q1,q2,q3,q4,q5]) rfl ?_;rw[pI.out];exact⟨hk2,her,_,_,_,_,_,_,_,_,_,_,_,_,k2,rfl,hkk,h.to hk2 aX za⟩
 ·have Ja:=az hrest;clear hrest HR;refine(HI.out _ sb yb rs ay lv ws k lo _ [⟨#[101,108,115,101]⟩,⟨#[116,104,101,110]⟩] _ (by rw[O7];exact hp) (hS.kp ((Kp.refl _ _).alloc _)) (by omega) hE (by decide)).mono ?_;rintro x w3 ⟨hk3,v,Yp,k2,rfl,htb,l8,rfl,hkk,iw⟩;have XC:=az htb;obtain⟨K6,hr3,-⟩:=l8.out;obtain⟨a3,p3,rfl⟩:=aB hr3;have EJ:=az l8
  replace hC:=hk3.blk (hC.alloc _) hcs
  replace hkp:=(hkp.alloc _).trans hk3
  have je:=iw.blk;have za:=iw.gf;have abk:=hkp.size;have XE:w2.heap.size+1<=w3.heap.size:=by have:=hk3.size;simpa using this
  clear hp hk3 hS hE hr3 l8 htb
  cases hend:(Yp.toList==[101,108,115,101])
  ·have hne:¬t1=eY:=by rw[<-XC.out,<-ByteArray.toList_eq];simpa [eY] using hend
   have pI:Hid (res=.ok ([⟨63,0,[],a,[],[]⟩],[],(aD ws).drop k2)):=by
    rcases Ja.out with⟨h1,_⟩|⟨_,h1⟩
    ·exact ax h1 hne
    ·exact h1
   clear hne Ja HI iw;have Ba:Kp w3 w3 (λb=>b=sb\/b=w.heap.size):=Kp.refl _ _
   replace hC:=hC.alloc (.cells #[.int .u8 63,.int .i64 0,.string ⟨#[]⟩,.slice a3 a.length p3,.slice none 0 0,.slice none 0 0] 227)
   replace hkp:=hkp.alloc (.cells #[.int .u8 63,.int .i64 0,.string ⟨#[]⟩,.slice a3 a.length p3,.slice none 0 0,.slice none 0 0] 227)
   have hB4:=je.alloc (.cells #[.int .u8 63,.int .i64 0,.string ⟨#[]⟩,.slice a3 a.length p3,.slice none 0 0,.slice none 0 0] 227)
   replace Ba:=Ba.alloc (.cells #[.int .u8 63,.int .i64 0,.string ⟨#[]⟩,.slice a3 a.length p3,.slice none 0 0,.slice none 0 0] 227)
   obtain⟨y0,y1,y2,y3,y4,y5⟩:=hC.six;obtain⟨z0,z1,z2,z3,z4,z5⟩:=hC.iT;go_wp2;have bS:=hC.dN (.int .u8 63) (.int .i64 0) (.string ⟨#[]⟩) (.slice a3 a.length p3) (.slice none 0 0) (.slice none 0 0);have hk2:=hkp.dN (ah _) (.int .u8 63) (.int .i64 0) (.string ⟨#[]⟩) (.slice a3 a.length p3) (.slice none 0 0) (.slice none 0 0);have aX:=hB4.dG (Ne.symm hcs) (.int .u8 63) (.int .i64 0) (.string ⟨#[]⟩) (.slice a3 a.length p3) (.slice none 0 0) (.slice none 0 0);have yJ:=Ba.vW (b:=w.heap.size) (.inr rfl) (.int .u8 63) (.int .i64 0) (.string ⟨#[]⟩) (.slice a3 a.length p3) (.slice none 0 0) (.slice none 0 0);generalize (((((((w3.alloc (.cells #[.int .u8 63,.int .i64 0,.string ⟨#[]⟩,.slice a3 a.length p3,.slice none 0 0,.slice none 0 0] 227)).setCell ⟨w.heap.size,0,none⟩ (.int .u8 63)).setCell ⟨w.heap.size,1,none⟩ (.int .i64 0)).setCell ⟨w.heap.size,2,none⟩ (.string ⟨#[]⟩)).setCell ⟨w.heap.size,3,none⟩ (.slice a3 a.length p3)).setCell ⟨w.heap.size,4,none⟩ (.slice none 0 0)).setCell ⟨w.heap.size,5,none⟩ (.slice none 0 0))=wf at bS hk2 aX yJ ⊢;obtain⟨q0,q1,q2,q3,q4,q5⟩:=bS.six;refine bodyPost_ret (v:=.agg #[.int .u8 63,.int .i64 0,.string ⟨#[]⟩,.slice a3 a.length p3,.slice none 0 0,.slice none 0 0]) (by simp[results,results170,go_sem,q0,q1,q2,q3,q4,q5]) rfl ?_;rw[pI.out];have hkeep:aF (New (w2.alloc (.cells #[.string ⟨#[101,108,115,101]⟩,.string ⟨#[116,104,101,110]⟩] 9))) (New w) w3 wf:=nU je yJ (by simp;omega) (by simp;omega);exact⟨hk2,_,⟨#[]⟩,_,_,_,k2,rfl,rfl,⟨rfl,EJ.out.keep hkeep,fE.nil _ _,ek.nil _ _,⟨Cu,by simp⟩⟩,rfl,hkk,h.to hk2 aX za⟩
  ·have heq:t1=eY:=by rw[<-XC.out,<-ByteArray.toList_eq];simpa [eY] using hend
   have hrest:(∃e,aK (dW ay) g ⟨false,lo,[dF],[]⟩ ((aD ws).drop k2)=some (.error e)/\res=.error e)\/(∃b t2 r2,aK (dW ay) g ⟨false,lo,[dF],[]⟩ ((aD ws).drop k2)=some (.ok (b,t2,r2))/\res=.ok ([⟨63,0,[],a,b,[]⟩],[],r2)):=by
    rcases Ja.out with⟨_,h1⟩|⟨h1,_⟩
    ·exact h1
    ·exact ax heq h1
   clear heq Ja;have hX:=aC.new w3 #[.int .u8 63,.int .i64 0,.string ⟨#[]⟩,.slice a3 a.length p3,.slice none 0 0,.slice none 0 0] 227;have hE:=aC.new (w3.alloc (.cells #[.int .u8 63,.int .i64 0,.string ⟨#[]⟩,.slice a3 a.length p3,.slice none 0 0,.slice none 0 0] 227)) #[.string ⟨#[116,104,101,110]⟩] 9;rw[show(w3.alloc (.cells #[.int .u8 63,.int .i64 0,.string ⟨#[]⟩,.slice a3 a.length p3,.slice none 0 0,.slice none 0 0] 227)).heap.size=w3.heap.size+1 by simp] at hE;have N3:=(iw.kp ((Kp.refl _ _).alloc (.cells #[.int .u8 63,.int .i64 0,.string ⟨#[]⟩,.slice a3 a.length p3,.slice none 0 0,.slice none 0 0] 227))).kp ((Kp.refl _ _).alloc (.cells #[.string ⟨#[116,104,101,110]⟩] 9));have N4:=(hC.alloc (.cells #[.int .u8 63,.int .i64 0,.string ⟨#[]⟩,.slice a3 a.length p3,.slice none 0 0,.slice none 0 0] 227)).alloc (.cells #[.string ⟨#[116,104,101,110]⟩] 9);have fH:=(hkp.alloc (.cells #[.int .u8 63,.int .i64 0,.string ⟨#[]⟩,.slice a3 a.length p3,.slice none 0 0,.slice none 0 0] 227)).alloc (.cells #[.string ⟨#[116,104,101,110]⟩] 9);have Ba:Kp w3 ((w3.alloc (.cells #[.int .u8 63,.int .i64 0,.string ⟨#[]⟩,.slice a3 a.length p3,.slice none 0 0,.slice none 0 0] 227)).alloc (.cells #[.string ⟨#[116,104,101,110]⟩] 9)) (λb=>b=sb\/b=w.heap.size):=((Kp.refl _ _).alloc _).alloc _;have Yq:=hX.alloc (.cells #[.string ⟨#[116,104,101,110]⟩] 9);have hxs:¬w3.heap.size=sb:=by omega
   have hxr:¬w3.heap.size=w.heap.size:=by omega
   go_wp2_with fail
   rcases hrest with⟨er,hp2,hre⟩|⟨b,t2,r2,hp2,hre⟩
   ·have pI:=az hre;clear hre;refine(HI.out _ sb yb rs ay lv ws k2 lo _ [⟨#[116,104,101,110]⟩] _ (by rw[DM];exact hp2) N3 (by omega) hE (by decide)).mono ?_;rintro x w5 ⟨fS,her,k3,rfl,SD,Ak⟩
    replace hC:=fS.blk N4 hcs
    replace hkp:=fH.trans fS
    have wM:=Ak.blk;have CQ:=Ak.gf
    replace hX:=fS.blk Yq hxs
    clear hp2 fS hE HI Ak N3 N4 fH Yq iw;obtain⟨x0,x1,x2,x3,x4,x5⟩:=hX.six;have xf:=hX.free 4
    replace hC:=hC.setOther (a:=⟨w3.heap.size,4,none⟩) (Ne.symm hxr) (.slice none 0 0)
    replace hkp:=hkp.set (a:=⟨w3.heap.size,4,none⟩) (λhlt=>ax hlt (by show ¬(w3.heap.size<w.heap.size);omega)) (.slice none 0 0)
    have SE:=wM.setOther (a:=⟨w3.heap.size,4,none⟩) (Ne.symm hxs) (.slice none 0 0);obtain⟨y0,y1,y2,y3,y4,y5⟩:=hC.six;obtain⟨z0,z1,z2,z3,z4,z5⟩:=hC.iT;go_wp2;have bS:=hC.dN (.int .u8 63) (.int .i64 0) (.string ⟨#[]⟩) (.slice a3 a.length p3) (.slice none 0 0) (.slice none 0 0);have hk2:=hkp.dN (ah _) (.int .u8 63) (.int .i64 0) (.string ⟨#[]⟩) (.slice a3 a.length p3) (.slice none 0 0) (.slice none 0 0);have aX:=SE.dG (Ne.symm hcs) (.int .u8 63) (.int .i64 0) (.string ⟨#[]⟩) (.slice a3 a.length p3) (.slice none 0 0) (.slice none 0 0);generalize (((((((w5.setCell ⟨w3.heap.size,4,none⟩ (.slice none 0 0)).setCell ⟨w.heap.size,0,none⟩ (.int .u8 63)).setCell ⟨w.heap.size,1,none⟩ (.int .i64 0)).setCell ⟨w.heap.size,2,none⟩ (.string ⟨#[]⟩)).setCell ⟨w.heap.size,3,none⟩ (.slice a3 a.length p3)).setCell ⟨w.heap.size,4,none⟩ (.slice none 0 0)).setCell ⟨w.heap.size,5,none⟩ (.slice none 0 0))=wf at bS hk2 aX ⊢;obtain⟨q0,q1,q2,q3,q4,q5⟩:=bS.six;refine bodyPost_ret (v:=.agg #[.int .u8 63,.int .i64 0,.string ⟨#[]⟩,.slice a3 a.length p3,.slice none 0 0,.slice none 0 0]) (by simp[results,results170,go_sem,q0,q1,q2,q3,q4,q5]) rfl ?_;rw[pI.out];exact⟨hk2,her,_,_,_,_,_,_,_,_,_,_,_,_,k3,rfl,by omega,h.to hk2 aX CQ⟩
   ·have pI:=az hre;clear hre;refine(HI.out _ sb yb rs ay lv ws k2 lo _ [⟨#[116,104,101,110]⟩] _ (by rw[DM];exact hp2) N3 (by omega) hE (by decide)).mono ?_;rintro x w5 ⟨fS,v2,tb2,k3,rfl,-,CR,rfl,SD,Ak⟩;obtain⟨xs5,js,-⟩:=CR.out;obtain⟨a5,p5,rfl⟩:=aB js;have HB5:=az CR
    replace hC:=fS.blk N4 hcs
    replace hkp:=fH.trans fS
    replace Ba:=Ba.trans (fS.mono (λ_ _ h=>.inl h))
    have wM:=Ak.blk;have CQ:=Ak.gf;have Wd:=fS.size
    replace hX:=fS.blk Yq hxs
    have SF:Kp w5 (w5.setCell ⟨w3.heap.size,4,none⟩ (.slice a5 b.length p5)) (λb=>b=sb\/b=w.heap.size\/b=w3.heap.size):=(Kp.one _ _ _ _).mono (λ_ _ h=>.inr (.inr h));clear hp2 fS hE HI Ak N3 N4 fH Yq iw js CR;obtain⟨x0,x1,x2,x3,x4,x5⟩:=hX.six;have xf:=hX.free 4
    replace hC:=hC.setOther (a:=⟨w3.heap.size,4,none⟩) (Ne.symm hxr) (.slice a5 b.length p5)
    replace hkp:=hkp.set (a:=⟨w3.heap.size,4,none⟩) (λhlt=>ax hlt (by show ¬(w3.heap.size<w.heap.size);omega)) (.slice a5 b.length p5)
    replace Ba:=Ba.set (a:=⟨w3.heap.size,4,none⟩) (λhlt=>ax hlt (by show ¬(w3.heap.size<w3.heap.size);omega)) (.slice a5 b.length p5)
    have SE:=wM.setOther (a:=⟨w3.heap.size,4,none⟩) (Ne.symm hxs) (.slice a5 b.length p5);obtain⟨y0,y1,y2,y3,y4,y5⟩:=hC.six;obtain⟨z0,z1,z2,z3,z4,z5⟩:=hC.iT;go_wp2;have bS:=hC.dN (.int .u8 63) (.int .i64 0) (.string ⟨#[]⟩) (.slice a3 a.length p3) (.slice a5 b.length p5) (.slice none 0 0);have hk2:=hkp.dN (ah _) (.int .u8 63) (.int .i64 0) (.string ⟨#[]⟩) (.slice a3 a.length p3) (.slice a5 b.length p5) (.slice none 0 0);have aX:=SE.dG (Ne.symm hcs) (.int .u8 63) (.int .i64 0) (.string ⟨#[]⟩) (.slice a3 a.length p3) (.slice a5 b.length p5) (.slice none 0 0);have yJ:=Ba.vW (b:=w.heap.size) (.inr rfl) (.int .u8 63) (.int .i64 0) (.string ⟨#[]⟩) (.slice a3 a.length p3) (.slice a5 b.length p5) (.slice none 0 0);have Kt:=SF.vW (b:=w.heap.size) (.inr (.inl rfl)) (.int .u8 63) (.int .i64 0) (.string ⟨#[]⟩) (.slice a3 a.length p3) (.slice a5 b.length p5) (.slice none 0 0);generalize (((((((w5.setCell ⟨w3.heap.size,4,none⟩ (.slice a5 b.length p5)).setCell ⟨w.heap.size,0,none⟩ (.int .u8 63)).setCell ⟨w.heap.size,1,none⟩ (.int .i64 0)).setCell ⟨w.heap.size,2,none⟩ (.string ⟨#[]⟩)).setCell ⟨w.heap.size,3,none⟩ (.slice a3 a.length p3)).setCell ⟨w.heap.size,4,none⟩ (.slice a5 b.length p5)).setCell ⟨w.heap.size,5,none⟩ (.slice none 0 0))=wf at bS hk2 aX yJ Kt ⊢;obtain⟨q0,q1,q2,q3,q4,q5⟩:=bS.six;refine bodyPost_ret (v:=.agg #[.int .u8 63,.int .i64 0,.string ⟨#[]⟩,.slice a3 a.length p3,.slice a5 b.length p5,.slice none 0 0]) (by simp[results,results170,go_sem,q0,q1,q2,q3,q4,q5]) rfl ?_;rw[pI.out];have hkeep:aF (New (w2.alloc (.cells #[.string ⟨#[101,108,115,101]⟩,.string ⟨#[116,104,101,110]⟩] 9))) (New w) w3 wf:=nU je yJ (by simp;omega) (by simp;omega);have qC:aF (New ((w3.alloc (.cells #[.int .u8 63,.int .i64 0,.string ⟨#[]⟩,.slice a3 a.length p3,.slice none 0 0,.slice none 0 0] 227)).alloc (.cells #[.string ⟨#[116,104,101,110]⟩] 9))) (New w) w5 wf:=aF.of Kt (λq t c hb hbl ht=>by
     have hb:((w3.alloc (.cells #[.int .u8 63,.int .i64 0,.string ⟨#[]⟩,.slice a3 a.length p3,.slice none 0 0,.slice none 0 0] 227)).alloc (.cells #[.string ⟨#[116,104,101,110]⟩] 9)).heap.size<=q:=hb;simp at hb;rintro (e|e|e)
     ·exact Ks wM hbl ht e
     ·omega
     ·omega) (λq hb _=>by have hb:((w3.alloc (.cells #[.int .u8 63,.int .i64 0,.string ⟨#[]⟩,.slice a3 a.length p3,.slice none 0 0,.slice none 0 0] 227)).alloc (.cells #[.string ⟨#[116,104,101,110]⟩] 9)).heap.size<=q:=hb;simp at hb;show w.heap.size<=q;omega)
    exact⟨hk2,_,⟨#[]⟩,_,_,_,k3,rfl,rfl,⟨rfl,EJ.out.keep hkeep,HB5.out.keep qC,ek.nil _ _,⟨Cu,by simp⟩⟩,rfl,by omega,h.to hk2 aX CQ⟩
theorem FV (w:World)(sb yb:Nat)(rs:RS)(ay:List Def)(lv:Value)(ws:List ByteArray)(k lo:Nat)(tb:ByteArray)(bT:bA tb.toList=none)(hpl:aN.any (· == tb.toList)=false)(b0:(tb.toList==[105,102])=false)(b1:(tb.toList==[98,101,103,105,110])=true)(g:Nat)(IH:rB K g)(hlo:lo<k)(res:fh)(aG:aK (dW ay) (g+1) ⟨true,lo,[],jf⟩ ((aD ws).drop k)=some res)(h:bI K w sb yb rs ay lv ws k 0 lo):
  Calls prog 170 #[.pointer (some ⟨sb,0,none⟩),.string tb] w λx w'=>Kp w w' (λb=>b=sb)/\A8 K w sb yb rs ay lv ws k lo x w' (res):=by
 have HI:=az IH;have HR:=az (zL aG);clear IH aG;have hsb:=h.blk.lt;have tq:=h.len;have hkl:=h.gf;go_enter func170,ntmps170
 go_wp2_with fail
 refine(dZ _ _).mono ?_;rintro e w' ⟨rfl,hw⟩;rw[hw,bR bT];clear hw
 go_wp2_with fail
 refine(cS _ _).mono ?_;rintro e w1 ⟨rfl,hk1⟩
 go_wp2_with fail
 refine(dQ _ _).mono ?_;rintro e w2 ⟨rfl,hk2⟩;have hkp:Kp w w2 (λb=>b=sb):=(((Kp.refl _ _).alloc _).trans (hk1.mono (λ_ _ h=>h.elim))).trans (hk2.mono (λ_ _ h=>h.elim));have hC:aC w2 w.heap.size 227 gK:=hk2.blk (hk1.blk (aC.new w _ _) (by simp)) (by simp);have hS:bI K w2 sb yb rs ay lv ws k 0 lo:=h.to hkp (hk2.blk (hk1.blk (h.blk.alloc _) (by simp)) (by simp)) h.gf;have hcs:¬w.heap.size=sb:=by omega
 clear hk1 hk2;have SA:=hkp.size;have Yo:=hC.lt;have hE:=aC.new w2 #[.string ⟨#[117,110,116,105,108]⟩,.string ⟨#[119,104,105,108,101]⟩] 9
 go_wp2_with fail
 rcases HR.out with⟨er,hp,hre⟩|⟨a,t1,r1,hp,hrest⟩
 ·have pI:=az hre;clear hre HR;refine(HI.out _ sb yb rs ay lv ws k lo _ [⟨#[117,110,116,105,108]⟩,⟨#[119,104,105,108,101]⟩] _ (by rw[A9];exact hp) (hS.kp ((Kp.refl _ _).alloc _)) (by omega) hE (by decide)).mono ?_;rintro x w3 ⟨hk3,her,k2,rfl,hkk,iw⟩
  replace hC:=hk3.blk (hC.alloc _) hcs
  replace hkp:=(hkp.alloc _).trans hk3
  have je:=iw.blk;have za:=iw.gf;clear hp hk3 hS hE HI iw;obtain⟨y0,y1,y2,y3,y4,y5⟩:=hC.six;obtain⟨z0,z1,z2,z3,z4,z5⟩:=hC.iT;go_wp2;have bS:=hC.dN (.int .u8 117) (.int .i64 0) (.string ⟨#[]⟩) (.slice none 0 0) (.slice none 0 0) (.slice none 0 0);have hk2:=hkp.dN (ah _) (.int .u8 117) (.int .i64 0) (.string ⟨#[]⟩) (.slice none 0 0) (.slice none 0 0) (.slice none 0 0);have aX:=je.dG (Ne.symm hcs) (.int .u8 117) (.int .i64 0) (.string ⟨#[]⟩) (.slice none 0 0) (.slice none 0 0) (.slice none 0 0);generalize ((((((w3.setCell ⟨w.heap.size,0,none⟩ (.int .u8 117)).setCell ⟨w.heap.size,1,none⟩ (.int .i64 0)).setCell ⟨w.heap.size,2,none⟩ (.string ⟨#[]⟩)).setCell ⟨w.heap.size,3,none⟩ (.slice none 0 0)).setCell ⟨w.heap.size,4,none⟩ (.slice none 0 0)).setCell ⟨w.heap.size,5,none⟩ (.slice none 0 0))=wf at bS hk2 aX ⊢;obtain⟨q0,q1,q2,q3,q4,q5⟩:=bS.six;refine bodyPost_ret (v:=.agg #[.int .u8 117,.int .i64 0,.string ⟨#[]⟩,.slice none 0 0,.slice none 0 0,.slice none 0 0]) (by simp[results,results170,go_sem,q0,q1,q2,q3,q4,q5]) rfl ?_;rw[pI.out];exact⟨hk2,her,_,_,_,_,_,_,_,_,_,_,_,_,k2,rfl,hkk,h.to hk2 aX za⟩
 ·have Ja:=az hrest;clear hrest HR;refine(HI.out _ sb yb rs ay lv ws k lo _ [⟨#[117,110,116,105,108]⟩,⟨#[119,104,105,108,101]⟩] _ (by rw[A9];exact hp) (hS.kp ((Kp.refl _ _).alloc _)) (by omega) hE (by decide)).mono ?_;rintro x w3 ⟨hk3,v,Yp,k2,rfl,htb,l8,rfl,hkk,iw⟩;have XC:=az htb;obtain⟨K6,hr3,-⟩:=l8.out;obtain⟨a3,p3,rfl⟩:=aB hr3;have EJ:=az l8
  replace hC:=hk3.blk (hC.alloc _) hcs
  replace hkp:=(hkp.alloc _).trans hk3
  have je:=iw.blk;have za:=iw.gf;have abk:=hkp.size;have XE:w2.heap.size+1<=w3.heap.size:=by have:=hk3.size;simpa using this
  clear hp hk3 hS hE hr3 l8 htb
  cases hend:(Yp.toList==[119,104,105,108,101])
  ·have hne:¬t1=di:=by rw[<-XC.out,<-ByteArray.toList_eq];simpa [di] using hend
   have pI:Hid (res=.ok ([⟨117,0,[],a,[],[]⟩],[],(aD ws).drop k2)):=by
    rcases Ja.out with⟨h1,_⟩|⟨_,h1⟩
    ·exact ax h1 hne
    ·exact h1
   clear hne Ja HI iw;have Ba:Kp w3 w3 (λb=>b=sb\/b=w.heap.size):=Kp.refl _ _;have hB4:=je;obtain⟨y0,y1,y2,y3,y4,y5⟩:=hC.six;obtain⟨z0,z1,z2,z3,z4,z5⟩:=hC.iT;go_wp2;have bS:=hC.dN (.int .u8 117) (.int .i64 0) (.string ⟨#[]⟩) (.slice a3 a.length p3) (.slice none 0 0) (.slice none 0 0);have hk2:=hkp.dN (ah _) (.int .u8 117) (.int .i64 0) (.string ⟨#[]⟩) (.slice a3 a.length p3) (.slice none 0 0) (.slice none 0 0);have aX:=hB4.dG (Ne.symm hcs) (.int .u8 117) (.int .i64 0) (.string ⟨#[]⟩) (.slice a3 a.length p3) (.slice none 0 0) (.slice none 0 0);have yJ:=Ba.vW (b:=w.heap.size) (.inr rfl) (.int .u8 117) (.int .i64 0) (.string ⟨#[]⟩) (.slice a3 a.length p3) (.slice none 0 0) (.slice none 0 0);generalize ((((((w3.setCell ⟨w.heap.size,0,none⟩ (.int .u8 117)).setCell ⟨w.heap.size,1,none⟩ (.int .i64 0)).setCell ⟨w.heap.size,2,none⟩ (.string ⟨#[]⟩)).setCell ⟨w.heap.size,3,none⟩ (.slice a3 a.length p3)).setCell ⟨w.heap.size,4,none⟩ (.slice none 0 0)).setCell ⟨w.heap.size,5,none⟩ (.slice none 0 0))=wf at bS hk2 aX yJ ⊢;obtain⟨q0,q1,q2,q3,q4,q5⟩:=bS.six;refine bodyPost_ret (v:=.agg #[.int .u8 117,.int .i64 0,.string ⟨#[]⟩,.slice a3 a.length p3,.slice none 0 0,.slice none 0 0]) (by simp[results,results170,go_sem,q0,q1,q2,q3,q4,q5]) rfl ?_;rw[pI.out];have hkeep:aF (New (w2.alloc (.cells #[.string ⟨#[117,110,116,105,108]⟩,.string ⟨#[119,104,105,108,101]⟩] 9))) (New w) w3 wf:=nU je yJ (by simp;omega) (by simp;omega);exact⟨hk2,_,⟨#[]⟩,_,_,_,k2,rfl,rfl,⟨rfl,EJ.out.keep hkeep,fE.nil _ _,ek.nil _ _,⟨Cu,by simp⟩⟩,rfl,hkk,h.to hk2 aX za⟩
  ·have heq:t1=di:=by rw[<-XC.out,<-ByteArray.toList_eq];simpa [di] using hend
   have hrest:(∃e,aK (dW ay) g ⟨false,lo,[gj],[]⟩ ((aD ws).drop k2)=some (.error e)/\res=.error e)\/(∃b t2 r2,aK (dW ay) g ⟨false,lo,[gj],[]⟩ ((aD ws).drop k2)=some (.ok (b,t2,r2))/\res=.ok ([⟨119,0,[],a,b,[]⟩],[],r2)):=by
    rcases Ja.out with⟨_,h1⟩|⟨h1,_⟩
    ·exact h1
    ·exact ax heq h1
   clear heq Ja;have hE:=aC.new w3 #[.string ⟨#[114,101,112,101,97,116]⟩] 9;have N3:=iw.kp ((Kp.refl _ _).alloc (.cells #[.string ⟨#[114,101,112,101,97,116]⟩] 9));have N4:=hC.alloc (.cells #[.string ⟨#[114,101,112,101,97,116]⟩] 9);have fH:=hkp.alloc (.cells #[.string ⟨#[114,101,112,101,97,116]⟩] 9);have Ba:Kp w3 (w3.alloc (.cells #[.string ⟨#[114,101,112,101,97,116]⟩] 9)) (λb=>b=sb\/b=w.heap.size):=(Kp.refl _ _).alloc _
   go_wp2_with fail
   rcases hrest with⟨er,hp2,hre⟩|⟨b,t2,r2,hp2,hre⟩
   ·have pI:=az hre;clear hre;refine(HI.out _ sb yb rs ay lv ws k2 lo _ [⟨#[114,101,112,101,97,116]⟩] _ (by rw[x9];exact hp2) N3 (by omega) hE (by decide)).mono ?_;rintro x w5 ⟨fS,her,k3,rfl,SD,Ak⟩
    replace hC:=fS.blk N4 hcs
    replace hkp:=fH.trans fS
    have wM:=Ak.blk;have CQ:=Ak.gf;clear hp2 fS hE HI Ak N3 N4 fH iw;have SE:=wM;obtain⟨y0,y1,y2,y3,y4,y5⟩:=hC.six;obtain⟨z0,z1,z2,z3,z4,z5⟩:=hC.iT;go_wp2;have bS:=hC.dN (.int .u8 119) (.int .i64 0) (.string ⟨#[]⟩) (.slice a3 a.length p3) (.slice none 0 0) (.slice none 0 0);have hk2:=hkp.dN (ah _) (.int .u8 119) (.int .i64 0) (.string ⟨#[]⟩) (.slice a3 a.length p3) (.slice none 0 0) (.slice none 0 0);have aX:=SE.dG (Ne.symm hcs) (.int .u8 119) (.int .i64 0) (.string ⟨#[]⟩) (.slice a3 a.length p3) (.slice none 0 0) (.slice none 0 0);generalize ((((((w5.setCell ⟨w.heap.size,0,none⟩ (.int .u8 119)).setCell ⟨w.heap.size,1,none⟩ (.int .i64 0)).setCell ⟨w.heap.size,2,none⟩ (.string ⟨#[]⟩)).setCell ⟨w.heap.size,3,none⟩ (.slice a3 a.length p3)).setCell ⟨w.heap.size,4,none⟩ (.slice none 0 0)).setCell ⟨w.heap.size,5,none⟩ (.slice none 0 0))=wf at bS hk2 aX ⊢;obtain⟨q0,q1,q2,q3,q4,q5⟩:=bS.six;refine bodyPost_ret (v:=.agg #[.int .u8 119,.int .i64 0,.string ⟨#[]⟩,.slice a3 a.length p3,.slice none 0 0,.slice none 0 0]) (by simp[results,results170,go_sem,q0,q1,q2,q3,q4,q5]) rfl ?_;rw[pI.out];exact⟨hk2,her,_,_,_,_,_,_,_,_,_,_,_,_,k3,rfl,by omega,h.to hk2 aX CQ⟩
   ·have pI:=az hre;clear hre;refine(HI.out _ sb yb rs ay lv ws k2 lo _ [⟨#[114,101,112,101,97,116]⟩] _ (by rw[x9];exact hp2) N3 (by omega) hE (by decide)).mono ?_;rintro x w5 ⟨fS,v2,tb2,k3,rfl,-,CR,rfl,SD,Ak⟩;obtain⟨xs5,js,-⟩:=CR.out;obtain⟨a5,p5,rfl⟩:=aB js;have HB5:=az CR
    replace hC:=fS.blk N4 hcs
    replace hkp:=fH.trans fS
    replace Ba:=Ba.trans (fS.mono (λ_ _ h=>.inl h))
    have wM:=Ak.blk;have CQ:=Ak.gf;have Wd:=fS.size;have SF:Kp w5 w5 (λb=>b=sb\/b=w.heap.size):=Kp.refl _ _;clear hp2 fS hE HI Ak N3 N4 fH iw js CR;have SE:=wM;obtain⟨y0,y1,y2,y3,y4,y5⟩:=hC.six;obtain⟨z0,z1,z2,z3,z4,z5⟩:=hC.iT;go_wp2;have bS:=hC.dN (.int .u8 119) (.int .i64 0) (.string ⟨#[]⟩) (.slice a3 a.length p3) (.slice a5 b.length p5) (.slice none 0 0);have hk2:=hkp.dN (ah _) (.int .u8 119) (.int .i64 0) (.string ⟨#[]⟩) (.slice a3 a.length p3) (.slice a5 b.length p5) (.slice none 0 0);have aX:=SE.dG (Ne.symm hcs) (.int .u8 119) (.int .i64 0) (.string ⟨#[]⟩) (.slice a3 a.length p3) (.slice a5 b.length p5) (.slice none 0 0);have yJ:=Ba.vW (b:=w.heap.size) (.inr rfl) (.int .u8 119) (.int .i64 0) (.string ⟨#[]⟩) (.slice a3 a.length p3) (.slice a5 b.length p5) (.slice none 0 0);have Kt:=SF.vW (b:=w.heap.size) (.inr rfl) (.int .u8 119) (.int .i64 0) (.string ⟨#[]⟩) (.slice a3 a.length p3) (.slice a5 b.length p5) (.slice none 0 0);generalize ((((((w5.setCell ⟨w.heap.size,0,none⟩ (.int .u8 119)).setCell ⟨w.heap.size,1,none⟩ (.int .i64 0)).setCell ⟨w.heap.size,2,none⟩ (.string ⟨#[]⟩)).setCell ⟨w.heap.size,3,none⟩ (.slice a3 a.length p3)).setCell ⟨w.heap.size,4,none⟩ (.slice a5 b.length p5)).setCell ⟨w.heap.size,5,none⟩ (.slice none 0 0))=wf at bS hk2 aX yJ Kt ⊢;obtain⟨q0,q1,q2,q3,q4,q5⟩:=bS.six;refine bodyPost_ret (v:=.agg #[.int .u8 119,.int .i64 0,.string ⟨#[]⟩,.slice a3 a.length p3,.slice a5 b.length p5,.slice none 0 0]) (by simp[results,results170,go_sem,q0,q1,q2,q3,q4,q5]) rfl ?_;rw[pI.out];have hkeep:aF (New (w2.alloc (.cells #[.string ⟨#[117,110,116,105,108]⟩,.string ⟨#[119,104,105,108,101]⟩] 9))) (New w) w3 wf:=nU je yJ (by simp;omega) (by simp;omega);have qC:aF (New (w3.alloc (.cells #[.string ⟨#[114,101,112,101,97,116]⟩] 9))) (New w) w5 wf:=nU wM Kt (by simp;omega) (by simp;omega);exact⟨hk2,_,⟨#[]⟩,_,_,_,k3,rfl,rfl,⟨rfl,EJ.out.keep hkeep,HB5.out.keep qC,ek.nil _ _,⟨Cu,by simp⟩⟩,rfl,by omega,h.to hk2 aX CQ⟩
end
section
open Go.RowKit
variable {K:Nat->Prop}
theorem Bb {tb:ByteArray}{k:Tok}(h:(tb.toList==k)=true):tb.data.toList=k:=by
 rw[ByteArray.toList_eq] at h;simpa using h
theorem XF (G:Nat)(IH:∀g,g<G->rB K g):CP K G:=by
 intro w sb yb rs ay lv ws k lo tb res aG h hlo
 cases G with
 | zero=>rw[pI0] at aG;cases aG
 | succ g=>
 have hI:=IH g (by omega);have te:=ByteArray.toList_eq tb
 cases bT:bA tb.toList with
 | some n=>
  rw[<-te,GY bT] at aG;injection aG with aG;subst aG;exact N1 w sb yb rs ay lv ws k lo tb n bT h
 | none=>
 cases hpl:aN.any (· == tb.toList) with
 | true=>
  rw[<-te,zO bT hpl,te] at aG;injection aG with aG;subst aG;exact FP w sb yb rs ay lv ws k lo tb bT hpl h
 | false=>
 cases b0:(tb.toList==[105,102]) with
 | true=>
  rw[Bb b0] at aG;exact SC w sb yb rs ay lv ws k lo tb bT hpl b0 g hI hlo res aG h
 | false=>
 cases b1:(tb.toList==[98,101,103,105,110]) with
 | true=>
  rw[Bb b1] at aG;exact FV w sb yb rs ay lv ws k lo tb bT hpl b0 b1 g hI hlo res aG h
 | false=>
 cases b2:(tb.toList==[100,111]) with
 | true=>
  rw[Bb b2] at aG;exact SB w sb yb rs ay lv ws k lo tb bT hpl b0 b1 b2 g hI hlo res aG h
 | false=>
 cases b3:(tb.toList==[105]) with
 | true=>
  rw[Bb b3] at aG;have tk:tb.toList=kI:=by rw[te];exact Bb b3
  by_cases hl:0<lo
  ·have:=TZ (aA:=dW ay) (g:=g) (r:=(aD ws).drop k) hl;rw[show([105]:Tok)=kI from rfl,this] at aG;injection aG with aG;subst aG;exact Xz w sb yb rs ay lv ws k lo tb bT hpl b0 b1 b2 b3 hl h
  ·have hl0:lo=0:=by omega
   have:=Oo (aA:=dW ay) (g:=g) (r:=(aD ws).drop k);rw[hl0,show([105]:Tok)=kI from rfl,this] at aG;injection aG with aG;subst aG;exact Sz w sb yb rs ay lv ws k lo tb bT hpl b0 b1 b2 b3 hl0 (by rw[tk];decide) (by rw[tk];decide) (by rw[tk];decide) (by rw[tk];decide) h
 | false=>
 cases b4:(tb.toList==[114,101,99,117,114,115,101]) with
 | true=>
  rw[Bb b4] at aG;have:=GZ (aA:=dW ay) (g:=g) (lo:=lo) (r:=(aD ws).drop k);rw[show([114,101,99,117,114,115,101]:Tok)=iW from rfl,this] at aG;injection aG with aG;subst aG;exact N2 w sb yb rs ay lv ws k lo tb bT hpl b0 b1 b2 b3 b4 h
 | false=>
 cases b5:(tb.toList==[101,120,105,116]) with
 | true=>
  rw[Bb b5] at aG;have:=C7 (aA:=dW ay) (g:=g) (lo:=lo) (r:=(aD ws).drop k);rw[show([101,120,105,116]:Tok)=rL from rfl,this] at aG;injection aG with aG;subst aG;exact Kl w sb yb rs ay lv ws k lo tb bT hpl b0 b1 b2 b3 b4 b5 h
 | false=>
 cases b6:(tb.toList==[123]) with
 | true=>
  rw[Bb b6] at aG;have:=C6 (aA:=dW ay) (g:=g) (lo:=lo) (r:=(aD ws).drop k);rw[show([123]:Tok)=fu from rfl,this] at aG;refine Kr w sb yb rs ay lv ws k lo tb bT hpl b0 b1 b2 b3 b4 b5 b6 res ?_ h
  split at aG
  ·injection aG with aG;rename_i he;rw[he];exact aG.symm
  ·injection aG with aG;rename_i he;rw[he];exact aG.symm
 | false=>
 have hO:Kk tb.toList:=⟨bT,hpl,b0,b1,b2,b3,b4,b5,b6⟩;rw[<-te,hO.one] at aG
 cases iH:eB.any (· == tb.toList) with
 | true=>
  rw[ag (by unfold pO;rw[iH];rfl)] at aG;injection aG with aG;subst aG;exact Km w sb yb rs ay lv ws k lo tb bT hpl b0 b1 b2 b3 b4 b5 b6 iH h
 | false=>
 cases d1:(tb.toList==[58]) with
 | true=>
  rw[ag (by unfold pO;rw[iH,show dK=[58] from rfl,d1];rfl)] at aG;injection aG with aG;subst aG;exact FQ w sb yb rs ay lv ws k lo tb bT hpl b0 b1 b2 b3 b4 b5 b6 iH d1 h
 | false=>
 cases d2:(tb.toList==[59]) with
 | true=>
  rw[ag (by unfold pO;rw[iH,show dK=[58] from rfl,d1,show eH=[59] from rfl,d2];rfl)] at aG;injection aG with aG;subst aG;exact Kn w sb yb rs ay lv ws k lo tb bT hpl b0 b1 b2 b3 b4 b5 b6 iH d1 d2 h
 | false=>
 cases d3:(tb.toList==[125]) with
 | true=>
  rw[ag (by unfold pO;rw[iH,show dK=[58] from rfl,d1,show eH=[59] from rfl,d2,show dS=[125] from rfl,d3];rfl)] at aG;injection aG with aG;subst aG;exact FR w sb yb rs ay lv ws k lo tb bT hpl b0 b1 b2 b3 b4 b5 b6 iH d1 d2 d3 h
 | false=>
 rw[af (by unfold pO;rw[iH,show dK=[58] from rfl,d1,show eH=[59] from rfl,d2,show dS=[125] from rfl,d3];decide)] at aG;by_cases hf:cR ay tb.data.toList<0
 ·rw[af (by rw[te,oP hf];decide)] at aG;injection aG with aG;subst aG;exact Ko w sb yb rs ay lv ws k lo tb bT hpl b0 b1 b2 b3 b4 b5 b6 iH d1 d2 d3 hf h
 ·rw[ag (by rw[te,vU hf]),te] at aG;injection aG with aG;subst aG;exact Kq w sb yb rs ay lv ws k lo tb bT hpl b0 b1 b2 b3 b4 b5 b6 iH d1 d2 d3 hf h
theorem XG:∀G,CP K G/\rB K G:=by
 intro G
 induction G using Nat.strongRecOn with
 | ind G ih=>exact⟨XF G (λg hg=>(ih g hg).2),Xx G (λg hg=>(ih g hg).1)⟩
abbrev BG:=Except Int (Tok × List It × List Tok)
def xC (g:Nat)(ay:List Def):List Tok->Option BG
 | []=>some (.error 4)
 | t::r=>if dX t=false then some (.error 4) else if dW ay t=false/\30<=ay.length then some (.error 5) else
  match aK (dW ay) g ⟨false,0,[eH],[]⟩ r with
  | none=>none
  | some (.error e)=>some (.error e)
  | some (.ok (b,_,r1))=>some (.ok (t,b,r1))
theorem tB (g:Nat)(s:St)(l:List Tok):jY g s l=xC g s.ay l:=by
 cases l <;> rfl
theorem N5:aD [⟨#[59]⟩]=[eH]:=rfl
def XH (K:Nat->Prop)(ws:List ByteArray)(k:Nat)(x:Ending)(w':World):BG->Prop
 | .ok (nm,b,r)=>∃tb v k',x=.returned (.tuple #[.string tb,v,.int .i64 (k':Nat),.int .i64 0])/\tb.data.toList=nm/\kZ K w' v b/\r=(aD ws).drop k'/\k<=k'/\k'<=ws.length
 | .error er=>er≠0/\∃tb v n,x=.returned (.tuple #[.string tb,v,n,.int .i64 er])
theorem iE {fn:Func}{t u v x:Tmp}(h:fn.results=#[.tmp t,.tmp u,.tmp v,.tmp x])(tmps:Array Value)(P:Program)(w:World):
  (results fn tmps).run P w=.ok (.tuple #[tmps.getD t undef,tmps.getD u undef,tmps.getD v undef,tmps.getD x undef]) w:=by
 simp[results,h]
theorem bI.first {w:World}{yb:Nat}{rs:RS}{ay:List Def}{lv:Value}{ws:List ByteArray}{k:Nat}(hy:aC w yb 67 rs.arr)(hd:ji K w rs.d.dv ay)(hr:w.ownsRow 0 9 1 lv ws.length (ws.map Value.string))(hl:ws.length<=1000)(hk:k<=ws.length):
  bI K (w.alloc (.cells (kr yb lv k 0 0) 181)) w.heap.size yb rs ay lv ws k 0 0:=
 ⟨aC.new w _ _,hy.alloc _,hd.kp ((Kp.refl w (λ_=>False)).alloc _) (λ_ _ _ h=>h.elim) (λ_ _ h=>h.elim),hr.alloc _,hl,hk⟩
theorem Kp.newer {w w1 w2:World}{b:Nat}(h:Kp w w1 (λ_=>False))(hk:Kp w1 w2 (λk=>k=b))(hb:w.heap.size<=b):Kp w w2 (λ_=>False):=
 ⟨hk.os.trans h.os,hk.tape.trans h.tape,hk.output.trans h.output,ai h.size hk.size,λk hlt hn=>(hk.block k (aj hlt h.size) (by omega)).trans (h.block k hlt hn)⟩
theorem Be (w:World)(yb:Nat)(rs:RS)(ay:List Def)(lv:Value)(ws:List ByteArray)(hy:aC w yb 67 rs.arr)(hd:ji K w rs.d.dv ay)(hr:w.ownsRow 0 9 1 lv ws.length (ws.map Value.string))(hl:ws.length<=1000):
  Calls prog 84 #[.pointer (some ⟨yb,0,none⟩),lv,.int .i64 ws.length] w λx w'=>Kp w w' (λ_=>False)/\XH K ws ws.length x w' (.error 4):=by
 have hS:=bI.first (k:=ws.length) hy hd hr hl (ah _)
 obtain⟨ao,cap,rfl⟩:=aB hr;clear hr hy hd;go_enter func84,ntmps84
 go_wp2_with fail
 refine(rA _ _ yb _ _ _ 0 hS.row hS.blk hl).mono ?_;rintro e w1 ⟨rfl,cX,hk1⟩;have hkp:=((Kp.refl w (λ_=>False)).alloc _).newer hk1 (ah _);clear hk1 hS
 go_wp2_with fail
 refine(DK _ _).mono ?_;rintro e w2 ⟨rfl,hk2⟩;have aX:=hk2.blk cX (by simp)
 replace hkp:=hkp.trans hk2
 have c3:w2.cell? ⟨w.heap.size,3,none⟩=some (.int .i64 4):=aX.cell rfl;clear hk2 cX;go_wp2
 go_quiet (fail)
 go_wp2;refine bodyPost_ret (iE rfl _ _ _) rfl ?_;exact⟨hkp.drewN _,by decide,_,_,_,rfl⟩
theorem zb (w:World)(yb:Nat)(rs:RS)(ay:List Def)(lv:Value)(ws:List ByteArray)(k:Nat)(hk:k<ws.length)(hy:aC w yb 67 rs.arr)(hd:ji K w rs.d.dv ay)(hr:w.ownsRow 0 9 1 lv ws.length (ws.map Value.string))(hl:ws.length<=1000)
  (hnm:dX ws[k].data.toList=false):
  Calls prog 84 #[.pointer (some ⟨yb,0,none⟩),lv,.int .i64 k] w λx w'=>Kp w w' (λ_=>False)/\XH K ws k x w' (.error 4):=by
 have hS:=bI.first (k:=k) hy hd hr hl (by omega)
 obtain⟨ao,cap,rfl⟩:=aB hr;clear hr hy hd;go_enter func84,ntmps84
 go_wp2_with fail
 refine(mW _ _ yb _ ws k 0 hS.row hS.blk hl hk).mono ?_;rintro e w1 ⟨rfl,cX,hk1⟩;have hkp:=((Kp.refl w (λ_=>False)).alloc _).newer hk1 (ah _);clear hk1 hS
 go_wp2_with fail
 refine(DK _ _).mono ?_;rintro e w2 ⟨rfl,hk2⟩;have aX:=hk2.blk cX (by simp)
 replace hkp:=hkp.trans hk2
 have c3:w2.cell? ⟨w.heap.size,3,none⟩=some (.int .i64 0):=aX.cell rfl;clear hk2 cX;rw[hnm]
 go_wp2_with fail
 refine(oK _ _ yb _ (k+1) 0 4 aX).mono ?_;rintro e w3 ⟨rfl,je,hk3⟩
 replace hkp:=hkp.newer hk3 (ah _)
 have c4:w3.cell? ⟨w.heap.size,3,none⟩=some (.int .i64 4):=je.cell rfl;clear hk3 aX c3;go_wp2
 go_quiet (fail)
 go_wp2;refine bodyPost_ret (iE rfl _ _ _) rfl ?_;exact⟨hkp.drewN _,by decide,_,_,_,rfl⟩
theorem ze (w:World)(yb:Nat)(rs:RS)(ay:List Def)(lv:Value)(ws:List ByteArray)(k:Nat)(hk:k<ws.length)(hy:aC w yb 67 rs.arr)(hd:ji K w rs.d.dv ay)(hr:w.ownsRow 0 9 1 lv ws.length (ws.map Value.string))(hl:ws.length<=1000)
  (hnm:dX ws[k].data.toList=true) (hf:cR ay ws[k].data.toList<0) (mD:30<=ay.length):
  Calls prog 84 #[.pointer (some ⟨yb,0,none⟩),lv,.int .i64 k] w λx w'=>Kp w w' (λ_=>False)/\XH K ws k x w' (.error 5):=by
 have hS:=bI.first (k:=k) hy hd hr hl (by omega)
 obtain⟨ao,cap,rfl⟩:=aB hr;clear hr hy hd;go_enter func84,ntmps84
 go_wp2_with fail
 refine(mW _ _ yb _ ws k 0 hS.row hS.blk hl hk).mono ?_;rintro e w1 ⟨rfl,cX,hk1⟩;have hkp:=((Kp.refl w (λ_=>False)).alloc _).newer hk1 (ah _);have hS1:=hS.to hk1 cX (by omega);clear hk1 hS cX
 go_wp2_with fail
 refine(DK _ _).mono ?_;rintro e w2 ⟨rfl,hk2⟩;have fM:=hS1.kp hk2;have aX:=fM.blk;have hdl:=fM.dr.len;obtain⟨FX,hrd,-⟩:=fM.dr.ex;obtain⟨FY,fq,rU⟩:=aB hrd;have cd:w2.cell? ⟨yb,17,none⟩=some (.slice FY ay.length fq):=by rw[<-rU];exact fM.A7.cell rfl
 replace hkp:=hkp.trans hk2
 have c3:w2.cell? ⟨w.heap.size,3,none⟩=some (.int .i64 0):=aX.cell rfl;clear hk2 hS1 hrd rU;rw[hnm]
 go_wp2_with fail
 refine(pM _ _ _ _ _ fM.A7 fM.dr).mono ?_;rintro e w' ⟨rfl,hw⟩;rw[hw];clear hw
 go_wp2_with fail
 refine(oK _ _ yb _ (k+1) 0 5 aX).mono ?_;rintro e w3 ⟨rfl,je,hk3⟩
 replace hkp:=hkp.newer hk3 (ah _)
 have c4:w3.cell? ⟨w.heap.size,3,none⟩=some (.int .i64 5):=je.cell rfl;clear hk3 aX c3 fM;go_wp2
 go_quiet (fail)
 go_wp2;refine bodyPost_ret (iE rfl _ _ _) rfl ?_;exact⟨hkp.drewN _,by decide,_,_,_,rfl⟩
theorem jA (w:World)(yb:Nat)(rs:RS)(ay:List Def)(lv:Value)(ws:List ByteArray)(k:Nat)(hk:k<ws.length)(hy:aC w yb 67 rs.arr)(hd:ji K w rs.d.dv ay)(hr:w.ownsRow 0 9 1 lv ws.length (ws.map Value.string))(hl:ws.length<=1000)
  (hnm:dX ws[k].data.toList=true) (hf:¬cR ay ws[k].data.toList<0\/(cR ay ws[k].data.toList<0/\ay.length<30)) (g:Nat) (res:fh) (aG:aK (dW ay) g ⟨false,0,[eH],[]⟩ ((aD ws).drop (k+1))=some res):
  Calls prog 84 #[.pointer (some ⟨yb,0,none⟩),lv,.int .i64 k] w λx w'=>Kp w w' (λ_=>False)/\XH K ws k x w' (match (generalizing:=false) res with | .error e=>.error e | .ok (b,_,r1)=>.ok (ws[k].data.toList,b,r1)):=by
 have HR:=az aG;clear aG;have hS:=bI.first (k:=k) hy hd hr hl (by omega)
 obtain⟨ao,cap,rfl⟩:=aB hr;have HOLD:=az hd.old;clear hr hy hd;go_enter func84,ntmps84
 go_wp2_with fail
 refine(mW _ _ yb _ ws k 0 hS.row hS.blk hl hk).mono ?_;rintro e w1 ⟨rfl,cX,hk1⟩;have hkp:=((Kp.refl w (λ_=>False)).alloc _).newer hk1 (ah _);have hS1:=hS.to hk1 cX (by omega);clear hk1 hS cX
 go_wp2_with fail
 refine(DK _ _).mono ?_;rintro e w2 ⟨rfl,hk2⟩;have fM:=hS1.kp hk2;have aX:=fM.blk;have hdl:=fM.dr.len;obtain⟨FX,hrd,-⟩:=fM.dr.ex;obtain⟨FY,fq,rU⟩:=aB hrd;have cd:w2.cell? ⟨yb,17,none⟩=some (.slice FY ay.length fq):=by rw[<-rU];exact fM.A7.cell rfl
 replace hkp:=hkp.trans hk2
 have c3:w2.cell? ⟨w.heap.size,3,none⟩=some (.int .i64 0):=aX.cell rfl;clear hk2 hS1 hrd rU;rw[hnm]
 go_wp2_with fail
 refine(pM _ _ _ _ _ fM.A7 fM.dr).mono ?_;rintro e w' ⟨rfl,hw⟩;rw[hw];clear hw;have hE:=aC.new w2 #[.string ⟨#[59]⟩] 9;rcases hf with hf|⟨hf,hf2⟩
 all_goals
  go_wp2_with fail
  refine((XG g).2 _ _ yb rs ay _ ws (k+1) 0 _ [⟨#[59]⟩] res (by rw[N5];exact HR.out) (fM.kp ((Kp.refl _ _).alloc _)) (by omega) hE (by decide)).mono ?_;rintro x w3 ⟨hk3,hp⟩;have dO:=(hkp.alloc (.cells #[.string ⟨#[59]⟩] 9)).newer hk3 (ah _);rcases res with er|⟨b,t',r1⟩
  ·obtain⟨her,k2,rfl,hkk,iw⟩:=hp;have d2:w3.cell? ⟨w.heap.size,2,none⟩=some (.int .i64 k2):=iw.blk.cell rfl;have d3:w3.cell? ⟨w.heap.size,3,none⟩=some (.int .i64 er):=iw.blk.cell rfl;clear iw hk3;go_wp2
   go_quiet (fail)
   go_wp2;refine bodyPost_ret (iE rfl _ _ _) rfl ?_;exact⟨dO.drewN _,her,_,_,_,rfl⟩
  ·obtain⟨v,tb,k2,rfl,-,l8,rfl,hkk,iw⟩:=hp;have d2:w3.cell? ⟨w.heap.size,2,none⟩=some (.int .i64 k2):=iw.blk.cell rfl;have d3:w3.cell? ⟨w.heap.size,3,none⟩=some (.int .i64 0):=iw.blk.cell rfl;have za:=iw.gf;clear iw hk3;go_wp2
   go_quiet (fail)
   go_wp2;refine bodyPost_ret (iE rfl _ _ _) rfl ?_;exact⟨dO.drewN _,_,_,k2,rfl,rfl,l8.keep (λb t c hnew h _=>⟨h,λhK=>by have h1:=HOLD.out b hK;have h2:=hkp.size;have h3:(w2.alloc (.cells #[.string ⟨#[59]⟩] 9)).heap.size<=b:=hnew;simp at h3;omega⟩),rfl,by omega,za⟩
theorem LU (w:World)(yb:Nat)(rs:RS)(ay:List Def)(lv:Value)(ws:List ByteArray)(k:Nat)(hk:k<=ws.length)(hy:aC w yb 67 rs.arr)(hd:ji K w rs.d.dv ay)(hr:w.ownsRow 0 9 1 lv ws.length (ws.map Value.string))(hl:ws.length<=1000)
  (g:Nat) (res:BG) (aG:xC g ay ((aD ws).drop k)=some res):
  Calls prog 84 #[.pointer (some ⟨yb,0,none⟩),lv,.int .i64 k] w λx w'=>Kp w w' (λ_=>False)/\XH K ws k x w' res:=by
 by_cases hlt:k<ws.length
 ·rw[jJ ws k hlt] at aG;unfold xC at aG;dsimp only at aG
  cases hnm:dX ws[k].data.toList with
  | false=>
   rw[ag hnm] at aG;injection aG with aG;subst aG;exact zb w yb rs ay lv ws k hlt hy hd hr hl hnm
  | true=>
   rw[af (by rw[hnm];decide)] at aG;by_cases hf:cR ay ws[k].data.toList<0
   ·by_cases mD:30<=ay.length
    ·rw[ag ⟨oP hf,mD⟩] at aG;injection aG with aG;subst aG;exact ze w yb rs ay lv ws k hlt hy hd hr hl hnm hf mD
    ·rw[af (λe=>mD e.2)] at aG
     split at aG
     ·cases aG
     ·rename_i e he;injection aG with aG;subst aG
      exact jA w yb rs ay lv ws k hlt hy hd hr hl hnm (.inr ⟨hf,by omega⟩) g (.error e) he
     ·rename_i b t' r1 he;injection aG with aG;subst aG
      exact jA w yb rs ay lv ws k hlt hy hd hr hl hnm (.inr ⟨hf,by omega⟩) g (.ok (b,t',r1)) he
   ·rw[af (λe=>by rw[vU hf] at e;exact ax e.1 (by decide))] at aG
    split at aG
    ·cases aG
    ·rename_i e he;injection aG with aG;subst aG
     exact jA w yb rs ay lv ws k hlt hy hd hr hl hnm (.inl hf) g (.error e) he
    ·rename_i b t' r1 he;injection aG with aG;subst aG
     exact jA w yb rs ay lv ws k hlt hy hd hr hl hnm (.inl hf) g (.ok (b,t',r1)) he
 ·have:k=ws.length:=by omega
  subst this;rw[nD] at aG;injection aG with aG;subst aG;exact Be w yb rs ay lv ws hy hd hr hl
end
end Go.Proofs.YteainaiebcphlaaGreatDoor
