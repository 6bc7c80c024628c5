import Derived.Test.YteainaiebcphlaaGreatDoorQ15
import Derived.Laws.EntriesVeiled
import Derived.Test.YteainaiebcphlaaGreatDoorQ11
namespace Go.Proofs.YteainaiebcphlaaGreatDoor
set_option maxRecDepth 1000000
set_option maxHeartbeats 4000000
set_option linter.all false
open Go.Proofs.Tryz
section
open Go.RowKit
theorem PN (w:World)(sb bk mb:Nat)(aA:Tok->Bool)(ws:List ByteArray)(lo:Nat)(res:fh)(h:bW w sb bk mb aA ws lo)
  (hc:∀w,bW w sb bk mb aA ws lo->Calls prog 238 #[pt sb] w λx w'=>Kp w w' (λb=>b=sb)/\rE w sb bk mb aA lo x w' res):
  Calls prog 218 #[pt sb,.int .i64 22] w λx w'=>Kp w w' (λb=>b=sb)/\rE w sb bk mb aA lo x w' res:=by
 obtain⟨rv,hB,hT⟩:=h.blk;have hsb:=hB.lt;have hcs:sb≠w.heap.size:=by omega
 have hka:=(Kp.refl w (λ_=>False)).alloc (.cells ju 241);have HC:=az (hc _ (h.kp hka));have lU:=aC.new w ju 241;clear hc hka;go_enter func218,ntmps218
 go_wp2_with fail
 refine HC.out.mono ?_;rintro x w2 ⟨hk2,hq⟩;have hZ:=hk2.blk lU hcs.symm;have hkp:Kp w w2 (λb=>b=sb):=((Kp.refl _ _).alloc _).trans hk2;have hsz2:w.heap.size+1<=w2.heap.size:=by have:=hk2.size;simpa using this
 obtain⟨y0,y1,y2,y3,y4,y5,y6⟩:=hZ.seven;obtain⟨z0,z1,z2,z3,z4,z5,z6⟩:=hZ.fk;rcases res with er|⟨xs,tt,r⟩
 ·obtain⟨her,k7,n7,fO,nm,a1,m1,p1,a2,m2,p2,a3,m3,p3,rH,rfl,cX⟩:=hq;clear hk2 lU;go_wp2;have bS:=hZ.dL (.int .i64 k7) (.int .i64 n7) (.int .i64 fO) (.string nm) (.slice a1 m1 p1) (.slice a2 m2 p2) (.slice a3 m3 p3);have hK2:=hkp.dL (ah _) (.int .i64 k7) (.int .i64 n7) (.int .i64 fO) (.string nm) (.slice a1 m1 p1) (.slice a2 m2 p2) (.slice a3 m3 p3);have aX:=cX.dM hcs (.int .i64 k7) (.int .i64 n7) (.int .i64 fO) (.string nm) (.slice a1 m1 p1) (.slice a2 m2 p2) (.slice a3 m3 p3);generalize (((((((w2.setCell ⟨w.heap.size,0,none⟩ (.int .i64 k7)).setCell ⟨w.heap.size,1,none⟩ (.int .i64 n7)).setCell ⟨w.heap.size,2,none⟩ (.int .i64 fO)).setCell ⟨w.heap.size,3,none⟩ (.string nm)).setCell ⟨w.heap.size,4,none⟩ (.slice a1 m1 p1)).setCell ⟨w.heap.size,5,none⟩ (.slice a2 m2 p2)).setCell ⟨w.heap.size,6,none⟩ (.slice a3 m3 p3))=wf at bS hK2 aX ⊢;obtain⟨q0,q1,q2,q3,q4,q5,q6⟩:=bS.seven;refine bodyPost_ret (v:=.tuple #[.agg #[.int .i64 k7,.int .i64 n7,.int .i64 fO,.string nm,.slice a1 m1 p1,.slice a2 m2 p2,.slice a3 m3 p3],.int .i64 er]) (by simp[results,results218,go_sem,q0,q1,q2,q3,q4,q5,q6]) rfl ?_;exact⟨hK2,her,_,_,_,_,_,_,_,_,_,_,_,_,_,_,rfl,aX⟩
 ·obtain⟨x',n7,fO,nm,tv,va,vb,kF,rfl,rfl,hat,htx,fM⟩:=hq;obtain⟨gF,js,-⟩:=hat.toks;obtain⟨K6,hr3,-⟩:=hat.a.out;obtain⟨SH,hr4,-⟩:=hat.b.out;obtain⟨a3,p3,rfl⟩:=hr3.form;obtain⟨a4,p4,rfl⟩:=hr4.form;obtain⟨a5,p5,rI⟩:=js.form;rw[List.length_map] at rI;subst rI;obtain⟨rH,cX,zq⟩:=fM.blk;have DZ:=az hat;have vY:=az fM;clear hk2 lU hr3 hr4 js hat fM;go_wp2;have hk3:Kp w2 (((((((w2.setCell ⟨w.heap.size,0,none⟩ (.int .i64 (dw x'.kind))).setCell ⟨w.heap.size,1,none⟩ (.int .i64 n7)).setCell ⟨w.heap.size,2,none⟩ (.int .i64 fO)).setCell ⟨w.heap.size,3,none⟩ (.string nm)).setCell ⟨w.heap.size,4,none⟩ (.slice a5 gF.length p5)).setCell ⟨w.heap.size,5,none⟩ (.slice a3 x'.a.length p3)).setCell ⟨w.heap.size,6,none⟩ (.slice a4 x'.b.length p4)) (λb=>b=w.heap.size):=((((((((Kp.refl w2 (λb=>b=w.heap.size)).set (a:=⟨w.heap.size,0,none⟩) (λ_=>rfl) _).set (a:=⟨w.heap.size,1,none⟩) (λ_=>rfl) _).set (a:=⟨w.heap.size,2,none⟩) (λ_=>rfl) _).set (a:=⟨w.heap.size,3,none⟩) (λ_=>rfl) _).set (a:=⟨w.heap.size,4,none⟩) (λ_=>rfl) _).set (a:=⟨w.heap.size,5,none⟩) (λ_=>rfl) _).set (a:=⟨w.heap.size,6,none⟩) (λ_=>rfl) _);have bS:=hZ.dL (.int .i64 (dw x'.kind)) (.int .i64 n7) (.int .i64 fO) (.string nm) (.slice a5 gF.length p5) (.slice a3 x'.a.length p3) (.slice a4 x'.b.length p4);have hK2:=hkp.dL (ah _) (.int .i64 (dw x'.kind)) (.int .i64 n7) (.int .i64 fO) (.string nm) (.slice a5 gF.length p5) (.slice a3 x'.a.length p3) (.slice a4 x'.b.length p4);have aX:=cX.dM hcs (.int .i64 (dw x'.kind)) (.int .i64 n7) (.int .i64 fO) (.string nm) (.slice a5 gF.length p5) (.slice a3 x'.a.length p3) (.slice a4 x'.b.length p4);generalize (((((((w2.setCell ⟨w.heap.size,0,none⟩ (.int .i64 (dw x'.kind))).setCell ⟨w.heap.size,1,none⟩ (.int .i64 n7)).setCell ⟨w.heap.size,2,none⟩ (.int .i64 fO)).setCell ⟨w.heap.size,3,none⟩ (.string nm)).setCell ⟨w.heap.size,4,none⟩ (.slice a5 gF.length p5)).setCell ⟨w.heap.size,5,none⟩ (.slice a3 x'.a.length p3)).setCell ⟨w.heap.size,6,none⟩ (.slice a4 x'.b.length p4))=wf at bS hK2 aX hk3 ⊢;obtain⟨q0,q1,q2,q3,q4,q5,q6⟩:=bS.seven;refine bodyPost_ret (v:=.tuple #[.agg #[.int .i64 (dw x'.kind),.int .i64 n7,.int .i64 fO,.string nm,.slice a5 gF.length p5,.slice a3 x'.a.length p3,.slice a4 x'.b.length p4],.int .i64 0]) (by simp[results,results218,go_sem,q0,q1,q2,q3,q4,q5,q6]) rfl ?_;have hkc:=bU (D:=New (w.alloc (.cells ju 241))) (D':=New w) hk3 (λb _ hb=>by
   have hb:w.heap.size+1<=b:=by have:(w.alloc (.cells ju 241)).heap.size<=b:=hb;simpa using this
   exact⟨by show w.heap.size<=b;omega,by show ¬b=w.heap.size;omega⟩)
  refine⟨hK2,x',n7,fO,nm,_,_,_,kF,rfl,rfl,DZ.out.mono hkc (λ_ _ h=>h.mono hkc),htx,?_⟩;have h2:=vY.out;obtain⟨nn,DD,hm,hl⟩:=h2.book.look;have hne:∀b t c,aC w2 b t c->t≠241->¬b=w.heap.size:=λb t c hb ht e=>by subst e;exact ht (hb.inj hZ).1
  have Bf:=h.sp.lt;exact⟨⟨rH,aX,cO (λb c hc=>⟨hc.1,hk3.blk hc.2 (hne b 9 c hc.2 (by decide))⟩) zq⟩,h2.book.kp hk3 (hne bk _ _ h2.book.blk (by decide)) (λe=>dh hm hZ e),h2.len,h2.ok,h2.sp.kp hk3 (by show ¬(1:Nat)=w.heap.size;omega),h2.s1⟩
theorem Ey (w:World)(sb bk mb:Nat)(aA:Tok->Bool)(ws:List ByteArray)(lo:Nat)(res:fh)(h:bW w sb bk mb aA ws lo)
  (hc:∀w,bW w sb bk mb aA ws lo->Calls prog 239 #[pt sb] w λx w'=>Kp w w' (λb=>b=sb)/\rE w sb bk mb aA lo x w' res):
  Calls prog 218 #[pt sb,.int .i64 25] w λx w'=>Kp w w' (λb=>b=sb)/\rE w sb bk mb aA lo x w' res:=by
 obtain⟨rv,hB,hT⟩:=h.blk;have hsb:=hB.lt;have hcs:sb≠w.heap.size:=by omega
 have hka:=(Kp.refl w (λ_=>False)).alloc (.cells ju 241);have HC:=az (hc _ (h.kp hka));have lU:=aC.new w ju 241;clear hc hka;go_enter func218,ntmps218
 go_wp2_with fail
 refine HC.out.mono ?_;rintro x w2 ⟨hk2,hq⟩;have hZ:=hk2.blk lU hcs.symm;have hkp:Kp w w2 (λb=>b=sb):=((Kp.refl _ _).alloc _).trans hk2;have hsz2:w.heap.size+1<=w2.heap.size:=by have:=hk2.size;simpa using this
 obtain⟨y0,y1,y2,y3,y4,y5,y6⟩:=hZ.seven;obtain⟨z0,z1,z2,z3,z4,z5,z6⟩:=hZ.fk;rcases res with er|⟨xs,tt,r⟩
 ·obtain⟨her,k7,n7,fO,nm,a1,m1,p1,a2,m2,p2,a3,m3,p3,rH,rfl,cX⟩:=hq;clear hk2 lU;go_wp2;have bS:=hZ.dL (.int .i64 k7) (.int .i64 n7) (.int .i64 fO) (.string nm) (.slice a1 m1 p1) (.slice a2 m2 p2) (.slice a3 m3 p3);have hK2:=hkp.dL (ah _) (.int .i64 k7) (.int .i64 n7) (.int .i64 fO) (.string nm) (.slice a1 m1 p1) (.slice a2 m2 p2) (.slice a3 m3 p3);have aX:=cX.dM hcs (.int .i64 k7) (.int .i64 n7) (.int .i64 fO) (.string nm) (.slice a1 m1 p1) (.slice a2 m2 p2) (.slice a3 m3 p3);generalize (((((((w2.setCell ⟨w.heap.size,0,none⟩ (.int .i64 k7)).setCell ⟨w.heap.size,1,none⟩ (.int .i64 n7)).setCell ⟨w.heap.size,2,none⟩ (.int .i64 fO)).setCell ⟨w.heap.size,3,none⟩ (.string nm)).setCell ⟨w.heap.size,4,none⟩ (.slice a1 m1 p1)).setCell ⟨w.heap.size,5,none⟩ (.slice a2 m2 p2)).setCell ⟨w.heap.size,6,none⟩ (.slice a3 m3 p3))=wf at bS hK2 aX ⊢;obtain⟨q0,q1,q2,q3,q4,q5,q6⟩:=bS.seven;refine bodyPost_ret (v:=.tuple #[.agg #[.int .i64 k7,.int .i64 n7,.int .i64 fO,.string nm,.slice a1 m1 p1,.slice a2 m2 p2,.slice a3 m3 p3],.int .i64 er]) (by simp[results,results218,go_sem,q0,q1,q2,q3,q4,q5,q6]) rfl ?_;exact⟨hK2,her,_,_,_,_,_,_,_,_,_,_,_,_,_,_,rfl,aX⟩
 ·obtain⟨x',n7,fO,nm,tv,va,vb,kF,rfl,rfl,hat,htx,fM⟩:=hq;obtain⟨gF,js,-⟩:=hat.toks;obtain⟨K6,hr3,-⟩:=hat.a.out;obtain⟨SH,hr4,-⟩:=hat.b.out;obtain⟨a3,p3,rfl⟩:=hr3.form;obtain⟨a4,p4,rfl⟩:=hr4.form;obtain⟨a5,p5,rI⟩:=js.form;rw[List.length_map] at rI;subst rI;obtain⟨rH,cX,zq⟩:=fM.blk;have DZ:=az hat;have vY:=az fM;clear hk2 lU hr3 hr4 js hat fM;go_wp2;have hk3:Kp w2 (((((((w2.setCell ⟨w.heap.size,0,none⟩ (.int .i64 (dw x'.kind))).setCell ⟨w.heap.size,1,none⟩ (.int .i64 n7)).setCell ⟨w.heap.size,2,none⟩ (.int .i64 fO)).setCell ⟨w.heap.size,3,none⟩ (.string nm)).setCell ⟨w.heap.size,4,none⟩ (.slice a5 gF.length p5)).setCell ⟨w.heap.size,5,none⟩ (.slice a3 x'.a.length p3)).setCell ⟨w.heap.size,6,none⟩ (.slice a4 x'.b.length p4)) (λb=>b=w.heap.size):=((((((((Kp.refl w2 (λb=>b=w.heap.size)).set (a:=⟨w.heap.size,0,none⟩) (λ_=>rfl) _).set (a:=⟨w.heap.size,1,none⟩) (λ_=>rfl) _).set (a:=⟨w.heap.size,2,none⟩) (λ_=>rfl) _).set (a:=⟨w.heap.size,3,none⟩) (λ_=>rfl) _).set (a:=⟨w.heap.size,4,none⟩) (λ_=>rfl) _).set (a:=⟨w.heap.size,5,none⟩) (λ_=>rfl) _).set (a:=⟨w.heap.size,6,none⟩) (λ_=>rfl) _);have bS:=hZ.dL (.int .i64 (dw x'.kind)) (.int .i64 n7) (.int .i64 fO) (.string nm) (.slice a5 gF.length p5) (.slice a3 x'.a.length p3) (.slice a4 x'.b.length p4);have hK2:=hkp.dL (ah _) (.int .i64 (dw x'.kind)) (.int .i64 n7) (.int .i64 fO) (.string nm) (.slice a5 gF.length p5) (.slice a3 x'.a.length p3) (.slice a4 x'.b.length p4);have aX:=cX.dM hcs (.int .i64 (dw x'.kind)) (.int .i64 n7) (.int .i64 fO) (.string nm) (.slice a5 gF.length p5) (.slice a3 x'.a.length p3) (.slice a4 x'.b.length p4);generalize (((((((w2.setCell ⟨w.heap.size,0,none⟩ (.int .i64 (dw x'.kind))).setCell ⟨w.heap.size,1,none⟩ (.int .i64 n7)).setCell ⟨w.heap.size,2,none⟩ (.int .i64 fO)).setCell ⟨w.heap.size,3,none⟩ (.string nm)).setCell ⟨w.heap.size,4,none⟩ (.slice a5 gF.length p5)).setCell ⟨w.heap.size,5,none⟩ (.slice a3 x'.a.length p3)).setCell ⟨w.heap.size,6,none⟩ (.slice a4 x'.b.length p4))=wf at bS hK2 aX hk3 ⊢;obtain⟨q0,q1,q2,q3,q4,q5,q6⟩:=bS.seven;refine bodyPost_ret (v:=.tuple #[.agg #[.int .i64 (dw x'.kind),.int .i64 n7,.int .i64 fO,.string nm,.slice a5 gF.length p5,.slice a3 x'.a.length p3,.slice a4 x'.b.length p4],.int .i64 0]) (by simp[results,results218,go_sem,q0,q1,q2,q3,q4,q5,q6]) rfl ?_;have hkc:=bU (D:=New (w.alloc (.cells ju 241))) (D':=New w) hk3 (λb _ hb=>by
   have hb:w.heap.size+1<=b:=by have:(w.alloc (.cells ju 241)).heap.size<=b:=hb;simpa using this
   exact⟨by show w.heap.size<=b;omega,by show ¬b=w.heap.size;omega⟩)
  refine⟨hK2,x',n7,fO,nm,_,_,_,kF,rfl,rfl,DZ.out.mono hkc (λ_ _ h=>h.mono hkc),htx,?_⟩;have h2:=vY.out;obtain⟨nn,DD,hm,hl⟩:=h2.book.look;have hne:∀b t c,aC w2 b t c->t≠241->¬b=w.heap.size:=λb t c hb ht e=>by subst e;exact ht (hb.inj hZ).1
  have Bf:=h.sp.lt;exact⟨⟨rH,aX,cO (λb c hc=>⟨hc.1,hk3.blk hc.2 (hne b 9 c hc.2 (by decide))⟩) zq⟩,h2.book.kp hk3 (hne bk _ _ h2.book.blk (by decide)) (λe=>dh hm hZ e),h2.len,h2.ok,h2.sp.kp hk3 (by show ¬(1:Nat)=w.heap.size;omega),h2.s1⟩
theorem PO (w:World)(sb bk mb:Nat)(aA:Tok->Bool)(ws:List ByteArray)(lo:Nat)(res:fh)(h:bW w sb bk mb aA ws lo)
  (hc:∀w,bW w sb bk mb aA ws lo->Calls prog 240 #[pt sb] w λx w'=>Kp w w' (λb=>b=sb)/\rE w sb bk mb aA lo x w' res):
  Calls prog 218 #[pt sb,.int .i64 29] w λx w'=>Kp w w' (λb=>b=sb)/\rE w sb bk mb aA lo x w' res:=by
 obtain⟨rv,hB,hT⟩:=h.blk;have hsb:=hB.lt;have hcs:sb≠w.heap.size:=by omega
 have hka:=(Kp.refl w (λ_=>False)).alloc (.cells ju 241);have HC:=az (hc _ (h.kp hka));have lU:=aC.new w ju 241;clear hc hka;go_enter func218,ntmps218
 go_wp2_with fail
 refine HC.out.mono ?_;rintro x w2 ⟨hk2,hq⟩;have hZ:=hk2.blk lU hcs.symm;have hkp:Kp w w2 (λb=>b=sb):=((Kp.refl _ _).alloc _).trans hk2;have hsz2:w.heap.size+1<=w2.heap.size:=by have:=hk2.size;simpa using this
 obtain⟨y0,y1,y2,y3,y4,y5,y6⟩:=hZ.seven;obtain⟨z0,z1,z2,z3,z4,z5,z6⟩:=hZ.fk;rcases res with er|⟨xs,tt,r⟩
 ·obtain⟨her,k7,n7,fO,nm,a1,m1,p1,a2,m2,p2,a3,m3,p3,rH,rfl,cX⟩:=hq;clear hk2 lU;go_wp2;have bS:=hZ.dL (.int .i64 k7) (.int .i64 n7) (.int .i64 fO) (.string nm) (.slice a1 m1 p1) (.slice a2 m2 p2) (.slice a3 m3 p3);have hK2:=hkp.dL (ah _) (.int .i64 k7) (.int .i64 n7) (.int .i64 fO) (.string nm) (.slice a1 m1 p1) (.slice a2 m2 p2) (.slice a3 m3 p3);have aX:=cX.dM hcs (.int .i64 k7) (.int .i64 n7) (.int .i64 fO) (.string nm) (.slice a1 m1 p1) (.slice a2 m2 p2) (.slice a3 m3 p3);generalize (((((((w2.setCell ⟨w.heap.size,0,none⟩ (.int .i64 k7)).setCell ⟨w.heap.size,1,none⟩ (.int .i64 n7)).setCell ⟨w.heap.size,2,none⟩ (.int .i64 fO)).setCell ⟨w.heap.size,3,none⟩ (.string nm)).setCell ⟨w.heap.size,4,none⟩ (.slice a1 m1 p1)).setCell ⟨w.heap.size,5,none⟩ (.slice a2 m2 p2)).setCell ⟨w.heap.size,6,none⟩ (.slice a3 m3 p3))=wf at bS hK2 aX ⊢;obtain⟨q0,q1,q2,q3,q4,q5,q6⟩:=bS.seven;refine bodyPost_ret (v:=.tuple #[.agg #[.int .i64 k7,.int .i64 n7,.int .i64 fO,.string nm,.slice a1 m1 p1,.slice a2 m2 p2,.slice a3 m3 p3],.int .i64 er]) (by simp[results,results218,go_sem,q0,q1,q2,q3,q4,q5,q6]) rfl ?_;exact⟨hK2,her,_,_,_,_,_,_,_,_,_,_,_,_,_,_,rfl,aX⟩
 ·obtain⟨x',n7,fO,nm,tv,va,vb,kF,rfl,rfl,hat,htx,fM⟩:=hq;obtain⟨gF,js,-⟩:=hat.toks;obtain⟨K6,hr3,-⟩:=hat.a.out;obtain⟨SH,hr4,-⟩:=hat.b.out;obtain⟨a3,p3,rfl⟩:=hr3.form;obtain⟨a4,p4,rfl⟩:=hr4.form;obtain⟨a5,p5,rI⟩:=js.form;rw[List.length_map] at rI;subst rI;obtain⟨rH,cX,zq⟩:=fM.blk;have DZ:=az hat;have vY:=az fM;clear hk2 lU hr3 hr4 js hat fM;go_wp2;have hk3:Kp w2 (((((((w2.setCell ⟨w.heap.size,0,none⟩ (.int .i64 (dw x'.kind))).setCell ⟨w.heap.size,1,none⟩ (.int .i64 n7)).setCell ⟨w.heap.size,2,none⟩ (.int .i64 fO)).setCell ⟨w.heap.size,3,none⟩ (.string nm)).setCell ⟨w.heap.size,4,none⟩ (.slice a5 gF.length p5)).setCell ⟨w.heap.size,5,none⟩ (.slice a3 x'.a.length p3)).setCell ⟨w.heap.size,6,none⟩ (.slice a4 x'.b.length p4)) (λb=>b=w.heap.size):=((((((((Kp.refl w2 (λb=>b=w.heap.size)).set (a:=⟨w.heap.size,0,none⟩) (λ_=>rfl) _).set (a:=⟨w.heap.size,1,none⟩) (λ_=>rfl) _).set (a:=⟨w.heap.size,2,none⟩) (λ_=>rfl) _).set (a:=⟨w.heap.size,3,none⟩) (λ_=>rfl) _).set (a:=⟨w.heap.size,4,none⟩) (λ_=>rfl) _).set (a:=⟨w.heap.size,5,none⟩) (λ_=>rfl) _).set (a:=⟨w.heap.size,6,none⟩) (λ_=>rfl) _);have bS:=hZ.dL (.int .i64 (dw x'.kind)) (.int .i64 n7) (.int .i64 fO) (.string nm) (.slice a5 gF.length p5) (.slice a3 x'.a.length p3) (.slice a4 x'.b.length p4);have hK2:=hkp.dL (ah _) (.int .i64 (dw x'.kind)) (.int .i64 n7) (.int .i64 fO) (.string nm) (.slice a5 gF.length p5) (.slice a3 x'.a.length p3) (.slice a4 x'.b.length p4);have aX:=cX.dM hcs (.int .i64 (dw x'.kind)) (.int .i64 n7) (.int .i64 fO) (.string nm) (.slice a5 gF.length p5) (.slice a3 x'.a.length p3) (.slice a4 x'.b.length p4);generalize (((((((w2.setCell ⟨w.heap.size,0,none⟩ (.int .i64 (dw x'.kind))).setCell ⟨w.heap.size,1,none⟩ (.int .i64 n7)).setCell ⟨w.heap.size,2,none⟩ (.int .i64 fO)).setCell ⟨w.heap.size,3,none⟩ (.string nm)).setCell ⟨w.heap.size,4,none⟩ (.slice a5 gF.length p5)).setCell ⟨w.heap.size,5,none⟩ (.slice a3 x'.a.length p3)).setCell ⟨w.heap.size,6,none⟩ (.slice a4 x'.b.length p4))=wf at bS hK2 aX hk3 ⊢;obtain⟨q0,q1,q2,q3,q4,q5,q6⟩:=bS.seven;refine bodyPost_ret (v:=.tuple #[.agg #[.int .i64 (dw x'.kind),.int .i64 n7,.int .i64 fO,.string nm,.slice a5 gF.length p5,.slice a3 x'.a.length p3,.slice a4 x'.b.length p4],.int .i64 0]) (by simp[results,results218,go_sem,q0,q1,q2,q3,q4,q5,q6]) rfl ?_;have hkc:=bU (D:=New (w.alloc (.cells ju 241))) (D':=New w) hk3 (λb _ hb=>by
   have hb:w.heap.size+1<=b:=by have:(w.alloc (.cells ju 241)).heap.size<=b:=hb;simpa using this
   exact⟨by show w.heap.size<=b;omega,by show ¬b=w.heap.size;omega⟩)
  refine⟨hK2,x',n7,fO,nm,_,_,_,kF,rfl,rfl,DZ.out.mono hkc (λ_ _ h=>h.mono hkc),htx,?_⟩;have h2:=vY.out;obtain⟨nn,DD,hm,hl⟩:=h2.book.look;have hne:∀b t c,aC w2 b t c->t≠241->¬b=w.heap.size:=λb t c hb ht e=>by subst e;exact ht (hb.inj hZ).1
  have Bf:=h.sp.lt;exact⟨⟨rH,aX,cO (λb c hc=>⟨hc.1,hk3.blk hc.2 (hne b 9 c hc.2 (by decide))⟩) zq⟩,h2.book.kp hk3 (hne bk _ _ h2.book.blk (by decide)) (λe=>dh hm hZ e),h2.len,h2.ok,h2.sp.kp hk3 (by show ¬(1:Nat)=w.heap.size;omega),h2.s1⟩
theorem GX (w:World)(sb bk mb:Nat)(aA:Tok->Bool)(ws:List ByteArray)(lo:Nat)(res:fh)(h:bW w sb bk mb aA ws lo)
  (hc:∀w,bW w sb bk mb aA ws lo->Calls prog 241 #[pt sb] w λx w'=>Kp w w' (λb=>b=sb)/\rE w sb bk mb aA lo x w' res):
  Calls prog 218 #[pt sb,.int .i64 20] w λx w'=>Kp w w' (λb=>b=sb)/\rE w sb bk mb aA lo x w' res:=by
 obtain⟨rv,hB,hT⟩:=h.blk;have hsb:=hB.lt;have hcs:sb≠w.heap.size:=by omega
 have hka:=(Kp.refl w (λ_=>False)).alloc (.cells ju 241);have HC:=az (hc _ (h.kp hka));have lU:=aC.new w ju 241;clear hc hka;go_enter func218,ntmps218
 go_wp2_with fail
 refine HC.out.mono ?_;rintro x w2 ⟨hk2,hq⟩;have hZ:=hk2.blk lU hcs.symm;have hkp:Kp w w2 (λb=>b=sb):=((Kp.refl _ _).alloc _).trans hk2;have hsz2:w.heap.size+1<=w2.heap.size:=by have:=hk2.size;simpa using this
 obtain⟨y0,y1,y2,y3,y4,y5,y6⟩:=hZ.seven;obtain⟨z0,z1,z2,z3,z4,z5,z6⟩:=hZ.fk;rcases res with er|⟨xs,tt,r⟩
 ·obtain⟨her,k7,n7,fO,nm,a1,m1,p1,a2,m2,p2,a3,m3,p3,rH,rfl,cX⟩:=hq;clear hk2 lU;go_wp2;have bS:=hZ.dL (.int .i64 k7) (.int .i64 n7) (.int .i64 fO) (.string nm) (.slice a1 m1 p1) (.slice a2 m2 p2) (.slice a3 m3 p3);have hK2:=hkp.dL (ah _) (.int .i64 k7) (.int .i64 n7) (.int .i64 fO) (.string nm) (.slice a1 m1 p1) (.slice a2 m2 p2) (.slice a3 m3 p3);have aX:=cX.dM hcs (.int .i64 k7) (.int .i64 n7) (.int .i64 fO) (.string nm) (.slice a1 m1 p1) (.slice a2 m2 p2) (.slice a3 m3 p3);generalize (((((((w2.setCell ⟨w.heap.size,0,none⟩ (.int .i64 k7)).setCell ⟨w.heap.size,1,none⟩ (.int .i64 n7)).setCell ⟨w.heap.size,2,none⟩ (.int .i64 fO)).setCell ⟨w.heap.size,3,none⟩ (.string nm)).setCell ⟨w.heap.size,4,none⟩ (.slice a1 m1 p1)).setCell ⟨w.heap.size,5,none⟩ (.slice a2 m2 p2)).setCell ⟨w.heap.size,6,none⟩ (.slice a3 m3 p3))=wf at bS hK2 aX ⊢;obtain⟨q0,q1,q2,q3,q4,q5,q6⟩:=bS.seven;refine bodyPost_ret (v:=.tuple #[.agg #[.int .i64 k7,.int .i64 n7,.int .i64 fO,.string nm,.slice a1 m1 p1,.slice a2 m2 p2,.slice a3 m3 p3],.int .i64 er]) (by simp[results,results218,go_sem,q0,q1,q2,q3,q4,q5,q6]) rfl ?_;exact⟨hK2,her,_,_,_,_,_,_,_,_,_,_,_,_,_,_,rfl,aX⟩
 ·obtain⟨x',n7,fO,nm,tv,va,vb,kF,rfl,rfl,hat,htx,fM⟩:=hq;obtain⟨gF,js,-⟩:=hat.toks;obtain⟨K6,hr3,-⟩:=hat.a.out;obtain⟨SH,hr4,-⟩:=hat.b.out;obtain⟨a3,p3,rfl⟩:=hr3.form;obtain⟨a4,p4,rfl⟩:=hr4.form;obtain⟨a5,p5,rI⟩:=js.form;rw[List.length_map] at rI;subst rI;obtain⟨rH,cX,zq⟩:=fM.blk;have DZ:=az hat;have vY:=az fM;clear hk2 lU hr3 hr4 js hat fM;go_wp2;have hk3:Kp w2 (((((((w2.setCell ⟨w.heap.size,0,none⟩ (.int .i64 (dw x'.kind))).setCell ⟨w.heap.size,1,none⟩ (.int .i64 n7)).setCell ⟨w.heap.size,2,none⟩ (.int .i64 fO)).setCell ⟨w.heap.size,3,none⟩ (.string nm)).setCell ⟨w.heap.size,4,none⟩ (.slice a5 gF.length p5)).setCell ⟨w.heap.size,5,none⟩ (.slice a3 x'.a.length p3)).setCell ⟨w.heap.size,6,none⟩ (.slice a4 x'.b.length p4)) (λb=>b=w.heap.size):=((((((((Kp.refl w2 (λb=>b=w.heap.size)).set (a:=⟨w.heap.size,0,none⟩) (λ_=>rfl) _).set (a:=⟨w.heap.size,1,none⟩) (λ_=>rfl) _).set (a:=⟨w.heap.size,2,none⟩) (λ_=>rfl) _).set (a:=⟨w.heap.size,3,none⟩) (λ_=>rfl) _).set (a:=⟨w.heap.size,4,none⟩) (λ_=>rfl) _).set (a:=⟨w.heap.size,5,none⟩) (λ_=>rfl) _).set (a:=⟨w.heap.size,6,none⟩) (λ_=>rfl) _);have bS:=hZ.dL (.int .i64 (dw x'.kind)) (.int .i64 n7) (.int .i64 fO) (.string nm) (.slice a5 gF.length p5) (.slice a3 x'.a.length p3) (.slice a4 x'.b.length p4);have hK2:=hkp.dL (ah _) (.int .i64 (dw x'.kind)) (.int .i64 n7) (.int .i64 fO) (.string nm) (.slice a5 gF.length p5) (.slice a3 x'.a.length p3) (.slice a4 x'.b.length p4);have aX:=cX.dM hcs (.int .i64 (dw x'.kind)) (.int .i64 n7) (.int .i64 fO) (.string nm) (.slice a5 gF.length p5) (.slice a3 x'.a.length p3) (.slice a4 x'.b.length p4);generalize (((((((w2.setCell ⟨w.heap.size,0,none⟩ (.int .i64 (dw x'.kind))).setCell ⟨w.heap.size,1,none⟩ (.int .i64 n7)).setCell ⟨w.heap.size,2,none⟩ (.int .i64 fO)).setCell ⟨w.heap.size,3,none⟩ (.string nm)).setCell ⟨w.heap.size,4,none⟩ (.slice a5 gF.length p5)).setCell ⟨w.heap.size,5,none⟩ (.slice a3 x'.a.length p3)).setCell ⟨w.heap.size,6,none⟩ (.slice a4 x'.b.length p4))=wf at bS hK2 aX hk3 ⊢;obtain⟨q0,q1,q2,q3,q4,q5,q6⟩:=bS.seven;refine bodyPost_ret (v:=.tuple #[.agg #[.int .i64 (dw x'.kind),.int .i64 n7,.int .i64 fO,.string nm,.slice a5 gF.length p5,.slice a3 x'.a.length p3,.slice a4 x'.b.length p4],.int .i64 0]) (by simp[results,results218,go_sem,q0,q1,q2,q3,q4,q5,q6]) rfl ?_;have hkc:=bU (D:=New (w.alloc (.cells ju 241))) (D':=New w) hk3 (λb _ hb=>by
   have hb:w.heap.size+1<=b:=by have:(w.alloc (.cells ju 241)).heap.size<=b:=hb;simpa using this
   exact⟨by show w.heap.size<=b;omega,by show ¬b=w.heap.size;omega⟩)
  refine⟨hK2,x',n7,fO,nm,_,_,_,kF,rfl,rfl,DZ.out.mono hkc (λ_ _ h=>h.mono hkc),htx,?_⟩;have h2:=vY.out;obtain⟨nn,DD,hm,hl⟩:=h2.book.look;have hne:∀b t c,aC w2 b t c->t≠241->¬b=w.heap.size:=λb t c hb ht e=>by subst e;exact ht (hb.inj hZ).1
  have Bf:=h.sp.lt;exact⟨⟨rH,aX,cO (λb c hc=>⟨hc.1,hk3.blk hc.2 (hne b 9 c hc.2 (by decide))⟩) zq⟩,h2.book.kp hk3 (hne bk _ _ h2.book.blk (by decide)) (λe=>dh hm hZ e),h2.len,h2.ok,h2.sp.kp hk3 (by show ¬(1:Nat)=w.heap.size;omega),h2.s1⟩
theorem zN {p:Tok->Bool}{L:List Tok}{j:Nat}(h:L.findIdx? p=some j):L.any p=true:=by
 obtain⟨hlt,hk,_⟩:=List.findIdx?_eq_some_iff_getElem.1 h;exact List.any_eq_true.2 ⟨_,List.getElem_mem hlt,hk⟩
theorem Ez {aA:Tok->Bool}{lo:Nat}{t:Tok}(hn:bA t=none)(h:∀x∈cG,(x==t)=false):jg aA lo t=if aA t=true then .ok ⟨99,0,t,[],[],[]⟩ else .error 3:=by
 have hp:aN.any (· == t)=false:=by
  rw[List.any_eq_false];intro x hx;rw[h x (by simp[cG,hx])];decide
 have hk:eB.any (· == t)=false:=by
  rw[List.any_eq_false];intro x hx;rw[h x (by simp[cG,hx])];decide
 have ne:∀k,k∈cG->¬t=k:=λk hk e=>by have:=h k hk;rw[e] at this;simp at this
 have b1:(t==dK)=false:=by rw[beq_eq_false_iff_ne];exact ne _ (by decide)
 have b2:(t==eH)=false:=by rw[beq_eq_false_iff_ne];exact ne _ (by decide)
 have b3:(t==dS)=false:=by rw[beq_eq_false_iff_ne];exact ne _ (by decide)
 unfold jg;rw[hn];dsimp only;rw[af (by rw[hp];decide),af (λe=>ne kI (by decide) e.1),af (ne iW (by decide)),af (ne rL (by decide)),af (by unfold pO;rw[hk,b1,b2,b3];decide)]
theorem xK {aA:Tok->Bool}{lo:Nat}{t:Tok}(h:t=dK\/t=dS):jg aA lo t=.error 4:=by
 rcases h with rfl|rfl
 ·unfold jg;rw[show bA dK=none by decide];dsimp only;rw[af (by decide),af (λe=>ax e.1 (by decide)),af (by decide),af (by decide),ag (by decide)]
 ·unfold jg;rw[show bA dS=none by decide];dsimp only;rw[af (by decide),af (λe=>ax e.1 (by decide)),af (by decide),af (by decide),ag (by decide)]
theorem TY (G:Nat)(IH:∀g,g<G->tI g):Gm G:=by
  intro w sb bk mb aA ws lo tb K res aG h ho XT hK he
  cases G with
  | zero=>cases aG
  | succ g=>
  have hB:=IH g (by omega);have C5:K=fF tb.data.toList:=by rw[hK,ByteArray.toList_eq];rfl
  have hne:tb.data.toList≠[]:=by have:=ho.1;rw[ByteArray.toList_eq] at this;exact this
  clear hK;rcases Gq hne he with⟨n,hn,hk⟩|⟨hn,j,hp,hk,hj⟩|⟨hn,hk,hsp⟩|hc
  · rw[GY hn] at aG
    injection aG with aG;subst aG;rw[C5,hk];exact K7 w sb bk mb aA ws lo tb n (by rw[ByteArray.toList_eq];exact hn) h ho
  · rw[zO hn (zN hp)] at aG
    injection aG with aG;subst aG;exact D6 w sb bk mb aA ws lo tb j hj K (by rw[C5,hk]) hp h
  · have hnl:¬lV tb.data.toList:=by
      rintro (e|e|e|e)
      · have:=hsp FW (by decide);rw[e] at this;simp at this
      · have:=hsp jf (by decide);rw[e] at this;simp at this
      · have:=hsp Gr (by decide);rw[e] at this;simp at this
      · have:=hsp fu (by decide);rw[e] at this;simp at this
    rw[jh _ _ _ _ _ hnl,Ez hn hsp] at aG;rw[C5,hk];refine Gt w sb bk mb aA ws lo tb h ho res ?_
    cases hkn:aA tb.data.toList
    · rw[hkn] at aG;rw[af (by decide)] at aG;injection aG with aG;rw[af (by decide)];exact aG.symm
    · rw[hkn] at aG;rw[ag rfl] at aG;injection aG with aG;rw[ag rfl];exact aG.symm
  · have hbd:∀(k:Int),K=k->18<=k->(∀w,bW w sb bk mb aA ws lo->Calls prog 218 #[pt sb,.int .i64 k] w λx w'=>Kp w w' (λb=>b=sb)/\rE w sb bk mb aA lo x w' res) ->
        Calls prog 198 #[pt sb,.string tb,.int .i64 K] w λx w'=>Kp w w' (λb=>b=sb)/\rE w sb bk mb aA lo x w' res:=by
      intro k hk Om hc;rw[hk];exact D9 w sb bk mb aA ws lo tb k Om res h hc
    rcases hc with hc|hc|hc|hc|hc|hc|hc|hc|hc
    all_goals rw[hc] at aG C5
    · rw[jh _ _ _ _ _ (by unfold lV;decide),xK (.inl rfl)] at aG
      injection aG with aG;subst aG;exact hbd 18 (by rw[C5];decide) (by decide) (λw h=>D7 w sb bk mb aA ws lo h)
    · rw[C6] at aG
      exact hbd 20 (by rw[C5];decide) (by decide) (λw h=>GX w sb bk mb aA ws lo res h (λw h=>Lp w sb bk mb aA ws lo h res (by
        rcases hp:bh (aD ws) with e|⟨ts,r⟩
        · rw[hp] at aG;injection aG with aG;exact aG.symm
        · rw[hp] at aG;injection aG with aG;exact aG.symm)))
    · rw[jh _ _ _ _ _ (by unfold lV;decide),xK (.inr rfl)] at aG
      injection aG with aG;subst aG;exact hbd 21 (by rw[C5];decide) (by decide) (λw h=>D8 w sb bk mb aA ws lo h)
    · exact hbd 22 (by rw[C5];decide) (by decide) (λw h=>PN w sb bk mb aA ws lo res h (λw h=>ifQ g hB w sb bk mb aA ws lo res aG h))
    · exact hbd 25 (by rw[C5];decide) (by decide) (λw h=>Ey w sb bk mb aA ws lo res h (λw h=>PM g hB w sb bk mb aA ws lo res aG h))
    · exact hbd 29 (by rw[C5];decide) (by decide) (λw h=>PO w sb bk mb aA ws lo res h (λw h=>doQ g hB w sb bk mb aA ws lo (by omega) res aG h))
    · by_cases hl:0<lo
      · rw[TZ hl] at aG
        injection aG with aG;subst aG;exact hbd 31 (by rw[C5];decide) (by decide) (λw h=>Tu w sb bk mb aA ws lo h hl)
      · have hl:lo=0:=by omega
        subst hl;rw[Oo] at aG;injection aG with aG;subst aG;exact hbd 31 (by rw[C5];decide) (by decide) (λw h=>Pk w sb bk mb aA ws 0 h rfl)
    · rw[GZ] at aG
      injection aG with aG;subst aG;exact hbd 32 (by rw[C5];decide) (by decide) (λw h=>K8 w sb bk mb aA ws lo h)
    · rw[C7] at aG
      injection aG with aG;subst aG;exact hbd 33 (by rw[C5];decide) (by decide) (λw h=>Gu w sb bk mb aA ws lo h)
theorem T3:∀G,Gm G/\tI G:=by
 intro G
 induction G using Nat.strongRecOn with
 | _ G ih=>exact⟨TY G (λg hg=>(ih g hg).2),Tn G (λg hg=>(ih g hg).1)⟩
def QRd (w:World)(x:Ending)(w':World):fh->Prop
 | .ok (l,_,r)=>∃v a n p eZ,x=.returned (.tuple #[v,.slice a n p,.int .i64 0])/\cV (BD (New w) w') v l/\fC (BD (λb=>b<w.heap.size) w') (.slice a n p) eZ/\aD eZ=r/\(∀t∈eZ,okW t)/\eZ.length<=1000
 | .error e=>e≠0/\x=.returned (.tuple #[.slice none 0 0,.slice none 0 0,.int .i64 e])
theorem T4 (g:Nat)(w:World)(bk mb:Nat)(aA:Tok->Bool)(v:Value)(ws:List ByteArray)(hb:lT w bk mb aA)(ht:fC (aC w) v ws)(hl:ws.length<=1000)(ho:∀t∈ws,okW t)(hs:tG w)(res:fh)(aG:aK aA g ⟨false,0,[eH],[]⟩ (aD ws)=some res):
  Calls prog 115 #[v,.func (.func 74) #[pt bk] #[]] w λx w'=>Kp w w' (λ_=>False)/\QRd w x w' res:=by
 obtain⟨ao,cap,rfl⟩:=ht.form;have hka:=(Kp.refl w (λ_=>False)).alloc (.cells (gA (.slice ao ws.length cap) bk 0) 201);have Tp:=aC.new w (gA (.slice ao ws.length cap) bk 0) 201;have Bf:=hs.lt;have Eu:bW (w.alloc (.cells (gA (.slice ao ws.length cap) bk 0) 201)) w.heap.size bk mb aA ws 0:=
  ⟨⟨_,Tp,cO (λb c hc=>⟨hc.lt,hc.alloc _⟩) ht⟩,hb.kp hka (by simp) (by simp),hl,ho,hs.kp hka (by simp),by omega⟩
 have HU:=az (Gv g (T3 g).2 _ w.heap.size bk mb aA ws 0 eH 19 (by decide) (by decide) res aG Eu);clear Eu hb ht aG;go_enter func115,ntmps115
 go_wp2_with fail
 refine HU.out.mono ?_;rintro x w1 ⟨hk1,hq⟩;have hkp:Kp w w1 (λ_=>False):=Kp.newer hka hk1 (ah _);rcases res with er|⟨l,t,r⟩
 ·obtain⟨her,a,m,p,rv,rfl,cX⟩:=hq;have Gw:(er != 0)=true:=by simpa using her
  go_wp2;refine bodyPost_ret (gw rfl _ _ _) rfl ?_;exact⟨hkp,her,rfl⟩
 ·obtain⟨v1,nX,rfl,hI,htx,hS1⟩:=hq;obtain⟨xs9,xL,-⟩:=hI.out;obtain⟨a9,p9,rfl⟩:=xL.form;clear xL;obtain⟨rv,cX,Ol⟩:=hS1.blk;obtain⟨Kz,jd,rfl⟩:=Ol.form;have c0:w1.cell? ⟨w.heap.size,0,none⟩=some (.slice Kz nX.length jd):=cX.cell rfl;have HI:Hid (cV (BD (New w) w1) (.slice a9 l.length p9) l):=hI.mono (mC (λb _ hb=>by
   have:(w.alloc (.cells (gA (.slice ao ws.length cap) bk 0) 201)).heap.size<=b:=hb;rw[World.size_alloc] at this;show w.heap.size<=b;omega))
  have ld:=hS1.len;have HO:=az hS1.ok;have HT:=az Ol;clear hI Ol cX hS1 HU hk1;go_wp2
  go_quiet (fail)
  go_wp2;refine bodyPost_ret (gw rfl _ _ _) rfl ?_;exact⟨hkp.drewN nq,_,Kz,_,jd,nX,rfl,HI.out.mono (λb t c h=>h),cO (λb c h=>h) HT.out,htx,HO.out,by omega⟩
theorem aC.Lq (w:World)(o o1 o2:Obj)(c:Array Value)(t:TypeId):aC ((((w.alloc o).alloc o1).alloc o2).alloc (.cells c t)) (w.heap.size+1+1+1) t c:=by
 have:=aC.new (((w.alloc o).alloc o1).alloc o2) c t;rw[World.size_alloc,World.size_alloc,World.size_alloc] at this;exact this
theorem aC.PT (w:World)(o o1 o2 o3:Obj)(c:Array Value)(t:TypeId):aC (((((w.alloc o).alloc o1).alloc o2).alloc o3).alloc (.cells c t)) (w.heap.size+1+1+1+1) t c:=by
 have:=aC.new ((((w.alloc o).alloc o1).alloc o2).alloc o3) c t;rw[World.size_alloc,World.size_alloc,World.size_alloc,World.size_alloc] at this;exact this
theorem aC.T5 (w:World)(o o1 o2 o3 o4:Obj)(c:Array Value)(t:TypeId):aC ((((((w.alloc o).alloc o1).alloc o2).alloc o3).alloc o4).alloc (.cells c t)) (w.heap.size+1+1+1+1+1) t c:=by
 have:=aC.new (((((w.alloc o).alloc o1).alloc o2).alloc o3).alloc o4) c t;rw[World.size_alloc,World.size_alloc,World.size_alloc,World.size_alloc,World.size_alloc] at this;exact this
theorem j6 {M:Mem}{j:Nat}{act:Value}(h:bB M j act):∃n f c,act=.func (.func n) f c:=by
 unfold bB at h
 split at h
 all_goals first
  | (obtain⟨b,rfl,_⟩:=h;exact⟨_,_,_,rfl⟩)
  | (obtain⟨cb,b,pv,rfl,_⟩:=h;exact⟨_,_,_,rfl⟩)
  | (have h:act=_:=h;subst h;exact⟨_,_,_,rfl⟩)
  | exact h.elim
theorem nw (w:World)(k:Nat):New w (w.heap.size+k):=Nat.le_add_right _ _
def Up (E:Nat->Prop)(w:World):Prop:=∀b,w.heap.size<=b->E b
theorem Up.kp {E:Nat->Prop}{w w':World}{S:Nat->Prop}(h:Up E w)(hk:Kp w w' S):Up E w':=λb hb=>h b (ai hk.size hb)
theorem Up.at {E:Nat->Prop}{w:World}(h:Up E w)(k:Nat):E (w.heap.size+k):=h _ (Nat.le_add_right _ _)
section
variable {R:Nat->Fr->Prop}{E:Nat->Prop}{lf:Int}{mk pk:Option Nat}
theorem PU (w:World)(hU:Up E w)(bk ob:Nat)(x:It)(hx:x.kind=110)(hn:In x.n)(pl:Int)(nm:ByteArray)(a1 a2 a3:Option Addr)(m1 m2 m3 p1 p2 p3:Nat)(P:Nat->Value->List It->Prop):
  Calls prog 183 #[.agg #[pt bk,pt ob,.int .i64 lf,.map mk,.map pk],CV 0 x.n pl nm (.slice a1 m1 p1) (.slice a2 m2 p2) (.slice a3 m3 p3)] w λe w'=>∃c,e=.returned c/\Kp w w' (λ_=>False)/\gN (BD E w') R bk ob P x c:=by
 have lI:=bV;go_enter func183,ntmps183;go_wp2;go_ret;refine⟨_,rfl,?_,?_⟩
 ·exact((((Kp.refl _ _).alloc _).alloc _).alloc _).alloc _
 ·exact .inl ⟨hx,hn,_,_,rfl,⟨hU.at 3,aC.Lq w _ _ _ _ _⟩,⟨hU.at 2,(aC.new2 w _ _ _ _).alloc _⟩⟩
theorem Y1 (w:World)(hU:Up E w)(bk ob:Nat)(x:It)(hx:x.kind=105)(n pl:Int)(nm:ByteArray)(a1 a2 a3:Option Addr)(m1 m2 m3 p1 p2 p3:Nat)(P:Nat->Value->List It->Prop):
  Calls prog 183 #[.agg #[pt bk,pt ob,.int .i64 lf,.map mk,.map pk],CV 7 n pl nm (.slice a1 m1 p1) (.slice a2 m2 p2) (.slice a3 m3 p3)] w λe w'=>∃c,e=.returned c/\Kp w w' (λ_=>False)/\gN (BD E w') R bk ob P x c:=by
 have lI:=bV;go_enter func183,ntmps183;go_wp2;go_ret;refine⟨_,rfl,?_,?_⟩
 ·exact((Kp.refl _ _).alloc _).alloc _
 ·exact .inr (.inr (.inr (.inr (.inr (.inr (.inr (.inl ⟨hx,rfl⟩)))))))
theorem Lr (w:World)(hU:Up E w)(bk ob:Nat)(x:It)(hx:x.kind=120)(n pl:Int)(nm:ByteArray)(a1 a2 a3:Option Addr)(m1 m2 m3 p1 p2 p3:Nat)(P:Nat->Value->List It->Prop):
  Calls prog 183 #[.agg #[pt bk,pt ob,.int .i64 lf,.map mk,.map pk],CV 9 n pl nm (.slice a1 m1 p1) (.slice a2 m2 p2) (.slice a3 m3 p3)] w λe w'=>∃c,e=.returned c/\Kp w w' (λ_=>False)/\gN (BD E w') R bk ob P x c:=by
 have lI:=bV;go_enter func183,ntmps183;go_wp2;go_ret;refine⟨_,rfl,?_,?_⟩
 ·exact((Kp.refl _ _).alloc _).alloc _
 ·exact .inr (.inr (.inr (.inr (.inr (.inr (.inr (.inr (.inr (.inl ⟨hx,rfl⟩)))))))))
theorem PV (w:World)(hU:Up E w)(bk ob:Nat)(x:It)(hx:x.kind=114)(n pl:Int)(nm:ByteArray)(a1 a2 a3:Option Addr)(m1 m2 m3 p1 p2 p3:Nat)(P:Nat->Value->List It->Prop):
  Calls prog 183 #[.agg #[pt bk,pt ob,.int .i64 lf,.map mk,.map pk],CV 8 n pl nm (.slice a1 m1 p1) (.slice a2 m2 p2) (.slice a3 m3 p3)] w λe w'=>∃c,e=.returned c/\Kp w w' (λ_=>False)/\gN (BD E w') R bk ob P x c:=by
 have lI:=bV;go_enter func183,ntmps183;go_wp2;go_ret;refine⟨_,rfl,?_,?_⟩
 ·exact((((((Kp.refl _ _).alloc _).alloc _).alloc _).alloc _).alloc _).alloc _
 ·exact .inr (.inr (.inr (.inr (.inr (.inr (.inr (.inr (.inl ⟨hx,_,_,_,_,rfl,⟨hU.at 5,aC.T5 w _ _ _ _ _ _ _⟩,⟨hU.at 4,(aC.PT w _ _ _ _ _ _).alloc _⟩,⟨hU.at 2,(((aC.new2 w _ _ _ _).alloc _).alloc _).alloc _⟩,⟨hU.at 3,((aC.Lq w _ _ _ _ _).alloc _).alloc _⟩⟩))))))))
theorem G0 (w:World)(hU:Up E w)(bk ob:Nat)(x:It)(hx:x.kind=112)(j:Nat)(hj:aN.findIdx? (· == x.name)=some j)(n K:Int)(hK:K=(j:Int)+2)(nm:ByteArray)(a1 a2 a3:Option Addr)(m1 m2 m3 p1 p2 p3:Nat)(P:Nat->Value->List It->Prop):
  Calls prog 183 #[.agg #[pt bk,pt ob,.int .i64 lf,.map mk,.map pk],CV 1 n K nm (.slice a1 m1 p1) (.slice a2 m2 p2) (.slice a3 m3 p3)] w λe w'=>∃c,e=.returned c/\Kp w w' (λ_=>False)/\gN (BD E w') R bk ob P x c:=by
 have lI:=bV;have T6:j<16:=by obtain⟨h,_⟩:=List.findIdx?_eq_some_iff_getElem.1 hj;exact h
 have HP:Hid (∀w,Calls prog 72 #[.int .i64 K] w λe w'=>∃act,e=.returned act/\Kp w w' (λ_=>False)/\bB (BD (λk=>w.heap.size<=k) w') j act):=λw=>C8 j T6 K hK w;clear hK T6;go_enter func183,ntmps183
 go_wp2_with fail
 refine(HP.out _).mono ?_;rintro e w1 ⟨act,rfl,hk1,hp⟩;obtain⟨fn,ff,fc,rfl⟩:=j6 hp;have hkp:Kp w w1 (λ_=>False):=(((Kp.refl w (λ_=>False)).alloc _).alloc _).trans hk1;have hsz:=hkp.size;have HPp:Hid (bB (BD E w1) j (.func (.func fn) ff fc)):=iX (mC (λb _ h=>by
  have h:((w.alloc _).alloc _).heap.size<=b:=h;rw[World.size_alloc,World.size_alloc] at h;exact hU b (by omega))) hp
 clear hp hk1;go_wp2;go_ret;refine⟨_,rfl,hkp.alloc _,?_⟩;exact .inr (.inl ⟨hx,_,_,j,rfl,⟨hU _ hsz,aC.new w1 _ _⟩,iX (λb t c h=>⟨h.1,h.2.alloc _⟩) HPp.out,hj⟩)
theorem EA (w:World)(hU:Up E w)(bk ob:Nat)(x:It)(hx:x.kind=123)(n pl:Int)(nm:ByteArray)(a1 a2 a3:Option Addr)(m1 m2 m3 p1 p2 p3:Nat)(ws:List ByteArray)(hr:lg (BD E w) 9 (.slice a1 m1 p1) (ws.map Value.string))(htx:aD ws=x.toks)(ho:∀t∈ws,okW t)(hl:ws.length<=1000)(P:Nat->Value->List It->Prop):
  Calls prog 183 #[.agg #[pt bk,pt ob,.int .i64 lf,.map mk,.map pk],CV 10 n pl nm (.slice a1 m1 p1) (.slice a2 m2 p2) (.slice a3 m3 p3)] w λe w'=>∃c,e=.returned c/\Kp w w' (λ_=>False)/\gN (BD E w') R bk ob P x c:=by
 have lI:=bV;have HR:=az hr;clear hr;go_enter func183,ntmps183;go_wp2;go_ret;refine⟨_,rfl,((((((Kp.refl _ _).alloc _).alloc _).alloc _).alloc _).alloc _).alloc _,?_⟩;exact .inr (.inr (.inr (.inr (.inr (.inr (.inr (.inr (.inr (.inr (⟨hx,_,_,_,_,_,ws,rfl,⟨hU.at 5,aC.T5 w _ _ _ _ _ _ _⟩,⟨hU.at 4,(aC.PT w _ _ _ _ _ _).alloc _⟩,⟨hU.at 2,(((aC.new2 w _ _ _ _).alloc _).alloc _).alloc _⟩,⟨hU.at 3,((aC.Lq w _ _ _ _ _).alloc _).alloc _⟩,gT (λb t c h=>⟨h.1,(((((h.2.alloc _).alloc _).alloc _).alloc _).alloc _).alloc _⟩) HR.out,htx,ho,hl⟩))))))))))
end
end
end Go.Proofs.YteainaiebcphlaaGreatDoor
