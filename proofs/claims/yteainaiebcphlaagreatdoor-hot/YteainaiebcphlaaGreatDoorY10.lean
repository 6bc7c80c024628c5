import Derived.Test.YteainaiebcphlaaGreatDoorY9
import Derived.Laws.EntriesVeiled
import Derived.Test.YteainaiebcphlaaGreatDoorY6
namespace Go.Proofs.YteainaiebcphlaaGreatDoor
set_option maxRecDepth 1000000
set_option maxHeartbeats 4000000
set_option linter.all false
section
open Go.RowKit
theorem bdQ_if (w:World) (sb bk mb:Nat) (known:Tok->Bool) (ws:List ByteArray) (lo:Nat) (res:PRes) (h:RdInv w sb bk mb known ws lo)
  (hc:∀ w,RdInv w sb bk mb known ws lo->Calls Tryz.prog 238 #[pt sb] w fun x w'=>Kp w w' (fun b=>b=sb)/\QIt w sb bk mb known lo x w' res):
  Calls Tryz.prog 218 #[pt sb,.int .i64 22] w fun x w'=>Kp w w' (fun b=>b=sb)/\QIt w sb bk mb known lo x w' res:=by
 obtain⟨rv,hB,hT⟩:=h.blk;have hsb:=hB.lt;have hcs:sb ≠ w.heap.size:=by omega
 have hka:=(Kp.refl w (fun _=>False)).alloc (.cells zIt7 241);have HC:=hide (hc _ (h.kp hka));have hZ0:=Blk.new w zIt7 241;clear hc hka;go_enter Tryz.func218,Tryz.ntmps218
 go_wp2_with fail
 refine HC.out.mono ?_;rintro x w2 ⟨hk2,hq⟩;have hZ:=hk2.blk hZ0 hcs.symm;have hkp:Kp w w2 (fun b=>b=sb):=((Kp.refl _ _).alloc _).trans hk2;have hsz2:w.heap.size+1<=w2.heap.size:=by have:=hk2.size;simpa using this
 obtain⟨y0,y1,y2,y3,y4,y5,y6⟩:=hZ.seven;obtain⟨z0,z1,z2,z3,z4,z5,z6⟩:=hZ.sevenF;rcases res with er|⟨xs,tt,r⟩
 ·obtain⟨her,k7,n7,pl7,nm,a1,m1,p1,a2,m2,p2,a3,m3,p3,rv2,rfl,hB1⟩:=hq;clear hk2 hZ0;go_wp2;have hC2:=hZ.set7 (.int .i64 k7) (.int .i64 n7) (.int .i64 pl7) (.string nm) (.slice a1 m1 p1) (.slice a2 m2 p2) (.slice a3 m3 p3);have hK2:=hkp.set7 (Nat.le_refl _) (.int .i64 k7) (.int .i64 n7) (.int .i64 pl7) (.string nm) (.slice a1 m1 p1) (.slice a2 m2 p2) (.slice a3 m3 p3);have hB2:=hB1.other7 hcs (.int .i64 k7) (.int .i64 n7) (.int .i64 pl7) (.string nm) (.slice a1 m1 p1) (.slice a2 m2 p2) (.slice a3 m3 p3);generalize (((((((w2.setCell ⟨w.heap.size,0,none⟩ (.int .i64 k7)).setCell ⟨w.heap.size,1,none⟩ (.int .i64 n7)).setCell ⟨w.heap.size,2,none⟩ (.int .i64 pl7)).setCell ⟨w.heap.size,3,none⟩ (.string nm)).setCell ⟨w.heap.size,4,none⟩ (.slice a1 m1 p1)).setCell ⟨w.heap.size,5,none⟩ (.slice a2 m2 p2)).setCell ⟨w.heap.size,6,none⟩ (.slice a3 m3 p3))=wf at hC2 hK2 hB2 ⊢;obtain⟨q0,q1,q2,q3,q4,q5,q6⟩:=hC2.seven;refine bodyPost_ret (v:=.tuple #[.agg #[.int .i64 k7,.int .i64 n7,.int .i64 pl7,.string nm,.slice a1 m1 p1,.slice a2 m2 p2,.slice a3 m3 p3],.int .i64 er]) (by simp[results,Tryz.results218,go_sem,q0,q1,q2,q3,q4,q5,q6]) rfl ?_;exact⟨hK2,her,_,_,_,_,_,_,_,_,_,_,_,_,_,_,rfl,hB2⟩
 ·obtain⟨x',n7,pl7,nm,tv,va,vb,ws2,rfl,rfl,hat,htx,hS2⟩:=hq;obtain⟨ws5,hr5,-⟩:=hat.toks;obtain⟨xs3,hr3,-⟩:=hat.a.out;obtain⟨xs4,hr4,-⟩:=hat.b.out;obtain⟨a3,p3,rfl⟩:=hr3.form;obtain⟨a4,p4,rfl⟩:=hr4.form;obtain⟨a5,p5,hv5⟩:=hr5.form;rw[List.length_map] at hv5;subst hv5;obtain⟨rv2,hB1,hT2⟩:=hS2.blk;have HAt:=hide hat;have HS2:=hide hS2;clear hk2 hZ0 hr3 hr4 hr5 hat hS2;go_wp2;have hk3:Kp w2 (((((((w2.setCell ⟨w.heap.size,0,none⟩ (.int .i64 (kindP x'.kind))).setCell ⟨w.heap.size,1,none⟩ (.int .i64 n7)).setCell ⟨w.heap.size,2,none⟩ (.int .i64 pl7)).setCell ⟨w.heap.size,3,none⟩ (.string nm)).setCell ⟨w.heap.size,4,none⟩ (.slice a5 ws5.length p5)).setCell ⟨w.heap.size,5,none⟩ (.slice a3 x'.a.length p3)).setCell ⟨w.heap.size,6,none⟩ (.slice a4 x'.b.length p4)) (fun b=>b=w.heap.size):=((((((((Kp.refl w2 (fun b=>b=w.heap.size)).set (a:=⟨w.heap.size,0,none⟩) (fun _=>rfl) _).set (a:=⟨w.heap.size,1,none⟩) (fun _=>rfl) _).set (a:=⟨w.heap.size,2,none⟩) (fun _=>rfl) _).set (a:=⟨w.heap.size,3,none⟩) (fun _=>rfl) _).set (a:=⟨w.heap.size,4,none⟩) (fun _=>rfl) _).set (a:=⟨w.heap.size,5,none⟩) (fun _=>rfl) _).set (a:=⟨w.heap.size,6,none⟩) (fun _=>rfl) _);have hC2:=hZ.set7 (.int .i64 (kindP x'.kind)) (.int .i64 n7) (.int .i64 pl7) (.string nm) (.slice a5 ws5.length p5) (.slice a3 x'.a.length p3) (.slice a4 x'.b.length p4);have hK2:=hkp.set7 (Nat.le_refl _) (.int .i64 (kindP x'.kind)) (.int .i64 n7) (.int .i64 pl7) (.string nm) (.slice a5 ws5.length p5) (.slice a3 x'.a.length p3) (.slice a4 x'.b.length p4);have hB2:=hB1.other7 hcs (.int .i64 (kindP x'.kind)) (.int .i64 n7) (.int .i64 pl7) (.string nm) (.slice a5 ws5.length p5) (.slice a3 x'.a.length p3) (.slice a4 x'.b.length p4);generalize (((((((w2.setCell ⟨w.heap.size,0,none⟩ (.int .i64 (kindP x'.kind))).setCell ⟨w.heap.size,1,none⟩ (.int .i64 n7)).setCell ⟨w.heap.size,2,none⟩ (.int .i64 pl7)).setCell ⟨w.heap.size,3,none⟩ (.string nm)).setCell ⟨w.heap.size,4,none⟩ (.slice a5 ws5.length p5)).setCell ⟨w.heap.size,5,none⟩ (.slice a3 x'.a.length p3)).setCell ⟨w.heap.size,6,none⟩ (.slice a4 x'.b.length p4))=wf at hC2 hK2 hB2 hk3 ⊢;obtain⟨q0,q1,q2,q3,q4,q5,q6⟩:=hC2.seven;refine bodyPost_ret (v:=.tuple #[.agg #[.int .i64 (kindP x'.kind),.int .i64 n7,.int .i64 pl7,.string nm,.slice a5 ws5.length p5,.slice a3 x'.a.length p3,.slice a4 x'.b.length p4],.int .i64 0]) (by simp[results,Tryz.results218,go_sem,q0,q1,q2,q3,q4,q5,q6]) rfl ?_;have hkc:=BD_keep (D:=New (w.alloc (.cells zIt7 241))) (D':=New w) hk3 (fun b _ hb=>by
   have hb:w.heap.size+1<=b:=by have:(w.alloc (.cells zIt7 241)).heap.size<=b:=hb;simpa using this
   exact⟨by show w.heap.size<=b;omega,by show ¬ b=w.heap.size;omega⟩)
  refine⟨hK2,x',n7,pl7,nm,_,_,_,ws2,rfl,rfl,HAt.out.mono hkc (fun _ _ h=>h.mono hkc),htx,?_⟩;have h2:=HS2.out;obtain⟨nn,DD,hm,hl⟩:=h2.book.look;have hne:∀ b t c,Blk w2 b t c->t ≠ 241->¬ b=w.heap.size:=fun b t c hb ht e=>by subst e;exact ht (hb.inj hZ).1
  have h1w:=h.sp.lt;exact⟨⟨rv2,hB2,TokAt_mono (fun b c hc=>⟨hc.1,hk3.blk hc.2 (hne b 9 c hc.2 (by decide))⟩) hT2⟩,h2.book.kp hk3 (hne bk _ _ h2.book.blk (by decide)) (fun e=>map_ne hm hZ e),h2.len,h2.ok,h2.sp.kp hk3 (by show ¬ (1:Nat)=w.heap.size;omega),h2.s1⟩
theorem bdQ_begin (w:World) (sb bk mb:Nat) (known:Tok->Bool) (ws:List ByteArray) (lo:Nat) (res:PRes) (h:RdInv w sb bk mb known ws lo)
  (hc:∀ w,RdInv w sb bk mb known ws lo->Calls Tryz.prog 239 #[pt sb] w fun x w'=>Kp w w' (fun b=>b=sb)/\QIt w sb bk mb known lo x w' res):
  Calls Tryz.prog 218 #[pt sb,.int .i64 25] w fun x w'=>Kp w w' (fun b=>b=sb)/\QIt w sb bk mb known lo x w' res:=by
 obtain⟨rv,hB,hT⟩:=h.blk;have hsb:=hB.lt;have hcs:sb ≠ w.heap.size:=by omega
 have hka:=(Kp.refl w (fun _=>False)).alloc (.cells zIt7 241);have HC:=hide (hc _ (h.kp hka));have hZ0:=Blk.new w zIt7 241;clear hc hka;go_enter Tryz.func218,Tryz.ntmps218
 go_wp2_with fail
 refine HC.out.mono ?_;rintro x w2 ⟨hk2,hq⟩;have hZ:=hk2.blk hZ0 hcs.symm;have hkp:Kp w w2 (fun b=>b=sb):=((Kp.refl _ _).alloc _).trans hk2;have hsz2:w.heap.size+1<=w2.heap.size:=by have:=hk2.size;simpa using this
 obtain⟨y0,y1,y2,y3,y4,y5,y6⟩:=hZ.seven;obtain⟨z0,z1,z2,z3,z4,z5,z6⟩:=hZ.sevenF;rcases res with er|⟨xs,tt,r⟩
 ·obtain⟨her,k7,n7,pl7,nm,a1,m1,p1,a2,m2,p2,a3,m3,p3,rv2,rfl,hB1⟩:=hq;clear hk2 hZ0;go_wp2;have hC2:=hZ.set7 (.int .i64 k7) (.int .i64 n7) (.int .i64 pl7) (.string nm) (.slice a1 m1 p1) (.slice a2 m2 p2) (.slice a3 m3 p3);have hK2:=hkp.set7 (Nat.le_refl _) (.int .i64 k7) (.int .i64 n7) (.int .i64 pl7) (.string nm) (.slice a1 m1 p1) (.slice a2 m2 p2) (.slice a3 m3 p3);have hB2:=hB1.other7 hcs (.int .i64 k7) (.int .i64 n7) (.int .i64 pl7) (.string nm) (.slice a1 m1 p1) (.slice a2 m2 p2) (.slice a3 m3 p3);generalize (((((((w2.setCell ⟨w.heap.size,0,none⟩ (.int .i64 k7)).setCell ⟨w.heap.size,1,none⟩ (.int .i64 n7)).setCell ⟨w.heap.size,2,none⟩ (.int .i64 pl7)).setCell ⟨w.heap.size,3,none⟩ (.string nm)).setCell ⟨w.heap.size,4,none⟩ (.slice a1 m1 p1)).setCell ⟨w.heap.size,5,none⟩ (.slice a2 m2 p2)).setCell ⟨w.heap.size,6,none⟩ (.slice a3 m3 p3))=wf at hC2 hK2 hB2 ⊢;obtain⟨q0,q1,q2,q3,q4,q5,q6⟩:=hC2.seven;refine bodyPost_ret (v:=.tuple #[.agg #[.int .i64 k7,.int .i64 n7,.int .i64 pl7,.string nm,.slice a1 m1 p1,.slice a2 m2 p2,.slice a3 m3 p3],.int .i64 er]) (by simp[results,Tryz.results218,go_sem,q0,q1,q2,q3,q4,q5,q6]) rfl ?_;exact⟨hK2,her,_,_,_,_,_,_,_,_,_,_,_,_,_,_,rfl,hB2⟩
 ·obtain⟨x',n7,pl7,nm,tv,va,vb,ws2,rfl,rfl,hat,htx,hS2⟩:=hq;obtain⟨ws5,hr5,-⟩:=hat.toks;obtain⟨xs3,hr3,-⟩:=hat.a.out;obtain⟨xs4,hr4,-⟩:=hat.b.out;obtain⟨a3,p3,rfl⟩:=hr3.form;obtain⟨a4,p4,rfl⟩:=hr4.form;obtain⟨a5,p5,hv5⟩:=hr5.form;rw[List.length_map] at hv5;subst hv5;obtain⟨rv2,hB1,hT2⟩:=hS2.blk;have HAt:=hide hat;have HS2:=hide hS2;clear hk2 hZ0 hr3 hr4 hr5 hat hS2;go_wp2;have hk3:Kp w2 (((((((w2.setCell ⟨w.heap.size,0,none⟩ (.int .i64 (kindP x'.kind))).setCell ⟨w.heap.size,1,none⟩ (.int .i64 n7)).setCell ⟨w.heap.size,2,none⟩ (.int .i64 pl7)).setCell ⟨w.heap.size,3,none⟩ (.string nm)).setCell ⟨w.heap.size,4,none⟩ (.slice a5 ws5.length p5)).setCell ⟨w.heap.size,5,none⟩ (.slice a3 x'.a.length p3)).setCell ⟨w.heap.size,6,none⟩ (.slice a4 x'.b.length p4)) (fun b=>b=w.heap.size):=((((((((Kp.refl w2 (fun b=>b=w.heap.size)).set (a:=⟨w.heap.size,0,none⟩) (fun _=>rfl) _).set (a:=⟨w.heap.size,1,none⟩) (fun _=>rfl) _).set (a:=⟨w.heap.size,2,none⟩) (fun _=>rfl) _).set (a:=⟨w.heap.size,3,none⟩) (fun _=>rfl) _).set (a:=⟨w.heap.size,4,none⟩) (fun _=>rfl) _).set (a:=⟨w.heap.size,5,none⟩) (fun _=>rfl) _).set (a:=⟨w.heap.size,6,none⟩) (fun _=>rfl) _);have hC2:=hZ.set7 (.int .i64 (kindP x'.kind)) (.int .i64 n7) (.int .i64 pl7) (.string nm) (.slice a5 ws5.length p5) (.slice a3 x'.a.length p3) (.slice a4 x'.b.length p4);have hK2:=hkp.set7 (Nat.le_refl _) (.int .i64 (kindP x'.kind)) (.int .i64 n7) (.int .i64 pl7) (.string nm) (.slice a5 ws5.length p5) (.slice a3 x'.a.length p3) (.slice a4 x'.b.length p4);have hB2:=hB1.other7 hcs (.int .i64 (kindP x'.kind)) (.int .i64 n7) (.int .i64 pl7) (.string nm) (.slice a5 ws5.length p5) (.slice a3 x'.a.length p3) (.slice a4 x'.b.length p4);generalize (((((((w2.setCell ⟨w.heap.size,0,none⟩ (.int .i64 (kindP x'.kind))).setCell ⟨w.heap.size,1,none⟩ (.int .i64 n7)).setCell ⟨w.heap.size,2,none⟩ (.int .i64 pl7)).setCell ⟨w.heap.size,3,none⟩ (.string nm)).setCell ⟨w.heap.size,4,none⟩ (.slice a5 ws5.length p5)).setCell ⟨w.heap.size,5,none⟩ (.slice a3 x'.a.length p3)).setCell ⟨w.heap.size,6,none⟩ (.slice a4 x'.b.length p4))=wf at hC2 hK2 hB2 hk3 ⊢;obtain⟨q0,q1,q2,q3,q4,q5,q6⟩:=hC2.seven;refine bodyPost_ret (v:=.tuple #[.agg #[.int .i64 (kindP x'.kind),.int .i64 n7,.int .i64 pl7,.string nm,.slice a5 ws5.length p5,.slice a3 x'.a.length p3,.slice a4 x'.b.length p4],.int .i64 0]) (by simp[results,Tryz.results218,go_sem,q0,q1,q2,q3,q4,q5,q6]) rfl ?_;have hkc:=BD_keep (D:=New (w.alloc (.cells zIt7 241))) (D':=New w) hk3 (fun b _ hb=>by
   have hb:w.heap.size+1<=b:=by have:(w.alloc (.cells zIt7 241)).heap.size<=b:=hb;simpa using this
   exact⟨by show w.heap.size<=b;omega,by show ¬ b=w.heap.size;omega⟩)
  refine⟨hK2,x',n7,pl7,nm,_,_,_,ws2,rfl,rfl,HAt.out.mono hkc (fun _ _ h=>h.mono hkc),htx,?_⟩;have h2:=HS2.out;obtain⟨nn,DD,hm,hl⟩:=h2.book.look;have hne:∀ b t c,Blk w2 b t c->t ≠ 241->¬ b=w.heap.size:=fun b t c hb ht e=>by subst e;exact ht (hb.inj hZ).1
  have h1w:=h.sp.lt;exact⟨⟨rv2,hB2,TokAt_mono (fun b c hc=>⟨hc.1,hk3.blk hc.2 (hne b 9 c hc.2 (by decide))⟩) hT2⟩,h2.book.kp hk3 (hne bk _ _ h2.book.blk (by decide)) (fun e=>map_ne hm hZ e),h2.len,h2.ok,h2.sp.kp hk3 (by show ¬ (1:Nat)=w.heap.size;omega),h2.s1⟩
theorem bdQ_do (w:World) (sb bk mb:Nat) (known:Tok->Bool) (ws:List ByteArray) (lo:Nat) (res:PRes) (h:RdInv w sb bk mb known ws lo)
  (hc:∀ w,RdInv w sb bk mb known ws lo->Calls Tryz.prog 240 #[pt sb] w fun x w'=>Kp w w' (fun b=>b=sb)/\QIt w sb bk mb known lo x w' res):
  Calls Tryz.prog 218 #[pt sb,.int .i64 29] w fun x w'=>Kp w w' (fun b=>b=sb)/\QIt w sb bk mb known lo x w' res:=by
 obtain⟨rv,hB,hT⟩:=h.blk;have hsb:=hB.lt;have hcs:sb ≠ w.heap.size:=by omega
 have hka:=(Kp.refl w (fun _=>False)).alloc (.cells zIt7 241);have HC:=hide (hc _ (h.kp hka));have hZ0:=Blk.new w zIt7 241;clear hc hka;go_enter Tryz.func218,Tryz.ntmps218
 go_wp2_with fail
 refine HC.out.mono ?_;rintro x w2 ⟨hk2,hq⟩;have hZ:=hk2.blk hZ0 hcs.symm;have hkp:Kp w w2 (fun b=>b=sb):=((Kp.refl _ _).alloc _).trans hk2;have hsz2:w.heap.size+1<=w2.heap.size:=by have:=hk2.size;simpa using this
 obtain⟨y0,y1,y2,y3,y4,y5,y6⟩:=hZ.seven;obtain⟨z0,z1,z2,z3,z4,z5,z6⟩:=hZ.sevenF;rcases res with er|⟨xs,tt,r⟩
 ·obtain⟨her,k7,n7,pl7,nm,a1,m1,p1,a2,m2,p2,a3,m3,p3,rv2,rfl,hB1⟩:=hq;clear hk2 hZ0;go_wp2;have hC2:=hZ.set7 (.int .i64 k7) (.int .i64 n7) (.int .i64 pl7) (.string nm) (.slice a1 m1 p1) (.slice a2 m2 p2) (.slice a3 m3 p3);have hK2:=hkp.set7 (Nat.le_refl _) (.int .i64 k7) (.int .i64 n7) (.int .i64 pl7) (.string nm) (.slice a1 m1 p1) (.slice a2 m2 p2) (.slice a3 m3 p3);have hB2:=hB1.other7 hcs (.int .i64 k7) (.int .i64 n7) (.int .i64 pl7) (.string nm) (.slice a1 m1 p1) (.slice a2 m2 p2) (.slice a3 m3 p3);generalize (((((((w2.setCell ⟨w.heap.size,0,none⟩ (.int .i64 k7)).setCell ⟨w.heap.size,1,none⟩ (.int .i64 n7)).setCell ⟨w.heap.size,2,none⟩ (.int .i64 pl7)).setCell ⟨w.heap.size,3,none⟩ (.string nm)).setCell ⟨w.heap.size,4,none⟩ (.slice a1 m1 p1)).setCell ⟨w.heap.size,5,none⟩ (.slice a2 m2 p2)).setCell ⟨w.heap.size,6,none⟩ (.slice a3 m3 p3))=wf at hC2 hK2 hB2 ⊢;obtain⟨q0,q1,q2,q3,q4,q5,q6⟩:=hC2.seven;refine bodyPost_ret (v:=.tuple #[.agg #[.int .i64 k7,.int .i64 n7,.int .i64 pl7,.string nm,.slice a1 m1 p1,.slice a2 m2 p2,.slice a3 m3 p3],.int .i64 er]) (by simp[results,Tryz.results218,go_sem,q0,q1,q2,q3,q4,q5,q6]) rfl ?_;exact⟨hK2,her,_,_,_,_,_,_,_,_,_,_,_,_,_,_,rfl,hB2⟩
 ·obtain⟨x',n7,pl7,nm,tv,va,vb,ws2,rfl,rfl,hat,htx,hS2⟩:=hq;obtain⟨ws5,hr5,-⟩:=hat.toks;obtain⟨xs3,hr3,-⟩:=hat.a.out;obtain⟨xs4,hr4,-⟩:=hat.b.out;obtain⟨a3,p3,rfl⟩:=hr3.form;obtain⟨a4,p4,rfl⟩:=hr4.form;obtain⟨a5,p5,hv5⟩:=hr5.form;rw[List.length_map] at hv5;subst hv5;obtain⟨rv2,hB1,hT2⟩:=hS2.blk;have HAt:=hide hat;have HS2:=hide hS2;clear hk2 hZ0 hr3 hr4 hr5 hat hS2;go_wp2;have hk3:Kp w2 (((((((w2.setCell ⟨w.heap.size,0,none⟩ (.int .i64 (kindP x'.kind))).setCell ⟨w.heap.size,1,none⟩ (.int .i64 n7)).setCell ⟨w.heap.size,2,none⟩ (.int .i64 pl7)).setCell ⟨w.heap.size,3,none⟩ (.string nm)).setCell ⟨w.heap.size,4,none⟩ (.slice a5 ws5.length p5)).setCell ⟨w.heap.size,5,none⟩ (.slice a3 x'.a.length p3)).setCell ⟨w.heap.size,6,none⟩ (.slice a4 x'.b.length p4)) (fun b=>b=w.heap.size):=((((((((Kp.refl w2 (fun b=>b=w.heap.size)).set (a:=⟨w.heap.size,0,none⟩) (fun _=>rfl) _).set (a:=⟨w.heap.size,1,none⟩) (fun _=>rfl) _).set (a:=⟨w.heap.size,2,none⟩) (fun _=>rfl) _).set (a:=⟨w.heap.size,3,none⟩) (fun _=>rfl) _).set (a:=⟨w.heap.size,4,none⟩) (fun _=>rfl) _).set (a:=⟨w.heap.size,5,none⟩) (fun _=>rfl) _).set (a:=⟨w.heap.size,6,none⟩) (fun _=>rfl) _);have hC2:=hZ.set7 (.int .i64 (kindP x'.kind)) (.int .i64 n7) (.int .i64 pl7) (.string nm) (.slice a5 ws5.length p5) (.slice a3 x'.a.length p3) (.slice a4 x'.b.length p4);have hK2:=hkp.set7 (Nat.le_refl _) (.int .i64 (kindP x'.kind)) (.int .i64 n7) (.int .i64 pl7) (.string nm) (.slice a5 ws5.length p5) (.slice a3 x'.a.length p3) (.slice a4 x'.b.length p4);have hB2:=hB1.other7 hcs (.int .i64 (kindP x'.kind)) (.int .i64 n7) (.int .i64 pl7) (.string nm) (.slice a5 ws5.length p5) (.slice a3 x'.a.length p3) (.slice a4 x'.b.length p4);generalize (((((((w2.setCell ⟨w.heap.size,0,none⟩ (.int .i64 (kindP x'.kind))).setCell ⟨w.heap.size,1,none⟩ (.int .i64 n7)).setCell ⟨w.heap.size,2,none⟩ (.int .i64 pl7)).setCell ⟨w.heap.size,3,none⟩ (.string nm)).setCell ⟨w.heap.size,4,none⟩ (.slice a5 ws5.length p5)).setCell ⟨w.heap.size,5,none⟩ (.slice a3 x'.a.length p3)).setCell ⟨w.heap.size,6,none⟩ (.slice a4 x'.b.length p4))=wf at hC2 hK2 hB2 hk3 ⊢;obtain⟨q0,q1,q2,q3,q4,q5,q6⟩:=hC2.seven;refine bodyPost_ret (v:=.tuple #[.agg #[.int .i64 (kindP x'.kind),.int .i64 n7,.int .i64 pl7,.string nm,.slice a5 ws5.length p5,.slice a3 x'.a.length p3,.slice a4 x'.b.length p4],.int .i64 0]) (by simp[results,Tryz.results218,go_sem,q0,q1,q2,q3,q4,q5,q6]) rfl ?_;have hkc:=BD_keep (D:=New (w.alloc (.cells zIt7 241))) (D':=New w) hk3 (fun b _ hb=>by
   have hb:w.heap.size+1<=b:=by have:(w.alloc (.cells zIt7 241)).heap.size<=b:=hb;simpa using this
   exact⟨by show w.heap.size<=b;omega,by show ¬ b=w.heap.size;omega⟩)
  refine⟨hK2,x',n7,pl7,nm,_,_,_,ws2,rfl,rfl,HAt.out.mono hkc (fun _ _ h=>h.mono hkc),htx,?_⟩;have h2:=HS2.out;obtain⟨nn,DD,hm,hl⟩:=h2.book.look;have hne:∀ b t c,Blk w2 b t c->t ≠ 241->¬ b=w.heap.size:=fun b t c hb ht e=>by subst e;exact ht (hb.inj hZ).1
  have h1w:=h.sp.lt;exact⟨⟨rv2,hB2,TokAt_mono (fun b c hc=>⟨hc.1,hk3.blk hc.2 (hne b 9 c hc.2 (by decide))⟩) hT2⟩,h2.book.kp hk3 (hne bk _ _ h2.book.blk (by decide)) (fun e=>map_ne hm hZ e),h2.len,h2.ok,h2.sp.kp hk3 (by show ¬ (1:Nat)=w.heap.size;omega),h2.s1⟩
theorem bdQ_open (w:World) (sb bk mb:Nat) (known:Tok->Bool) (ws:List ByteArray) (lo:Nat) (res:PRes) (h:RdInv w sb bk mb known ws lo)
  (hc:∀ w,RdInv w sb bk mb known ws lo->Calls Tryz.prog 241 #[pt sb] w fun x w'=>Kp w w' (fun b=>b=sb)/\QIt w sb bk mb known lo x w' res):
  Calls Tryz.prog 218 #[pt sb,.int .i64 20] w fun x w'=>Kp w w' (fun b=>b=sb)/\QIt w sb bk mb known lo x w' res:=by
 obtain⟨rv,hB,hT⟩:=h.blk;have hsb:=hB.lt;have hcs:sb ≠ w.heap.size:=by omega
 have hka:=(Kp.refl w (fun _=>False)).alloc (.cells zIt7 241);have HC:=hide (hc _ (h.kp hka));have hZ0:=Blk.new w zIt7 241;clear hc hka;go_enter Tryz.func218,Tryz.ntmps218
 go_wp2_with fail
 refine HC.out.mono ?_;rintro x w2 ⟨hk2,hq⟩;have hZ:=hk2.blk hZ0 hcs.symm;have hkp:Kp w w2 (fun b=>b=sb):=((Kp.refl _ _).alloc _).trans hk2;have hsz2:w.heap.size+1<=w2.heap.size:=by have:=hk2.size;simpa using this
 obtain⟨y0,y1,y2,y3,y4,y5,y6⟩:=hZ.seven;obtain⟨z0,z1,z2,z3,z4,z5,z6⟩:=hZ.sevenF;rcases res with er|⟨xs,tt,r⟩
 ·obtain⟨her,k7,n7,pl7,nm,a1,m1,p1,a2,m2,p2,a3,m3,p3,rv2,rfl,hB1⟩:=hq;clear hk2 hZ0;go_wp2;have hC2:=hZ.set7 (.int .i64 k7) (.int .i64 n7) (.int .i64 pl7) (.string nm) (.slice a1 m1 p1) (.slice a2 m2 p2) (.slice a3 m3 p3);have hK2:=hkp.set7 (Nat.le_refl _) (.int .i64 k7) (.int .i64 n7) (.int .i64 pl7) (.string nm) (.slice a1 m1 p1) (.slice a2 m2 p2) (.slice a3 m3 p3);have hB2:=hB1.other7 hcs (.int .i64 k7) (.int .i64 n7) (.int .i64 pl7) (.string nm) (.slice a1 m1 p1) (.slice a2 m2 p2) (.slice a3 m3 p3);generalize (((((((w2.setCell ⟨w.heap.size,0,none⟩ (.int .i64 k7)).setCell ⟨w.heap.size,1,none⟩ (.int .i64 n7)).setCell ⟨w.heap.size,2,none⟩ (.int .i64 pl7)).setCell ⟨w.heap.size,3,none⟩ (.string nm)).setCell ⟨w.heap.size,4,none⟩ (.slice a1 m1 p1)).setCell ⟨w.heap.size,5,none⟩ (.slice a2 m2 p2)).setCell ⟨w.heap.size,6,none⟩ (.slice a3 m3 p3))=wf at hC2 hK2 hB2 ⊢;obtain⟨q0,q1,q2,q3,q4,q5,q6⟩:=hC2.seven;refine bodyPost_ret (v:=.tuple #[.agg #[.int .i64 k7,.int .i64 n7,.int .i64 pl7,.string nm,.slice a1 m1 p1,.slice a2 m2 p2,.slice a3 m3 p3],.int .i64 er]) (by simp[results,Tryz.results218,go_sem,q0,q1,q2,q3,q4,q5,q6]) rfl ?_;exact⟨hK2,her,_,_,_,_,_,_,_,_,_,_,_,_,_,_,rfl,hB2⟩
 ·obtain⟨x',n7,pl7,nm,tv,va,vb,ws2,rfl,rfl,hat,htx,hS2⟩:=hq;obtain⟨ws5,hr5,-⟩:=hat.toks;obtain⟨xs3,hr3,-⟩:=hat.a.out;obtain⟨xs4,hr4,-⟩:=hat.b.out;obtain⟨a3,p3,rfl⟩:=hr3.form;obtain⟨a4,p4,rfl⟩:=hr4.form;obtain⟨a5,p5,hv5⟩:=hr5.form;rw[List.length_map] at hv5;subst hv5;obtain⟨rv2,hB1,hT2⟩:=hS2.blk;have HAt:=hide hat;have HS2:=hide hS2;clear hk2 hZ0 hr3 hr4 hr5 hat hS2;go_wp2;have hk3:Kp w2 (((((((w2.setCell ⟨w.heap.size,0,none⟩ (.int .i64 (kindP x'.kind))).setCell ⟨w.heap.size,1,none⟩ (.int .i64 n7)).setCell ⟨w.heap.size,2,none⟩ (.int .i64 pl7)).setCell ⟨w.heap.size,3,none⟩ (.string nm)).setCell ⟨w.heap.size,4,none⟩ (.slice a5 ws5.length p5)).setCell ⟨w.heap.size,5,none⟩ (.slice a3 x'.a.length p3)).setCell ⟨w.heap.size,6,none⟩ (.slice a4 x'.b.length p4)) (fun b=>b=w.heap.size):=((((((((Kp.refl w2 (fun b=>b=w.heap.size)).set (a:=⟨w.heap.size,0,none⟩) (fun _=>rfl) _).set (a:=⟨w.heap.size,1,none⟩) (fun _=>rfl) _).set (a:=⟨w.heap.size,2,none⟩) (fun _=>rfl) _).set (a:=⟨w.heap.size,3,none⟩) (fun _=>rfl) _).set (a:=⟨w.heap.size,4,none⟩) (fun _=>rfl) _).set (a:=⟨w.heap.size,5,none⟩) (fun _=>rfl) _).set (a:=⟨w.heap.size,6,none⟩) (fun _=>rfl) _);have hC2:=hZ.set7 (.int .i64 (kindP x'.kind)) (.int .i64 n7) (.int .i64 pl7) (.string nm) (.slice a5 ws5.length p5) (.slice a3 x'.a.length p3) (.slice a4 x'.b.length p4);have hK2:=hkp.set7 (Nat.le_refl _) (.int .i64 (kindP x'.kind)) (.int .i64 n7) (.int .i64 pl7) (.string nm) (.slice a5 ws5.length p5) (.slice a3 x'.a.length p3) (.slice a4 x'.b.length p4);have hB2:=hB1.other7 hcs (.int .i64 (kindP x'.kind)) (.int .i64 n7) (.int .i64 pl7) (.string nm) (.slice a5 ws5.length p5) (.slice a3 x'.a.length p3) (.slice a4 x'.b.length p4);generalize (((((((w2.setCell ⟨w.heap.size,0,none⟩ (.int .i64 (kindP x'.kind))).setCell ⟨w.heap.size,1,none⟩ (.int .i64 n7)).setCell ⟨w.heap.size,2,none⟩ (.int .i64 pl7)).setCell ⟨w.heap.size,3,none⟩ (.string nm)).setCell ⟨w.heap.size,4,none⟩ (.slice a5 ws5.length p5)).setCell ⟨w.heap.size,5,none⟩ (.slice a3 x'.a.length p3)).setCell ⟨w.heap.size,6,none⟩ (.slice a4 x'.b.length p4))=wf at hC2 hK2 hB2 hk3 ⊢;obtain⟨q0,q1,q2,q3,q4,q5,q6⟩:=hC2.seven;refine bodyPost_ret (v:=.tuple #[.agg #[.int .i64 (kindP x'.kind),.int .i64 n7,.int .i64 pl7,.string nm,.slice a5 ws5.length p5,.slice a3 x'.a.length p3,.slice a4 x'.b.length p4],.int .i64 0]) (by simp[results,Tryz.results218,go_sem,q0,q1,q2,q3,q4,q5,q6]) rfl ?_;have hkc:=BD_keep (D:=New (w.alloc (.cells zIt7 241))) (D':=New w) hk3 (fun b _ hb=>by
   have hb:w.heap.size+1<=b:=by have:(w.alloc (.cells zIt7 241)).heap.size<=b:=hb;simpa using this
   exact⟨by show w.heap.size<=b;omega,by show ¬ b=w.heap.size;omega⟩)
  refine⟨hK2,x',n7,pl7,nm,_,_,_,ws2,rfl,rfl,HAt.out.mono hkc (fun _ _ h=>h.mono hkc),htx,?_⟩;have h2:=HS2.out;obtain⟨nn,DD,hm,hl⟩:=h2.book.look;have hne:∀ b t c,Blk w2 b t c->t ≠ 241->¬ b=w.heap.size:=fun b t c hb ht e=>by subst e;exact ht (hb.inj hZ).1
  have h1w:=h.sp.lt;exact⟨⟨rv2,hB2,TokAt_mono (fun b c hc=>⟨hc.1,hk3.blk hc.2 (hne b 9 c hc.2 (by decide))⟩) hT2⟩,h2.book.kp hk3 (hne bk _ _ h2.book.blk (by decide)) (fun e=>map_ne hm hZ e),h2.len,h2.ok,h2.sp.kp hk3 (by show ¬ (1:Nat)=w.heap.size;omega),h2.s1⟩
theorem any_of_find {p:Tok->Bool} {L:List Tok} {j:Nat} (h:L.findIdx? p=some j):L.any p=true:=by
 obtain⟨hlt,hk,_⟩:=List.findIdx?_eq_some_iff_getElem.1 h;exact List.any_eq_true.2 ⟨_,List.getElem_mem hlt,hk⟩
theorem pOne_word {known:Tok->Bool} {lo:Nat} {t:Tok} (hn:numP t=none) (h:∀ x∈spellL,(x == t)=false):pOne known lo t=if known t=true then .ok ⟨99,0,t,[],[],[]⟩ else .error 3:=by
 have hp:plainL.any (· == t)=false:=by
  rw[List.any_eq_false];intro x hx;rw[h x (by simp[spellL,hx])];decide
 have hk:keptL.any (· == t)=false:=by
  rw[List.any_eq_false];intro x hx;rw[h x (by simp[spellL,hx])];decide
 have ne:∀ k,k∈spellL->¬ t=k:=fun k hk e=>by have:=h k hk;rw[e] at this;simp at this
 have b1:(t == kColon)=false:=by rw[beq_eq_false_iff_ne];exact ne _ (by decide)
 have b2:(t == kSemi)=false:=by rw[beq_eq_false_iff_ne];exact ne _ (by decide)
 have b3:(t == kClose)=false:=by rw[beq_eq_false_iff_ne];exact ne _ (by decide)
 unfold pOne;rw[hn];dsimp only;rw[if_neg (by rw[hp];decide),if_neg (fun e=>ne kI (by decide) e.1),if_neg (ne kRecurse (by decide)),if_neg (ne kExit (by decide)),if_neg (by unfold formD;rw[hk,b1,b2,b3];decide)]
theorem pOne_form {known:Tok->Bool} {lo:Nat} {t:Tok} (h:t=kColon\/t=kClose):pOne known lo t=.error 4:=by
 rcases h with rfl|rfl
 ·unfold pOne;rw[show numP kColon=none by decide];dsimp only;rw[if_neg (by decide),if_neg (fun e=>absurd e.1 (by decide)),if_neg (by decide),if_neg (by decide),if_pos (by decide)]
 ·unfold pOne;rw[show numP kClose=none by decide];dsimp only;rw[if_neg (by decide),if_neg (fun e=>absurd e.1 (by decide)),if_neg (by decide),if_neg (by decide),if_pos (by decide)]
theorem itemQ (G:Nat) (IH:∀ g,g < G->QBody g):QItem G:=by
  intro w sb bk mb known ws lo tb K res hres h ho hlw hK he
  cases G with
  | zero=>cases hres
  | succ g=>
  have hB:=IH g (by omega);have hKd:K=kdOf tb.data.toList:=by rw[hK,ByteArray.toList_eq];rfl
  have hne:tb.data.toList ≠ []:=by have:=ho.1;rw[ByteArray.toList_eq] at this;exact this
  clear hK;rcases kd_cases hne he with⟨n,hn,hk⟩|⟨hn,j,hp,hk,hj⟩|⟨hn,hk,hsp⟩|hc
  · rw[pI_num hn] at hres
    injection hres with hres;subst hres;rw[hKd,hk];exact itQ_num w sb bk mb known ws lo tb n (by rw[ByteArray.toList_eq];exact hn) h ho
  · rw[pI_plain hn (any_of_find hp)] at hres
    injection hres with hres;subst hres;exact itQ_plain w sb bk mb known ws lo tb j hj K (by rw[hKd,hk]) hp h
  · have hnl:¬ longT tb.data.toList:=by
      rintro (e|e|e|e)
      · have:=hsp kIf (by decide);rw[e] at this;simp at this
      · have:=hsp kBegin (by decide);rw[e] at this;simp at this
      · have:=hsp kDo (by decide);rw[e] at this;simp at this
      · have:=hsp kOpen (by decide);rw[e] at this;simp at this
    rw[pI_one _ _ _ _ _ hnl,pOne_word hn hsp] at hres;rw[hKd,hk];refine itQ_word w sb bk mb known ws lo tb h ho res ?_
    cases hkn:known tb.data.toList
    · rw[hkn] at hres;rw[if_neg (by decide)] at hres;injection hres with hres;rw[if_neg (by decide)];exact hres.symm
    · rw[hkn] at hres;rw[if_pos rfl] at hres;injection hres with hres;rw[if_pos rfl];exact hres.symm
  · have hbd:∀ (k:Int),K=k->18<=k->(∀ w,RdInv w sb bk mb known ws lo->Calls Tryz.prog 218 #[pt sb,.int .i64 k] w fun x w'=>Kp w w' (fun b=>b=sb)/\QIt w sb bk mb known lo x w' res) ->
        Calls Tryz.prog 198 #[pt sb,.string tb,.int .i64 K] w fun x w'=>Kp w w' (fun b=>b=sb)/\QIt w sb bk mb known lo x w' res:=by
      intro k hk h18 hc;rw[hk];exact itQ_bound w sb bk mb known ws lo tb k h18 res h hc
    rcases hc with hc|hc|hc|hc|hc|hc|hc|hc|hc
    all_goals rw[hc] at hres hKd
    · rw[pI_one _ _ _ _ _ (by unfold longT;decide),pOne_form (.inl rfl)] at hres
      injection hres with hres;subst hres;exact hbd 18 (by rw[hKd];decide) (by decide) (fun w h=>bdQ_colon w sb bk mb known ws lo h)
    · rw[pI_open] at hres
      exact hbd 20 (by rw[hKd];decide) (by decide) (fun w h=>bdQ_open w sb bk mb known ws lo res h (fun w h=>bracesQ w sb bk mb known ws lo h res (by
        rcases hp:pBraces (texts ws) with e|⟨ts,r⟩
        · rw[hp] at hres;injection hres with hres;exact hres.symm
        · rw[hp] at hres;injection hres with hres;exact hres.symm)))
    · rw[pI_one _ _ _ _ _ (by unfold longT;decide),pOne_form (.inr rfl)] at hres
      injection hres with hres;subst hres;exact hbd 21 (by rw[hKd];decide) (by decide) (fun w h=>bdQ_close w sb bk mb known ws lo h)
    · exact hbd 22 (by rw[hKd];decide) (by decide) (fun w h=>bdQ_if w sb bk mb known ws lo res h (fun w h=>ifQ g hB w sb bk mb known ws lo res hres h))
    · exact hbd 25 (by rw[hKd];decide) (by decide) (fun w h=>bdQ_begin w sb bk mb known ws lo res h (fun w h=>beginQ g hB w sb bk mb known ws lo res hres h))
    · exact hbd 29 (by rw[hKd];decide) (by decide) (fun w h=>bdQ_do w sb bk mb known ws lo res h (fun w h=>doQ g hB w sb bk mb known ws lo (by omega) res hres h))
    · by_cases hl:0 < lo
      · rw[pI_i hl] at hres
        injection hres with hres;subst hres;exact hbd 31 (by rw[hKd];decide) (by decide) (fun w h=>bdQ_i w sb bk mb known ws lo h hl)
      · have hl:lo=0:=by omega
        subst hl;rw[pI_i0] at hres;injection hres with hres;subst hres;exact hbd 31 (by rw[hKd];decide) (by decide) (fun w h=>bdQ_i0 w sb bk mb known ws 0 h rfl)
    · rw[pI_rec] at hres
      injection hres with hres;subst hres;exact hbd 32 (by rw[hKd];decide) (by decide) (fun w h=>bdQ_rec w sb bk mb known ws lo h)
    · rw[pI_exit] at hres
      injection hres with hres;subst hres;exact hbd 33 (by rw[hKd];decide) (by decide) (fun w h=>bdQ_exit w sb bk mb known ws lo h)
theorem readQ:∀ G,QItem G/\QBody G:=by
 intro G
 induction G using Nat.strongRecOn with
 | _ G ih=>exact⟨itemQ G (fun g hg=>(ih g hg).2),bodyQ G (fun g hg=>(ih g hg).1)⟩
end
section
open Go.RowKit
def QRd (w:World) (x:Ending) (w':World):PRes->Prop
 | .ok (l,_,r)=>∃ v a n p ws',x=.returned (.tuple #[v,.slice a n p,.int .i64 0])/\Items (BD (New w) w') v l/\TokAt (BD (fun b=>b < w.heap.size) w') (.slice a n p) ws'/\texts ws'=r/\(∀ t∈ws',okW t)/\ws'.length<=1000
 | .error e=>e ≠ 0/\x=.returned (.tuple #[.slice none 0 0,.slice none 0 0,.int .i64 e])
theorem readM (g:Nat) (w:World) (bk mb:Nat) (known:Tok->Bool) (v:Value) (ws:List ByteArray) (hb:BookK w bk mb known) (ht:TokAt (Blk w) v ws) (hl:ws.length<=1000) (ho:∀ t∈ws,okW t) (hs:SpAt w) (res:PRes) (hres:pRead known g ⟨false,0,[kSemi],[]⟩ (texts ws)=some res):
  Calls Tryz.prog 115 #[v,.func (.func 74) #[pt bk] #[]] w fun x w'=>Kp w w' (fun _=>False)/\QRd w x w' res:=by
 obtain⟨ao,cap,rfl⟩:=ht.form;have hka:=(Kp.refl w (fun _=>False)).alloc (.cells (rdArr (.slice ao ws.length cap) bk 0) 201);have hB0:=Blk.new w (rdArr (.slice ao ws.length cap) bk 0) 201;have h1w:=hs.lt;have hS0:RdInv (w.alloc (.cells (rdArr (.slice ao ws.length cap) bk 0) 201)) w.heap.size bk mb known ws 0:=
  ⟨⟨_,hB0,TokAt_mono (fun b c hc=>⟨hc.lt,hc.alloc _⟩) ht⟩,hb.kp hka (by simp) (by simp),hl,ho,hs.kp hka (by simp),by omega⟩
 have HU:=hide (upToQ g (readQ g).2 _ w.heap.size bk mb known ws 0 kSemi 19 (by decide) (by decide) res hres hS0);clear hS0 hb ht hres;go_enter Tryz.func115,Tryz.ntmps115
 go_wp2_with fail
 refine HU.out.mono ?_;rintro x w1 ⟨hk1,hq⟩;have hkp:Kp w w1 (fun _=>False):=Kp.newer hka hk1 (Nat.le_refl _);rcases res with er|⟨l,t,r⟩
 ·obtain⟨her,a,m,p,rv,rfl,hB1⟩:=hq;have he0:(er != 0)=true:=by simpa using her
  go_wp2;refine bodyPost_ret (results_tmp3 rfl _ _ _) rfl ?_;exact⟨hkp,her,rfl⟩
 ·obtain⟨v1,ws1,rfl,hI,htx,hS1⟩:=hq;obtain⟨xs9,hrow9,-⟩:=hI.out;obtain⟨a9,p9,rfl⟩:=hrow9.form;clear hrow9;obtain⟨rv,hB1,hT1⟩:=hS1.blk;obtain⟨ao1,cap1,rfl⟩:=hT1.form;have c0:w1.cell? ⟨w.heap.size,0,none⟩=some (.slice ao1 ws1.length cap1):=hB1.cell rfl;have HI:Hid (Items (BD (New w) w1) (.slice a9 l.length p9) l):=hI.mono (BD_sub (fun b _ hb=>by
   have:(w.alloc (.cells (rdArr (.slice ao ws.length cap) bk 0) 201)).heap.size<=b:=hb;rw[World.size_alloc] at this;show w.heap.size<=b;omega))
  have hl1:=hS1.len;have HO:=hide hS1.ok;have HT:=hide hT1;clear hI hT1 hB1 hS1 HU hk1;go_wp2
  go_quiet (fail)
  go_wp2;refine bodyPost_ret (results_tmp3 rfl _ _ _) rfl ?_;exact⟨hkp.drewN nq,_,ao1,_,cap1,ws1,rfl,HI.out.mono (fun b t c h=>h),TokAt_mono (fun b c h=>h) HT.out,htx,HO.out,by omega⟩
end
section
open Go.RowKit
theorem Blk.new3 (w:World) (o o1 o2:Obj) (c:Array Value) (t:TypeId):Blk ((((w.alloc o).alloc o1).alloc o2).alloc (.cells c t)) (w.heap.size+1+1+1) t c:=by
 have:=Blk.new (((w.alloc o).alloc o1).alloc o2) c t;rw[World.size_alloc,World.size_alloc,World.size_alloc] at this;exact this
theorem Blk.new4 (w:World) (o o1 o2 o3:Obj) (c:Array Value) (t:TypeId):Blk (((((w.alloc o).alloc o1).alloc o2).alloc o3).alloc (.cells c t)) (w.heap.size+1+1+1+1) t c:=by
 have:=Blk.new ((((w.alloc o).alloc o1).alloc o2).alloc o3) c t;rw[World.size_alloc,World.size_alloc,World.size_alloc,World.size_alloc] at this;exact this
theorem Blk.new5 (w:World) (o o1 o2 o3 o4:Obj) (c:Array Value) (t:TypeId):Blk ((((((w.alloc o).alloc o1).alloc o2).alloc o3).alloc o4).alloc (.cells c t)) (w.heap.size+1+1+1+1+1) t c:=by
 have:=Blk.new (((((w.alloc o).alloc o1).alloc o2).alloc o3).alloc o4) c t;rw[World.size_alloc,World.size_alloc,World.size_alloc,World.size_alloc,World.size_alloc] at this;exact this
theorem plainR_form {M:Mem} {j:Nat} {act:Value} (h:plainR M j act):∃ n f c,act=.func (.func n) f c:=by
 unfold plainR at h
 split at h
 all_goals first
  | (obtain⟨b,rfl,_⟩:=h;exact⟨_,_,_,rfl⟩)
  | (obtain⟨cb,b,pv,rfl,_⟩:=h;exact⟨_,_,_,rfl⟩)
  | (have h:act=_:=h;subst h;exact⟨_,_,_,rfl⟩)
  | exact h.elim
theorem nw (w:World) (k:Nat):New w (w.heap.size+k):=Nat.le_add_right _ _
def Up (E:Nat->Prop) (w:World):Prop:=∀ b,w.heap.size<=b->E b
theorem Up.kp {E:Nat->Prop} {w w':World} {S:Nat->Prop} (h:Up E w) (hk:Kp w w' S):Up E w':=fun b hb=>h b (Nat.le_trans hk.size hb)
theorem Up.at {E:Nat->Prop} {w:World} (h:Up E w) (k:Nat):E (w.heap.size+k):=h _ (Nat.le_add_right _ _)
section
variable {R:Nat->Fr->Prop} {E:Nat->Prop} {lf:Int} {mk pk:Option Nat}
theorem fa_num (w:World) (hU:Up E w) (bk ob:Nat) (x:It) (hx:x.kind=110) (hn:In x.n) (pl:Int) (nm:ByteArray) (a1 a2 a3:Option Addr) (m1 m2 m3 p1 p2 p3:Nat) (P:Nat->Value->List It->Prop):
  Calls Tryz.prog 183 #[.agg #[pt bk,pt ob,.int .i64 lf,.map mk,.map pk],it7 0 x.n pl nm (.slice a1 m1 p1) (.slice a2 m2 p2) (.slice a3 m3 p3)] w fun e w'=>∃ c,e=.returned c/\Kp w w' (fun _=>False)/\actR (BD E w') R bk ob P x c:=by
 have hmf:=mkFunc;go_enter Tryz.func183,Tryz.ntmps183;go_wp2;go_ret;refine⟨_,rfl,?_,?_⟩
 ·exact ((((Kp.refl _ _).alloc _).alloc _).alloc _).alloc _
 ·exact .inl ⟨hx,hn,_,_,rfl,⟨hU.at 3,Blk.new3 w _ _ _ _ _⟩,⟨hU.at 2,(Blk.new2 w _ _ _ _).alloc _⟩⟩
theorem fa_i (w:World) (hU:Up E w) (bk ob:Nat) (x:It) (hx:x.kind=105) (n pl:Int) (nm:ByteArray) (a1 a2 a3:Option Addr) (m1 m2 m3 p1 p2 p3:Nat) (P:Nat->Value->List It->Prop):
  Calls Tryz.prog 183 #[.agg #[pt bk,pt ob,.int .i64 lf,.map mk,.map pk],it7 7 n pl nm (.slice a1 m1 p1) (.slice a2 m2 p2) (.slice a3 m3 p3)] w fun e w'=>∃ c,e=.returned c/\Kp w w' (fun _=>False)/\actR (BD E w') R bk ob P x c:=by
 have hmf:=mkFunc;go_enter Tryz.func183,Tryz.ntmps183;go_wp2;go_ret;refine⟨_,rfl,?_,?_⟩
 ·exact ((Kp.refl _ _).alloc _).alloc _
 ·exact .inr (.inr (.inr (.inr (.inr (.inr (.inr (.inl ⟨hx,rfl⟩)))))))
theorem fa_exit (w:World) (hU:Up E w) (bk ob:Nat) (x:It) (hx:x.kind=120) (n pl:Int) (nm:ByteArray) (a1 a2 a3:Option Addr) (m1 m2 m3 p1 p2 p3:Nat) (P:Nat->Value->List It->Prop):
  Calls Tryz.prog 183 #[.agg #[pt bk,pt ob,.int .i64 lf,.map mk,.map pk],it7 9 n pl nm (.slice a1 m1 p1) (.slice a2 m2 p2) (.slice a3 m3 p3)] w fun e w'=>∃ c,e=.returned c/\Kp w w' (fun _=>False)/\actR (BD E w') R bk ob P x c:=by
 have hmf:=mkFunc;go_enter Tryz.func183,Tryz.ntmps183;go_wp2;go_ret;refine⟨_,rfl,?_,?_⟩
 ·exact ((Kp.refl _ _).alloc _).alloc _
 ·exact .inr (.inr (.inr (.inr (.inr (.inr (.inr (.inr (.inr (.inl ⟨hx,rfl⟩)))))))))
theorem fa_rec (w:World) (hU:Up E w) (bk ob:Nat) (x:It) (hx:x.kind=114) (n pl:Int) (nm:ByteArray) (a1 a2 a3:Option Addr) (m1 m2 m3 p1 p2 p3:Nat) (P:Nat->Value->List It->Prop):
  Calls Tryz.prog 183 #[.agg #[pt bk,pt ob,.int .i64 lf,.map mk,.map pk],it7 8 n pl nm (.slice a1 m1 p1) (.slice a2 m2 p2) (.slice a3 m3 p3)] w fun e w'=>∃ c,e=.returned c/\Kp w w' (fun _=>False)/\actR (BD E w') R bk ob P x c:=by
 have hmf:=mkFunc;go_enter Tryz.func183,Tryz.ntmps183;go_wp2;go_ret;refine⟨_,rfl,?_,?_⟩
 ·exact ((((((Kp.refl _ _).alloc _).alloc _).alloc _).alloc _).alloc _).alloc _
 ·exact .inr (.inr (.inr (.inr (.inr (.inr (.inr (.inr (.inl ⟨hx,_,_,_,_,rfl,⟨hU.at 5,Blk.new5 w _ _ _ _ _ _ _⟩,⟨hU.at 4,(Blk.new4 w _ _ _ _ _ _).alloc _⟩,⟨hU.at 2,(((Blk.new2 w _ _ _ _).alloc _).alloc _).alloc _⟩,⟨hU.at 3,((Blk.new3 w _ _ _ _ _).alloc _).alloc _⟩⟩))))))))
theorem fa_plain (w:World) (hU:Up E w) (bk ob:Nat) (x:It) (hx:x.kind=112) (j:Nat) (hj:plainL.findIdx? (· == x.name)=some j) (n K:Int) (hK:K=(j:Int)+2) (nm:ByteArray) (a1 a2 a3:Option Addr) (m1 m2 m3 p1 p2 p3:Nat) (P:Nat->Value->List It->Prop):
  Calls Tryz.prog 183 #[.agg #[pt bk,pt ob,.int .i64 lf,.map mk,.map pk],it7 1 n K nm (.slice a1 m1 p1) (.slice a2 m2 p2) (.slice a3 m3 p3)] w fun e w'=>∃ c,e=.returned c/\Kp w w' (fun _=>False)/\actR (BD E w') R bk ob P x c:=by
 have hmf:=mkFunc;have hj16:j < 16:=by obtain⟨h,_⟩:=List.findIdx?_eq_some_iff_getElem.1 hj;exact h
 have HP:Hid (∀ w,Calls Tryz.prog 72 #[.int .i64 K] w fun e w'=>∃ act,e=.returned act/\Kp w w' (fun _=>False)/\plainR (BD (fun k=>w.heap.size<=k) w') j act):=fun w=>mkPlain j hj16 K hK w;clear hK hj16;go_enter Tryz.func183,Tryz.ntmps183
 go_wp2_with fail
 refine (HP.out _).mono ?_;rintro e w1 ⟨act,rfl,hk1,hp⟩;obtain⟨fn,ff,fc,rfl⟩:=plainR_form hp;have hkp:Kp w w1 (fun _=>False):=(((Kp.refl w (fun _=>False)).alloc _).alloc _).trans hk1;have hsz:=hkp.size;have HPp:Hid (plainR (BD E w1) j (.func (.func fn) ff fc)):=plainR_mono (BD_sub (fun b _ h=>by
  have h:((w.alloc _).alloc _).heap.size<=b:=h;rw[World.size_alloc,World.size_alloc] at h;exact hU b (by omega))) hp
 clear hp hk1;go_wp2;go_ret;refine⟨_,rfl,hkp.alloc _,?_⟩;exact .inr (.inl ⟨hx,_,_,j,rfl,⟨hU _ hsz,Blk.new w1 _ _⟩,plainR_mono (fun b t c h=>⟨h.1,h.2.alloc _⟩) HPp.out,hj⟩)
theorem fa_braces (w:World) (hU:Up E w) (bk ob:Nat) (x:It) (hx:x.kind=123) (n pl:Int) (nm:ByteArray) (a1 a2 a3:Option Addr) (m1 m2 m3 p1 p2 p3:Nat) (ws:List ByteArray) (hr:rowM (BD E w) 9 (.slice a1 m1 p1) (ws.map Value.string)) (htx:texts ws=x.toks) (ho:∀ t∈ws,okW t) (hl:ws.length<=1000) (P:Nat->Value->List It->Prop):
  Calls Tryz.prog 183 #[.agg #[pt bk,pt ob,.int .i64 lf,.map mk,.map pk],it7 10 n pl nm (.slice a1 m1 p1) (.slice a2 m2 p2) (.slice a3 m3 p3)] w fun e w'=>∃ c,e=.returned c/\Kp w w' (fun _=>False)/\actR (BD E w') R bk ob P x c:=by
 have hmf:=mkFunc;have HR:=hide hr;clear hr;go_enter Tryz.func183,Tryz.ntmps183;go_wp2;go_ret;refine⟨_,rfl,((((((Kp.refl _ _).alloc _).alloc _).alloc _).alloc _).alloc _).alloc _,?_⟩;exact .inr (.inr (.inr (.inr (.inr (.inr (.inr (.inr (.inr (.inr (⟨hx,_,_,_,_,_,ws,rfl,⟨hU.at 5,Blk.new5 w _ _ _ _ _ _ _⟩,⟨hU.at 4,(Blk.new4 w _ _ _ _ _ _).alloc _⟩,⟨hU.at 2,(((Blk.new2 w _ _ _ _).alloc _).alloc _).alloc _⟩,⟨hU.at 3,((Blk.new3 w _ _ _ _ _).alloc _).alloc _⟩,rowM_mono (fun b t c h=>⟨h.1,(((((h.2.alloc _).alloc _).alloc _).alloc _).alloc _).alloc _⟩) HR.out,htx,ho,hl⟩))))))))))
end
end
end Go.Proofs.YteainaiebcphlaaGreatDoor
