import Derived.Test.YteainaiebcphlaaGreatDoorV8
namespace Go.Proofs.YteainaiebcphlaaGreatDoor
set_option maxRecDepth 1000000
set_option maxHeartbeats 4000000
set_option linter.all false
section
open Go.RowKit
variable {K:Nat->Prop}
theorem Keeps.of {S S':Nat->Prop} {w w':World} {V:Nat->Prop} (h:Kp w w' V) (hv:∀ b t c,S b->Blk w b t c->t=227\/t=9->¬ V b) (hs:∀ b,S b->b < w.heap.size->S' b):Keeps S S' w w':=
 fun b t c hb hbl ht=>⟨h.blk hbl (hv b t c hb hbl ht),hs b hb hbl.lt⟩
theorem noScan {w:World} {sb:Nat} {c:Array Value} (hb:Blk w sb 181 c) {b:Nat} {t:TypeId} {c':Array Value} (h:Blk w b t c') (ht:t=227\/t=9):¬ b=sb:=by
 rintro rfl;have:=(h.inj hb).1;rcases ht with rfl|rfl <;> exact absurd this (by decide)
theorem keep_on {w w2 w3 wf:World} {sb rb:Nat} {c:Array Value} (hB:Blk w3 sb 181 c) (hk:Kp w3 wf (fun b=>b=sb\/b=rb)) (hrb:rb < w2.heap.size) (hw:w.heap.size<=w2.heap.size):Keeps (New w2) (New w) w3 wf:=
 Keeps.of hk (fun b t c hb hbl ht=>by
  rintro (e|e)
  ·exact noScan hB hbl ht e
  ·have hb:w2.heap.size<=b:=hb;omega) (fun b hb _=>Nat.le_trans hw hb)
theorem tx_loop:texts [⟨#[108,111,111,112]⟩]=[kLoop]:=rfl
theorem tx_then:texts [⟨#[116,104,101,110]⟩]=[kThen]:=rfl
theorem tx_repeat:texts [⟨#[114,101,112,101,97,116]⟩]=[kRepeat]:=rfl
theorem tx_if:texts [⟨#[101,108,115,101]⟩,⟨#[116,104,101,110]⟩]=[kElse,kThen]:=rfl
theorem tx_begin:texts [⟨#[117,110,116,105,108]⟩,⟨#[119,104,105,108,101]⟩]=[kUntil,kWhile]:=rfl
theorem Kp.set6' {w w1:World} {S:Nat->Prop} {b:Nat} (h:Kp w w1 S) (hb:S b) (v0 v1 v2 v3 v4 v5:Value):
  Kp w ((((((w1.setCell ⟨b,0,none⟩ v0).setCell ⟨b,1,none⟩ v1).setCell ⟨b,2,none⟩ v2).setCell ⟨b,3,none⟩ v3).setCell ⟨b,4,none⟩ v4).setCell ⟨b,5,none⟩ v5) S:=
 (((((h.set (a:=⟨b,0,none⟩) (fun _=>hb) v0).set (a:=⟨b,1,none⟩) (fun _=>hb) v1).set (a:=⟨b,2,none⟩) (fun _=>hb) v2).set (a:=⟨b,3,none⟩) (fun _=>hb) v3).set (a:=⟨b,4,none⟩) (fun _=>hb) v4).set (a:=⟨b,5,none⟩) (fun _=>hb) v5
theorem itP_do (w:World) (sb yb:Nat) (rs:RS) (defs:List Def) (lv:Value) (ws:List ByteArray) (k lo:Nat) (tb:ByteArray) (hnum:numP tb.toList=none) (hpl:plainL.any (· == tb.toList)=false) (b0:(tb.toList == [105,102])=false) (b1:(tb.toList == [98,101,103,105,110])=false) (b2:(tb.toList == [100,111])=true) (g:Nat) (IH:CBodyP K g) (hlo:lo < k) (res:PRes) (hres:pRead (knownD defs) (g+1) ⟨true,lo,[],kDo⟩ ((texts ws).drop k)=some res) (h:ScInv K w sb yb rs defs lv ws k 0 lo):
  Calls Tryz.prog 170 #[.pointer (some ⟨sb,0,none⟩),.string tb] w fun x w'=>Kp w w' (fun b=>b=sb)/\PIt K w sb yb rs defs lv ws k lo x w' (res):=by
 have HI:=hide IH;have HR:=hide (pI_do hres);clear IH hres;have hsb:=h.blk.lt;have hln:=h.len;have hkl:=h.kle;go_enter Tryz.func170,Tryz.ntmps170
 go_wp2_with fail
 refine (numberR _ _).mono ?_;rintro e w' ⟨rfl,hw⟩;rw[hw,numV_none hnum];clear hw
 go_wp2_with fail
 refine (isPlainR _ _).mono ?_;rintro e w1 ⟨rfl,hk1⟩
 go_wp2_with fail
 refine (isKeptR _ _).mono ?_;rintro e w2 ⟨rfl,hk2⟩;have hkp:Kp w w2 (fun b=>b=sb):=(((Kp.refl _ _).alloc _).trans (hk1.mono (fun _ _ h=>h.elim))).trans (hk2.mono (fun _ _ h=>h.elim));have hC:Blk w2 w.heap.size 227 zItem:=hk2.blk (hk1.blk (Blk.new w _ _) (by simp)) (by simp);have hS:ScInv K w2 sb yb rs defs lv ws k 0 lo:=h.to hkp (hk2.blk (hk1.blk (h.blk.alloc _) (by simp)) (by simp)) h.kle;have hcs:¬ w.heap.size=sb:=by omega
 clear hk1 hk2;have c4:w2.cell? ⟨sb,4,none⟩=some (.int .i64 lo):=hS.blk.cell rfl;have f4:=hS.blk.free 4;have hszz:=hkp.size;have hCl:=hC.lt;have hS':=hS.setLo (lo+1);have hC':=hC.setOther (a:=⟨sb,4,none⟩) hcs (.int .i64 ((lo+1:Nat):Int));have hkp':Kp w (w2.setCell ⟨sb,4,none⟩ (.int .i64 ((lo+1:Nat):Int))) (fun b=>b=sb):=hkp.set (fun _=>rfl) _;have hsz':(w2.setCell ⟨sb,4,none⟩ (.int .i64 ((lo+1:Nat):Int))).heap.size=w2.heap.size:=by simp[World.setCell]
 go_wp2_with fail
 generalize hw0:w2.setCell ⟨sb,4,none⟩ (.int .i64 ((lo+1:Nat):Int))=w0 at hS' hC' hkp' hsz';have hw0':w2.setCell ⟨sb,4,none⟩ (.int .i64 ((lo:Int)+1))=w0:=hw0;rw[hw0'];clear hw0 hw0' hS hC hkp c4 f4;have hE:=Blk.new w0 #[.string ⟨#[108,111,111,112]⟩] 9;rw[hsz'] at hE;rcases HR.out with⟨er,hp,hre⟩|⟨a,t1,r1,hp,hre⟩
 ·have HRE:=hide hre;clear hre HR;refine (HI.out _ sb yb rs defs lv ws k (lo+1) _ [⟨#[108,111,111,112]⟩] _ (by rw[tx_loop];exact hp) (hS'.kp ((Kp.refl _ _).alloc _)) (by omega) hE (by decide)).mono ?_;rintro x w3 ⟨hk3,her,k2,rfl,hkk,hS3⟩;have c4:w3.cell? ⟨sb,4,none⟩=some (.int .i64 ((lo+1:Nat):Int)):=hS3.blk.cell rfl;have f4:=hS3.blk.free 4;have hC:=(hk3.blk (hC'.alloc _) hcs).setOther (a:=⟨sb,4,none⟩) hcs (.int .i64 lo);have hkp:Kp w (w3.setCell ⟨sb,4,none⟩ (.int .i64 lo)) (fun b=>b=sb):=((hkp'.alloc _).trans hk3).set (fun _=>rfl) _;have hS:=hS3.setLo lo;clear hp hk3 hC' hkp' hS' hE HI hS3;obtain⟨y0,y1,y2,y3,y4,y5⟩:=hC.six;obtain⟨z0,z1,z2,z3,z4,z5⟩:=hC.sixF;go_wp2;have hC2:=hC.set6 (.int .u8 100) (.int .i64 0) (.string ⟨#[]⟩) (.slice none 0 0) (.slice none 0 0) (.slice none 0 0);have hk2:=hkp.set6 (Nat.le_refl _) (.int .u8 100) (.int .i64 0) (.string ⟨#[]⟩) (.slice none 0 0) (.slice none 0 0) (.slice none 0 0);have hB2:=hS.blk.other6 (Ne.symm hcs) (.int .u8 100) (.int .i64 0) (.string ⟨#[]⟩) (.slice none 0 0) (.slice none 0 0) (.slice none 0 0);generalize (((((((w3.setCell ⟨sb,4,none⟩ (.int .i64 lo)).setCell ⟨w.heap.size,0,none⟩ (.int .u8 100)).setCell ⟨w.heap.size,1,none⟩ (.int .i64 0)).setCell ⟨w.heap.size,2,none⟩ (.string ⟨#[]⟩)).setCell ⟨w.heap.size,3,none⟩ (.slice none 0 0)).setCell ⟨w.heap.size,4,none⟩ (.slice none 0 0)).setCell ⟨w.heap.size,5,none⟩ (.slice none 0 0))=wf at hC2 hk2 hB2 ⊢;obtain⟨q0,q1,q2,q3,q4,q5⟩:=hC2.six;refine bodyPost_ret (v:=.agg #[.int .u8 100,.int .i64 0,.string ⟨#[]⟩,.slice none 0 0,.slice none 0 0,.slice none 0 0]) (by simp[results,Tryz.results170,go_sem,q0,q1,q2,q3,q4,q5]) rfl ?_;rw[HRE.out];exact⟨hk2,her,_,_,_,_,_,_,_,_,_,_,_,_,k2,rfl,hkk,h.to hk2 hB2 hS.kle⟩
 ·have HRE:=hide hre;clear hre HR;refine (HI.out _ sb yb rs defs lv ws k (lo+1) _ [⟨#[108,111,111,112]⟩] _ (by rw[tx_loop];exact hp) (hS'.kp ((Kp.refl _ _).alloc _)) (by omega) hE (by decide)).mono ?_;rintro x w3 ⟨hk3,v,tb',k2,rfl,-,hbo,rfl,hkk,hS3⟩;have c4:w3.cell? ⟨sb,4,none⟩=some (.int .i64 ((lo+1:Nat):Int)):=hS3.blk.cell rfl;have f4:=hS3.blk.free 4;obtain⟨xs3,hr3,-⟩:=hbo.out;obtain⟨a3,p3,rfl⟩:=row_slice hr3;have HB3:=hide hbo;have hC:=(hk3.blk (hC'.alloc _) hcs).setOther (a:=⟨sb,4,none⟩) hcs (.int .i64 lo);have hkp:Kp w (w3.setCell ⟨sb,4,none⟩ (.int .i64 lo)) (fun b=>b=sb):=((hkp'.alloc _).trans hk3).set (fun _=>rfl) _;have hkq:Kp w3 (w3.setCell ⟨sb,4,none⟩ (.int .i64 lo)) (fun b=>b=sb\/b=w.heap.size):=(Kp.one _ _ _ _).mono (fun _ _ h=>.inl h);have hB3:=hS3.blk;have hS:=hS3.setLo lo;clear hp hk3 hC' hkp' hS' hE HI hS3 hr3 hbo;obtain⟨y0,y1,y2,y3,y4,y5⟩:=hC.six;obtain⟨z0,z1,z2,z3,z4,z5⟩:=hC.sixF;go_wp2;have hC2:=hC.set6 (.int .u8 100) (.int .i64 0) (.string ⟨#[]⟩) (.slice a3 a.length p3) (.slice none 0 0) (.slice none 0 0);have hk2:=hkp.set6 (Nat.le_refl _) (.int .u8 100) (.int .i64 0) (.string ⟨#[]⟩) (.slice a3 a.length p3) (.slice none 0 0) (.slice none 0 0);have hB2:=hS.blk.other6 (Ne.symm hcs) (.int .u8 100) (.int .i64 0) (.string ⟨#[]⟩) (.slice a3 a.length p3) (.slice none 0 0) (.slice none 0 0);have hkf:=hkq.set6' (b:=w.heap.size) (.inr rfl) (.int .u8 100) (.int .i64 0) (.string ⟨#[]⟩) (.slice a3 a.length p3) (.slice none 0 0) (.slice none 0 0);generalize (((((((w3.setCell ⟨sb,4,none⟩ (.int .i64 lo)).setCell ⟨w.heap.size,0,none⟩ (.int .u8 100)).setCell ⟨w.heap.size,1,none⟩ (.int .i64 0)).setCell ⟨w.heap.size,2,none⟩ (.string ⟨#[]⟩)).setCell ⟨w.heap.size,3,none⟩ (.slice a3 a.length p3)).setCell ⟨w.heap.size,4,none⟩ (.slice none 0 0)).setCell ⟨w.heap.size,5,none⟩ (.slice none 0 0))=wf at hC2 hk2 hB2 hkf ⊢;obtain⟨q0,q1,q2,q3,q4,q5⟩:=hC2.six;refine bodyPost_ret (v:=.agg #[.int .u8 100,.int .i64 0,.string ⟨#[]⟩,.slice a3 a.length p3,.slice none 0 0,.slice none 0 0]) (by simp[results,Tryz.results170,go_sem,q0,q1,q2,q3,q4,q5]) rfl ?_;rw[HRE.out];have hkeep:Keeps (New (w0.alloc (.cells #[.string ⟨#[108,111,111,112]⟩] 9))) (New w) w3 wf:=keep_on hB3 hkf (by simp;omega) (by simp;omega);exact⟨hk2,_,⟨#[]⟩,_,_,_,k2,rfl,rfl,⟨rfl,HB3.out.keep hkeep,BodyS.nil _ _,toksIn.nil _ _,⟨in0,by simp⟩⟩,rfl,hkk,h.to hk2 hB2 hS.kle⟩
theorem itP_if (w:World) (sb yb:Nat) (rs:RS) (defs:List Def) (lv:Value) (ws:List ByteArray) (k lo:Nat) (tb:ByteArray) (hnum:numP tb.toList=none) (hpl:plainL.any (· == tb.toList)=false) (b0:(tb.toList == [105,102])=true) (g:Nat) (IH:CBodyP K g) (hlo:lo < k) (res:PRes) (hres:pRead (knownD defs) (g+1) ⟨true,lo,[],kIf⟩ ((texts ws).drop k)=some res) (h:ScInv K w sb yb rs defs lv ws k 0 lo):
  Calls Tryz.prog 170 #[.pointer (some ⟨sb,0,none⟩),.string tb] w fun x w'=>Kp w w' (fun b=>b=sb)/\PIt K w sb yb rs defs lv ws k lo x w' (res):=by
 have HI:=hide IH;have HR:=hide (pI_if hres);clear IH hres;have hsb:=h.blk.lt;have hln:=h.len;have hkl:=h.kle;go_enter Tryz.func170,Tryz.ntmps170
 go_wp2_with fail
 refine (numberR _ _).mono ?_;rintro e w' ⟨rfl,hw⟩;rw[hw,numV_none hnum];clear hw
 go_wp2_with fail
 refine (isPlainR _ _).mono ?_;rintro e w1 ⟨rfl,hk1⟩
 go_wp2_with fail
 refine (isKeptR _ _).mono ?_;rintro e w2 ⟨rfl,hk2⟩;have hkp:Kp w w2 (fun b=>b=sb):=(((Kp.refl _ _).alloc _).trans (hk1.mono (fun _ _ h=>h.elim))).trans (hk2.mono (fun _ _ h=>h.elim));have hC:Blk w2 w.heap.size 227 zItem:=hk2.blk (hk1.blk (Blk.new w _ _) (by simp)) (by simp);have hS:ScInv K w2 sb yb rs defs lv ws k 0 lo:=h.to hkp (hk2.blk (hk1.blk (h.blk.alloc _) (by simp)) (by simp)) h.kle;have hcs:¬ w.heap.size=sb:=by omega
 clear hk1 hk2;have hszz:=hkp.size;have hCl:=hC.lt;have hE:=Blk.new w2 #[.string ⟨#[101,108,115,101]⟩,.string ⟨#[116,104,101,110]⟩] 9
 go_wp2_with fail
 rcases HR.out with⟨er,hp,hre⟩|⟨a,t1,r1,hp,hrest⟩
 ·have HRE:=hide hre;clear hre HR;refine (HI.out _ sb yb rs defs lv ws k lo _ [⟨#[101,108,115,101]⟩,⟨#[116,104,101,110]⟩] _ (by rw[tx_if];exact hp) (hS.kp ((Kp.refl _ _).alloc _)) (by omega) hE (by decide)).mono ?_;rintro x w3 ⟨hk3,her,k2,rfl,hkk,hS3⟩
  replace hC:=hk3.blk (hC.alloc _) hcs
  replace hkp:=(hkp.alloc _).trans hk3
  have hB3:=hS3.blk;have hkl3:=hS3.kle;clear hp hk3 hS hE HI hS3
  replace hC:=hC.alloc (.cells #[.int .u8 63,.int .i64 0,.string ⟨#[]⟩,.slice none 0 0,.slice none 0 0,.slice none 0 0] 227)
  replace hkp:=hkp.alloc (.cells #[.int .u8 63,.int .i64 0,.string ⟨#[]⟩,.slice none 0 0,.slice none 0 0,.slice none 0 0] 227)
  replace hB3:=hB3.alloc (.cells #[.int .u8 63,.int .i64 0,.string ⟨#[]⟩,.slice none 0 0,.slice none 0 0,.slice none 0 0] 227)
  obtain⟨y0,y1,y2,y3,y4,y5⟩:=hC.six;obtain⟨z0,z1,z2,z3,z4,z5⟩:=hC.sixF;go_wp2;have hC2:=hC.set6 (.int .u8 63) (.int .i64 0) (.string ⟨#[]⟩) (.slice none 0 0) (.slice none 0 0) (.slice none 0 0);have hk2:=hkp.set6 (Nat.le_refl _) (.int .u8 63) (.int .i64 0) (.string ⟨#[]⟩) (.slice none 0 0) (.slice none 0 0) (.slice none 0 0);have hB2:=hB3.other6 (Ne.symm hcs) (.int .u8 63) (.int .i64 0) (.string ⟨#[]⟩) (.slice none 0 0) (.slice none 0 0) (.slice none 0 0);generalize (((((((w3.alloc (.cells #[.int .u8 63,.int .i64 0,.string ⟨#[]⟩,.slice none 0 0,.slice none 0 0,.slice none 0 0] 227)).setCell ⟨w.heap.size,0,none⟩ (.int .u8 63)).setCell ⟨w.heap.size,1,none⟩ (.int .i64 0)).setCell ⟨w.heap.size,2,none⟩ (.string ⟨#[]⟩)).setCell ⟨w.heap.size,3,none⟩ (.slice none 0 0)).setCell ⟨w.heap.size,4,none⟩ (.slice none 0 0)).setCell ⟨w.heap.size,5,none⟩ (.slice none 0 0))=wf at hC2 hk2 hB2 ⊢;obtain⟨q0,q1,q2,q3,q4,q5⟩:=hC2.six;refine bodyPost_ret (v:=.agg #[.int .u8 63,.int .i64 0,.string ⟨#[]⟩,.slice none 0 0,.slice none 0 0,.slice none 0 0]) (by simp[results,Tryz.results170,go_sem,q0,q1,q2,q3,q4,q5]) rfl ?_;rw[HRE.out];exact⟨hk2,her,_,_,_,_,_,_,_,_,_,_,_,_,k2,rfl,hkk,h.to hk2 hB2 hkl3⟩
 ·have HRR:=hide hrest;clear hrest HR;refine (HI.out _ sb yb rs defs lv ws k lo _ [⟨#[101,108,115,101]⟩,⟨#[116,104,101,110]⟩] _ (by rw[tx_if];exact hp) (hS.kp ((Kp.refl _ _).alloc _)) (by omega) hE (by decide)).mono ?_;rintro x w3 ⟨hk3,v,tb',k2,rfl,htb,hbo,rfl,hkk,hS3⟩;have HTB:=hide htb;obtain⟨xs3,hr3,-⟩:=hbo.out;obtain⟨a3,p3,rfl⟩:=row_slice hr3;have HB3:=hide hbo
  replace hC:=hk3.blk (hC.alloc _) hcs
  replace hkp:=(hkp.alloc _).trans hk3
  have hB3:=hS3.blk;have hkl3:=hS3.kle;have hsz3:=hkp.size;have hsz23:w2.heap.size+1<=w3.heap.size:=by have:=hk3.size;simpa using this
  clear hp hk3 hS hE hr3 hbo htb
  cases hend:(tb'.toList == [101,108,115,101])
  ·have hne:¬ t1=kElse:=by rw[<-HTB.out,<-ByteArray.toList_eq];simpa [kElse] using hend
   have HRE:Hid (res=.ok ([⟨63,0,[],a,[],[]⟩],[],(texts ws).drop k2)):=by
    rcases HRR.out with⟨h1,_⟩|⟨_,h1⟩
    ·exact absurd h1 hne
    ·exact h1
   clear hne HRR HI hS3;have hkq:Kp w3 w3 (fun b=>b=sb\/b=w.heap.size):=Kp.refl _ _
   replace hC:=hC.alloc (.cells #[.int .u8 63,.int .i64 0,.string ⟨#[]⟩,.slice a3 a.length p3,.slice none 0 0,.slice none 0 0] 227)
   replace hkp:=hkp.alloc (.cells #[.int .u8 63,.int .i64 0,.string ⟨#[]⟩,.slice a3 a.length p3,.slice none 0 0,.slice none 0 0] 227)
   have hB4:=hB3.alloc (.cells #[.int .u8 63,.int .i64 0,.string ⟨#[]⟩,.slice a3 a.length p3,.slice none 0 0,.slice none 0 0] 227)
   replace hkq:=hkq.alloc (.cells #[.int .u8 63,.int .i64 0,.string ⟨#[]⟩,.slice a3 a.length p3,.slice none 0 0,.slice none 0 0] 227)
   obtain⟨y0,y1,y2,y3,y4,y5⟩:=hC.six;obtain⟨z0,z1,z2,z3,z4,z5⟩:=hC.sixF;go_wp2;have hC2:=hC.set6 (.int .u8 63) (.int .i64 0) (.string ⟨#[]⟩) (.slice a3 a.length p3) (.slice none 0 0) (.slice none 0 0);have hk2:=hkp.set6 (Nat.le_refl _) (.int .u8 63) (.int .i64 0) (.string ⟨#[]⟩) (.slice a3 a.length p3) (.slice none 0 0) (.slice none 0 0);have hB2:=hB4.other6 (Ne.symm hcs) (.int .u8 63) (.int .i64 0) (.string ⟨#[]⟩) (.slice a3 a.length p3) (.slice none 0 0) (.slice none 0 0);have hkf:=hkq.set6' (b:=w.heap.size) (.inr rfl) (.int .u8 63) (.int .i64 0) (.string ⟨#[]⟩) (.slice a3 a.length p3) (.slice none 0 0) (.slice none 0 0);generalize (((((((w3.alloc (.cells #[.int .u8 63,.int .i64 0,.string ⟨#[]⟩,.slice a3 a.length p3,.slice none 0 0,.slice none 0 0] 227)).setCell ⟨w.heap.size,0,none⟩ (.int .u8 63)).setCell ⟨w.heap.size,1,none⟩ (.int .i64 0)).setCell ⟨w.heap.size,2,none⟩ (.string ⟨#[]⟩)).setCell ⟨w.heap.size,3,none⟩ (.slice a3 a.length p3)).setCell ⟨w.heap.size,4,none⟩ (.slice none 0 0)).setCell ⟨w.heap.size,5,none⟩ (.slice none 0 0))=wf at hC2 hk2 hB2 hkf ⊢;obtain⟨q0,q1,q2,q3,q4,q5⟩:=hC2.six;refine bodyPost_ret (v:=.agg #[.int .u8 63,.int .i64 0,.string ⟨#[]⟩,.slice a3 a.length p3,.slice none 0 0,.slice none 0 0]) (by simp[results,Tryz.results170,go_sem,q0,q1,q2,q3,q4,q5]) rfl ?_;rw[HRE.out];have hkeep:Keeps (New (w2.alloc (.cells #[.string ⟨#[101,108,115,101]⟩,.string ⟨#[116,104,101,110]⟩] 9))) (New w) w3 wf:=keep_on hB3 hkf (by simp;omega) (by simp;omega);exact⟨hk2,_,⟨#[]⟩,_,_,_,k2,rfl,rfl,⟨rfl,HB3.out.keep hkeep,BodyS.nil _ _,toksIn.nil _ _,⟨in0,by simp⟩⟩,rfl,hkk,h.to hk2 hB2 hkl3⟩
  ·have heq:t1=kElse:=by rw[<-HTB.out,<-ByteArray.toList_eq];simpa [kElse] using hend
   have hrest:(∃ e,pRead (knownD defs) g ⟨false,lo,[kThen],[]⟩ ((texts ws).drop k2)=some (.error e)/\res=.error e)\/(∃ b t2 r2,pRead (knownD defs) g ⟨false,lo,[kThen],[]⟩ ((texts ws).drop k2)=some (.ok (b,t2,r2))/\res=.ok ([⟨63,0,[],a,b,[]⟩],[],r2)):=by
    rcases HRR.out with⟨_,h1⟩|⟨h1,_⟩
    ·exact h1
    ·exact absurd heq h1
   clear heq HRR;have hX:=Blk.new w3 #[.int .u8 63,.int .i64 0,.string ⟨#[]⟩,.slice a3 a.length p3,.slice none 0 0,.slice none 0 0] 227;have hE:=Blk.new (w3.alloc (.cells #[.int .u8 63,.int .i64 0,.string ⟨#[]⟩,.slice a3 a.length p3,.slice none 0 0,.slice none 0 0] 227)) #[.string ⟨#[116,104,101,110]⟩] 9;rw[show (w3.alloc (.cells #[.int .u8 63,.int .i64 0,.string ⟨#[]⟩,.slice a3 a.length p3,.slice none 0 0,.slice none 0 0] 227)).heap.size=w3.heap.size+1 by simp] at hE;have hS4:=(hS3.kp ((Kp.refl _ _).alloc (.cells #[.int .u8 63,.int .i64 0,.string ⟨#[]⟩,.slice a3 a.length p3,.slice none 0 0,.slice none 0 0] 227))).kp ((Kp.refl _ _).alloc (.cells #[.string ⟨#[116,104,101,110]⟩] 9));have hC4:=(hC.alloc (.cells #[.int .u8 63,.int .i64 0,.string ⟨#[]⟩,.slice a3 a.length p3,.slice none 0 0,.slice none 0 0] 227)).alloc (.cells #[.string ⟨#[116,104,101,110]⟩] 9);have hkp4:=(hkp.alloc (.cells #[.int .u8 63,.int .i64 0,.string ⟨#[]⟩,.slice a3 a.length p3,.slice none 0 0,.slice none 0 0] 227)).alloc (.cells #[.string ⟨#[116,104,101,110]⟩] 9);have hkq:Kp w3 ((w3.alloc (.cells #[.int .u8 63,.int .i64 0,.string ⟨#[]⟩,.slice a3 a.length p3,.slice none 0 0,.slice none 0 0] 227)).alloc (.cells #[.string ⟨#[116,104,101,110]⟩] 9)) (fun b=>b=sb\/b=w.heap.size):=((Kp.refl _ _).alloc _).alloc _;have hX4:=hX.alloc (.cells #[.string ⟨#[116,104,101,110]⟩] 9);have hxs:¬ w3.heap.size=sb:=by omega
   have hxr:¬ w3.heap.size=w.heap.size:=by omega
   go_wp2_with fail
   rcases hrest with⟨er,hp2,hre⟩|⟨b,t2,r2,hp2,hre⟩
   ·have HRE:=hide hre;clear hre;refine (HI.out _ sb yb rs defs lv ws k2 lo _ [⟨#[116,104,101,110]⟩] _ (by rw[tx_then];exact hp2) hS4 (by omega) hE (by decide)).mono ?_;rintro x w5 ⟨hk5,her,k3,rfl,hkk3,hS5⟩
    replace hC:=hk5.blk hC4 hcs
    replace hkp:=hkp4.trans hk5
    have hB5:=hS5.blk;have hkl5:=hS5.kle
    replace hX:=hk5.blk hX4 hxs
    clear hp2 hk5 hE HI hS5 hS4 hC4 hkp4 hX4 hS3;obtain⟨x0,x1,x2,x3,x4,x5⟩:=hX.six;have xf:=hX.free 4
    replace hC:=hC.setOther (a:=⟨w3.heap.size,4,none⟩) (Ne.symm hxr) (.slice none 0 0)
    replace hkp:=hkp.set (a:=⟨w3.heap.size,4,none⟩) (fun hlt=>absurd hlt (by show ¬ (w3.heap.size < w.heap.size);omega)) (.slice none 0 0)
    have hB6:=hB5.setOther (a:=⟨w3.heap.size,4,none⟩) (Ne.symm hxs) (.slice none 0 0);obtain⟨y0,y1,y2,y3,y4,y5⟩:=hC.six;obtain⟨z0,z1,z2,z3,z4,z5⟩:=hC.sixF;go_wp2;have hC2:=hC.set6 (.int .u8 63) (.int .i64 0) (.string ⟨#[]⟩) (.slice a3 a.length p3) (.slice none 0 0) (.slice none 0 0);have hk2:=hkp.set6 (Nat.le_refl _) (.int .u8 63) (.int .i64 0) (.string ⟨#[]⟩) (.slice a3 a.length p3) (.slice none 0 0) (.slice none 0 0);have hB2:=hB6.other6 (Ne.symm hcs) (.int .u8 63) (.int .i64 0) (.string ⟨#[]⟩) (.slice a3 a.length p3) (.slice none 0 0) (.slice none 0 0);generalize (((((((w5.setCell ⟨w3.heap.size,4,none⟩ (.slice none 0 0)).setCell ⟨w.heap.size,0,none⟩ (.int .u8 63)).setCell ⟨w.heap.size,1,none⟩ (.int .i64 0)).setCell ⟨w.heap.size,2,none⟩ (.string ⟨#[]⟩)).setCell ⟨w.heap.size,3,none⟩ (.slice a3 a.length p3)).setCell ⟨w.heap.size,4,none⟩ (.slice none 0 0)).setCell ⟨w.heap.size,5,none⟩ (.slice none 0 0))=wf at hC2 hk2 hB2 ⊢;obtain⟨q0,q1,q2,q3,q4,q5⟩:=hC2.six;refine bodyPost_ret (v:=.agg #[.int .u8 63,.int .i64 0,.string ⟨#[]⟩,.slice a3 a.length p3,.slice none 0 0,.slice none 0 0]) (by simp[results,Tryz.results170,go_sem,q0,q1,q2,q3,q4,q5]) rfl ?_;rw[HRE.out];exact⟨hk2,her,_,_,_,_,_,_,_,_,_,_,_,_,k3,rfl,by omega,h.to hk2 hB2 hkl5⟩
   ·have HRE:=hide hre;clear hre;refine (HI.out _ sb yb rs defs lv ws k2 lo _ [⟨#[116,104,101,110]⟩] _ (by rw[tx_then];exact hp2) hS4 (by omega) hE (by decide)).mono ?_;rintro x w5 ⟨hk5,v2,tb2,k3,rfl,-,hbo5,rfl,hkk3,hS5⟩;obtain⟨xs5,hr5,-⟩:=hbo5.out;obtain⟨a5,p5,rfl⟩:=row_slice hr5;have HB5:=hide hbo5
    replace hC:=hk5.blk hC4 hcs
    replace hkp:=hkp4.trans hk5
    replace hkq:=hkq.trans (hk5.mono (fun _ _ h=>.inl h))
    have hB5:=hS5.blk;have hkl5:=hS5.kle;have hsz5:=hk5.size
    replace hX:=hk5.blk hX4 hxs
    have hkq5:Kp w5 (w5.setCell ⟨w3.heap.size,4,none⟩ (.slice a5 b.length p5)) (fun b=>b=sb\/b=w.heap.size\/b=w3.heap.size):=(Kp.one _ _ _ _).mono (fun _ _ h=>.inr (.inr h));clear hp2 hk5 hE HI hS5 hS4 hC4 hkp4 hX4 hS3 hr5 hbo5;obtain⟨x0,x1,x2,x3,x4,x5⟩:=hX.six;have xf:=hX.free 4
    replace hC:=hC.setOther (a:=⟨w3.heap.size,4,none⟩) (Ne.symm hxr) (.slice a5 b.length p5)
    replace hkp:=hkp.set (a:=⟨w3.heap.size,4,none⟩) (fun hlt=>absurd hlt (by show ¬ (w3.heap.size < w.heap.size);omega)) (.slice a5 b.length p5)
    replace hkq:=hkq.set (a:=⟨w3.heap.size,4,none⟩) (fun hlt=>absurd hlt (by show ¬ (w3.heap.size < w3.heap.size);omega)) (.slice a5 b.length p5)
    have hB6:=hB5.setOther (a:=⟨w3.heap.size,4,none⟩) (Ne.symm hxs) (.slice a5 b.length p5);obtain⟨y0,y1,y2,y3,y4,y5⟩:=hC.six;obtain⟨z0,z1,z2,z3,z4,z5⟩:=hC.sixF;go_wp2;have hC2:=hC.set6 (.int .u8 63) (.int .i64 0) (.string ⟨#[]⟩) (.slice a3 a.length p3) (.slice a5 b.length p5) (.slice none 0 0);have hk2:=hkp.set6 (Nat.le_refl _) (.int .u8 63) (.int .i64 0) (.string ⟨#[]⟩) (.slice a3 a.length p3) (.slice a5 b.length p5) (.slice none 0 0);have hB2:=hB6.other6 (Ne.symm hcs) (.int .u8 63) (.int .i64 0) (.string ⟨#[]⟩) (.slice a3 a.length p3) (.slice a5 b.length p5) (.slice none 0 0);have hkf:=hkq.set6' (b:=w.heap.size) (.inr rfl) (.int .u8 63) (.int .i64 0) (.string ⟨#[]⟩) (.slice a3 a.length p3) (.slice a5 b.length p5) (.slice none 0 0);have hkf5:=hkq5.set6' (b:=w.heap.size) (.inr (.inl rfl)) (.int .u8 63) (.int .i64 0) (.string ⟨#[]⟩) (.slice a3 a.length p3) (.slice a5 b.length p5) (.slice none 0 0);generalize (((((((w5.setCell ⟨w3.heap.size,4,none⟩ (.slice a5 b.length p5)).setCell ⟨w.heap.size,0,none⟩ (.int .u8 63)).setCell ⟨w.heap.size,1,none⟩ (.int .i64 0)).setCell ⟨w.heap.size,2,none⟩ (.string ⟨#[]⟩)).setCell ⟨w.heap.size,3,none⟩ (.slice a3 a.length p3)).setCell ⟨w.heap.size,4,none⟩ (.slice a5 b.length p5)).setCell ⟨w.heap.size,5,none⟩ (.slice none 0 0))=wf at hC2 hk2 hB2 hkf hkf5 ⊢;obtain⟨q0,q1,q2,q3,q4,q5⟩:=hC2.six;refine bodyPost_ret (v:=.agg #[.int .u8 63,.int .i64 0,.string ⟨#[]⟩,.slice a3 a.length p3,.slice a5 b.length p5,.slice none 0 0]) (by simp[results,Tryz.results170,go_sem,q0,q1,q2,q3,q4,q5]) rfl ?_;rw[HRE.out];have hkeep:Keeps (New (w2.alloc (.cells #[.string ⟨#[101,108,115,101]⟩,.string ⟨#[116,104,101,110]⟩] 9))) (New w) w3 wf:=keep_on hB3 hkf (by simp;omega) (by simp;omega);have hkeep5:Keeps (New ((w3.alloc (.cells #[.int .u8 63,.int .i64 0,.string ⟨#[]⟩,.slice a3 a.length p3,.slice none 0 0,.slice none 0 0] 227)).alloc (.cells #[.string ⟨#[116,104,101,110]⟩] 9))) (New w) w5 wf:=Keeps.of hkf5 (fun q t c hb hbl ht=>by
     have hb:((w3.alloc (.cells #[.int .u8 63,.int .i64 0,.string ⟨#[]⟩,.slice a3 a.length p3,.slice none 0 0,.slice none 0 0] 227)).alloc (.cells #[.string ⟨#[116,104,101,110]⟩] 9)).heap.size<=q:=hb;simp at hb;rintro (e|e|e)
     ·exact noScan hB5 hbl ht e
     ·omega
     ·omega) (fun q hb _=>by have hb:((w3.alloc (.cells #[.int .u8 63,.int .i64 0,.string ⟨#[]⟩,.slice a3 a.length p3,.slice none 0 0,.slice none 0 0] 227)).alloc (.cells #[.string ⟨#[116,104,101,110]⟩] 9)).heap.size<=q:=hb;simp at hb;show w.heap.size<=q;omega)
    exact⟨hk2,_,⟨#[]⟩,_,_,_,k3,rfl,rfl,⟨rfl,HB3.out.keep hkeep,HB5.out.keep hkeep5,toksIn.nil _ _,⟨in0,by simp⟩⟩,rfl,by omega,h.to hk2 hB2 hkl5⟩
theorem itP_begin (w:World) (sb yb:Nat) (rs:RS) (defs:List Def) (lv:Value) (ws:List ByteArray) (k lo:Nat) (tb:ByteArray) (hnum:numP tb.toList=none) (hpl:plainL.any (· == tb.toList)=false) (b0:(tb.toList == [105,102])=false) (b1:(tb.toList == [98,101,103,105,110])=true) (g:Nat) (IH:CBodyP K g) (hlo:lo < k) (res:PRes) (hres:pRead (knownD defs) (g+1) ⟨true,lo,[],kBegin⟩ ((texts ws).drop k)=some res) (h:ScInv K w sb yb rs defs lv ws k 0 lo):
  Calls Tryz.prog 170 #[.pointer (some ⟨sb,0,none⟩),.string tb] w fun x w'=>Kp w w' (fun b=>b=sb)/\PIt K w sb yb rs defs lv ws k lo x w' (res):=by
 have HI:=hide IH;have HR:=hide (pI_begin hres);clear IH hres;have hsb:=h.blk.lt;have hln:=h.len;have hkl:=h.kle;go_enter Tryz.func170,Tryz.ntmps170
 go_wp2_with fail
 refine (numberR _ _).mono ?_;rintro e w' ⟨rfl,hw⟩;rw[hw,numV_none hnum];clear hw
 go_wp2_with fail
 refine (isPlainR _ _).mono ?_;rintro e w1 ⟨rfl,hk1⟩
 go_wp2_with fail
 refine (isKeptR _ _).mono ?_;rintro e w2 ⟨rfl,hk2⟩;have hkp:Kp w w2 (fun b=>b=sb):=(((Kp.refl _ _).alloc _).trans (hk1.mono (fun _ _ h=>h.elim))).trans (hk2.mono (fun _ _ h=>h.elim));have hC:Blk w2 w.heap.size 227 zItem:=hk2.blk (hk1.blk (Blk.new w _ _) (by simp)) (by simp);have hS:ScInv K w2 sb yb rs defs lv ws k 0 lo:=h.to hkp (hk2.blk (hk1.blk (h.blk.alloc _) (by simp)) (by simp)) h.kle;have hcs:¬ w.heap.size=sb:=by omega
 clear hk1 hk2;have hszz:=hkp.size;have hCl:=hC.lt;have hE:=Blk.new w2 #[.string ⟨#[117,110,116,105,108]⟩,.string ⟨#[119,104,105,108,101]⟩] 9
 go_wp2_with fail
 rcases HR.out with⟨er,hp,hre⟩|⟨a,t1,r1,hp,hrest⟩
 ·have HRE:=hide hre;clear hre HR;refine (HI.out _ sb yb rs defs lv ws k lo _ [⟨#[117,110,116,105,108]⟩,⟨#[119,104,105,108,101]⟩] _ (by rw[tx_begin];exact hp) (hS.kp ((Kp.refl _ _).alloc _)) (by omega) hE (by decide)).mono ?_;rintro x w3 ⟨hk3,her,k2,rfl,hkk,hS3⟩
  replace hC:=hk3.blk (hC.alloc _) hcs
  replace hkp:=(hkp.alloc _).trans hk3
  have hB3:=hS3.blk;have hkl3:=hS3.kle;clear hp hk3 hS hE HI hS3;obtain⟨y0,y1,y2,y3,y4,y5⟩:=hC.six;obtain⟨z0,z1,z2,z3,z4,z5⟩:=hC.sixF;go_wp2;have hC2:=hC.set6 (.int .u8 117) (.int .i64 0) (.string ⟨#[]⟩) (.slice none 0 0) (.slice none 0 0) (.slice none 0 0);have hk2:=hkp.set6 (Nat.le_refl _) (.int .u8 117) (.int .i64 0) (.string ⟨#[]⟩) (.slice none 0 0) (.slice none 0 0) (.slice none 0 0);have hB2:=hB3.other6 (Ne.symm hcs) (.int .u8 117) (.int .i64 0) (.string ⟨#[]⟩) (.slice none 0 0) (.slice none 0 0) (.slice none 0 0);generalize ((((((w3.setCell ⟨w.heap.size,0,none⟩ (.int .u8 117)).setCell ⟨w.heap.size,1,none⟩ (.int .i64 0)).setCell ⟨w.heap.size,2,none⟩ (.string ⟨#[]⟩)).setCell ⟨w.heap.size,3,none⟩ (.slice none 0 0)).setCell ⟨w.heap.size,4,none⟩ (.slice none 0 0)).setCell ⟨w.heap.size,5,none⟩ (.slice none 0 0))=wf at hC2 hk2 hB2 ⊢;obtain⟨q0,q1,q2,q3,q4,q5⟩:=hC2.six;refine bodyPost_ret (v:=.agg #[.int .u8 117,.int .i64 0,.string ⟨#[]⟩,.slice none 0 0,.slice none 0 0,.slice none 0 0]) (by simp[results,Tryz.results170,go_sem,q0,q1,q2,q3,q4,q5]) rfl ?_;rw[HRE.out];exact⟨hk2,her,_,_,_,_,_,_,_,_,_,_,_,_,k2,rfl,hkk,h.to hk2 hB2 hkl3⟩
 ·have HRR:=hide hrest;clear hrest HR;refine (HI.out _ sb yb rs defs lv ws k lo _ [⟨#[117,110,116,105,108]⟩,⟨#[119,104,105,108,101]⟩] _ (by rw[tx_begin];exact hp) (hS.kp ((Kp.refl _ _).alloc _)) (by omega) hE (by decide)).mono ?_;rintro x w3 ⟨hk3,v,tb',k2,rfl,htb,hbo,rfl,hkk,hS3⟩;have HTB:=hide htb;obtain⟨xs3,hr3,-⟩:=hbo.out;obtain⟨a3,p3,rfl⟩:=row_slice hr3;have HB3:=hide hbo
  replace hC:=hk3.blk (hC.alloc _) hcs
  replace hkp:=(hkp.alloc _).trans hk3
  have hB3:=hS3.blk;have hkl3:=hS3.kle;have hsz3:=hkp.size;have hsz23:w2.heap.size+1<=w3.heap.size:=by have:=hk3.size;simpa using this
  clear hp hk3 hS hE hr3 hbo htb
  cases hend:(tb'.toList == [119,104,105,108,101])
  ·have hne:¬ t1=kWhile:=by rw[<-HTB.out,<-ByteArray.toList_eq];simpa [kWhile] using hend
   have HRE:Hid (res=.ok ([⟨117,0,[],a,[],[]⟩],[],(texts ws).drop k2)):=by
    rcases HRR.out with⟨h1,_⟩|⟨_,h1⟩
    ·exact absurd h1 hne
    ·exact h1
   clear hne HRR HI hS3;have hkq:Kp w3 w3 (fun b=>b=sb\/b=w.heap.size):=Kp.refl _ _;have hB4:=hB3;obtain⟨y0,y1,y2,y3,y4,y5⟩:=hC.six;obtain⟨z0,z1,z2,z3,z4,z5⟩:=hC.sixF;go_wp2;have hC2:=hC.set6 (.int .u8 117) (.int .i64 0) (.string ⟨#[]⟩) (.slice a3 a.length p3) (.slice none 0 0) (.slice none 0 0);have hk2:=hkp.set6 (Nat.le_refl _) (.int .u8 117) (.int .i64 0) (.string ⟨#[]⟩) (.slice a3 a.length p3) (.slice none 0 0) (.slice none 0 0);have hB2:=hB4.other6 (Ne.symm hcs) (.int .u8 117) (.int .i64 0) (.string ⟨#[]⟩) (.slice a3 a.length p3) (.slice none 0 0) (.slice none 0 0);have hkf:=hkq.set6' (b:=w.heap.size) (.inr rfl) (.int .u8 117) (.int .i64 0) (.string ⟨#[]⟩) (.slice a3 a.length p3) (.slice none 0 0) (.slice none 0 0);generalize ((((((w3.setCell ⟨w.heap.size,0,none⟩ (.int .u8 117)).setCell ⟨w.heap.size,1,none⟩ (.int .i64 0)).setCell ⟨w.heap.size,2,none⟩ (.string ⟨#[]⟩)).setCell ⟨w.heap.size,3,none⟩ (.slice a3 a.length p3)).setCell ⟨w.heap.size,4,none⟩ (.slice none 0 0)).setCell ⟨w.heap.size,5,none⟩ (.slice none 0 0))=wf at hC2 hk2 hB2 hkf ⊢;obtain⟨q0,q1,q2,q3,q4,q5⟩:=hC2.six;refine bodyPost_ret (v:=.agg #[.int .u8 117,.int .i64 0,.string ⟨#[]⟩,.slice a3 a.length p3,.slice none 0 0,.slice none 0 0]) (by simp[results,Tryz.results170,go_sem,q0,q1,q2,q3,q4,q5]) rfl ?_;rw[HRE.out];have hkeep:Keeps (New (w2.alloc (.cells #[.string ⟨#[117,110,116,105,108]⟩,.string ⟨#[119,104,105,108,101]⟩] 9))) (New w) w3 wf:=keep_on hB3 hkf (by simp;omega) (by simp;omega);exact⟨hk2,_,⟨#[]⟩,_,_,_,k2,rfl,rfl,⟨rfl,HB3.out.keep hkeep,BodyS.nil _ _,toksIn.nil _ _,⟨in0,by simp⟩⟩,rfl,hkk,h.to hk2 hB2 hkl3⟩
  ·have heq:t1=kWhile:=by rw[<-HTB.out,<-ByteArray.toList_eq];simpa [kWhile] using hend
   have hrest:(∃ e,pRead (knownD defs) g ⟨false,lo,[kRepeat],[]⟩ ((texts ws).drop k2)=some (.error e)/\res=.error e)\/(∃ b t2 r2,pRead (knownD defs) g ⟨false,lo,[kRepeat],[]⟩ ((texts ws).drop k2)=some (.ok (b,t2,r2))/\res=.ok ([⟨119,0,[],a,b,[]⟩],[],r2)):=by
    rcases HRR.out with⟨_,h1⟩|⟨h1,_⟩
    ·exact h1
    ·exact absurd heq h1
   clear heq HRR;have hE:=Blk.new w3 #[.string ⟨#[114,101,112,101,97,116]⟩] 9;have hS4:=hS3.kp ((Kp.refl _ _).alloc (.cells #[.string ⟨#[114,101,112,101,97,116]⟩] 9));have hC4:=hC.alloc (.cells #[.string ⟨#[114,101,112,101,97,116]⟩] 9);have hkp4:=hkp.alloc (.cells #[.string ⟨#[114,101,112,101,97,116]⟩] 9);have hkq:Kp w3 (w3.alloc (.cells #[.string ⟨#[114,101,112,101,97,116]⟩] 9)) (fun b=>b=sb\/b=w.heap.size):=(Kp.refl _ _).alloc _
   go_wp2_with fail
   rcases hrest with⟨er,hp2,hre⟩|⟨b,t2,r2,hp2,hre⟩
   ·have HRE:=hide hre;clear hre;refine (HI.out _ sb yb rs defs lv ws k2 lo _ [⟨#[114,101,112,101,97,116]⟩] _ (by rw[tx_repeat];exact hp2) hS4 (by omega) hE (by decide)).mono ?_;rintro x w5 ⟨hk5,her,k3,rfl,hkk3,hS5⟩
    replace hC:=hk5.blk hC4 hcs
    replace hkp:=hkp4.trans hk5
    have hB5:=hS5.blk;have hkl5:=hS5.kle;clear hp2 hk5 hE HI hS5 hS4 hC4 hkp4 hS3;have hB6:=hB5;obtain⟨y0,y1,y2,y3,y4,y5⟩:=hC.six;obtain⟨z0,z1,z2,z3,z4,z5⟩:=hC.sixF;go_wp2;have hC2:=hC.set6 (.int .u8 119) (.int .i64 0) (.string ⟨#[]⟩) (.slice a3 a.length p3) (.slice none 0 0) (.slice none 0 0);have hk2:=hkp.set6 (Nat.le_refl _) (.int .u8 119) (.int .i64 0) (.string ⟨#[]⟩) (.slice a3 a.length p3) (.slice none 0 0) (.slice none 0 0);have hB2:=hB6.other6 (Ne.symm hcs) (.int .u8 119) (.int .i64 0) (.string ⟨#[]⟩) (.slice a3 a.length p3) (.slice none 0 0) (.slice none 0 0);generalize ((((((w5.setCell ⟨w.heap.size,0,none⟩ (.int .u8 119)).setCell ⟨w.heap.size,1,none⟩ (.int .i64 0)).setCell ⟨w.heap.size,2,none⟩ (.string ⟨#[]⟩)).setCell ⟨w.heap.size,3,none⟩ (.slice a3 a.length p3)).setCell ⟨w.heap.size,4,none⟩ (.slice none 0 0)).setCell ⟨w.heap.size,5,none⟩ (.slice none 0 0))=wf at hC2 hk2 hB2 ⊢;obtain⟨q0,q1,q2,q3,q4,q5⟩:=hC2.six;refine bodyPost_ret (v:=.agg #[.int .u8 119,.int .i64 0,.string ⟨#[]⟩,.slice a3 a.length p3,.slice none 0 0,.slice none 0 0]) (by simp[results,Tryz.results170,go_sem,q0,q1,q2,q3,q4,q5]) rfl ?_;rw[HRE.out];exact⟨hk2,her,_,_,_,_,_,_,_,_,_,_,_,_,k3,rfl,by omega,h.to hk2 hB2 hkl5⟩
   ·have HRE:=hide hre;clear hre;refine (HI.out _ sb yb rs defs lv ws k2 lo _ [⟨#[114,101,112,101,97,116]⟩] _ (by rw[tx_repeat];exact hp2) hS4 (by omega) hE (by decide)).mono ?_;rintro x w5 ⟨hk5,v2,tb2,k3,rfl,-,hbo5,rfl,hkk3,hS5⟩;obtain⟨xs5,hr5,-⟩:=hbo5.out;obtain⟨a5,p5,rfl⟩:=row_slice hr5;have HB5:=hide hbo5
    replace hC:=hk5.blk hC4 hcs
    replace hkp:=hkp4.trans hk5
    replace hkq:=hkq.trans (hk5.mono (fun _ _ h=>.inl h))
    have hB5:=hS5.blk;have hkl5:=hS5.kle;have hsz5:=hk5.size;have hkq5:Kp w5 w5 (fun b=>b=sb\/b=w.heap.size):=Kp.refl _ _;clear hp2 hk5 hE HI hS5 hS4 hC4 hkp4 hS3 hr5 hbo5;have hB6:=hB5;obtain⟨y0,y1,y2,y3,y4,y5⟩:=hC.six;obtain⟨z0,z1,z2,z3,z4,z5⟩:=hC.sixF;go_wp2;have hC2:=hC.set6 (.int .u8 119) (.int .i64 0) (.string ⟨#[]⟩) (.slice a3 a.length p3) (.slice a5 b.length p5) (.slice none 0 0);have hk2:=hkp.set6 (Nat.le_refl _) (.int .u8 119) (.int .i64 0) (.string ⟨#[]⟩) (.slice a3 a.length p3) (.slice a5 b.length p5) (.slice none 0 0);have hB2:=hB6.other6 (Ne.symm hcs) (.int .u8 119) (.int .i64 0) (.string ⟨#[]⟩) (.slice a3 a.length p3) (.slice a5 b.length p5) (.slice none 0 0);have hkf:=hkq.set6' (b:=w.heap.size) (.inr rfl) (.int .u8 119) (.int .i64 0) (.string ⟨#[]⟩) (.slice a3 a.length p3) (.slice a5 b.length p5) (.slice none 0 0);have hkf5:=hkq5.set6' (b:=w.heap.size) (.inr rfl) (.int .u8 119) (.int .i64 0) (.string ⟨#[]⟩) (.slice a3 a.length p3) (.slice a5 b.length p5) (.slice none 0 0);generalize ((((((w5.setCell ⟨w.heap.size,0,none⟩ (.int .u8 119)).setCell ⟨w.heap.size,1,none⟩ (.int .i64 0)).setCell ⟨w.heap.size,2,none⟩ (.string ⟨#[]⟩)).setCell ⟨w.heap.size,3,none⟩ (.slice a3 a.length p3)).setCell ⟨w.heap.size,4,none⟩ (.slice a5 b.length p5)).setCell ⟨w.heap.size,5,none⟩ (.slice none 0 0))=wf at hC2 hk2 hB2 hkf hkf5 ⊢;obtain⟨q0,q1,q2,q3,q4,q5⟩:=hC2.six;refine bodyPost_ret (v:=.agg #[.int .u8 119,.int .i64 0,.string ⟨#[]⟩,.slice a3 a.length p3,.slice a5 b.length p5,.slice none 0 0]) (by simp[results,Tryz.results170,go_sem,q0,q1,q2,q3,q4,q5]) rfl ?_;rw[HRE.out];have hkeep:Keeps (New (w2.alloc (.cells #[.string ⟨#[117,110,116,105,108]⟩,.string ⟨#[119,104,105,108,101]⟩] 9))) (New w) w3 wf:=keep_on hB3 hkf (by simp;omega) (by simp;omega);have hkeep5:Keeps (New (w3.alloc (.cells #[.string ⟨#[114,101,112,101,97,116]⟩] 9))) (New w) w5 wf:=keep_on hB5 hkf5 (by simp;omega) (by simp;omega);exact⟨hk2,_,⟨#[]⟩,_,_,_,k3,rfl,rfl,⟨rfl,HB3.out.keep hkeep,HB5.out.keep hkeep5,toksIn.nil _ _,⟨in0,by simp⟩⟩,rfl,by omega,h.to hk2 hB2 hkl5⟩
end
section
open Go.RowKit
variable {K:Nat->Prop}
theorem eq_k {tb:ByteArray} {k:Tok} (h:(tb.toList == k)=true):tb.data.toList=k:=by
 rw[ByteArray.toList_eq] at h;simpa using h
theorem itemP (G:Nat) (IH:∀ g,g < G->CBodyP K g):CItemP K G:=by
 intro w sb yb rs defs lv ws k lo tb res hres h hlo
 cases G with
 | zero=>rw[pI0] at hres;cases hres
 | succ g=>
 have hI:=IH g (by omega);have te:=ByteArray.toList_eq tb
 cases hnum:numP tb.toList with
 | some n=>
  rw[<-te,pI_num hnum] at hres;injection hres with hres;subst hres;exact itP_num w sb yb rs defs lv ws k lo tb n hnum h
 | none=>
 cases hpl:plainL.any (· == tb.toList) with
 | true=>
  rw[<-te,pI_plain hnum hpl,te] at hres;injection hres with hres;subst hres;exact itP_plain w sb yb rs defs lv ws k lo tb hnum hpl h
 | false=>
 cases b0:(tb.toList == [105,102]) with
 | true=>
  rw[eq_k b0] at hres;exact itP_if w sb yb rs defs lv ws k lo tb hnum hpl b0 g hI hlo res hres h
 | false=>
 cases b1:(tb.toList == [98,101,103,105,110]) with
 | true=>
  rw[eq_k b1] at hres;exact itP_begin w sb yb rs defs lv ws k lo tb hnum hpl b0 b1 g hI hlo res hres h
 | false=>
 cases b2:(tb.toList == [100,111]) with
 | true=>
  rw[eq_k b2] at hres;exact itP_do w sb yb rs defs lv ws k lo tb hnum hpl b0 b1 b2 g hI hlo res hres h
 | false=>
 cases b3:(tb.toList == [105]) with
 | true=>
  rw[eq_k b3] at hres;have tk:tb.toList=kI:=by rw[te];exact eq_k b3
  by_cases hl:0 < lo
  ·have:=pI_i (known:=knownD defs) (g:=g) (r:=(texts ws).drop k) hl;rw[show ([105]:Tok)=kI from rfl,this] at hres;injection hres with hres;subst hres;exact itP_i w sb yb rs defs lv ws k lo tb hnum hpl b0 b1 b2 b3 hl h
  ·have hl0:lo=0:=by omega
   have:=pI_i0 (known:=knownD defs) (g:=g) (r:=(texts ws).drop k);rw[hl0,show ([105]:Tok)=kI from rfl,this] at hres;injection hres with hres;subst hres;exact itP_i0 w sb yb rs defs lv ws k lo tb hnum hpl b0 b1 b2 b3 hl0 (by rw[tk];decide) (by rw[tk];decide) (by rw[tk];decide) (by rw[tk];decide) h
 | false=>
 cases b4:(tb.toList == [114,101,99,117,114,115,101]) with
 | true=>
  rw[eq_k b4] at hres;have:=pI_rec (known:=knownD defs) (g:=g) (lo:=lo) (r:=(texts ws).drop k);rw[show ([114,101,99,117,114,115,101]:Tok)=kRecurse from rfl,this] at hres;injection hres with hres;subst hres;exact itP_rec w sb yb rs defs lv ws k lo tb hnum hpl b0 b1 b2 b3 b4 h
 | false=>
 cases b5:(tb.toList == [101,120,105,116]) with
 | true=>
  rw[eq_k b5] at hres;have:=pI_exit (known:=knownD defs) (g:=g) (lo:=lo) (r:=(texts ws).drop k);rw[show ([101,120,105,116]:Tok)=kExit from rfl,this] at hres;injection hres with hres;subst hres;exact itP_exit w sb yb rs defs lv ws k lo tb hnum hpl b0 b1 b2 b3 b4 b5 h
 | false=>
 cases b6:(tb.toList == [123]) with
 | true=>
  rw[eq_k b6] at hres;have:=pI_open (known:=knownD defs) (g:=g) (lo:=lo) (r:=(texts ws).drop k);rw[show ([123]:Tok)=kOpen from rfl,this] at hres;refine itP_open w sb yb rs defs lv ws k lo tb hnum hpl b0 b1 b2 b3 b4 b5 b6 res ?_ h
  split at hres
  ·injection hres with hres;rename_i he;rw[he];exact hres.symm
  ·injection hres with hres;rename_i he;rw[he];exact hres.symm
 | false=>
 have hO:Other tb.toList:=⟨hnum,hpl,b0,b1,b2,b3,b4,b5,b6⟩;rw[<-te,hO.one] at hres
 cases hkept:keptL.any (· == tb.toList) with
 | true=>
  rw[if_pos (by unfold formD;rw[hkept];rfl)] at hres;injection hres with hres;subst hres;exact itP_kept w sb yb rs defs lv ws k lo tb hnum hpl b0 b1 b2 b3 b4 b5 b6 hkept h
 | false=>
 cases d1:(tb.toList == [58]) with
 | true=>
  rw[if_pos (by unfold formD;rw[hkept,show kColon=[58] from rfl,d1];rfl)] at hres;injection hres with hres;subst hres;exact itP_colon w sb yb rs defs lv ws k lo tb hnum hpl b0 b1 b2 b3 b4 b5 b6 hkept d1 h
 | false=>
 cases d2:(tb.toList == [59]) with
 | true=>
  rw[if_pos (by unfold formD;rw[hkept,show kColon=[58] from rfl,d1,show kSemi=[59] from rfl,d2];rfl)] at hres;injection hres with hres;subst hres;exact itP_semi w sb yb rs defs lv ws k lo tb hnum hpl b0 b1 b2 b3 b4 b5 b6 hkept d1 d2 h
 | false=>
 cases d3:(tb.toList == [125]) with
 | true=>
  rw[if_pos (by unfold formD;rw[hkept,show kColon=[58] from rfl,d1,show kSemi=[59] from rfl,d2,show kClose=[125] from rfl,d3];rfl)] at hres;injection hres with hres;subst hres;exact itP_close w sb yb rs defs lv ws k lo tb hnum hpl b0 b1 b2 b3 b4 b5 b6 hkept d1 d2 d3 h
 | false=>
 rw[if_neg (by unfold formD;rw[hkept,show kColon=[58] from rfl,d1,show kSemi=[59] from rfl,d2,show kClose=[125] from rfl,d3];decide)] at hres;by_cases hf:findI defs tb.data.toList < 0
 ·rw[if_neg (by rw[te,knownD_neg hf];decide)] at hres;injection hres with hres;subst hres;exact itP_word w sb yb rs defs lv ws k lo tb hnum hpl b0 b1 b2 b3 b4 b5 b6 hkept d1 d2 d3 hf h
 ·rw[if_pos (by rw[te,knownD_pos hf]),te] at hres;injection hres with hres;subst hres;exact itP_call w sb yb rs defs lv ws k lo tb hnum hpl b0 b1 b2 b3 b4 b5 b6 hkept d1 d2 d3 hf h
theorem readP:∀ G,CItemP K G/\CBodyP K G:=by
 intro G
 induction G using Nat.strongRecOn with
 | ind G ih=>exact⟨itemP G (fun g hg=>(ih g hg).2),bodyP G (fun g hg=>(ih g hg).1)⟩
abbrev DRes:=Except Int (Tok × List It × List Tok)
def pDefD (g:Nat) (defs:List Def):List Tok->Option DRes
 | []=>some (.error 4)
 | t :: r=>if isName t=false then some (.error 4) else if knownD defs t=false/\30<=defs.length then some (.error 5) else
  match pRead (knownD defs) g ⟨false,0,[kSemi],[]⟩ r with
  | none=>none
  | some (.error e)=>some (.error e)
  | some (.ok (b,_,r1))=>some (.ok (t,b,r1))
theorem pDef_eq (g:Nat) (s:St) (l:List Tok):pDef g s l=pDefD g s.defs l:=by
 cases l <;> rfl
theorem tx_semi:texts [⟨#[59]⟩]=[kSemi]:=rfl
def PDe (K:Nat->Prop) (ws:List ByteArray) (k:Nat) (x:Ending) (w':World):DRes->Prop
 | .ok (nm,b,r)=>∃ tb v k',x=.returned (.tuple #[.string tb,v,.int .i64 (k':Nat),.int .i64 0])/\tb.data.toList=nm/\Body K w' v b/\r=(texts ws).drop k'/\k<=k'/\k'<=ws.length
 | .error er=>er ≠ 0/\∃ tb v n,x=.returned (.tuple #[.string tb,v,n,.int .i64 er])
theorem results_tmp4 {fn:Func} {t u v x:Tmp} (h:fn.results=#[.tmp t,.tmp u,.tmp v,.tmp x]) (tmps:Array Value) (P:Program) (w:World):
  (results fn tmps).run P w=.ok (.tuple #[tmps.getD t undef,tmps.getD u undef,tmps.getD v undef,tmps.getD x undef]) w:=by
 simp[results,h]
theorem ScInv.first {w:World} {yb:Nat} {rs:RS} {defs:List Def} {lv:Value} {ws:List ByteArray} {k:Nat} (hy:Blk w yb 67 rs.arr) (hd:DRel K w rs.d.dv defs) (hr:w.ownsRow 0 9 1 lv ws.length (ws.map Value.string)) (hl:ws.length<=1000) (hk:k<=ws.length):
  ScInv K (w.alloc (.cells (scArr yb lv k 0 0) 181)) w.heap.size yb rs defs lv ws k 0 0:=
 ⟨Blk.new w _ _,hy.alloc _,hd.kp ((Kp.refl w (fun _=>False)).alloc _) (fun _ _ _ h=>h.elim) (fun _ _ h=>h.elim),hr.alloc _,hl,hk⟩
theorem Kp.newer {w w1 w2:World} {b:Nat} (h:Kp w w1 (fun _=>False)) (hk:Kp w1 w2 (fun k=>k=b)) (hb:w.heap.size<=b):Kp w w2 (fun _=>False):=
 ⟨hk.os.trans h.os,hk.tape.trans h.tape,hk.output.trans h.output,Nat.le_trans h.size hk.size,fun k hlt hn=>(hk.block k (Nat.lt_of_lt_of_le hlt h.size) (by omega)).trans (h.block k hlt hn)⟩
theorem defineS_end (w:World) (yb:Nat) (rs:RS) (defs:List Def) (lv:Value) (ws:List ByteArray) (hy:Blk w yb 67 rs.arr) (hd:DRel K w rs.d.dv defs) (hr:w.ownsRow 0 9 1 lv ws.length (ws.map Value.string)) (hl:ws.length<=1000):
  Calls Tryz.prog 84 #[.pointer (some ⟨yb,0,none⟩),lv,.int .i64 ws.length] w fun x w'=>Kp w w' (fun _=>False)/\PDe K ws ws.length x w' (.error 4):=by
 have hS:=ScInv.first (k:=ws.length) hy hd hr hl (Nat.le_refl _)
 obtain⟨ao,cap,rfl⟩:=row_slice hr;clear hr hy hd;go_enter Tryz.func84,Tryz.ntmps84
 go_wp2_with fail
 refine (nextS_end _ _ yb _ _ _ 0 hS.row hS.blk hl).mono ?_;rintro e w1 ⟨rfl,hB1,hk1⟩;have hkp:=((Kp.refl w (fun _=>False)).alloc _).newer hk1 (Nat.le_refl _);clear hk1 hS
 go_wp2_with fail
 refine (nameS _ _).mono ?_;rintro e w2 ⟨rfl,hk2⟩;have hB2:=hk2.blk hB1 (by simp)
 replace hkp:=hkp.trans hk2
 have c3:w2.cell? ⟨w.heap.size,3,none⟩=some (.int .i64 4):=hB2.cell rfl;clear hk2 hB1;go_wp2
 go_quiet (fail)
 go_wp2;refine bodyPost_ret (results_tmp4 rfl _ _ _) rfl ?_;exact⟨hkp.drewN _,by decide,_,_,_,rfl⟩
theorem defineS_name (w:World) (yb:Nat) (rs:RS) (defs:List Def) (lv:Value) (ws:List ByteArray) (k:Nat) (hk:k < ws.length) (hy:Blk w yb 67 rs.arr) (hd:DRel K w rs.d.dv defs) (hr:w.ownsRow 0 9 1 lv ws.length (ws.map Value.string)) (hl:ws.length<=1000)
  (hnm:isName ws[k].data.toList=false):
  Calls Tryz.prog 84 #[.pointer (some ⟨yb,0,none⟩),lv,.int .i64 k] w fun x w'=>Kp w w' (fun _=>False)/\PDe K ws k x w' (.error 4):=by
 have hS:=ScInv.first (k:=k) hy hd hr hl (by omega)
 obtain⟨ao,cap,rfl⟩:=row_slice hr;clear hr hy hd;go_enter Tryz.func84,Tryz.ntmps84
 go_wp2_with fail
 refine (nextS_ok _ _ yb _ ws k 0 hS.row hS.blk hl hk).mono ?_;rintro e w1 ⟨rfl,hB1,hk1⟩;have hkp:=((Kp.refl w (fun _=>False)).alloc _).newer hk1 (Nat.le_refl _);clear hk1 hS
 go_wp2_with fail
 refine (nameS _ _).mono ?_;rintro e w2 ⟨rfl,hk2⟩;have hB2:=hk2.blk hB1 (by simp)
 replace hkp:=hkp.trans hk2
 have c3:w2.cell? ⟨w.heap.size,3,none⟩=some (.int .i64 0):=hB2.cell rfl;clear hk2 hB1;rw[hnm]
 go_wp2_with fail
 refine (failS _ _ yb _ (k+1) 0 4 hB2).mono ?_;rintro e w3 ⟨rfl,hB3,hk3⟩
 replace hkp:=hkp.newer hk3 (Nat.le_refl _)
 have c4:w3.cell? ⟨w.heap.size,3,none⟩=some (.int .i64 4):=hB3.cell rfl;clear hk3 hB2 c3;go_wp2
 go_quiet (fail)
 go_wp2;refine bodyPost_ret (results_tmp4 rfl _ _ _) rfl ?_;exact⟨hkp.drewN _,by decide,_,_,_,rfl⟩
theorem defineS_full (w:World) (yb:Nat) (rs:RS) (defs:List Def) (lv:Value) (ws:List ByteArray) (k:Nat) (hk:k < ws.length) (hy:Blk w yb 67 rs.arr) (hd:DRel K w rs.d.dv defs) (hr:w.ownsRow 0 9 1 lv ws.length (ws.map Value.string)) (hl:ws.length<=1000)
  (hnm:isName ws[k].data.toList=true) (hf:findI defs ws[k].data.toList < 0) (h30:30<=defs.length):
  Calls Tryz.prog 84 #[.pointer (some ⟨yb,0,none⟩),lv,.int .i64 k] w fun x w'=>Kp w w' (fun _=>False)/\PDe K ws k x w' (.error 5):=by
 have hS:=ScInv.first (k:=k) hy hd hr hl (by omega)
 obtain⟨ao,cap,rfl⟩:=row_slice hr;clear hr hy hd;go_enter Tryz.func84,Tryz.ntmps84
 go_wp2_with fail
 refine (nextS_ok _ _ yb _ ws k 0 hS.row hS.blk hl hk).mono ?_;rintro e w1 ⟨rfl,hB1,hk1⟩;have hkp:=((Kp.refl w (fun _=>False)).alloc _).newer hk1 (Nat.le_refl _);have hS1:=hS.to hk1 hB1 (by omega);clear hk1 hS hB1
 go_wp2_with fail
 refine (nameS _ _).mono ?_;rintro e w2 ⟨rfl,hk2⟩;have hS2:=hS1.kp hk2;have hB2:=hS2.blk;have hdl:=hS2.dr.len;obtain⟨xsd,hrd,-⟩:=hS2.dr.ex;obtain⟨aod,capd,hvd⟩:=row_slice hrd;have cd:w2.cell? ⟨yb,17,none⟩=some (.slice aod defs.length capd):=by rw[<-hvd];exact hS2.yblk.cell rfl
 replace hkp:=hkp.trans hk2
 have c3:w2.cell? ⟨w.heap.size,3,none⟩=some (.int .i64 0):=hB2.cell rfl;clear hk2 hS1 hrd hvd;rw[hnm]
 go_wp2_with fail
 refine (findS _ _ _ _ _ hS2.yblk hS2.dr).mono ?_;rintro e w' ⟨rfl,hw⟩;rw[hw];clear hw
 go_wp2_with fail
 refine (failS _ _ yb _ (k+1) 0 5 hB2).mono ?_;rintro e w3 ⟨rfl,hB3,hk3⟩
 replace hkp:=hkp.newer hk3 (Nat.le_refl _)
 have c4:w3.cell? ⟨w.heap.size,3,none⟩=some (.int .i64 5):=hB3.cell rfl;clear hk3 hB2 c3 hS2;go_wp2
 go_quiet (fail)
 go_wp2;refine bodyPost_ret (results_tmp4 rfl _ _ _) rfl ?_;exact⟨hkp.drewN _,by decide,_,_,_,rfl⟩
theorem defineS_body (w:World) (yb:Nat) (rs:RS) (defs:List Def) (lv:Value) (ws:List ByteArray) (k:Nat) (hk:k < ws.length) (hy:Blk w yb 67 rs.arr) (hd:DRel K w rs.d.dv defs) (hr:w.ownsRow 0 9 1 lv ws.length (ws.map Value.string)) (hl:ws.length<=1000)
  (hnm:isName ws[k].data.toList=true) (hf:¬ findI defs ws[k].data.toList < 0\/(findI defs ws[k].data.toList < 0/\defs.length < 30)) (g:Nat) (res:PRes) (hres:pRead (knownD defs) g ⟨false,0,[kSemi],[]⟩ ((texts ws).drop (k+1))=some res):
  Calls Tryz.prog 84 #[.pointer (some ⟨yb,0,none⟩),lv,.int .i64 k] w fun x w'=>Kp w w' (fun _=>False)/\PDe K ws k x w' (match (generalizing:=false) res with | .error e=>.error e | .ok (b,_,r1)=>.ok (ws[k].data.toList,b,r1)):=by
 have HR:=hide hres;clear hres;have hS:=ScInv.first (k:=k) hy hd hr hl (by omega)
 obtain⟨ao,cap,rfl⟩:=row_slice hr;have HOLD:=hide hd.old;clear hr hy hd;go_enter Tryz.func84,Tryz.ntmps84
 go_wp2_with fail
 refine (nextS_ok _ _ yb _ ws k 0 hS.row hS.blk hl hk).mono ?_;rintro e w1 ⟨rfl,hB1,hk1⟩;have hkp:=((Kp.refl w (fun _=>False)).alloc _).newer hk1 (Nat.le_refl _);have hS1:=hS.to hk1 hB1 (by omega);clear hk1 hS hB1
 go_wp2_with fail
 refine (nameS _ _).mono ?_;rintro e w2 ⟨rfl,hk2⟩;have hS2:=hS1.kp hk2;have hB2:=hS2.blk;have hdl:=hS2.dr.len;obtain⟨xsd,hrd,-⟩:=hS2.dr.ex;obtain⟨aod,capd,hvd⟩:=row_slice hrd;have cd:w2.cell? ⟨yb,17,none⟩=some (.slice aod defs.length capd):=by rw[<-hvd];exact hS2.yblk.cell rfl
 replace hkp:=hkp.trans hk2
 have c3:w2.cell? ⟨w.heap.size,3,none⟩=some (.int .i64 0):=hB2.cell rfl;clear hk2 hS1 hrd hvd;rw[hnm]
 go_wp2_with fail
 refine (findS _ _ _ _ _ hS2.yblk hS2.dr).mono ?_;rintro e w' ⟨rfl,hw⟩;rw[hw];clear hw;have hE:=Blk.new w2 #[.string ⟨#[59]⟩] 9;rcases hf with hf|⟨hf,hf2⟩
 all_goals
  go_wp2_with fail
  refine ((readP g).2 _ _ yb rs defs _ ws (k+1) 0 _ [⟨#[59]⟩] res (by rw[tx_semi];exact HR.out) (hS2.kp ((Kp.refl _ _).alloc _)) (by omega) hE (by decide)).mono ?_;rintro x w3 ⟨hk3,hp⟩;have hkp3:=(hkp.alloc (.cells #[.string ⟨#[59]⟩] 9)).newer hk3 (Nat.le_refl _);rcases res with er|⟨b,t',r1⟩
  ·obtain⟨her,k2,rfl,hkk,hS3⟩:=hp;have d2:w3.cell? ⟨w.heap.size,2,none⟩=some (.int .i64 k2):=hS3.blk.cell rfl;have d3:w3.cell? ⟨w.heap.size,3,none⟩=some (.int .i64 er):=hS3.blk.cell rfl;clear hS3 hk3;go_wp2
   go_quiet (fail)
   go_wp2;refine bodyPost_ret (results_tmp4 rfl _ _ _) rfl ?_;exact⟨hkp3.drewN _,her,_,_,_,rfl⟩
  ·obtain⟨v,tb,k2,rfl,-,hbo,rfl,hkk,hS3⟩:=hp;have d2:w3.cell? ⟨w.heap.size,2,none⟩=some (.int .i64 k2):=hS3.blk.cell rfl;have d3:w3.cell? ⟨w.heap.size,3,none⟩=some (.int .i64 0):=hS3.blk.cell rfl;have hkl3:=hS3.kle;clear hS3 hk3;go_wp2
   go_quiet (fail)
   go_wp2;refine bodyPost_ret (results_tmp4 rfl _ _ _) rfl ?_;exact⟨hkp3.drewN _,_,_,k2,rfl,rfl,hbo.keep (fun b t c hnew h _=>⟨h,fun hK=>by have h1:=HOLD.out b hK;have h2:=hkp.size;have h3:(w2.alloc (.cells #[.string ⟨#[59]⟩] 9)).heap.size<=b:=hnew;simp at h3;omega⟩),rfl,by omega,hkl3⟩
theorem defineS (w:World) (yb:Nat) (rs:RS) (defs:List Def) (lv:Value) (ws:List ByteArray) (k:Nat) (hk:k<=ws.length) (hy:Blk w yb 67 rs.arr) (hd:DRel K w rs.d.dv defs) (hr:w.ownsRow 0 9 1 lv ws.length (ws.map Value.string)) (hl:ws.length<=1000)
  (g:Nat) (res:DRes) (hres:pDefD g defs ((texts ws).drop k)=some res):
  Calls Tryz.prog 84 #[.pointer (some ⟨yb,0,none⟩),lv,.int .i64 k] w fun x w'=>Kp w w' (fun _=>False)/\PDe K ws k x w' res:=by
 by_cases hlt:k < ws.length
 ·rw[texts_drop ws k hlt] at hres;unfold pDefD at hres;dsimp only at hres
  cases hnm:isName ws[k].data.toList with
  | false=>
   rw[if_pos hnm] at hres;injection hres with hres;subst hres;exact defineS_name w yb rs defs lv ws k hlt hy hd hr hl hnm
  | true=>
   rw[if_neg (by rw[hnm];decide)] at hres;by_cases hf:findI defs ws[k].data.toList < 0
   ·by_cases h30:30<=defs.length
    ·rw[if_pos ⟨knownD_neg hf,h30⟩] at hres;injection hres with hres;subst hres;exact defineS_full w yb rs defs lv ws k hlt hy hd hr hl hnm hf h30
    ·rw[if_neg (fun e=>h30 e.2)] at hres
     split at hres
     ·cases hres
     ·rename_i e he;injection hres with hres;subst hres
      exact defineS_body w yb rs defs lv ws k hlt hy hd hr hl hnm (.inr ⟨hf,by omega⟩) g (.error e) he
     ·rename_i b t' r1 he;injection hres with hres;subst hres
      exact defineS_body w yb rs defs lv ws k hlt hy hd hr hl hnm (.inr ⟨hf,by omega⟩) g (.ok (b,t',r1)) he
   ·rw[if_neg (fun e=>by rw[knownD_pos hf] at e;exact absurd e.1 (by decide))] at hres
    split at hres
    ·cases hres
    ·rename_i e he;injection hres with hres;subst hres
     exact defineS_body w yb rs defs lv ws k hlt hy hd hr hl hnm (.inl hf) g (.error e) he
    ·rename_i b t' r1 he;injection hres with hres;subst hres
     exact defineS_body w yb rs defs lv ws k hlt hy hd hr hl hnm (.inl hf) g (.ok (b,t',r1)) he
 ·have:k=ws.length:=by omega
  subst this;rw[texts_end] at hres;injection hres with hres;subst hres;exact defineS_end w yb rs defs lv ws hy hd hr hl
end
end Go.Proofs.YteainaiebcphlaaGreatDoor
