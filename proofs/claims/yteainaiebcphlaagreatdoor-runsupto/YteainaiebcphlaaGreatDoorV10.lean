import Derived.Test.YteainaiebcphlaaGreatDoorV9
namespace Go.Proofs.YteainaiebcphlaaGreatDoor
set_option maxRecDepth 1000000
set_option maxHeartbeats 4000000
set_option linter.all false
section
open Go.RowKit
variable {K:Nat->Prop}
theorem in0:In 0:=⟨by decide,by decide⟩
theorem ItAt.leaf {w w':World} (kind:Nat) (n:Int) (nm:ByteArray) (hn:In n):ItAt (BodyS (New w) w') (toksIn (New w) w') ⟨kind,n,nm.data.toList,[],[],[]⟩ nm (.slice none 0 0) (.slice none 0 0) (.slice none 0 0):=
 ⟨rfl,BodyS.nil _ _,BodyS.nil _ _,toksIn.nil _ _,⟨hn,by simp⟩⟩
theorem itP_num (w:World) (sb yb:Nat) (rs:RS) (defs:List Def) (lv:Value) (ws:List ByteArray) (k lo:Nat) (tb:ByteArray) (n:Int) (hnum:numP tb.toList=some n) (h:ScInv K w sb yb rs defs lv ws k 0 lo):
  Calls Tryz.prog 170 #[.pointer (some ⟨sb,0,none⟩),.string tb] w fun x w'=>Kp w w' (fun b=>b=sb)/\PIt K w sb yb rs defs lv ws k lo x w' (.ok ([⟨110,n,[],[],[],[]⟩],[],(texts ws).drop k)):=by
 have hsb:=h.blk.lt;have hln:=h.len;have hkl:=h.kle;go_enter Tryz.func170,Tryz.ntmps170
 go_wp2_with fail
 refine (numberR _ _).mono ?_;rintro e w' ⟨rfl,hw⟩;rw[hw,numV_some hnum];clear hw
 go_wp2_with fail
 refine (isPlainR _ _).mono ?_;rintro e w1 ⟨rfl,hk1⟩
 go_wp2_with fail
 refine (isKeptR _ _).mono ?_;rintro e w2 ⟨rfl,hk2⟩;have hkp:Kp w w2 (fun b=>b=sb):=(((Kp.refl _ _).alloc _).trans (hk1.mono (fun _ _ h=>h.elim))).trans (hk2.mono (fun _ _ h=>h.elim));have hC:Blk w2 w.heap.size 227 zItem:=hk2.blk (hk1.blk (Blk.new w _ _) (by simp)) (by simp);have hS:ScInv K w2 sb yb rs defs lv ws k 0 lo:=h.to hkp (hk2.blk (hk1.blk (h.blk.alloc _) (by simp)) (by simp)) h.kle;have hcs:¬ w.heap.size=sb:=by omega
 clear hk1 hk2;obtain⟨y0,y1,y2,y3,y4,y5⟩:=hC.six;obtain⟨z0,z1,z2,z3,z4,z5⟩:=hC.sixF;go_wp2;have hC2:=hC.set6 (.int .u8 110) (.int .i64 n) (.string ⟨#[]⟩) (.slice none 0 0) (.slice none 0 0) (.slice none 0 0);have hk2:=hkp.set6 (Nat.le_refl _) (.int .u8 110) (.int .i64 n) (.string ⟨#[]⟩) (.slice none 0 0) (.slice none 0 0) (.slice none 0 0);have hB2:=hS.blk.other6 (Ne.symm hcs) (.int .u8 110) (.int .i64 n) (.string ⟨#[]⟩) (.slice none 0 0) (.slice none 0 0) (.slice none 0 0);generalize ((((((w2.setCell ⟨w.heap.size,0,none⟩ (.int .u8 110)).setCell ⟨w.heap.size,1,none⟩ (.int .i64 n)).setCell ⟨w.heap.size,2,none⟩ (.string ⟨#[]⟩)).setCell ⟨w.heap.size,3,none⟩ (.slice none 0 0)).setCell ⟨w.heap.size,4,none⟩ (.slice none 0 0)).setCell ⟨w.heap.size,5,none⟩ (.slice none 0 0))=wf at hC2 hk2 hB2 ⊢;obtain⟨q0,q1,q2,q3,q4,q5⟩:=hC2.six;refine bodyPost_ret (v:=.agg #[.int .u8 110,.int .i64 n,.string ⟨#[]⟩,.slice none 0 0,.slice none 0 0,.slice none 0 0]) (by simp[results,Tryz.results170,go_sem,q0,q1,q2,q3,q4,q5]) rfl ?_;exact⟨hk2,_,_,_,_,_,k,rfl,rfl,ItAt.leaf 110 n ⟨#[]⟩ (numP_range hnum),rfl,Nat.le_refl _,h.to hk2 hB2 h.kle⟩
theorem itP_plain (w:World) (sb yb:Nat) (rs:RS) (defs:List Def) (lv:Value) (ws:List ByteArray) (k lo:Nat) (tb:ByteArray) (hnum:numP tb.toList=none) (hpl:plainL.any (· == tb.toList)=true) (h:ScInv K w sb yb rs defs lv ws k 0 lo):
  Calls Tryz.prog 170 #[.pointer (some ⟨sb,0,none⟩),.string tb] w fun x w'=>Kp w w' (fun b=>b=sb)/\PIt K w sb yb rs defs lv ws k lo x w' (.ok ([⟨112,0,tb.data.toList,[],[],[]⟩],[],(texts ws).drop k)):=by
 have hsb:=h.blk.lt;have hln:=h.len;have hkl:=h.kle;go_enter Tryz.func170,Tryz.ntmps170
 go_wp2_with fail
 refine (numberR _ _).mono ?_;rintro e w' ⟨rfl,hw⟩;rw[hw,numV_none hnum];clear hw
 go_wp2_with fail
 refine (isPlainR _ _).mono ?_;rintro e w1 ⟨rfl,hk1⟩
 go_wp2_with fail
 refine (isKeptR _ _).mono ?_;rintro e w2 ⟨rfl,hk2⟩;have hkp:Kp w w2 (fun b=>b=sb):=(((Kp.refl _ _).alloc _).trans (hk1.mono (fun _ _ h=>h.elim))).trans (hk2.mono (fun _ _ h=>h.elim));have hC:Blk w2 w.heap.size 227 zItem:=hk2.blk (hk1.blk (Blk.new w _ _) (by simp)) (by simp);have hS:ScInv K w2 sb yb rs defs lv ws k 0 lo:=h.to hkp (hk2.blk (hk1.blk (h.blk.alloc _) (by simp)) (by simp)) h.kle;have hcs:¬ w.heap.size=sb:=by omega
 clear hk1 hk2;obtain⟨y0,y1,y2,y3,y4,y5⟩:=hC.six;obtain⟨z0,z1,z2,z3,z4,z5⟩:=hC.sixF;go_wp2;have hC2:=hC.set6 (.int .u8 112) (.int .i64 0) (.string tb) (.slice none 0 0) (.slice none 0 0) (.slice none 0 0);have hk2:=hkp.set6 (Nat.le_refl _) (.int .u8 112) (.int .i64 0) (.string tb) (.slice none 0 0) (.slice none 0 0) (.slice none 0 0);have hB2:=hS.blk.other6 (Ne.symm hcs) (.int .u8 112) (.int .i64 0) (.string tb) (.slice none 0 0) (.slice none 0 0) (.slice none 0 0);generalize ((((((w2.setCell ⟨w.heap.size,0,none⟩ (.int .u8 112)).setCell ⟨w.heap.size,1,none⟩ (.int .i64 0)).setCell ⟨w.heap.size,2,none⟩ (.string tb)).setCell ⟨w.heap.size,3,none⟩ (.slice none 0 0)).setCell ⟨w.heap.size,4,none⟩ (.slice none 0 0)).setCell ⟨w.heap.size,5,none⟩ (.slice none 0 0))=wf at hC2 hk2 hB2 ⊢;obtain⟨q0,q1,q2,q3,q4,q5⟩:=hC2.six;refine bodyPost_ret (v:=.agg #[.int .u8 112,.int .i64 0,.string tb,.slice none 0 0,.slice none 0 0,.slice none 0 0]) (by simp[results,Tryz.results170,go_sem,q0,q1,q2,q3,q4,q5]) rfl ?_;exact⟨hk2,_,_,_,_,_,k,rfl,rfl,ItAt.leaf 112 0 tb in0,rfl,Nat.le_refl _,h.to hk2 hB2 h.kle⟩
theorem itP_i (w:World) (sb yb:Nat) (rs:RS) (defs:List Def) (lv:Value) (ws:List ByteArray) (k lo:Nat) (tb:ByteArray) (hnum:numP tb.toList=none) (hpl:plainL.any (· == tb.toList)=false) (b0:(tb.toList == [105,102])=false) (b1:(tb.toList == [98,101,103,105,110])=false) (b2:(tb.toList == [100,111])=false) (b3:(tb.toList == [105])=true) (hlo0:0 < lo) (h:ScInv K w sb yb rs defs lv ws k 0 lo):
  Calls Tryz.prog 170 #[.pointer (some ⟨sb,0,none⟩),.string tb] w fun x w'=>Kp w w' (fun b=>b=sb)/\PIt K w sb yb rs defs lv ws k lo x w' (.ok ([⟨105,0,[],[],[],[]⟩],[],(texts ws).drop k)):=by
 have hsb:=h.blk.lt;have hln:=h.len;have hkl:=h.kle;go_enter Tryz.func170,Tryz.ntmps170
 go_wp2_with fail
 refine (numberR _ _).mono ?_;rintro e w' ⟨rfl,hw⟩;rw[hw,numV_none hnum];clear hw
 go_wp2_with fail
 refine (isPlainR _ _).mono ?_;rintro e w1 ⟨rfl,hk1⟩
 go_wp2_with fail
 refine (isKeptR _ _).mono ?_;rintro e w2 ⟨rfl,hk2⟩;have hkp:Kp w w2 (fun b=>b=sb):=(((Kp.refl _ _).alloc _).trans (hk1.mono (fun _ _ h=>h.elim))).trans (hk2.mono (fun _ _ h=>h.elim));have hC:Blk w2 w.heap.size 227 zItem:=hk2.blk (hk1.blk (Blk.new w _ _) (by simp)) (by simp);have hS:ScInv K w2 sb yb rs defs lv ws k 0 lo:=h.to hkp (hk2.blk (hk1.blk (h.blk.alloc _) (by simp)) (by simp)) h.kle;have hcs:¬ w.heap.size=sb:=by omega
 clear hk1 hk2;have c4:w2.cell? ⟨sb,4,none⟩=some (.int .i64 lo):=hS.blk.cell rfl;obtain⟨y0,y1,y2,y3,y4,y5⟩:=hC.six;obtain⟨z0,z1,z2,z3,z4,z5⟩:=hC.sixF;go_wp2;have hC2:=hC.set6 (.int .u8 105) (.int .i64 0) (.string ⟨#[]⟩) (.slice none 0 0) (.slice none 0 0) (.slice none 0 0);have hk2:=hkp.set6 (Nat.le_refl _) (.int .u8 105) (.int .i64 0) (.string ⟨#[]⟩) (.slice none 0 0) (.slice none 0 0) (.slice none 0 0);have hB2:=hS.blk.other6 (Ne.symm hcs) (.int .u8 105) (.int .i64 0) (.string ⟨#[]⟩) (.slice none 0 0) (.slice none 0 0) (.slice none 0 0);generalize ((((((w2.setCell ⟨w.heap.size,0,none⟩ (.int .u8 105)).setCell ⟨w.heap.size,1,none⟩ (.int .i64 0)).setCell ⟨w.heap.size,2,none⟩ (.string ⟨#[]⟩)).setCell ⟨w.heap.size,3,none⟩ (.slice none 0 0)).setCell ⟨w.heap.size,4,none⟩ (.slice none 0 0)).setCell ⟨w.heap.size,5,none⟩ (.slice none 0 0))=wf at hC2 hk2 hB2 ⊢;obtain⟨q0,q1,q2,q3,q4,q5⟩:=hC2.six;refine bodyPost_ret (v:=.agg #[.int .u8 105,.int .i64 0,.string ⟨#[]⟩,.slice none 0 0,.slice none 0 0,.slice none 0 0]) (by simp[results,Tryz.results170,go_sem,q0,q1,q2,q3,q4,q5]) rfl ?_;exact⟨hk2,_,_,_,_,_,k,rfl,rfl,ItAt.leaf 105 0 ⟨#[]⟩ in0,rfl,Nat.le_refl _,h.to hk2 hB2 h.kle⟩
theorem itP_rec (w:World) (sb yb:Nat) (rs:RS) (defs:List Def) (lv:Value) (ws:List ByteArray) (k lo:Nat) (tb:ByteArray) (hnum:numP tb.toList=none) (hpl:plainL.any (· == tb.toList)=false) (b0:(tb.toList == [105,102])=false) (b1:(tb.toList == [98,101,103,105,110])=false) (b2:(tb.toList == [100,111])=false) (b3:(tb.toList == [105])=false) (b4:(tb.toList == [114,101,99,117,114,115,101])=true) (h:ScInv K w sb yb rs defs lv ws k 0 lo):
  Calls Tryz.prog 170 #[.pointer (some ⟨sb,0,none⟩),.string tb] w fun x w'=>Kp w w' (fun b=>b=sb)/\PIt K w sb yb rs defs lv ws k lo x w' (.ok ([⟨114,0,[],[],[],[]⟩],[],(texts ws).drop k)):=by
 have hsb:=h.blk.lt;have hln:=h.len;have hkl:=h.kle;go_enter Tryz.func170,Tryz.ntmps170
 go_wp2_with fail
 refine (numberR _ _).mono ?_;rintro e w' ⟨rfl,hw⟩;rw[hw,numV_none hnum];clear hw
 go_wp2_with fail
 refine (isPlainR _ _).mono ?_;rintro e w1 ⟨rfl,hk1⟩
 go_wp2_with fail
 refine (isKeptR _ _).mono ?_;rintro e w2 ⟨rfl,hk2⟩;have hkp:Kp w w2 (fun b=>b=sb):=(((Kp.refl _ _).alloc _).trans (hk1.mono (fun _ _ h=>h.elim))).trans (hk2.mono (fun _ _ h=>h.elim));have hC:Blk w2 w.heap.size 227 zItem:=hk2.blk (hk1.blk (Blk.new w _ _) (by simp)) (by simp);have hS:ScInv K w2 sb yb rs defs lv ws k 0 lo:=h.to hkp (hk2.blk (hk1.blk (h.blk.alloc _) (by simp)) (by simp)) h.kle;have hcs:¬ w.heap.size=sb:=by omega
 clear hk1 hk2;have c4:w2.cell? ⟨sb,4,none⟩=some (.int .i64 lo):=hS.blk.cell rfl;obtain⟨y0,y1,y2,y3,y4,y5⟩:=hC.six;obtain⟨z0,z1,z2,z3,z4,z5⟩:=hC.sixF;go_wp2;have hC2:=hC.set6 (.int .u8 114) (.int .i64 0) (.string ⟨#[]⟩) (.slice none 0 0) (.slice none 0 0) (.slice none 0 0);have hk2:=hkp.set6 (Nat.le_refl _) (.int .u8 114) (.int .i64 0) (.string ⟨#[]⟩) (.slice none 0 0) (.slice none 0 0) (.slice none 0 0);have hB2:=hS.blk.other6 (Ne.symm hcs) (.int .u8 114) (.int .i64 0) (.string ⟨#[]⟩) (.slice none 0 0) (.slice none 0 0) (.slice none 0 0);generalize ((((((w2.setCell ⟨w.heap.size,0,none⟩ (.int .u8 114)).setCell ⟨w.heap.size,1,none⟩ (.int .i64 0)).setCell ⟨w.heap.size,2,none⟩ (.string ⟨#[]⟩)).setCell ⟨w.heap.size,3,none⟩ (.slice none 0 0)).setCell ⟨w.heap.size,4,none⟩ (.slice none 0 0)).setCell ⟨w.heap.size,5,none⟩ (.slice none 0 0))=wf at hC2 hk2 hB2 ⊢;obtain⟨q0,q1,q2,q3,q4,q5⟩:=hC2.six;refine bodyPost_ret (v:=.agg #[.int .u8 114,.int .i64 0,.string ⟨#[]⟩,.slice none 0 0,.slice none 0 0,.slice none 0 0]) (by simp[results,Tryz.results170,go_sem,q0,q1,q2,q3,q4,q5]) rfl ?_;exact⟨hk2,_,_,_,_,_,k,rfl,rfl,ItAt.leaf 114 0 ⟨#[]⟩ in0,rfl,Nat.le_refl _,h.to hk2 hB2 h.kle⟩
theorem itP_exit (w:World) (sb yb:Nat) (rs:RS) (defs:List Def) (lv:Value) (ws:List ByteArray) (k lo:Nat) (tb:ByteArray) (hnum:numP tb.toList=none) (hpl:plainL.any (· == tb.toList)=false) (b0:(tb.toList == [105,102])=false) (b1:(tb.toList == [98,101,103,105,110])=false) (b2:(tb.toList == [100,111])=false) (b3:(tb.toList == [105])=false) (b4:(tb.toList == [114,101,99,117,114,115,101])=false) (b5:(tb.toList == [101,120,105,116])=true) (h:ScInv K w sb yb rs defs lv ws k 0 lo):
  Calls Tryz.prog 170 #[.pointer (some ⟨sb,0,none⟩),.string tb] w fun x w'=>Kp w w' (fun b=>b=sb)/\PIt K w sb yb rs defs lv ws k lo x w' (.ok ([⟨120,0,[],[],[],[]⟩],[],(texts ws).drop k)):=by
 have hsb:=h.blk.lt;have hln:=h.len;have hkl:=h.kle;go_enter Tryz.func170,Tryz.ntmps170
 go_wp2_with fail
 refine (numberR _ _).mono ?_;rintro e w' ⟨rfl,hw⟩;rw[hw,numV_none hnum];clear hw
 go_wp2_with fail
 refine (isPlainR _ _).mono ?_;rintro e w1 ⟨rfl,hk1⟩
 go_wp2_with fail
 refine (isKeptR _ _).mono ?_;rintro e w2 ⟨rfl,hk2⟩;have hkp:Kp w w2 (fun b=>b=sb):=(((Kp.refl _ _).alloc _).trans (hk1.mono (fun _ _ h=>h.elim))).trans (hk2.mono (fun _ _ h=>h.elim));have hC:Blk w2 w.heap.size 227 zItem:=hk2.blk (hk1.blk (Blk.new w _ _) (by simp)) (by simp);have hS:ScInv K w2 sb yb rs defs lv ws k 0 lo:=h.to hkp (hk2.blk (hk1.blk (h.blk.alloc _) (by simp)) (by simp)) h.kle;have hcs:¬ w.heap.size=sb:=by omega
 clear hk1 hk2;have c4:w2.cell? ⟨sb,4,none⟩=some (.int .i64 lo):=hS.blk.cell rfl;obtain⟨y0,y1,y2,y3,y4,y5⟩:=hC.six;obtain⟨z0,z1,z2,z3,z4,z5⟩:=hC.sixF;go_wp2;have hC2:=hC.set6 (.int .u8 120) (.int .i64 0) (.string ⟨#[]⟩) (.slice none 0 0) (.slice none 0 0) (.slice none 0 0);have hk2:=hkp.set6 (Nat.le_refl _) (.int .u8 120) (.int .i64 0) (.string ⟨#[]⟩) (.slice none 0 0) (.slice none 0 0) (.slice none 0 0);have hB2:=hS.blk.other6 (Ne.symm hcs) (.int .u8 120) (.int .i64 0) (.string ⟨#[]⟩) (.slice none 0 0) (.slice none 0 0) (.slice none 0 0);generalize ((((((w2.setCell ⟨w.heap.size,0,none⟩ (.int .u8 120)).setCell ⟨w.heap.size,1,none⟩ (.int .i64 0)).setCell ⟨w.heap.size,2,none⟩ (.string ⟨#[]⟩)).setCell ⟨w.heap.size,3,none⟩ (.slice none 0 0)).setCell ⟨w.heap.size,4,none⟩ (.slice none 0 0)).setCell ⟨w.heap.size,5,none⟩ (.slice none 0 0))=wf at hC2 hk2 hB2 ⊢;obtain⟨q0,q1,q2,q3,q4,q5⟩:=hC2.six;refine bodyPost_ret (v:=.agg #[.int .u8 120,.int .i64 0,.string ⟨#[]⟩,.slice none 0 0,.slice none 0 0,.slice none 0 0]) (by simp[results,Tryz.results170,go_sem,q0,q1,q2,q3,q4,q5]) rfl ?_;exact⟨hk2,_,_,_,_,_,k,rfl,rfl,ItAt.leaf 120 0 ⟨#[]⟩ in0,rfl,Nat.le_refl _,h.to hk2 hB2 h.kle⟩
theorem itP_i0 (w:World) (sb yb:Nat) (rs:RS) (defs:List Def) (lv:Value) (ws:List ByteArray) (k lo:Nat) (tb:ByteArray) (hnum:numP tb.toList=none) (hpl:plainL.any (· == tb.toList)=false) (b0:(tb.toList == [105,102])=false) (b1:(tb.toList == [98,101,103,105,110])=false) (b2:(tb.toList == [100,111])=false) (b3:(tb.toList == [105])=true) (hlo0:lo=0) (hkept:keptL.any (· == tb.toList)=true) (b4:(tb.toList == [114,101,99,117,114,115,101])=false)  (b5:(tb.toList == [101,120,105,116])=false)  (b6:(tb.toList == [123])=false) (h:ScInv K w sb yb rs defs lv ws k 0 lo):
  Calls Tryz.prog 170 #[.pointer (some ⟨sb,0,none⟩),.string tb] w fun x w'=>Kp w w' (fun b=>b=sb)/\PIt K w sb yb rs defs lv ws k lo x w' (.error 4):=by
 have hsb:=h.blk.lt;have hln:=h.len;have hkl:=h.kle;go_enter Tryz.func170,Tryz.ntmps170
 go_wp2_with fail
 refine (numberR _ _).mono ?_;rintro e w' ⟨rfl,hw⟩;rw[hw,numV_none hnum];clear hw
 go_wp2_with fail
 refine (isPlainR _ _).mono ?_;rintro e w1 ⟨rfl,hk1⟩
 go_wp2_with fail
 refine (isKeptR _ _).mono ?_;rintro e w2 ⟨rfl,hk2⟩;have hkp:Kp w w2 (fun b=>b=sb):=(((Kp.refl _ _).alloc _).trans (hk1.mono (fun _ _ h=>h.elim))).trans (hk2.mono (fun _ _ h=>h.elim));have hC:Blk w2 w.heap.size 227 zItem:=hk2.blk (hk1.blk (Blk.new w _ _) (by simp)) (by simp);have hS:ScInv K w2 sb yb rs defs lv ws k 0 lo:=h.to hkp (hk2.blk (hk1.blk (h.blk.alloc _) (by simp)) (by simp)) h.kle;have hcs:¬ w.heap.size=sb:=by omega
 clear hk1 hk2;have c4:w2.cell? ⟨sb,4,none⟩=some (.int .i64 0):=by have:=hS.blk.cell (o:=4) (v:=.int .i64 lo) rfl;rw[hlo0] at this;exact this
 clear hlo0
 go_wp2_with fail
 refine (failS _ sb yb lv k lo 4 hS.blk).mono ?_;rintro e w3 ⟨rfl,hB3,hk3⟩
 replace hC:=hk3.blk hC hcs
 replace hkp:=hkp.trans hk3
 replace hS:=h.to hkp hB3 h.kle
 clear hB3 hk3;obtain⟨y0,y1,y2,y3,y4,y5⟩:=hC.six;obtain⟨z0,z1,z2,z3,z4,z5⟩:=hC.sixF;go_wp2;have hC2:=hC.set6 (.int .u8 99) (.int .i64 0) (.string tb) (.slice none 0 0) (.slice none 0 0) (.slice none 0 0);have hk2:=hkp.set6 (Nat.le_refl _) (.int .u8 99) (.int .i64 0) (.string tb) (.slice none 0 0) (.slice none 0 0) (.slice none 0 0);have hB2:=hS.blk.other6 (Ne.symm hcs) (.int .u8 99) (.int .i64 0) (.string tb) (.slice none 0 0) (.slice none 0 0) (.slice none 0 0);generalize ((((((w3.setCell ⟨w.heap.size,0,none⟩ (.int .u8 99)).setCell ⟨w.heap.size,1,none⟩ (.int .i64 0)).setCell ⟨w.heap.size,2,none⟩ (.string tb)).setCell ⟨w.heap.size,3,none⟩ (.slice none 0 0)).setCell ⟨w.heap.size,4,none⟩ (.slice none 0 0)).setCell ⟨w.heap.size,5,none⟩ (.slice none 0 0))=wf at hC2 hk2 hB2 ⊢;obtain⟨q0,q1,q2,q3,q4,q5⟩:=hC2.six;refine bodyPost_ret (v:=.agg #[.int .u8 99,.int .i64 0,.string tb,.slice none 0 0,.slice none 0 0,.slice none 0 0]) (by simp[results,Tryz.results170,go_sem,q0,q1,q2,q3,q4,q5]) rfl ?_;exact⟨hk2,by decide,_,_,_,_,_,_,_,_,_,_,_,_,k,rfl,Nat.le_refl _,h.to hk2 hB2 h.kle⟩
theorem itP_kept (w:World) (sb yb:Nat) (rs:RS) (defs:List Def) (lv:Value) (ws:List ByteArray) (k lo:Nat) (tb:ByteArray) (hnum:numP tb.toList=none) (hpl:plainL.any (· == tb.toList)=false) (b0:(tb.toList == [105,102])=false) (b1:(tb.toList == [98,101,103,105,110])=false) (b2:(tb.toList == [100,111])=false) (b3:(tb.toList == [105])=false) (b4:(tb.toList == [114,101,99,117,114,115,101])=false) (b5:(tb.toList == [101,120,105,116])=false) (b6:(tb.toList == [123])=false) (hkept:keptL.any (· == tb.toList)=true) (h:ScInv K w sb yb rs defs lv ws k 0 lo):
  Calls Tryz.prog 170 #[.pointer (some ⟨sb,0,none⟩),.string tb] w fun x w'=>Kp w w' (fun b=>b=sb)/\PIt K w sb yb rs defs lv ws k lo x w' (.error 4):=by
 have hsb:=h.blk.lt;have hln:=h.len;have hkl:=h.kle;go_enter Tryz.func170,Tryz.ntmps170
 go_wp2_with fail
 refine (numberR _ _).mono ?_;rintro e w' ⟨rfl,hw⟩;rw[hw,numV_none hnum];clear hw
 go_wp2_with fail
 refine (isPlainR _ _).mono ?_;rintro e w1 ⟨rfl,hk1⟩
 go_wp2_with fail
 refine (isKeptR _ _).mono ?_;rintro e w2 ⟨rfl,hk2⟩;have hkp:Kp w w2 (fun b=>b=sb):=(((Kp.refl _ _).alloc _).trans (hk1.mono (fun _ _ h=>h.elim))).trans (hk2.mono (fun _ _ h=>h.elim));have hC:Blk w2 w.heap.size 227 zItem:=hk2.blk (hk1.blk (Blk.new w _ _) (by simp)) (by simp);have hS:ScInv K w2 sb yb rs defs lv ws k 0 lo:=h.to hkp (hk2.blk (hk1.blk (h.blk.alloc _) (by simp)) (by simp)) h.kle;have hcs:¬ w.heap.size=sb:=by omega
 clear hk1 hk2;have c4:w2.cell? ⟨sb,4,none⟩=some (.int .i64 lo):=hS.blk.cell rfl
 go_wp2_with fail
 refine (failS _ sb yb lv k lo 4 hS.blk).mono ?_;rintro e w3 ⟨rfl,hB3,hk3⟩
 replace hC:=hk3.blk hC hcs
 replace hkp:=hkp.trans hk3
 replace hS:=h.to hkp hB3 h.kle
 clear hB3 hk3;obtain⟨y0,y1,y2,y3,y4,y5⟩:=hC.six;obtain⟨z0,z1,z2,z3,z4,z5⟩:=hC.sixF;go_wp2;have hC2:=hC.set6 (.int .u8 99) (.int .i64 0) (.string tb) (.slice none 0 0) (.slice none 0 0) (.slice none 0 0);have hk2:=hkp.set6 (Nat.le_refl _) (.int .u8 99) (.int .i64 0) (.string tb) (.slice none 0 0) (.slice none 0 0) (.slice none 0 0);have hB2:=hS.blk.other6 (Ne.symm hcs) (.int .u8 99) (.int .i64 0) (.string tb) (.slice none 0 0) (.slice none 0 0) (.slice none 0 0);generalize ((((((w3.setCell ⟨w.heap.size,0,none⟩ (.int .u8 99)).setCell ⟨w.heap.size,1,none⟩ (.int .i64 0)).setCell ⟨w.heap.size,2,none⟩ (.string tb)).setCell ⟨w.heap.size,3,none⟩ (.slice none 0 0)).setCell ⟨w.heap.size,4,none⟩ (.slice none 0 0)).setCell ⟨w.heap.size,5,none⟩ (.slice none 0 0))=wf at hC2 hk2 hB2 ⊢;obtain⟨q0,q1,q2,q3,q4,q5⟩:=hC2.six;refine bodyPost_ret (v:=.agg #[.int .u8 99,.int .i64 0,.string tb,.slice none 0 0,.slice none 0 0,.slice none 0 0]) (by simp[results,Tryz.results170,go_sem,q0,q1,q2,q3,q4,q5]) rfl ?_;exact⟨hk2,by decide,_,_,_,_,_,_,_,_,_,_,_,_,k,rfl,Nat.le_refl _,h.to hk2 hB2 h.kle⟩
theorem itP_colon (w:World) (sb yb:Nat) (rs:RS) (defs:List Def) (lv:Value) (ws:List ByteArray) (k lo:Nat) (tb:ByteArray) (hnum:numP tb.toList=none) (hpl:plainL.any (· == tb.toList)=false) (b0:(tb.toList == [105,102])=false) (b1:(tb.toList == [98,101,103,105,110])=false) (b2:(tb.toList == [100,111])=false) (b3:(tb.toList == [105])=false) (b4:(tb.toList == [114,101,99,117,114,115,101])=false) (b5:(tb.toList == [101,120,105,116])=false) (b6:(tb.toList == [123])=false) (hkept:keptL.any (· == tb.toList)=false) (d1:(tb.toList == [58])=true) (h:ScInv K w sb yb rs defs lv ws k 0 lo):
  Calls Tryz.prog 170 #[.pointer (some ⟨sb,0,none⟩),.string tb] w fun x w'=>Kp w w' (fun b=>b=sb)/\PIt K w sb yb rs defs lv ws k lo x w' (.error 4):=by
 have hsb:=h.blk.lt;have hln:=h.len;have hkl:=h.kle;go_enter Tryz.func170,Tryz.ntmps170
 go_wp2_with fail
 refine (numberR _ _).mono ?_;rintro e w' ⟨rfl,hw⟩;rw[hw,numV_none hnum];clear hw
 go_wp2_with fail
 refine (isPlainR _ _).mono ?_;rintro e w1 ⟨rfl,hk1⟩
 go_wp2_with fail
 refine (isKeptR _ _).mono ?_;rintro e w2 ⟨rfl,hk2⟩;have hkp:Kp w w2 (fun b=>b=sb):=(((Kp.refl _ _).alloc _).trans (hk1.mono (fun _ _ h=>h.elim))).trans (hk2.mono (fun _ _ h=>h.elim));have hC:Blk w2 w.heap.size 227 zItem:=hk2.blk (hk1.blk (Blk.new w _ _) (by simp)) (by simp);have hS:ScInv K w2 sb yb rs defs lv ws k 0 lo:=h.to hkp (hk2.blk (hk1.blk (h.blk.alloc _) (by simp)) (by simp)) h.kle;have hcs:¬ w.heap.size=sb:=by omega
 clear hk1 hk2;have c4:w2.cell? ⟨sb,4,none⟩=some (.int .i64 lo):=hS.blk.cell rfl
 go_wp2_with fail
 refine (failS _ sb yb lv k lo 4 hS.blk).mono ?_;rintro e w3 ⟨rfl,hB3,hk3⟩
 replace hC:=hk3.blk hC hcs
 replace hkp:=hkp.trans hk3
 replace hS:=h.to hkp hB3 h.kle
 clear hB3 hk3;obtain⟨y0,y1,y2,y3,y4,y5⟩:=hC.six;obtain⟨z0,z1,z2,z3,z4,z5⟩:=hC.sixF;go_wp2;have hC2:=hC.set6 (.int .u8 99) (.int .i64 0) (.string tb) (.slice none 0 0) (.slice none 0 0) (.slice none 0 0);have hk2:=hkp.set6 (Nat.le_refl _) (.int .u8 99) (.int .i64 0) (.string tb) (.slice none 0 0) (.slice none 0 0) (.slice none 0 0);have hB2:=hS.blk.other6 (Ne.symm hcs) (.int .u8 99) (.int .i64 0) (.string tb) (.slice none 0 0) (.slice none 0 0) (.slice none 0 0);generalize ((((((w3.setCell ⟨w.heap.size,0,none⟩ (.int .u8 99)).setCell ⟨w.heap.size,1,none⟩ (.int .i64 0)).setCell ⟨w.heap.size,2,none⟩ (.string tb)).setCell ⟨w.heap.size,3,none⟩ (.slice none 0 0)).setCell ⟨w.heap.size,4,none⟩ (.slice none 0 0)).setCell ⟨w.heap.size,5,none⟩ (.slice none 0 0))=wf at hC2 hk2 hB2 ⊢;obtain⟨q0,q1,q2,q3,q4,q5⟩:=hC2.six;refine bodyPost_ret (v:=.agg #[.int .u8 99,.int .i64 0,.string tb,.slice none 0 0,.slice none 0 0,.slice none 0 0]) (by simp[results,Tryz.results170,go_sem,q0,q1,q2,q3,q4,q5]) rfl ?_;exact⟨hk2,by decide,_,_,_,_,_,_,_,_,_,_,_,_,k,rfl,Nat.le_refl _,h.to hk2 hB2 h.kle⟩
theorem itP_semi (w:World) (sb yb:Nat) (rs:RS) (defs:List Def) (lv:Value) (ws:List ByteArray) (k lo:Nat) (tb:ByteArray) (hnum:numP tb.toList=none) (hpl:plainL.any (· == tb.toList)=false) (b0:(tb.toList == [105,102])=false) (b1:(tb.toList == [98,101,103,105,110])=false) (b2:(tb.toList == [100,111])=false) (b3:(tb.toList == [105])=false) (b4:(tb.toList == [114,101,99,117,114,115,101])=false) (b5:(tb.toList == [101,120,105,116])=false) (b6:(tb.toList == [123])=false) (hkept:keptL.any (· == tb.toList)=false) (d1:(tb.toList == [58])=false) (d2:(tb.toList == [59])=true) (h:ScInv K w sb yb rs defs lv ws k 0 lo):
  Calls Tryz.prog 170 #[.pointer (some ⟨sb,0,none⟩),.string tb] w fun x w'=>Kp w w' (fun b=>b=sb)/\PIt K w sb yb rs defs lv ws k lo x w' (.error 4):=by
 have hsb:=h.blk.lt;have hln:=h.len;have hkl:=h.kle;go_enter Tryz.func170,Tryz.ntmps170
 go_wp2_with fail
 refine (numberR _ _).mono ?_;rintro e w' ⟨rfl,hw⟩;rw[hw,numV_none hnum];clear hw
 go_wp2_with fail
 refine (isPlainR _ _).mono ?_;rintro e w1 ⟨rfl,hk1⟩
 go_wp2_with fail
 refine (isKeptR _ _).mono ?_;rintro e w2 ⟨rfl,hk2⟩;have hkp:Kp w w2 (fun b=>b=sb):=(((Kp.refl _ _).alloc _).trans (hk1.mono (fun _ _ h=>h.elim))).trans (hk2.mono (fun _ _ h=>h.elim));have hC:Blk w2 w.heap.size 227 zItem:=hk2.blk (hk1.blk (Blk.new w _ _) (by simp)) (by simp);have hS:ScInv K w2 sb yb rs defs lv ws k 0 lo:=h.to hkp (hk2.blk (hk1.blk (h.blk.alloc _) (by simp)) (by simp)) h.kle;have hcs:¬ w.heap.size=sb:=by omega
 clear hk1 hk2;have c4:w2.cell? ⟨sb,4,none⟩=some (.int .i64 lo):=hS.blk.cell rfl
 go_wp2_with fail
 refine (failS _ sb yb lv k lo 4 hS.blk).mono ?_;rintro e w3 ⟨rfl,hB3,hk3⟩
 replace hC:=hk3.blk hC hcs
 replace hkp:=hkp.trans hk3
 replace hS:=h.to hkp hB3 h.kle
 clear hB3 hk3;obtain⟨y0,y1,y2,y3,y4,y5⟩:=hC.six;obtain⟨z0,z1,z2,z3,z4,z5⟩:=hC.sixF;go_wp2;have hC2:=hC.set6 (.int .u8 99) (.int .i64 0) (.string tb) (.slice none 0 0) (.slice none 0 0) (.slice none 0 0);have hk2:=hkp.set6 (Nat.le_refl _) (.int .u8 99) (.int .i64 0) (.string tb) (.slice none 0 0) (.slice none 0 0) (.slice none 0 0);have hB2:=hS.blk.other6 (Ne.symm hcs) (.int .u8 99) (.int .i64 0) (.string tb) (.slice none 0 0) (.slice none 0 0) (.slice none 0 0);generalize ((((((w3.setCell ⟨w.heap.size,0,none⟩ (.int .u8 99)).setCell ⟨w.heap.size,1,none⟩ (.int .i64 0)).setCell ⟨w.heap.size,2,none⟩ (.string tb)).setCell ⟨w.heap.size,3,none⟩ (.slice none 0 0)).setCell ⟨w.heap.size,4,none⟩ (.slice none 0 0)).setCell ⟨w.heap.size,5,none⟩ (.slice none 0 0))=wf at hC2 hk2 hB2 ⊢;obtain⟨q0,q1,q2,q3,q4,q5⟩:=hC2.six;refine bodyPost_ret (v:=.agg #[.int .u8 99,.int .i64 0,.string tb,.slice none 0 0,.slice none 0 0,.slice none 0 0]) (by simp[results,Tryz.results170,go_sem,q0,q1,q2,q3,q4,q5]) rfl ?_;exact⟨hk2,by decide,_,_,_,_,_,_,_,_,_,_,_,_,k,rfl,Nat.le_refl _,h.to hk2 hB2 h.kle⟩
theorem itP_close (w:World) (sb yb:Nat) (rs:RS) (defs:List Def) (lv:Value) (ws:List ByteArray) (k lo:Nat) (tb:ByteArray) (hnum:numP tb.toList=none) (hpl:plainL.any (· == tb.toList)=false) (b0:(tb.toList == [105,102])=false) (b1:(tb.toList == [98,101,103,105,110])=false) (b2:(tb.toList == [100,111])=false) (b3:(tb.toList == [105])=false) (b4:(tb.toList == [114,101,99,117,114,115,101])=false) (b5:(tb.toList == [101,120,105,116])=false) (b6:(tb.toList == [123])=false) (hkept:keptL.any (· == tb.toList)=false) (d1:(tb.toList == [58])=false) (d2:(tb.toList == [59])=false) (d3:(tb.toList == [125])=true) (h:ScInv K w sb yb rs defs lv ws k 0 lo):
  Calls Tryz.prog 170 #[.pointer (some ⟨sb,0,none⟩),.string tb] w fun x w'=>Kp w w' (fun b=>b=sb)/\PIt K w sb yb rs defs lv ws k lo x w' (.error 4):=by
 have hsb:=h.blk.lt;have hln:=h.len;have hkl:=h.kle;go_enter Tryz.func170,Tryz.ntmps170
 go_wp2_with fail
 refine (numberR _ _).mono ?_;rintro e w' ⟨rfl,hw⟩;rw[hw,numV_none hnum];clear hw
 go_wp2_with fail
 refine (isPlainR _ _).mono ?_;rintro e w1 ⟨rfl,hk1⟩
 go_wp2_with fail
 refine (isKeptR _ _).mono ?_;rintro e w2 ⟨rfl,hk2⟩;have hkp:Kp w w2 (fun b=>b=sb):=(((Kp.refl _ _).alloc _).trans (hk1.mono (fun _ _ h=>h.elim))).trans (hk2.mono (fun _ _ h=>h.elim));have hC:Blk w2 w.heap.size 227 zItem:=hk2.blk (hk1.blk (Blk.new w _ _) (by simp)) (by simp);have hS:ScInv K w2 sb yb rs defs lv ws k 0 lo:=h.to hkp (hk2.blk (hk1.blk (h.blk.alloc _) (by simp)) (by simp)) h.kle;have hcs:¬ w.heap.size=sb:=by omega
 clear hk1 hk2;have c4:w2.cell? ⟨sb,4,none⟩=some (.int .i64 lo):=hS.blk.cell rfl
 go_wp2_with fail
 refine (failS _ sb yb lv k lo 4 hS.blk).mono ?_;rintro e w3 ⟨rfl,hB3,hk3⟩
 replace hC:=hk3.blk hC hcs
 replace hkp:=hkp.trans hk3
 replace hS:=h.to hkp hB3 h.kle
 clear hB3 hk3;obtain⟨y0,y1,y2,y3,y4,y5⟩:=hC.six;obtain⟨z0,z1,z2,z3,z4,z5⟩:=hC.sixF;go_wp2;have hC2:=hC.set6 (.int .u8 99) (.int .i64 0) (.string tb) (.slice none 0 0) (.slice none 0 0) (.slice none 0 0);have hk2:=hkp.set6 (Nat.le_refl _) (.int .u8 99) (.int .i64 0) (.string tb) (.slice none 0 0) (.slice none 0 0) (.slice none 0 0);have hB2:=hS.blk.other6 (Ne.symm hcs) (.int .u8 99) (.int .i64 0) (.string tb) (.slice none 0 0) (.slice none 0 0) (.slice none 0 0);generalize ((((((w3.setCell ⟨w.heap.size,0,none⟩ (.int .u8 99)).setCell ⟨w.heap.size,1,none⟩ (.int .i64 0)).setCell ⟨w.heap.size,2,none⟩ (.string tb)).setCell ⟨w.heap.size,3,none⟩ (.slice none 0 0)).setCell ⟨w.heap.size,4,none⟩ (.slice none 0 0)).setCell ⟨w.heap.size,5,none⟩ (.slice none 0 0))=wf at hC2 hk2 hB2 ⊢;obtain⟨q0,q1,q2,q3,q4,q5⟩:=hC2.six;refine bodyPost_ret (v:=.agg #[.int .u8 99,.int .i64 0,.string tb,.slice none 0 0,.slice none 0 0,.slice none 0 0]) (by simp[results,Tryz.results170,go_sem,q0,q1,q2,q3,q4,q5]) rfl ?_;exact⟨hk2,by decide,_,_,_,_,_,_,_,_,_,_,_,_,k,rfl,Nat.le_refl _,h.to hk2 hB2 h.kle⟩
theorem itP_word (w:World) (sb yb:Nat) (rs:RS) (defs:List Def) (lv:Value) (ws:List ByteArray) (k lo:Nat) (tb:ByteArray) (hnum:numP tb.toList=none) (hpl:plainL.any (· == tb.toList)=false) (b0:(tb.toList == [105,102])=false) (b1:(tb.toList == [98,101,103,105,110])=false) (b2:(tb.toList == [100,111])=false) (b3:(tb.toList == [105])=false) (b4:(tb.toList == [114,101,99,117,114,115,101])=false) (b5:(tb.toList == [101,120,105,116])=false) (b6:(tb.toList == [123])=false) (hkept:keptL.any (· == tb.toList)=false) (d1:(tb.toList == [58])=false) (d2:(tb.toList == [59])=false) (d3:(tb.toList == [125])=false) (hf:findI defs tb.data.toList < 0) (h:ScInv K w sb yb rs defs lv ws k 0 lo):
  Calls Tryz.prog 170 #[.pointer (some ⟨sb,0,none⟩),.string tb] w fun x w'=>Kp w w' (fun b=>b=sb)/\PIt K w sb yb rs defs lv ws k lo x w' (.error 3):=by
 have hsb:=h.blk.lt;have hln:=h.len;have hkl:=h.kle;go_enter Tryz.func170,Tryz.ntmps170
 go_wp2_with fail
 refine (numberR _ _).mono ?_;rintro e w' ⟨rfl,hw⟩;rw[hw,numV_none hnum];clear hw
 go_wp2_with fail
 refine (isPlainR _ _).mono ?_;rintro e w1 ⟨rfl,hk1⟩
 go_wp2_with fail
 refine (isKeptR _ _).mono ?_;rintro e w2 ⟨rfl,hk2⟩;have hkp:Kp w w2 (fun b=>b=sb):=(((Kp.refl _ _).alloc _).trans (hk1.mono (fun _ _ h=>h.elim))).trans (hk2.mono (fun _ _ h=>h.elim));have hC:Blk w2 w.heap.size 227 zItem:=hk2.blk (hk1.blk (Blk.new w _ _) (by simp)) (by simp);have hS:ScInv K w2 sb yb rs defs lv ws k 0 lo:=h.to hkp (hk2.blk (hk1.blk (h.blk.alloc _) (by simp)) (by simp)) h.kle;have hcs:¬ w.heap.size=sb:=by omega
 clear hk1 hk2;have c4:w2.cell? ⟨sb,4,none⟩=some (.int .i64 lo):=hS.blk.cell rfl;have c0:w2.cell? ⟨sb,0,none⟩=some (.pointer (some ⟨yb,0,none⟩)):=hS.blk.cell rfl
 go_wp2_with fail
 refine (findS _ _ _ _ _ hS.yblk hS.dr).mono ?_;rintro e w' ⟨rfl,hw⟩;rw[hw];clear hw
 go_wp2_with fail
 refine (failS _ sb yb lv k lo 3 hS.blk).mono ?_;rintro e w3 ⟨rfl,hB3,hk3⟩
 replace hC:=hk3.blk hC hcs
 replace hkp:=hkp.trans hk3
 replace hS:=h.to hkp hB3 h.kle
 clear hB3 hk3;obtain⟨y0,y1,y2,y3,y4,y5⟩:=hC.six;obtain⟨z0,z1,z2,z3,z4,z5⟩:=hC.sixF;go_wp2;have hC2:=hC.set6 (.int .u8 99) (.int .i64 0) (.string tb) (.slice none 0 0) (.slice none 0 0) (.slice none 0 0);have hk2:=hkp.set6 (Nat.le_refl _) (.int .u8 99) (.int .i64 0) (.string tb) (.slice none 0 0) (.slice none 0 0) (.slice none 0 0);have hB2:=hS.blk.other6 (Ne.symm hcs) (.int .u8 99) (.int .i64 0) (.string tb) (.slice none 0 0) (.slice none 0 0) (.slice none 0 0);generalize ((((((w3.setCell ⟨w.heap.size,0,none⟩ (.int .u8 99)).setCell ⟨w.heap.size,1,none⟩ (.int .i64 0)).setCell ⟨w.heap.size,2,none⟩ (.string tb)).setCell ⟨w.heap.size,3,none⟩ (.slice none 0 0)).setCell ⟨w.heap.size,4,none⟩ (.slice none 0 0)).setCell ⟨w.heap.size,5,none⟩ (.slice none 0 0))=wf at hC2 hk2 hB2 ⊢;obtain⟨q0,q1,q2,q3,q4,q5⟩:=hC2.six;refine bodyPost_ret (v:=.agg #[.int .u8 99,.int .i64 0,.string tb,.slice none 0 0,.slice none 0 0,.slice none 0 0]) (by simp[results,Tryz.results170,go_sem,q0,q1,q2,q3,q4,q5]) rfl ?_;exact⟨hk2,by decide,_,_,_,_,_,_,_,_,_,_,_,_,k,rfl,Nat.le_refl _,h.to hk2 hB2 h.kle⟩
theorem itP_call (w:World) (sb yb:Nat) (rs:RS) (defs:List Def) (lv:Value) (ws:List ByteArray) (k lo:Nat) (tb:ByteArray) (hnum:numP tb.toList=none) (hpl:plainL.any (· == tb.toList)=false) (b0:(tb.toList == [105,102])=false) (b1:(tb.toList == [98,101,103,105,110])=false) (b2:(tb.toList == [100,111])=false) (b3:(tb.toList == [105])=false) (b4:(tb.toList == [114,101,99,117,114,115,101])=false) (b5:(tb.toList == [101,120,105,116])=false) (b6:(tb.toList == [123])=false) (hkept:keptL.any (· == tb.toList)=false) (d1:(tb.toList == [58])=false) (d2:(tb.toList == [59])=false) (d3:(tb.toList == [125])=false) (hf:¬ findI defs tb.data.toList < 0) (h:ScInv K w sb yb rs defs lv ws k 0 lo):
  Calls Tryz.prog 170 #[.pointer (some ⟨sb,0,none⟩),.string tb] w fun x w'=>Kp w w' (fun b=>b=sb)/\PIt K w sb yb rs defs lv ws k lo x w' (.ok ([⟨99,0,tb.data.toList,[],[],[]⟩],[],(texts ws).drop k)):=by
 have hsb:=h.blk.lt;have hln:=h.len;have hkl:=h.kle;go_enter Tryz.func170,Tryz.ntmps170
 go_wp2_with fail
 refine (numberR _ _).mono ?_;rintro e w' ⟨rfl,hw⟩;rw[hw,numV_none hnum];clear hw
 go_wp2_with fail
 refine (isPlainR _ _).mono ?_;rintro e w1 ⟨rfl,hk1⟩
 go_wp2_with fail
 refine (isKeptR _ _).mono ?_;rintro e w2 ⟨rfl,hk2⟩;have hkp:Kp w w2 (fun b=>b=sb):=(((Kp.refl _ _).alloc _).trans (hk1.mono (fun _ _ h=>h.elim))).trans (hk2.mono (fun _ _ h=>h.elim));have hC:Blk w2 w.heap.size 227 zItem:=hk2.blk (hk1.blk (Blk.new w _ _) (by simp)) (by simp);have hS:ScInv K w2 sb yb rs defs lv ws k 0 lo:=h.to hkp (hk2.blk (hk1.blk (h.blk.alloc _) (by simp)) (by simp)) h.kle;have hcs:¬ w.heap.size=sb:=by omega
 clear hk1 hk2;have c4:w2.cell? ⟨sb,4,none⟩=some (.int .i64 lo):=hS.blk.cell rfl;have c0:w2.cell? ⟨sb,0,none⟩=some (.pointer (some ⟨yb,0,none⟩)):=hS.blk.cell rfl
 go_wp2_with fail
 refine (findS _ _ _ _ _ hS.yblk hS.dr).mono ?_;rintro e w' ⟨rfl,hw⟩;rw[hw];clear hw;obtain⟨y0,y1,y2,y3,y4,y5⟩:=hC.six;obtain⟨z0,z1,z2,z3,z4,z5⟩:=hC.sixF;go_wp2;have hC2:=hC.set6 (.int .u8 99) (.int .i64 0) (.string tb) (.slice none 0 0) (.slice none 0 0) (.slice none 0 0);have hk2:=hkp.set6 (Nat.le_refl _) (.int .u8 99) (.int .i64 0) (.string tb) (.slice none 0 0) (.slice none 0 0) (.slice none 0 0);have hB2:=hS.blk.other6 (Ne.symm hcs) (.int .u8 99) (.int .i64 0) (.string tb) (.slice none 0 0) (.slice none 0 0) (.slice none 0 0);generalize ((((((w2.setCell ⟨w.heap.size,0,none⟩ (.int .u8 99)).setCell ⟨w.heap.size,1,none⟩ (.int .i64 0)).setCell ⟨w.heap.size,2,none⟩ (.string tb)).setCell ⟨w.heap.size,3,none⟩ (.slice none 0 0)).setCell ⟨w.heap.size,4,none⟩ (.slice none 0 0)).setCell ⟨w.heap.size,5,none⟩ (.slice none 0 0))=wf at hC2 hk2 hB2 ⊢;obtain⟨q0,q1,q2,q3,q4,q5⟩:=hC2.six;refine bodyPost_ret (v:=.agg #[.int .u8 99,.int .i64 0,.string tb,.slice none 0 0,.slice none 0 0,.slice none 0 0]) (by simp[results,Tryz.results170,go_sem,q0,q1,q2,q3,q4,q5]) rfl ?_;exact⟨hk2,_,_,_,_,_,k,rfl,rfl,ItAt.leaf 99 0 tb in0,rfl,Nat.le_refl _,h.to hk2 hB2 h.kle⟩
theorem itP_open (w:World) (sb yb:Nat) (rs:RS) (defs:List Def) (lv:Value) (ws:List ByteArray) (k lo:Nat) (tb:ByteArray) (hnum:numP tb.toList=none) (hpl:plainL.any (· == tb.toList)=false) (b0:(tb.toList == [105,102])=false) (b1:(tb.toList == [98,101,103,105,110])=false) (b2:(tb.toList == [100,111])=false) (b3:(tb.toList == [105])=false) (b4:(tb.toList == [114,101,99,117,114,115,101])=false) (b5:(tb.toList == [101,120,105,116])=false) (b6:(tb.toList == [123])=true) (res:PRes) (hres:res=match pBraces ((texts ws).drop k) with | .error e=>.error e | .ok (ts,r1)=>.ok ([⟨123,0,[],[],[],ts⟩],[],r1)) (h:ScInv K w sb yb rs defs lv ws k 0 lo):
  Calls Tryz.prog 170 #[.pointer (some ⟨sb,0,none⟩),.string tb] w fun x w'=>Kp w w' (fun b=>b=sb)/\PIt K w sb yb rs defs lv ws k lo x w' (res):=by
 have hsb:=h.blk.lt;have hln:=h.len;have hkl:=h.kle;go_enter Tryz.func170,Tryz.ntmps170
 go_wp2_with fail
 refine (numberR _ _).mono ?_;rintro e w' ⟨rfl,hw⟩;rw[hw,numV_none hnum];clear hw
 go_wp2_with fail
 refine (isPlainR _ _).mono ?_;rintro e w1 ⟨rfl,hk1⟩
 go_wp2_with fail
 refine (isKeptR _ _).mono ?_;rintro e w2 ⟨rfl,hk2⟩;have hkp:Kp w w2 (fun b=>b=sb):=(((Kp.refl _ _).alloc _).trans (hk1.mono (fun _ _ h=>h.elim))).trans (hk2.mono (fun _ _ h=>h.elim));have hC:Blk w2 w.heap.size 227 zItem:=hk2.blk (hk1.blk (Blk.new w _ _) (by simp)) (by simp);have hS:ScInv K w2 sb yb rs defs lv ws k 0 lo:=h.to hkp (hk2.blk (hk1.blk (h.blk.alloc _) (by simp)) (by simp)) h.kle;have hcs:¬ w.heap.size=sb:=by omega
 clear hk1 hk2;have c4:w2.cell? ⟨sb,4,none⟩=some (.int .i64 lo):=hS.blk.cell rfl;have HR:=hide hres;clear hres
 go_wp2_with fail
 refine (bracesS _ sb yb rs defs lv ws k lo hS).mono ?_;rintro x w3 ⟨hk3,hp⟩;have hCl:=hC.lt
 replace hC:=hk3.blk hC hcs
 have hszz:=hkp.size
 replace hkp:=hkp.trans hk3
 cases hpb:pBraces ((texts ws).drop k) with
 | error er=>
  rw[hpb] at hp HR;obtain⟨her,ao,n,cap,k2,rfl,hkk,hS3⟩:=hp
  replace hS:=hS3
  clear hS3 hk3 hpb;obtain⟨y0,y1,y2,y3,y4,y5⟩:=hC.six;obtain⟨z0,z1,z2,z3,z4,z5⟩:=hC.sixF;go_wp2;have hC2:=hC.set6 (.int .u8 123) (.int .i64 0) (.string ⟨#[]⟩) (.slice none 0 0) (.slice none 0 0) (.slice ao n cap);have hk2:=hkp.set6 (Nat.le_refl _) (.int .u8 123) (.int .i64 0) (.string ⟨#[]⟩) (.slice none 0 0) (.slice none 0 0) (.slice ao n cap);have hB2:=hS.blk.other6 (Ne.symm hcs) (.int .u8 123) (.int .i64 0) (.string ⟨#[]⟩) (.slice none 0 0) (.slice none 0 0) (.slice ao n cap);generalize ((((((w3.setCell ⟨w.heap.size,0,none⟩ (.int .u8 123)).setCell ⟨w.heap.size,1,none⟩ (.int .i64 0)).setCell ⟨w.heap.size,2,none⟩ (.string ⟨#[]⟩)).setCell ⟨w.heap.size,3,none⟩ (.slice none 0 0)).setCell ⟨w.heap.size,4,none⟩ (.slice none 0 0)).setCell ⟨w.heap.size,5,none⟩ (.slice ao n cap))=wf at hC2 hk2 hB2 ⊢;obtain⟨q0,q1,q2,q3,q4,q5⟩:=hC2.six;refine bodyPost_ret (v:=.agg #[.int .u8 123,.int .i64 0,.string ⟨#[]⟩,.slice none 0 0,.slice none 0 0,.slice ao n cap]) (by simp[results,Tryz.results170,go_sem,q0,q1,q2,q3,q4,q5]) rfl ?_;rw[HR.out];exact⟨hk2,her,_,_,_,_,_,_,_,_,_,_,_,_,k2,rfl,hkk,h.to hk2 hB2 hS.kle⟩
 | ok p=>
  obtain⟨bs,r⟩:=p;rw[hpb] at hp HR;obtain⟨vt,k2,rfl,ht,hbl,rfl,hkk,hS3⟩:=hp;obtain⟨ws5,hr5,ht2⟩:=ht;obtain⟨a5,p5,rfl⟩:=row_slice hr5
  replace hS:=hS3
  have HT5:Hid (toksIn (New w2) w3 (.slice a5 ws5.length p5) bs):=⟨ws5,hr5,ht2⟩;clear hS3 hk3 hpb hr5 ht2;obtain⟨y0,y1,y2,y3,y4,y5⟩:=hC.six;obtain⟨z0,z1,z2,z3,z4,z5⟩:=hC.sixF;go_wp2;have hC2:=hC.set6 (.int .u8 123) (.int .i64 0) (.string ⟨#[]⟩) (.slice none 0 0) (.slice none 0 0) (.slice a5 ws5.length p5);have hk2:=hkp.set6 (Nat.le_refl _) (.int .u8 123) (.int .i64 0) (.string ⟨#[]⟩) (.slice none 0 0) (.slice none 0 0) (.slice a5 ws5.length p5);have hB2:=hS.blk.other6 (Ne.symm hcs) (.int .u8 123) (.int .i64 0) (.string ⟨#[]⟩) (.slice none 0 0) (.slice none 0 0) (.slice a5 ws5.length p5);have hkeep:Keeps (New w2) (New w) w3 ((((((w3.setCell ⟨w.heap.size,0,none⟩ (.int .u8 123)).setCell ⟨w.heap.size,1,none⟩ (.int .i64 0)).setCell ⟨w.heap.size,2,none⟩ (.string ⟨#[]⟩)).setCell ⟨w.heap.size,3,none⟩ (.slice none 0 0)).setCell ⟨w.heap.size,4,none⟩ (.slice none 0 0)).setCell ⟨w.heap.size,5,none⟩ (.slice a5 ws5.length p5)):=fun b t' c hb hbl _=>by
   have hb:w2.heap.size<=b:=hb;have hC0:w.heap.size < w2.heap.size:=hCl;exact⟨hbl.other6 (by omega) _ _ _ _ _ _,by show w.heap.size<=b;omega⟩
  generalize ((((((w3.setCell ⟨w.heap.size,0,none⟩ (.int .u8 123)).setCell ⟨w.heap.size,1,none⟩ (.int .i64 0)).setCell ⟨w.heap.size,2,none⟩ (.string ⟨#[]⟩)).setCell ⟨w.heap.size,3,none⟩ (.slice none 0 0)).setCell ⟨w.heap.size,4,none⟩ (.slice none 0 0)).setCell ⟨w.heap.size,5,none⟩ (.slice a5 ws5.length p5))=wf at hC2 hk2 hB2 hkeep ⊢;obtain⟨q0,q1,q2,q3,q4,q5⟩:=hC2.six;refine bodyPost_ret (v:=.agg #[.int .u8 123,.int .i64 0,.string ⟨#[]⟩,.slice none 0 0,.slice none 0 0,.slice a5 ws5.length p5]) (by simp[results,Tryz.results170,go_sem,q0,q1,q2,q3,q4,q5]) rfl ?_;rw[HR.out];exact⟨hk2,_,⟨#[]⟩,_,_,_,k2,rfl,rfl,⟨rfl,BodyS.nil _ _,BodyS.nil _ _,toksIn_keep hkeep HT5.out,⟨in0,hbl⟩⟩,rfl,hkk,h.to hk2 hB2 hS.kle⟩
end
end Go.Proofs.YteainaiebcphlaaGreatDoor
