import Derived.Test.YteainaiebcphlaaGreatDoorQ7
namespace Go.Proofs.YteainaiebcphlaaGreatDoor
set_option maxRecDepth 1000000
set_option maxHeartbeats 4000000
set_option linter.all false
open Go.Proofs.Tryz
section
open Go.RowKit
variable {K:Nat->Prop}
theorem Cu:In 0:=⟨by decide,by decide⟩
theorem pQ.leaf {w w':World}(kind:Nat)(n:Int)(nm:ByteArray)(hn:In n):pQ (fE (New w) w') (ek (New w) w') ⟨kind,n,nm.data.toList,[],[],[]⟩ nm (.slice none 0 0) (.slice none 0 0) (.slice none 0 0):=
 ⟨rfl,fE.nil _ _,fE.nil _ _,ek.nil _ _,⟨hn,by simp⟩⟩
theorem N1 (w:World)(sb yb:Nat)(rs:RS)(ay:List Def)(lv:Value)(ws:List ByteArray)(k lo:Nat)(tb:ByteArray)(n:Int)(bT:bA tb.toList=some n)(h:bI K w sb yb rs ay lv ws k 0 lo):
  Calls prog 170 #[.pointer (some ⟨sb,0,none⟩),.string tb] w λx w'=>Kp w w' (λb=>b=sb)/\A8 K w sb yb rs ay lv ws k lo x w' (.ok ([⟨110,n,[],[],[],[]⟩],[],(aD ws).drop k)):=by
 have hsb:=h.blk.lt;have tq:=h.len;have hkl:=h.gf;go_enter func170,ntmps170
 go_wp2_with fail
 refine(dZ _ _).mono ?_;rintro e w' ⟨rfl,hw⟩;rw[hw,nL bT];clear hw
 go_wp2_with fail
 refine(cS _ _).mono ?_;rintro e w1 ⟨rfl,hk1⟩
 go_wp2_with fail
 refine(dQ _ _).mono ?_;rintro e w2 ⟨rfl,hk2⟩;have hkp:Kp w w2 (λb=>b=sb):=(((Kp.refl _ _).alloc _).trans (hk1.mono (λ_ _ h=>h.elim))).trans (hk2.mono (λ_ _ h=>h.elim));have hC:aC w2 w.heap.size 227 gK:=hk2.blk (hk1.blk (aC.new w _ _) (by simp)) (by simp);have hS:bI K w2 sb yb rs ay lv ws k 0 lo:=h.to hkp (hk2.blk (hk1.blk (h.blk.alloc _) (by simp)) (by simp)) h.gf;have hcs:¬w.heap.size=sb:=by omega
 clear hk1 hk2;obtain⟨y0,y1,y2,y3,y4,y5⟩:=hC.six;obtain⟨z0,z1,z2,z3,z4,z5⟩:=hC.iT;go_wp2;have bS:=hC.dN (.int .u8 110) (.int .i64 n) (.string ⟨#[]⟩) (.slice none 0 0) (.slice none 0 0) (.slice none 0 0);have hk2:=hkp.dN (ah _) (.int .u8 110) (.int .i64 n) (.string ⟨#[]⟩) (.slice none 0 0) (.slice none 0 0) (.slice none 0 0);have aX:=hS.blk.dG (Ne.symm hcs) (.int .u8 110) (.int .i64 n) (.string ⟨#[]⟩) (.slice none 0 0) (.slice none 0 0) (.slice none 0 0);generalize ((((((w2.setCell ⟨w.heap.size,0,none⟩ (.int .u8 110)).setCell ⟨w.heap.size,1,none⟩ (.int .i64 n)).setCell ⟨w.heap.size,2,none⟩ (.string ⟨#[]⟩)).setCell ⟨w.heap.size,3,none⟩ (.slice none 0 0)).setCell ⟨w.heap.size,4,none⟩ (.slice none 0 0)).setCell ⟨w.heap.size,5,none⟩ (.slice none 0 0))=wf at bS hk2 aX ⊢;obtain⟨q0,q1,q2,q3,q4,q5⟩:=bS.six;refine bodyPost_ret (v:=.agg #[.int .u8 110,.int .i64 n,.string ⟨#[]⟩,.slice none 0 0,.slice none 0 0,.slice none 0 0]) (by simp[results,results170,go_sem,q0,q1,q2,q3,q4,q5]) rfl ?_;exact⟨hk2,_,_,_,_,_,k,rfl,rfl,pQ.leaf 110 n ⟨#[]⟩ (iJ bT),rfl,ah _,h.to hk2 aX h.gf⟩
theorem FP (w:World)(sb yb:Nat)(rs:RS)(ay:List Def)(lv:Value)(ws:List ByteArray)(k lo:Nat)(tb:ByteArray)(bT:bA tb.toList=none)(hpl:aN.any (· == tb.toList)=true)(h:bI K w sb yb rs ay lv ws k 0 lo):
  Calls prog 170 #[.pointer (some ⟨sb,0,none⟩),.string tb] w λx w'=>Kp w w' (λb=>b=sb)/\A8 K w sb yb rs ay lv ws k lo x w' (.ok ([⟨112,0,tb.data.toList,[],[],[]⟩],[],(aD ws).drop k)):=by
 have hsb:=h.blk.lt;have tq:=h.len;have hkl:=h.gf;go_enter func170,ntmps170
 go_wp2_with fail
 refine(dZ _ _).mono ?_;rintro e w' ⟨rfl,hw⟩;rw[hw,bR bT];clear hw
 go_wp2_with fail
 refine(cS _ _).mono ?_;rintro e w1 ⟨rfl,hk1⟩
 go_wp2_with fail
 refine(dQ _ _).mono ?_;rintro e w2 ⟨rfl,hk2⟩;have hkp:Kp w w2 (λb=>b=sb):=(((Kp.refl _ _).alloc _).trans (hk1.mono (λ_ _ h=>h.elim))).trans (hk2.mono (λ_ _ h=>h.elim));have hC:aC w2 w.heap.size 227 gK:=hk2.blk (hk1.blk (aC.new w _ _) (by simp)) (by simp);have hS:bI K w2 sb yb rs ay lv ws k 0 lo:=h.to hkp (hk2.blk (hk1.blk (h.blk.alloc _) (by simp)) (by simp)) h.gf;have hcs:¬w.heap.size=sb:=by omega
 clear hk1 hk2;obtain⟨y0,y1,y2,y3,y4,y5⟩:=hC.six;obtain⟨z0,z1,z2,z3,z4,z5⟩:=hC.iT;go_wp2;have bS:=hC.dN (.int .u8 112) (.int .i64 0) (.string tb) (.slice none 0 0) (.slice none 0 0) (.slice none 0 0);have hk2:=hkp.dN (ah _) (.int .u8 112) (.int .i64 0) (.string tb) (.slice none 0 0) (.slice none 0 0) (.slice none 0 0);have aX:=hS.blk.dG (Ne.symm hcs) (.int .u8 112) (.int .i64 0) (.string tb) (.slice none 0 0) (.slice none 0 0) (.slice none 0 0);generalize ((((((w2.setCell ⟨w.heap.size,0,none⟩ (.int .u8 112)).setCell ⟨w.heap.size,1,none⟩ (.int .i64 0)).setCell ⟨w.heap.size,2,none⟩ (.string tb)).setCell ⟨w.heap.size,3,none⟩ (.slice none 0 0)).setCell ⟨w.heap.size,4,none⟩ (.slice none 0 0)).setCell ⟨w.heap.size,5,none⟩ (.slice none 0 0))=wf at bS hk2 aX ⊢;obtain⟨q0,q1,q2,q3,q4,q5⟩:=bS.six;refine bodyPost_ret (v:=.agg #[.int .u8 112,.int .i64 0,.string tb,.slice none 0 0,.slice none 0 0,.slice none 0 0]) (by simp[results,results170,go_sem,q0,q1,q2,q3,q4,q5]) rfl ?_;exact⟨hk2,_,_,_,_,_,k,rfl,rfl,pQ.leaf 112 0 tb Cu,rfl,ah _,h.to hk2 aX h.gf⟩
theorem Xz (w:World)(sb yb:Nat)(rs:RS)(ay:List Def)(lv:Value)(ws:List ByteArray)(k lo:Nat)(tb:ByteArray)(bT:bA tb.toList=none)(hpl:aN.any (· == tb.toList)=false)(b0:(tb.toList==[105,102])=false)(b1:(tb.toList==[98,101,103,105,110])=false)(b2:(tb.toList==[100,111])=false)(b3:(tb.toList==[105])=true)(hlo0:0<lo)(h:bI K w sb yb rs ay lv ws k 0 lo):
  Calls prog 170 #[.pointer (some ⟨sb,0,none⟩),.string tb] w λx w'=>Kp w w' (λb=>b=sb)/\A8 K w sb yb rs ay lv ws k lo x w' (.ok ([⟨105,0,[],[],[],[]⟩],[],(aD ws).drop k)):=by
 have hsb:=h.blk.lt;have tq:=h.len;have hkl:=h.gf;go_enter func170,ntmps170
 go_wp2_with fail
 refine(dZ _ _).mono ?_;rintro e w' ⟨rfl,hw⟩;rw[hw,bR bT];clear hw
 go_wp2_with fail
 refine(cS _ _).mono ?_;rintro e w1 ⟨rfl,hk1⟩
 go_wp2_with fail
 refine(dQ _ _).mono ?_;rintro e w2 ⟨rfl,hk2⟩;have hkp:Kp w w2 (λb=>b=sb):=(((Kp.refl _ _).alloc _).trans (hk1.mono (λ_ _ h=>h.elim))).trans (hk2.mono (λ_ _ h=>h.elim));have hC:aC w2 w.heap.size 227 gK:=hk2.blk (hk1.blk (aC.new w _ _) (by simp)) (by simp);have hS:bI K w2 sb yb rs ay lv ws k 0 lo:=h.to hkp (hk2.blk (hk1.blk (h.blk.alloc _) (by simp)) (by simp)) h.gf;have hcs:¬w.heap.size=sb:=by omega
 clear hk1 hk2;have c4:w2.cell? ⟨sb,4,none⟩=some (.int .i64 lo):=hS.blk.cell rfl;obtain⟨y0,y1,y2,y3,y4,y5⟩:=hC.six;obtain⟨z0,z1,z2,z3,z4,z5⟩:=hC.iT;go_wp2;have bS:=hC.dN (.int .u8 105) (.int .i64 0) (.string ⟨#[]⟩) (.slice none 0 0) (.slice none 0 0) (.slice none 0 0);have hk2:=hkp.dN (ah _) (.int .u8 105) (.int .i64 0) (.string ⟨#[]⟩) (.slice none 0 0) (.slice none 0 0) (.slice none 0 0);have aX:=hS.blk.dG (Ne.symm hcs) (.int .u8 105) (.int .i64 0) (.string ⟨#[]⟩) (.slice none 0 0) (.slice none 0 0) (.slice none 0 0);generalize ((((((w2.setCell ⟨w.heap.size,0,none⟩ (.int .u8 105)).setCell ⟨w.heap.size,1,none⟩ (.int .i64 0)).setCell ⟨w.heap.size,2,none⟩ (.string ⟨#[]⟩)).setCell ⟨w.heap.size,3,none⟩ (.slice none 0 0)).setCell ⟨w.heap.size,4,none⟩ (.slice none 0 0)).setCell ⟨w.heap.size,5,none⟩ (.slice none 0 0))=wf at bS hk2 aX ⊢;obtain⟨q0,q1,q2,q3,q4,q5⟩:=bS.six;refine bodyPost_ret (v:=.agg #[.int .u8 105,.int .i64 0,.string ⟨#[]⟩,.slice none 0 0,.slice none 0 0,.slice none 0 0]) (by simp[results,results170,go_sem,q0,q1,q2,q3,q4,q5]) rfl ?_;exact⟨hk2,_,_,_,_,_,k,rfl,rfl,pQ.leaf 105 0 ⟨#[]⟩ Cu,rfl,ah _,h.to hk2 aX h.gf⟩
theorem N2 (w:World)(sb yb:Nat)(rs:RS)(ay:List Def)(lv:Value)(ws:List ByteArray)(k lo:Nat)(tb:ByteArray)(bT:bA tb.toList=none)(hpl:aN.any (· == tb.toList)=false)(b0:(tb.toList==[105,102])=false)(b1:(tb.toList==[98,101,103,105,110])=false)(b2:(tb.toList==[100,111])=false)(b3:(tb.toList==[105])=false)(b4:(tb.toList==[114,101,99,117,114,115,101])=true)(h:bI K w sb yb rs ay lv ws k 0 lo):
  Calls prog 170 #[.pointer (some ⟨sb,0,none⟩),.string tb] w λx w'=>Kp w w' (λb=>b=sb)/\A8 K w sb yb rs ay lv ws k lo x w' (.ok ([⟨114,0,[],[],[],[]⟩],[],(aD ws).drop k)):=by
 have hsb:=h.blk.lt;have tq:=h.len;have hkl:=h.gf;go_enter func170,ntmps170
 go_wp2_with fail
 refine(dZ _ _).mono ?_;rintro e w' ⟨rfl,hw⟩;rw[hw,bR bT];clear hw
 go_wp2_with fail
 refine(cS _ _).mono ?_;rintro e w1 ⟨rfl,hk1⟩
 go_wp2_with fail
 refine(dQ _ _).mono ?_;rintro e w2 ⟨rfl,hk2⟩;have hkp:Kp w w2 (λb=>b=sb):=(((Kp.refl _ _).alloc _).trans (hk1.mono (λ_ _ h=>h.elim))).trans (hk2.mono (λ_ _ h=>h.elim));have hC:aC w2 w.heap.size 227 gK:=hk2.blk (hk1.blk (aC.new w _ _) (by simp)) (by simp);have hS:bI K w2 sb yb rs ay lv ws k 0 lo:=h.to hkp (hk2.blk (hk1.blk (h.blk.alloc _) (by simp)) (by simp)) h.gf;have hcs:¬w.heap.size=sb:=by omega
 clear hk1 hk2;have c4:w2.cell? ⟨sb,4,none⟩=some (.int .i64 lo):=hS.blk.cell rfl;obtain⟨y0,y1,y2,y3,y4,y5⟩:=hC.six;obtain⟨z0,z1,z2,z3,z4,z5⟩:=hC.iT;go_wp2;have bS:=hC.dN (.int .u8 114) (.int .i64 0) (.string ⟨#[]⟩) (.slice none 0 0) (.slice none 0 0) (.slice none 0 0);have hk2:=hkp.dN (ah _) (.int .u8 114) (.int .i64 0) (.string ⟨#[]⟩) (.slice none 0 0) (.slice none 0 0) (.slice none 0 0);have aX:=hS.blk.dG (Ne.symm hcs) (.int .u8 114) (.int .i64 0) (.string ⟨#[]⟩) (.slice none 0 0) (.slice none 0 0) (.slice none 0 0);generalize ((((((w2.setCell ⟨w.heap.size,0,none⟩ (.int .u8 114)).setCell ⟨w.heap.size,1,none⟩ (.int .i64 0)).setCell ⟨w.heap.size,2,none⟩ (.string ⟨#[]⟩)).setCell ⟨w.heap.size,3,none⟩ (.slice none 0 0)).setCell ⟨w.heap.size,4,none⟩ (.slice none 0 0)).setCell ⟨w.heap.size,5,none⟩ (.slice none 0 0))=wf at bS hk2 aX ⊢;obtain⟨q0,q1,q2,q3,q4,q5⟩:=bS.six;refine bodyPost_ret (v:=.agg #[.int .u8 114,.int .i64 0,.string ⟨#[]⟩,.slice none 0 0,.slice none 0 0,.slice none 0 0]) (by simp[results,results170,go_sem,q0,q1,q2,q3,q4,q5]) rfl ?_;exact⟨hk2,_,_,_,_,_,k,rfl,rfl,pQ.leaf 114 0 ⟨#[]⟩ Cu,rfl,ah _,h.to hk2 aX h.gf⟩
theorem Kl (w:World)(sb yb:Nat)(rs:RS)(ay:List Def)(lv:Value)(ws:List ByteArray)(k lo:Nat)(tb:ByteArray)(bT:bA tb.toList=none)(hpl:aN.any (· == tb.toList)=false)(b0:(tb.toList==[105,102])=false)(b1:(tb.toList==[98,101,103,105,110])=false)(b2:(tb.toList==[100,111])=false)(b3:(tb.toList==[105])=false)(b4:(tb.toList==[114,101,99,117,114,115,101])=false)(b5:(tb.toList==[101,120,105,116])=true)(h:bI K w sb yb rs ay lv ws k 0 lo):
  Calls prog 170 #[.pointer (some ⟨sb,0,none⟩),.string tb] w λx w'=>Kp w w' (λb=>b=sb)/\A8 K w sb yb rs ay lv ws k lo x w' (.ok ([⟨120,0,[],[],[],[]⟩],[],(aD ws).drop k)):=by
 have hsb:=h.blk.lt;have tq:=h.len;have hkl:=h.gf;go_enter func170,ntmps170
 go_wp2_with fail
 refine(dZ _ _).mono ?_;rintro e w' ⟨rfl,hw⟩;rw[hw,bR bT];clear hw
 go_wp2_with fail
 refine(cS _ _).mono ?_;rintro e w1 ⟨rfl,hk1⟩
 go_wp2_with fail
 refine(dQ _ _).mono ?_;rintro e w2 ⟨rfl,hk2⟩;have hkp:Kp w w2 (λb=>b=sb):=(((Kp.refl _ _).alloc _).trans (hk1.mono (λ_ _ h=>h.elim))).trans (hk2.mono (λ_ _ h=>h.elim));have hC:aC w2 w.heap.size 227 gK:=hk2.blk (hk1.blk (aC.new w _ _) (by simp)) (by simp);have hS:bI K w2 sb yb rs ay lv ws k 0 lo:=h.to hkp (hk2.blk (hk1.blk (h.blk.alloc _) (by simp)) (by simp)) h.gf;have hcs:¬w.heap.size=sb:=by omega
 clear hk1 hk2;have c4:w2.cell? ⟨sb,4,none⟩=some (.int .i64 lo):=hS.blk.cell rfl;obtain⟨y0,y1,y2,y3,y4,y5⟩:=hC.six;obtain⟨z0,z1,z2,z3,z4,z5⟩:=hC.iT;go_wp2;have bS:=hC.dN (.int .u8 120) (.int .i64 0) (.string ⟨#[]⟩) (.slice none 0 0) (.slice none 0 0) (.slice none 0 0);have hk2:=hkp.dN (ah _) (.int .u8 120) (.int .i64 0) (.string ⟨#[]⟩) (.slice none 0 0) (.slice none 0 0) (.slice none 0 0);have aX:=hS.blk.dG (Ne.symm hcs) (.int .u8 120) (.int .i64 0) (.string ⟨#[]⟩) (.slice none 0 0) (.slice none 0 0) (.slice none 0 0);generalize ((((((w2.setCell ⟨w.heap.size,0,none⟩ (.int .u8 120)).setCell ⟨w.heap.size,1,none⟩ (.int .i64 0)).setCell ⟨w.heap.size,2,none⟩ (.string ⟨#[]⟩)).setCell ⟨w.heap.size,3,none⟩ (.slice none 0 0)).setCell ⟨w.heap.size,4,none⟩ (.slice none 0 0)).setCell ⟨w.heap.size,5,none⟩ (.slice none 0 0))=wf at bS hk2 aX ⊢;obtain⟨q0,q1,q2,q3,q4,q5⟩:=bS.six;refine bodyPost_ret (v:=.agg #[.int .u8 120,.int .i64 0,.string ⟨#[]⟩,.slice none 0 0,.slice none 0 0,.slice none 0 0]) (by simp[results,results170,go_sem,q0,q1,q2,q3,q4,q5]) rfl ?_;exact⟨hk2,_,_,_,_,_,k,rfl,rfl,pQ.leaf 120 0 ⟨#[]⟩ Cu,rfl,ah _,h.to hk2 aX h.gf⟩
theorem Sz (w:World)(sb yb:Nat)(rs:RS)(ay:List Def)(lv:Value)(ws:List ByteArray)(k lo:Nat)(tb:ByteArray)(bT:bA tb.toList=none)(hpl:aN.any (· == tb.toList)=false)(b0:(tb.toList==[105,102])=false)(b1:(tb.toList==[98,101,103,105,110])=false)(b2:(tb.toList==[100,111])=false)(b3:(tb.toList==[105])=true)(hlo0:lo=0)(iH:eB.any (· == tb.toList)=true)(b4:(tb.toList==[114,101,99,117,114,115,101])=false)  (b5:(tb.toList==[101,120,105,116])=false)  (b6:(tb.toList==[123])=false)(h:bI K w sb yb rs ay lv ws k 0 lo):
  Calls prog 170 #[.pointer (some ⟨sb,0,none⟩),.string tb] w λx w'=>Kp w w' (λb=>b=sb)/\A8 K w sb yb rs ay lv ws k lo x w' (.error 4):=by
 have hsb:=h.blk.lt;have tq:=h.len;have hkl:=h.gf;go_enter func170,ntmps170
 go_wp2_with fail
 refine(dZ _ _).mono ?_;rintro e w' ⟨rfl,hw⟩;rw[hw,bR bT];clear hw
 go_wp2_with fail
 refine(cS _ _).mono ?_;rintro e w1 ⟨rfl,hk1⟩
 go_wp2_with fail
 refine(dQ _ _).mono ?_;rintro e w2 ⟨rfl,hk2⟩;have hkp:Kp w w2 (λb=>b=sb):=(((Kp.refl _ _).alloc _).trans (hk1.mono (λ_ _ h=>h.elim))).trans (hk2.mono (λ_ _ h=>h.elim));have hC:aC w2 w.heap.size 227 gK:=hk2.blk (hk1.blk (aC.new w _ _) (by simp)) (by simp);have hS:bI K w2 sb yb rs ay lv ws k 0 lo:=h.to hkp (hk2.blk (hk1.blk (h.blk.alloc _) (by simp)) (by simp)) h.gf;have hcs:¬w.heap.size=sb:=by omega
 clear hk1 hk2;have c4:w2.cell? ⟨sb,4,none⟩=some (.int .i64 0):=by have:=hS.blk.cell (o:=4) (v:=.int .i64 lo) rfl;rw[hlo0] at this;exact this
 clear hlo0
 go_wp2_with fail
 refine(oK _ sb yb lv k lo 4 hS.blk).mono ?_;rintro e w3 ⟨rfl,je,hk3⟩
 replace hC:=hk3.blk hC hcs
 replace hkp:=hkp.trans hk3
 replace hS:=h.to hkp je h.gf
 clear je hk3;obtain⟨y0,y1,y2,y3,y4,y5⟩:=hC.six;obtain⟨z0,z1,z2,z3,z4,z5⟩:=hC.iT;go_wp2;have bS:=hC.dN (.int .u8 99) (.int .i64 0) (.string tb) (.slice none 0 0) (.slice none 0 0) (.slice none 0 0);have hk2:=hkp.dN (ah _) (.int .u8 99) (.int .i64 0) (.string tb) (.slice none 0 0) (.slice none 0 0) (.slice none 0 0);have aX:=hS.blk.dG (Ne.symm hcs) (.int .u8 99) (.int .i64 0) (.string tb) (.slice none 0 0) (.slice none 0 0) (.slice none 0 0);generalize ((((((w3.setCell ⟨w.heap.size,0,none⟩ (.int .u8 99)).setCell ⟨w.heap.size,1,none⟩ (.int .i64 0)).setCell ⟨w.heap.size,2,none⟩ (.string tb)).setCell ⟨w.heap.size,3,none⟩ (.slice none 0 0)).setCell ⟨w.heap.size,4,none⟩ (.slice none 0 0)).setCell ⟨w.heap.size,5,none⟩ (.slice none 0 0))=wf at bS hk2 aX ⊢;obtain⟨q0,q1,q2,q3,q4,q5⟩:=bS.six;refine bodyPost_ret (v:=.agg #[.int .u8 99,.int .i64 0,.string tb,.slice none 0 0,.slice none 0 0,.slice none 0 0]) (by simp[results,results170,go_sem,q0,q1,q2,q3,q4,q5]) rfl ?_;exact⟨hk2,by decide,_,_,_,_,_,_,_,_,_,_,_,_,k,rfl,ah _,h.to hk2 aX h.gf⟩
theorem Km (w:World)(sb yb:Nat)(rs:RS)(ay:List Def)(lv:Value)(ws:List ByteArray)(k lo:Nat)(tb:ByteArray)(bT:bA tb.toList=none)(hpl:aN.any (· == tb.toList)=false)(b0:(tb.toList==[105,102])=false)(b1:(tb.toList==[98,101,103,105,110])=false)(b2:(tb.toList==[100,111])=false)(b3:(tb.toList==[105])=false)(b4:(tb.toList==[114,101,99,117,114,115,101])=false)(b5:(tb.toList==[101,120,105,116])=false)(b6:(tb.toList==[123])=false)(iH:eB.any (· == tb.toList)=true)(h:bI K w sb yb rs ay lv ws k 0 lo):
  Calls prog 170 #[.pointer (some ⟨sb,0,none⟩),.string tb] w λx w'=>Kp w w' (λb=>b=sb)/\A8 K w sb yb rs ay lv ws k lo x w' (.error 4):=by
 have hsb:=h.blk.lt;have tq:=h.len;have hkl:=h.gf;go_enter func170,ntmps170
 go_wp2_with fail
 refine(dZ _ _).mono ?_;rintro e w' ⟨rfl,hw⟩;rw[hw,bR bT];clear hw
 go_wp2_with fail
 refine(cS _ _).mono ?_;rintro e w1 ⟨rfl,hk1⟩
 go_wp2_with fail
 refine(dQ _ _).mono ?_;rintro e w2 ⟨rfl,hk2⟩;have hkp:Kp w w2 (λb=>b=sb):=(((Kp.refl _ _).alloc _).trans (hk1.mono (λ_ _ h=>h.elim))).trans (hk2.mono (λ_ _ h=>h.elim));have hC:aC w2 w.heap.size 227 gK:=hk2.blk (hk1.blk (aC.new w _ _) (by simp)) (by simp);have hS:bI K w2 sb yb rs ay lv ws k 0 lo:=h.to hkp (hk2.blk (hk1.blk (h.blk.alloc _) (by simp)) (by simp)) h.gf;have hcs:¬w.heap.size=sb:=by omega
 clear hk1 hk2;have c4:w2.cell? ⟨sb,4,none⟩=some (.int .i64 lo):=hS.blk.cell rfl
 go_wp2_with fail
 refine(oK _ sb yb lv k lo 4 hS.blk).mono ?_;rintro e w3 ⟨rfl,je,hk3⟩
 replace hC:=hk3.blk hC hcs
 replace hkp:=hkp.trans hk3
 replace hS:=h.to hkp je h.gf
 clear je hk3;obtain⟨y0,y1,y2,y3,y4,y5⟩:=hC.six;obtain⟨z0,z1,z2,z3,z4,z5⟩:=hC.iT;go_wp2;have bS:=hC.dN (.int .u8 99) (.int .i64 0) (.string tb) (.slice none 0 0) (.slice none 0 0) (.slice none 0 0);have hk2:=hkp.dN (ah _) (.int .u8 99) (.int .i64 0) (.string tb) (.slice none 0 0) (.slice none 0 0) (.slice none 0 0);have aX:=hS.blk.dG (Ne.symm hcs) (.int .u8 99) (.int .i64 0) (.string tb) (.slice none 0 0) (.slice none 0 0) (.slice none 0 0);generalize ((((((w3.setCell ⟨w.heap.size,0,none⟩ (.int .u8 99)).setCell ⟨w.heap.size,1,none⟩ (.int .i64 0)).setCell ⟨w.heap.size,2,none⟩ (.string tb)).setCell ⟨w.heap.size,3,none⟩ (.slice none 0 0)).setCell ⟨w.heap.size,4,none⟩ (.slice none 0 0)).setCell ⟨w.heap.size,5,none⟩ (.slice none 0 0))=wf at bS hk2 aX ⊢;obtain⟨q0,q1,q2,q3,q4,q5⟩:=bS.six;refine bodyPost_ret (v:=.agg #[.int .u8 99,.int .i64 0,.string tb,.slice none 0 0,.slice none 0 0,.slice none 0 0]) (by simp[results,results170,go_sem,q0,q1,q2,q3,q4,q5]) rfl ?_;exact⟨hk2,by decide,_,_,_,_,_,_,_,_,_,_,_,_,k,rfl,ah _,h.to hk2 aX h.gf⟩
theorem FQ (w:World)(sb yb:Nat)(rs:RS)(ay:List Def)(lv:Value)(ws:List ByteArray)(k lo:Nat)(tb:ByteArray)(bT:bA tb.toList=none)(hpl:aN.any (· == tb.toList)=false)(b0:(tb.toList==[105,102])=false)(b1:(tb.toList==[98,101,103,105,110])=false)(b2:(tb.toList==[100,111])=false)(b3:(tb.toList==[105])=false)(b4:(tb.toList==[114,101,99,117,114,115,101])=false)(b5:(tb.toList==[101,120,105,116])=false)(b6:(tb.toList==[123])=false)(iH:eB.any (· == tb.toList)=false)(d1:(tb.toList==[58])=true)(h:bI K w sb yb rs ay lv ws k 0 lo):
  Calls prog 170 #[.pointer (some ⟨sb,0,none⟩),.string tb] w λx w'=>Kp w w' (λb=>b=sb)/\A8 K w sb yb rs ay lv ws k lo x w' (.error 4):=by
 have hsb:=h.blk.lt;have tq:=h.len;have hkl:=h.gf;go_enter func170,ntmps170
 go_wp2_with fail
 refine(dZ _ _).mono ?_;rintro e w' ⟨rfl,hw⟩;rw[hw,bR bT];clear hw
 go_wp2_with fail
 refine(cS _ _).mono ?_;rintro e w1 ⟨rfl,hk1⟩
 go_wp2_with fail
 refine(dQ _ _).mono ?_;rintro e w2 ⟨rfl,hk2⟩;have hkp:Kp w w2 (λb=>b=sb):=(((Kp.refl _ _).alloc _).trans (hk1.mono (λ_ _ h=>h.elim))).trans (hk2.mono (λ_ _ h=>h.elim));have hC:aC w2 w.heap.size 227 gK:=hk2.blk (hk1.blk (aC.new w _ _) (by simp)) (by simp);have hS:bI K w2 sb yb rs ay lv ws k 0 lo:=h.to hkp (hk2.blk (hk1.blk (h.blk.alloc _) (by simp)) (by simp)) h.gf;have hcs:¬w.heap.size=sb:=by omega
 clear hk1 hk2;have c4:w2.cell? ⟨sb,4,none⟩=some (.int .i64 lo):=hS.blk.cell rfl
 go_wp2_with fail
 refine(oK _ sb yb lv k lo 4 hS.blk).mono ?_;rintro e w3 ⟨rfl,je,hk3⟩
 replace hC:=hk3.blk hC hcs
 replace hkp:=hkp.trans hk3
 replace hS:=h.to hkp je h.gf
 clear je hk3;obtain⟨y0,y1,y2,y3,y4,y5⟩:=hC.six;obtain⟨z0,z1,z2,z3,z4,z5⟩:=hC.iT;go_wp2;have bS:=hC.dN (.int .u8 99) (.int .i64 0) (.string tb) (.slice none 0 0) (.slice none 0 0) (.slice none 0 0);have hk2:=hkp.dN (ah _) (.int .u8 99) (.int .i64 0) (.string tb) (.slice none 0 0) (.slice none 0 0) (.slice none 0 0);have aX:=hS.blk.dG (Ne.symm hcs) (.int .u8 99) (.int .i64 0) (.string tb) (.slice none 0 0) (.slice none 0 0) (.slice none 0 0);generalize ((((((w3.setCell ⟨w.heap.size,0,none⟩ (.int .u8 99)).setCell ⟨w.heap.size,1,none⟩ (.int .i64 0)).setCell ⟨w.heap.size,2,none⟩ (.string tb)).setCell ⟨w.heap.size,3,none⟩ (.slice none 0 0)).setCell ⟨w.heap.size,4,none⟩ (.slice none 0 0)).setCell ⟨w.heap.size,5,none⟩ (.slice none 0 0))=wf at bS hk2 aX ⊢;obtain⟨q0,q1,q2,q3,q4,q5⟩:=bS.six;refine bodyPost_ret (v:=.agg #[.int .u8 99,.int .i64 0,.string tb,.slice none 0 0,.slice none 0 0,.slice none 0 0]) (by simp[results,results170,go_sem,q0,q1,q2,q3,q4,q5]) rfl ?_;exact⟨hk2,by decide,_,_,_,_,_,_,_,_,_,_,_,_,k,rfl,ah _,h.to hk2 aX h.gf⟩
theorem Kn (w:World)(sb yb:Nat)(rs:RS)(ay:List Def)(lv:Value)(ws:List ByteArray)(k lo:Nat)(tb:ByteArray)(bT:bA tb.toList=none)(hpl:aN.any (· == tb.toList)=false)(b0:(tb.toList==[105,102])=false)(b1:(tb.toList==[98,101,103,105,110])=false)(b2:(tb.toList==[100,111])=false)(b3:(tb.toList==[105])=false)(b4:(tb.toList==[114,101,99,117,114,115,101])=false)(b5:(tb.toList==[101,120,105,116])=false)(b6:(tb.toList==[123])=false)(iH:eB.any (· == tb.toList)=false)(d1:(tb.toList==[58])=false)(d2:(tb.toList==[59])=true)(h:bI K w sb yb rs ay lv ws k 0 lo):
  Calls prog 170 #[.pointer (some ⟨sb,0,none⟩),.string tb] w λx w'=>Kp w w' (λb=>b=sb)/\A8 K w sb yb rs ay lv ws k lo x w' (.error 4):=by
 have hsb:=h.blk.lt;have tq:=h.len;have hkl:=h.gf;go_enter func170,ntmps170
 go_wp2_with fail
 refine(dZ _ _).mono ?_;rintro e w' ⟨rfl,hw⟩;rw[hw,bR bT];clear hw
 go_wp2_with fail
 refine(cS _ _).mono ?_;rintro e w1 ⟨rfl,hk1⟩
 go_wp2_with fail
 refine(dQ _ _).mono ?_;rintro e w2 ⟨rfl,hk2⟩;have hkp:Kp w w2 (λb=>b=sb):=(((Kp.refl _ _).alloc _).trans (hk1.mono (λ_ _ h=>h.elim))).trans (hk2.mono (λ_ _ h=>h.elim));have hC:aC w2 w.heap.size 227 gK:=hk2.blk (hk1.blk (aC.new w _ _) (by simp)) (by simp);have hS:bI K w2 sb yb rs ay lv ws k 0 lo:=h.to hkp (hk2.blk (hk1.blk (h.blk.alloc _) (by simp)) (by simp)) h.gf;have hcs:¬w.heap.size=sb:=by omega
 clear hk1 hk2;have c4:w2.cell? ⟨sb,4,none⟩=some (.int .i64 lo):=hS.blk.cell rfl
 go_wp2_with fail
 refine(oK _ sb yb lv k lo 4 hS.blk).mono ?_;rintro e w3 ⟨rfl,je,hk3⟩
 replace hC:=hk3.blk hC hcs
 replace hkp:=hkp.trans hk3
 replace hS:=h.to hkp je h.gf
 clear je hk3;obtain⟨y0,y1,y2,y3,y4,y5⟩:=hC.six;obtain⟨z0,z1,z2,z3,z4,z5⟩:=hC.iT;go_wp2;have bS:=hC.dN (.int .u8 99) (.int .i64 0) (.string tb) (.slice none 0 0) (.slice none 0 0) (.slice none 0 0);have hk2:=hkp.dN (ah _) (.int .u8 99) (.int .i64 0) (.string tb) (.slice none 0 0) (.slice none 0 0) (.slice none 0 0);have aX:=hS.blk.dG (Ne.symm hcs) (.int .u8 99) (.int .i64 0) (.string tb) (.slice none 0 0) (.slice none 0 0) (.slice none 0 0);generalize ((((((w3.setCell ⟨w.heap.size,0,none⟩ (.int .u8 99)).setCell ⟨w.heap.size,1,none⟩ (.int .i64 0)).setCell ⟨w.heap.size,2,none⟩ (.string tb)).setCell ⟨w.heap.size,3,none⟩ (.slice none 0 0)).setCell ⟨w.heap.size,4,none⟩ (.slice none 0 0)).setCell ⟨w.heap.size,5,none⟩ (.slice none 0 0))=wf at bS hk2 aX ⊢;obtain⟨q0,q1,q2,q3,q4,q5⟩:=bS.six;refine bodyPost_ret (v:=.agg #[.int .u8 99,.int .i64 0,.string tb,.slice none 0 0,.slice none 0 0,.slice none 0 0]) (by simp[results,results170,go_sem,q0,q1,q2,q3,q4,q5]) rfl ?_;exact⟨hk2,by decide,_,_,_,_,_,_,_,_,_,_,_,_,k,rfl,ah _,h.to hk2 aX h.gf⟩
theorem FR (w:World)(sb yb:Nat)(rs:RS)(ay:List Def)(lv:Value)(ws:List ByteArray)(k lo:Nat)(tb:ByteArray)(bT:bA tb.toList=none)(hpl:aN.any (· == tb.toList)=false)(b0:(tb.toList==[105,102])=false)(b1:(tb.toList==[98,101,103,105,110])=false)(b2:(tb.toList==[100,111])=false)(b3:(tb.toList==[105])=false)(b4:(tb.toList==[114,101,99,117,114,115,101])=false)(b5:(tb.toList==[101,120,105,116])=false)(b6:(tb.toList==[123])=false)(iH:eB.any (· == tb.toList)=false)(d1:(tb.toList==[58])=false)(d2:(tb.toList==[59])=false)(d3:(tb.toList==[125])=true)(h:bI K w sb yb rs ay lv ws k 0 lo):
  Calls prog 170 #[.pointer (some ⟨sb,0,none⟩),.string tb] w λx w'=>Kp w w' (λb=>b=sb)/\A8 K w sb yb rs ay lv ws k lo x w' (.error 4):=by
 have hsb:=h.blk.lt;have tq:=h.len;have hkl:=h.gf;go_enter func170,ntmps170
 go_wp2_with fail
 refine(dZ _ _).mono ?_;rintro e w' ⟨rfl,hw⟩;rw[hw,bR bT];clear hw
 go_wp2_with fail
 refine(cS _ _).mono ?_;rintro e w1 ⟨rfl,hk1⟩
 go_wp2_with fail
 refine(dQ _ _).mono ?_;rintro e w2 ⟨rfl,hk2⟩;have hkp:Kp w w2 (λb=>b=sb):=(((Kp.refl _ _).alloc _).trans (hk1.mono (λ_ _ h=>h.elim))).trans (hk2.mono (λ_ _ h=>h.elim));have hC:aC w2 w.heap.size 227 gK:=hk2.blk (hk1.blk (aC.new w _ _) (by simp)) (by simp);have hS:bI K w2 sb yb rs ay lv ws k 0 lo:=h.to hkp (hk2.blk (hk1.blk (h.blk.alloc _) (by simp)) (by simp)) h.gf;have hcs:¬w.heap.size=sb:=by omega
 clear hk1 hk2;have c4:w2.cell? ⟨sb,4,none⟩=some (.int .i64 lo):=hS.blk.cell rfl
 go_wp2_with fail
 refine(oK _ sb yb lv k lo 4 hS.blk).mono ?_;rintro e w3 ⟨rfl,je,hk3⟩
 replace hC:=hk3.blk hC hcs
 replace hkp:=hkp.trans hk3
 replace hS:=h.to hkp je h.gf
 clear je hk3;obtain⟨y0,y1,y2,y3,y4,y5⟩:=hC.six;obtain⟨z0,z1,z2,z3,z4,z5⟩:=hC.iT;go_wp2;have bS:=hC.dN (.int .u8 99) (.int .i64 0) (.string tb) (.slice none 0 0) (.slice none 0 0) (.slice none 0 0);have hk2:=hkp.dN (ah _) (.int .u8 99) (.int .i64 0) (.string tb) (.slice none 0 0) (.slice none 0 0) (.slice none 0 0);have aX:=hS.blk.dG (Ne.symm hcs) (.int .u8 99) (.int .i64 0) (.string tb) (.slice none 0 0) (.slice none 0 0) (.slice none 0 0);generalize ((((((w3.setCell ⟨w.heap.size,0,none⟩ (.int .u8 99)).setCell ⟨w.heap.size,1,none⟩ (.int .i64 0)).setCell ⟨w.heap.size,2,none⟩ (.string tb)).setCell ⟨w.heap.size,3,none⟩ (.slice none 0 0)).setCell ⟨w.heap.size,4,none⟩ (.slice none 0 0)).setCell ⟨w.heap.size,5,none⟩ (.slice none 0 0))=wf at bS hk2 aX ⊢;obtain⟨q0,q1,q2,q3,q4,q5⟩:=bS.six;refine bodyPost_ret (v:=.agg #[.int .u8 99,.int .i64 0,.string tb,.slice none 0 0,.slice none 0 0,.slice none 0 0]) (by simp[results,results170,go_sem,q0,q1,q2,q3,q4,q5]) rfl ?_;exact⟨hk2,by decide,_,_,_,_,_,_,_,_,_,_,_,_,k,rfl,ah _,h.to hk2 aX h.gf⟩
theorem Ko (w:World)(sb yb:Nat)(rs:RS)(ay:List Def)(lv:Value)(ws:List ByteArray)(k lo:Nat)(tb:ByteArray)(bT:bA tb.toList=none)(hpl:aN.any (· == tb.toList)=false)(b0:(tb.toList==[105,102])=false)(b1:(tb.toList==[98,101,103,105,110])=false)(b2:(tb.toList==[100,111])=false)(b3:(tb.toList==[105])=false)(b4:(tb.toList==[114,101,99,117,114,115,101])=false)(b5:(tb.toList==[101,120,105,116])=false)(b6:(tb.toList==[123])=false)(iH:eB.any (· == tb.toList)=false)(d1:(tb.toList==[58])=false)(d2:(tb.toList==[59])=false)(d3:(tb.toList==[125])=false)(hf:cR ay tb.data.toList<0)(h:bI K w sb yb rs ay lv ws k 0 lo):
  Calls prog 170 #[.pointer (some ⟨sb,0,none⟩),.string tb] w λx w'=>Kp w w' (λb=>b=sb)/\A8 K w sb yb rs ay lv ws k lo x w' (.error 3):=by
 have hsb:=h.blk.lt;have tq:=h.len;have hkl:=h.gf;go_enter func170,ntmps170
 go_wp2_with fail
 refine(dZ _ _).mono ?_;rintro e w' ⟨rfl,hw⟩;rw[hw,bR bT];clear hw
 go_wp2_with fail
 refine(cS _ _).mono ?_;rintro e w1 ⟨rfl,hk1⟩
 go_wp2_with fail
 refine(dQ _ _).mono ?_;rintro e w2 ⟨rfl,hk2⟩;have hkp:Kp w w2 (λb=>b=sb):=(((Kp.refl _ _).alloc _).trans (hk1.mono (λ_ _ h=>h.elim))).trans (hk2.mono (λ_ _ h=>h.elim));have hC:aC w2 w.heap.size 227 gK:=hk2.blk (hk1.blk (aC.new w _ _) (by simp)) (by simp);have hS:bI K w2 sb yb rs ay lv ws k 0 lo:=h.to hkp (hk2.blk (hk1.blk (h.blk.alloc _) (by simp)) (by simp)) h.gf;have hcs:¬w.heap.size=sb:=by omega
 clear hk1 hk2;have c4:w2.cell? ⟨sb,4,none⟩=some (.int .i64 lo):=hS.blk.cell rfl;have c0:w2.cell? ⟨sb,0,none⟩=some (.pointer (some ⟨yb,0,none⟩)):=hS.blk.cell rfl
 go_wp2_with fail
 refine(pM _ _ _ _ _ hS.A7 hS.dr).mono ?_;rintro e w' ⟨rfl,hw⟩;rw[hw];clear hw
 go_wp2_with fail
 refine(oK _ sb yb lv k lo 3 hS.blk).mono ?_;rintro e w3 ⟨rfl,je,hk3⟩
 replace hC:=hk3.blk hC hcs
 replace hkp:=hkp.trans hk3
 replace hS:=h.to hkp je h.gf
 clear je hk3;obtain⟨y0,y1,y2,y3,y4,y5⟩:=hC.six;obtain⟨z0,z1,z2,z3,z4,z5⟩:=hC.iT;go_wp2;have bS:=hC.dN (.int .u8 99) (.int .i64 0) (.string tb) (.slice none 0 0) (.slice none 0 0) (.slice none 0 0);have hk2:=hkp.dN (ah _) (.int .u8 99) (.int .i64 0) (.string tb) (.slice none 0 0) (.slice none 0 0) (.slice none 0 0);have aX:=hS.blk.dG (Ne.symm hcs) (.int .u8 99) (.int .i64 0) (.string tb) (.slice none 0 0) (.slice none 0 0) (.slice none 0 0);generalize ((((((w3.setCell ⟨w.heap.size,0,none⟩ (.int .u8 99)).setCell ⟨w.heap.size,1,none⟩ (.int .i64 0)).setCell ⟨w.heap.size,2,none⟩ (.string tb)).setCell ⟨w.heap.size,3,none⟩ (.slice none 0 0)).setCell ⟨w.heap.size,4,none⟩ (.slice none 0 0)).setCell ⟨w.heap.size,5,none⟩ (.slice none 0 0))=wf at bS hk2 aX ⊢;obtain⟨q0,q1,q2,q3,q4,q5⟩:=bS.six;refine bodyPost_ret (v:=.agg #[.int .u8 99,.int .i64 0,.string tb,.slice none 0 0,.slice none 0 0,.slice none 0 0]) (by simp[results,results170,go_sem,q0,q1,q2,q3,q4,q5]) rfl ?_;exact⟨hk2,by decide,_,_,_,_,_,_,_,_,_,_,_,_,k,rfl,ah _,h.to hk2 aX h.gf⟩
theorem Kq (w:World)(sb yb:Nat)(rs:RS)(ay:List Def)(lv:Value)(ws:List ByteArray)(k lo:Nat)(tb:ByteArray)(bT:bA tb.toList=none)(hpl:aN.any (· == tb.toList)=false)(b0:(tb.toList==[105,102])=false)(b1:(tb.toList==[98,101,103,105,110])=false)(b2:(tb.toList==[100,111])=false)(b3:(tb.toList==[105])=false)(b4:(tb.toList==[114,101,99,117,114,115,101])=false)(b5:(tb.toList==[101,120,105,116])=false)(b6:(tb.toList==[123])=false)(iH:eB.any (· == tb.toList)=false)(d1:(tb.toList==[58])=false)(d2:(tb.toList==[59])=false)(d3:(tb.toList==[125])=false)(hf:¬cR ay tb.data.toList<0)(h:bI K w sb yb rs ay lv ws k 0 lo):
  Calls prog 170 #[.pointer (some ⟨sb,0,none⟩),.string tb] w λx w'=>Kp w w' (λb=>b=sb)/\A8 K w sb yb rs ay lv ws k lo x w' (.ok ([⟨99,0,tb.data.toList,[],[],[]⟩],[],(aD ws).drop k)):=by
 have hsb:=h.blk.lt;have tq:=h.len;have hkl:=h.gf;go_enter func170,ntmps170
 go_wp2_with fail
 refine(dZ _ _).mono ?_;rintro e w' ⟨rfl,hw⟩;rw[hw,bR bT];clear hw
 go_wp2_with fail
 refine(cS _ _).mono ?_;rintro e w1 ⟨rfl,hk1⟩
 go_wp2_with fail
 refine(dQ _ _).mono ?_;rintro e w2 ⟨rfl,hk2⟩;have hkp:Kp w w2 (λb=>b=sb):=(((Kp.refl _ _).alloc _).trans (hk1.mono (λ_ _ h=>h.elim))).trans (hk2.mono (λ_ _ h=>h.elim));have hC:aC w2 w.heap.size 227 gK:=hk2.blk (hk1.blk (aC.new w _ _) (by simp)) (by simp);have hS:bI K w2 sb yb rs ay lv ws k 0 lo:=h.to hkp (hk2.blk (hk1.blk (h.blk.alloc _) (by simp)) (by simp)) h.gf;have hcs:¬w.heap.size=sb:=by omega
 clear hk1 hk2;have c4:w2.cell? ⟨sb,4,none⟩=some (.int .i64 lo):=hS.blk.cell rfl;have c0:w2.cell? ⟨sb,0,none⟩=some (.pointer (some ⟨yb,0,none⟩)):=hS.blk.cell rfl
 go_wp2_with fail
 refine(pM _ _ _ _ _ hS.A7 hS.dr).mono ?_;rintro e w' ⟨rfl,hw⟩;rw[hw];clear hw;obtain⟨y0,y1,y2,y3,y4,y5⟩:=hC.six;obtain⟨z0,z1,z2,z3,z4,z5⟩:=hC.iT;go_wp2;have bS:=hC.dN (.int .u8 99) (.int .i64 0) (.string tb) (.slice none 0 0) (.slice none 0 0) (.slice none 0 0);have hk2:=hkp.dN (ah _) (.int .u8 99) (.int .i64 0) (.string tb) (.slice none 0 0) (.slice none 0 0) (.slice none 0 0);have aX:=hS.blk.dG (Ne.symm hcs) (.int .u8 99) (.int .i64 0) (.string tb) (.slice none 0 0) (.slice none 0 0) (.slice none 0 0);generalize ((((((w2.setCell ⟨w.heap.size,0,none⟩ (.int .u8 99)).setCell ⟨w.heap.size,1,none⟩ (.int .i64 0)).setCell ⟨w.heap.size,2,none⟩ (.string tb)).setCell ⟨w.heap.size,3,none⟩ (.slice none 0 0)).setCell ⟨w.heap.size,4,none⟩ (.slice none 0 0)).setCell ⟨w.heap.size,5,none⟩ (.slice none 0 0))=wf at bS hk2 aX ⊢;obtain⟨q0,q1,q2,q3,q4,q5⟩:=bS.six;refine bodyPost_ret (v:=.agg #[.int .u8 99,.int .i64 0,.string tb,.slice none 0 0,.slice none 0 0,.slice none 0 0]) (by simp[results,results170,go_sem,q0,q1,q2,q3,q4,q5]) rfl ?_;exact⟨hk2,_,_,_,_,_,k,rfl,rfl,pQ.leaf 99 0 tb Cu,rfl,ah _,h.to hk2 aX h.gf⟩
theorem Kr (w:World)(sb yb:Nat)(rs:RS)(ay:List Def)(lv:Value)(ws:List ByteArray)(k lo:Nat)(tb:ByteArray)(bT:bA tb.toList=none)(hpl:aN.any (· == tb.toList)=false)(b0:(tb.toList==[105,102])=false)(b1:(tb.toList==[98,101,103,105,110])=false)(b2:(tb.toList==[100,111])=false)(b3:(tb.toList==[105])=false)(b4:(tb.toList==[114,101,99,117,114,115,101])=false)(b5:(tb.toList==[101,120,105,116])=false)(b6:(tb.toList==[123])=true)(res:fh)(aG:res=match bh ((aD ws).drop k) with | .error e=>.error e | .ok (ts,r1)=>.ok ([⟨123,0,[],[],[],ts⟩],[],r1))(h:bI K w sb yb rs ay lv ws k 0 lo):
  Calls prog 170 #[.pointer (some ⟨sb,0,none⟩),.string tb] w λx w'=>Kp w w' (λb=>b=sb)/\A8 K w sb yb rs ay lv ws k lo x w' (res):=by
 have hsb:=h.blk.lt;have tq:=h.len;have hkl:=h.gf;go_enter func170,ntmps170
 go_wp2_with fail
 refine(dZ _ _).mono ?_;rintro e w' ⟨rfl,hw⟩;rw[hw,bR bT];clear hw
 go_wp2_with fail
 refine(cS _ _).mono ?_;rintro e w1 ⟨rfl,hk1⟩
 go_wp2_with fail
 refine(dQ _ _).mono ?_;rintro e w2 ⟨rfl,hk2⟩;have hkp:Kp w w2 (λb=>b=sb):=(((Kp.refl _ _).alloc _).trans (hk1.mono (λ_ _ h=>h.elim))).trans (hk2.mono (λ_ _ h=>h.elim));have hC:aC w2 w.heap.size 227 gK:=hk2.blk (hk1.blk (aC.new w _ _) (by simp)) (by simp);have hS:bI K w2 sb yb rs ay lv ws k 0 lo:=h.to hkp (hk2.blk (hk1.blk (h.blk.alloc _) (by simp)) (by simp)) h.gf;have hcs:¬w.heap.size=sb:=by omega
 clear hk1 hk2;have c4:w2.cell? ⟨sb,4,none⟩=some (.int .i64 lo):=hS.blk.cell rfl;have HR:=az aG;clear aG
 go_wp2_with fail
 refine(NZ _ sb yb rs ay lv ws k lo hS).mono ?_;rintro x w3 ⟨hk3,hp⟩;have Yo:=hC.lt
 replace hC:=hk3.blk hC hcs
 have SA:=hkp.size
 replace hkp:=hkp.trans hk3
 cases hpb:bh ((aD ws).drop k) with
 | error er=>
  rw[hpb] at hp HR;obtain⟨her,ao,n,cap,k2,rfl,hkk,iw⟩:=hp
  replace hS:=iw
  clear iw hk3 hpb;obtain⟨y0,y1,y2,y3,y4,y5⟩:=hC.six;obtain⟨z0,z1,z2,z3,z4,z5⟩:=hC.iT;go_wp2;have bS:=hC.dN (.int .u8 123) (.int .i64 0) (.string ⟨#[]⟩) (.slice none 0 0) (.slice none 0 0) (.slice ao n cap);have hk2:=hkp.dN (ah _) (.int .u8 123) (.int .i64 0) (.string ⟨#[]⟩) (.slice none 0 0) (.slice none 0 0) (.slice ao n cap);have aX:=hS.blk.dG (Ne.symm hcs) (.int .u8 123) (.int .i64 0) (.string ⟨#[]⟩) (.slice none 0 0) (.slice none 0 0) (.slice ao n cap);generalize ((((((w3.setCell ⟨w.heap.size,0,none⟩ (.int .u8 123)).setCell ⟨w.heap.size,1,none⟩ (.int .i64 0)).setCell ⟨w.heap.size,2,none⟩ (.string ⟨#[]⟩)).setCell ⟨w.heap.size,3,none⟩ (.slice none 0 0)).setCell ⟨w.heap.size,4,none⟩ (.slice none 0 0)).setCell ⟨w.heap.size,5,none⟩ (.slice ao n cap))=wf at bS hk2 aX ⊢;obtain⟨q0,q1,q2,q3,q4,q5⟩:=bS.six;refine bodyPost_ret (v:=.agg #[.int .u8 123,.int .i64 0,.string ⟨#[]⟩,.slice none 0 0,.slice none 0 0,.slice ao n cap]) (by simp[results,results170,go_sem,q0,q1,q2,q3,q4,q5]) rfl ?_;rw[HR.out];exact⟨hk2,her,_,_,_,_,_,_,_,_,_,_,_,_,k2,rfl,hkk,h.to hk2 aX hS.gf⟩
 | ok p=>
  obtain⟨bs,r⟩:=p;rw[hpb] at hp HR;obtain⟨vt,k2,rfl,ht,hbl,rfl,hkk,iw⟩:=hp;obtain⟨gF,js,ht2⟩:=ht;obtain⟨a5,p5,rfl⟩:=aB js
  replace hS:=iw
  have Ld:Hid (ek (New w2) w3 (.slice a5 gF.length p5) bs):=⟨gF,js,ht2⟩;clear iw hk3 hpb js ht2;obtain⟨y0,y1,y2,y3,y4,y5⟩:=hC.six;obtain⟨z0,z1,z2,z3,z4,z5⟩:=hC.iT;go_wp2;have bS:=hC.dN (.int .u8 123) (.int .i64 0) (.string ⟨#[]⟩) (.slice none 0 0) (.slice none 0 0) (.slice a5 gF.length p5);have hk2:=hkp.dN (ah _) (.int .u8 123) (.int .i64 0) (.string ⟨#[]⟩) (.slice none 0 0) (.slice none 0 0) (.slice a5 gF.length p5);have aX:=hS.blk.dG (Ne.symm hcs) (.int .u8 123) (.int .i64 0) (.string ⟨#[]⟩) (.slice none 0 0) (.slice none 0 0) (.slice a5 gF.length p5);have hkeep:aF (New w2) (New w) w3 ((((((w3.setCell ⟨w.heap.size,0,none⟩ (.int .u8 123)).setCell ⟨w.heap.size,1,none⟩ (.int .i64 0)).setCell ⟨w.heap.size,2,none⟩ (.string ⟨#[]⟩)).setCell ⟨w.heap.size,3,none⟩ (.slice none 0 0)).setCell ⟨w.heap.size,4,none⟩ (.slice none 0 0)).setCell ⟨w.heap.size,5,none⟩ (.slice a5 gF.length p5)):=λb t' c hb hbl _=>by
   have hb:w2.heap.size<=b:=hb;have hC0:w.heap.size<w2.heap.size:=Yo;exact⟨hbl.dG (by omega) _ _ _ _ _ _,by show w.heap.size<=b;omega⟩
  generalize ((((((w3.setCell ⟨w.heap.size,0,none⟩ (.int .u8 123)).setCell ⟨w.heap.size,1,none⟩ (.int .i64 0)).setCell ⟨w.heap.size,2,none⟩ (.string ⟨#[]⟩)).setCell ⟨w.heap.size,3,none⟩ (.slice none 0 0)).setCell ⟨w.heap.size,4,none⟩ (.slice none 0 0)).setCell ⟨w.heap.size,5,none⟩ (.slice a5 gF.length p5))=wf at bS hk2 aX hkeep ⊢;obtain⟨q0,q1,q2,q3,q4,q5⟩:=bS.six;refine bodyPost_ret (v:=.agg #[.int .u8 123,.int .i64 0,.string ⟨#[]⟩,.slice none 0 0,.slice none 0 0,.slice a5 gF.length p5]) (by simp[results,results170,go_sem,q0,q1,q2,q3,q4,q5]) rfl ?_;rw[HR.out];exact⟨hk2,_,⟨#[]⟩,_,_,_,k2,rfl,rfl,⟨rfl,fE.nil _ _,fE.nil _ _,aM hkeep Ld.out,⟨Cu,hbl⟩⟩,rfl,hkk,h.to hk2 aX hS.gf⟩
end
end Go.Proofs.YteainaiebcphlaaGreatDoor
