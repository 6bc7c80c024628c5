import Derived.Test.YteainaiebcphlaaGreatDoorV11
import Derived.Test.YteainaiebcphlaaGreatDoorV8
import Derived.Maps.OwnSet
namespace Go.Proofs.YteainaiebcphlaaGreatDoor
set_option maxRecDepth 1000000
set_option maxHeartbeats 4000000
set_option linter.all false
section
open Go.RowKit
variable {K:Nat->Prop}
theorem eq_k {tb:ByteArray} {k:Tok} (h:(tb.toList == k)=true):tb.data.toList=k:=by
 rw[ByteArray.toList_eq] at h;simpa using h
theorem itemP (G:Nat) (IH:∀ g,g < G->CBodyP K g):CItemP K G:=by
 intro w sb yb rs defs lv ws k lo tb res hres h hlo
 cases G with
 | zero=>rw[pI0] at hres;cases hres
 | succ g=>
 have hI:=IH g (by omega);have te:=ByteArray.toList_eq tb
 cases hnum:numP tb.toList with
 | some n=>
  rw[<-te,pI_num hnum] at hres;injection hres with hres;subst hres;exact itP_num w sb yb rs defs lv ws k lo tb n hnum h
 | none=>
 cases hpl:plainL.any (· == tb.toList) with
 | true=>
  rw[<-te,pI_plain hnum hpl,te] at hres;injection hres with hres;subst hres;exact itP_plain w sb yb rs defs lv ws k lo tb hnum hpl h
 | false=>
 cases b0:(tb.toList == [105,102]) with
 | true=>
  rw[eq_k b0] at hres;exact itP_if w sb yb rs defs lv ws k lo tb hnum hpl b0 g hI hlo res hres h
 | false=>
 cases b1:(tb.toList == [98,101,103,105,110]) with
 | true=>
  rw[eq_k b1] at hres;exact itP_begin w sb yb rs defs lv ws k lo tb hnum hpl b0 b1 g hI hlo res hres h
 | false=>
 cases b2:(tb.toList == [100,111]) with
 | true=>
  rw[eq_k b2] at hres;exact itP_do w sb yb rs defs lv ws k lo tb hnum hpl b0 b1 b2 g hI hlo res hres h
 | false=>
 cases b3:(tb.toList == [105]) with
 | true=>
  rw[eq_k b3] at hres;have tk:tb.toList=kI:=by rw[te];exact eq_k b3
  by_cases hl:0 < lo
  ·have:=pI_i (known:=knownD defs) (g:=g) (r:=(texts ws).drop k) hl;rw[show ([105]:Tok)=kI from rfl,this] at hres;injection hres with hres;subst hres;exact itP_i w sb yb rs defs lv ws k lo tb hnum hpl b0 b1 b2 b3 hl h
  ·have hl0:lo=0:=by omega
   have:=pI_i0 (known:=knownD defs) (g:=g) (r:=(texts ws).drop k);rw[hl0,show ([105]:Tok)=kI from rfl,this] at hres;injection hres with hres;subst hres;exact itP_i0 w sb yb rs defs lv ws k lo tb hnum hpl b0 b1 b2 b3 hl0 (by rw[tk];decide) (by rw[tk];decide) (by rw[tk];decide) (by rw[tk];decide) h
 | false=>
 cases b4:(tb.toList == [114,101,99,117,114,115,101]) with
 | true=>
  rw[eq_k b4] at hres;have:=pI_rec (known:=knownD defs) (g:=g) (lo:=lo) (r:=(texts ws).drop k);rw[show ([114,101,99,117,114,115,101]:Tok)=kRecurse from rfl,this] at hres;injection hres with hres;subst hres;exact itP_rec w sb yb rs defs lv ws k lo tb hnum hpl b0 b1 b2 b3 b4 h
 | false=>
 cases b5:(tb.toList == [101,120,105,116]) with
 | true=>
  rw[eq_k b5] at hres;have:=pI_exit (known:=knownD defs) (g:=g) (lo:=lo) (r:=(texts ws).drop k);rw[show ([101,120,105,116]:Tok)=kExit from rfl,this] at hres;injection hres with hres;subst hres;exact itP_exit w sb yb rs defs lv ws k lo tb hnum hpl b0 b1 b2 b3 b4 b5 h
 | false=>
 cases b6:(tb.toList == [123]) with
 | true=>
  rw[eq_k b6] at hres;have:=pI_open (known:=knownD defs) (g:=g) (lo:=lo) (r:=(texts ws).drop k);rw[show ([123]:Tok)=kOpen from rfl,this] at hres;refine itP_open w sb yb rs defs lv ws k lo tb hnum hpl b0 b1 b2 b3 b4 b5 b6 res ?_ h
  split at hres
  ·injection hres with hres;rename_i he;rw[he];exact hres.symm
  ·injection hres with hres;rename_i he;rw[he];exact hres.symm
 | false=>
 have hO:Other tb.toList:=⟨hnum,hpl,b0,b1,b2,b3,b4,b5,b6⟩;rw[<-te,hO.one] at hres
 cases hkept:keptL.any (· == tb.toList) with
 | true=>
  rw[if_pos (by unfold formD;rw[hkept];rfl)] at hres;injection hres with hres;subst hres;exact itP_kept w sb yb rs defs lv ws k lo tb hnum hpl b0 b1 b2 b3 b4 b5 b6 hkept h
 | false=>
 cases d1:(tb.toList == [58]) with
 | true=>
  rw[if_pos (by unfold formD;rw[hkept,show kColon=[58] from rfl,d1];rfl)] at hres;injection hres with hres;subst hres;exact itP_colon w sb yb rs defs lv ws k lo tb hnum hpl b0 b1 b2 b3 b4 b5 b6 hkept d1 h
 | false=>
 cases d2:(tb.toList == [59]) with
 | true=>
  rw[if_pos (by unfold formD;rw[hkept,show kColon=[58] from rfl,d1,show kSemi=[59] from rfl,d2];rfl)] at hres;injection hres with hres;subst hres;exact itP_semi w sb yb rs defs lv ws k lo tb hnum hpl b0 b1 b2 b3 b4 b5 b6 hkept d1 d2 h
 | false=>
 cases d3:(tb.toList == [125]) with
 | true=>
  rw[if_pos (by unfold formD;rw[hkept,show kColon=[58] from rfl,d1,show kSemi=[59] from rfl,d2,show kClose=[125] from rfl,d3];rfl)] at hres;injection hres with hres;subst hres;exact itP_close w sb yb rs defs lv ws k lo tb hnum hpl b0 b1 b2 b3 b4 b5 b6 hkept d1 d2 d3 h
 | false=>
 rw[if_neg (by unfold formD;rw[hkept,show kColon=[58] from rfl,d1,show kSemi=[59] from rfl,d2,show kClose=[125] from rfl,d3];decide)] at hres;by_cases hf:findI defs tb.data.toList < 0
 ·rw[if_neg (by rw[te,knownD_neg hf];decide)] at hres;injection hres with hres;subst hres;exact itP_word w sb yb rs defs lv ws k lo tb hnum hpl b0 b1 b2 b3 b4 b5 b6 hkept d1 d2 d3 hf h
 ·rw[if_pos (by rw[te,knownD_pos hf]),te] at hres;injection hres with hres;subst hres;exact itP_call w sb yb rs defs lv ws k lo tb hnum hpl b0 b1 b2 b3 b4 b5 b6 hkept d1 d2 d3 hf h
theorem readP:∀ G,CItemP K G/\CBodyP K G:=by
 intro G
 induction G using Nat.strongRecOn with
 | ind G ih=>exact⟨itemP G (fun g hg=>(ih g hg).2),bodyP G (fun g hg=>(ih g hg).1)⟩
abbrev DRes:=Except Int (Tok × List It × List Tok)
def pDefD (g:Nat) (defs:List Def):List Tok->Option DRes
 | []=>some (.error 4)
 | t :: r=>if isName t=false then some (.error 4) else if knownD defs t=false/\30<=defs.length then some (.error 5) else
  match pRead (knownD defs) g ⟨false,0,[kSemi],[]⟩ r with
  | none=>none
  | some (.error e)=>some (.error e)
  | some (.ok (b,_,r1))=>some (.ok (t,b,r1))
theorem pDef_eq (g:Nat) (s:St) (l:List Tok):pDef g s l=pDefD g s.defs l:=by
 cases l <;> rfl
theorem tx_semi:texts [⟨#[59]⟩]=[kSemi]:=rfl
def PDe (K:Nat->Prop) (ws:List ByteArray) (k:Nat) (x:Ending) (w':World):DRes->Prop
 | .ok (nm,b,r)=>∃ tb v k',x=.returned (.tuple #[.string tb,v,.int .i64 (k':Nat),.int .i64 0])/\tb.data.toList=nm/\Body K w' v b/\r=(texts ws).drop k'/\k<=k'/\k'<=ws.length
 | .error er=>er ≠ 0/\∃ tb v n,x=.returned (.tuple #[.string tb,v,n,.int .i64 er])
theorem results_tmp4 {fn:Func} {t u v x:Tmp} (h:fn.results=#[.tmp t,.tmp u,.tmp v,.tmp x]) (tmps:Array Value) (P:Program) (w:World):
  (results fn tmps).run P w=.ok (.tuple #[tmps.getD t undef,tmps.getD u undef,tmps.getD v undef,tmps.getD x undef]) w:=by
 simp[results,h]
theorem ScInv.first {w:World} {yb:Nat} {rs:RS} {defs:List Def} {lv:Value} {ws:List ByteArray} {k:Nat} (hy:Blk w yb 67 rs.arr) (hd:DRel K w rs.d.dv defs) (hr:w.ownsRow 0 9 1 lv ws.length (ws.map Value.string)) (hl:ws.length<=1000) (hk:k<=ws.length):
  ScInv K (w.alloc (.cells (scArr yb lv k 0 0) 181)) w.heap.size yb rs defs lv ws k 0 0:=
 ⟨Blk.new w _ _,hy.alloc _,hd.kp ((Kp.refl w (fun _=>False)).alloc _) (fun _ _ _ h=>h.elim) (fun _ _ h=>h.elim),hr.alloc _,hl,hk⟩
theorem Kp.newer {w w1 w2:World} {b:Nat} (h:Kp w w1 (fun _=>False)) (hk:Kp w1 w2 (fun k=>k=b)) (hb:w.heap.size<=b):Kp w w2 (fun _=>False):=
 ⟨hk.os.trans h.os,hk.tape.trans h.tape,hk.output.trans h.output,Nat.le_trans h.size hk.size,fun k hlt hn=>(hk.block k (Nat.lt_of_lt_of_le hlt h.size) (by omega)).trans (h.block k hlt hn)⟩
theorem defineS_end (w:World) (yb:Nat) (rs:RS) (defs:List Def) (lv:Value) (ws:List ByteArray) (hy:Blk w yb 67 rs.arr) (hd:DRel K w rs.d.dv defs) (hr:w.ownsRow 0 9 1 lv ws.length (ws.map Value.string)) (hl:ws.length<=1000):
  Calls Tryz.prog 84 #[.pointer (some ⟨yb,0,none⟩),lv,.int .i64 ws.length] w fun x w'=>Kp w w' (fun _=>False)/\PDe K ws ws.length x w' (.error 4):=by
 have hS:=ScInv.first (k:=ws.length) hy hd hr hl (Nat.le_refl _)
 obtain⟨ao,cap,rfl⟩:=row_slice hr;clear hr hy hd;go_enter Tryz.func84,Tryz.ntmps84
 go_wp2_with fail
 refine (nextS_end _ _ yb _ _ _ 0 hS.row hS.blk hl).mono ?_;rintro e w1 ⟨rfl,hB1,hk1⟩;have hkp:=((Kp.refl w (fun _=>False)).alloc _).newer hk1 (Nat.le_refl _);clear hk1 hS
 go_wp2_with fail
 refine (nameS _ _).mono ?_;rintro e w2 ⟨rfl,hk2⟩;have hB2:=hk2.blk hB1 (by simp)
 replace hkp:=hkp.trans hk2
 have c3:w2.cell? ⟨w.heap.size,3,none⟩=some (.int .i64 4):=hB2.cell rfl;clear hk2 hB1;go_wp2
 go_quiet (fail)
 go_wp2;refine bodyPost_ret (results_tmp4 rfl _ _ _) rfl ?_;exact⟨hkp.drewN _,by decide,_,_,_,rfl⟩
theorem defineS_name (w:World) (yb:Nat) (rs:RS) (defs:List Def) (lv:Value) (ws:List ByteArray) (k:Nat) (hk:k < ws.length) (hy:Blk w yb 67 rs.arr) (hd:DRel K w rs.d.dv defs) (hr:w.ownsRow 0 9 1 lv ws.length (ws.map Value.string)) (hl:ws.length<=1000)
  (hnm:isName ws[k].data.toList=false):
  Calls Tryz.prog 84 #[.pointer (some ⟨yb,0,none⟩),lv,.int .i64 k] w fun x w'=>Kp w w' (fun _=>False)/\PDe K ws k x w' (.error 4):=by
 have hS:=ScInv.first (k:=k) hy hd hr hl (by omega)
 obtain⟨ao,cap,rfl⟩:=row_slice hr;clear hr hy hd;go_enter Tryz.func84,Tryz.ntmps84
 go_wp2_with fail
 refine (nextS_ok _ _ yb _ ws k 0 hS.row hS.blk hl hk).mono ?_;rintro e w1 ⟨rfl,hB1,hk1⟩;have hkp:=((Kp.refl w (fun _=>False)).alloc _).newer hk1 (Nat.le_refl _);clear hk1 hS
 go_wp2_with fail
 refine (nameS _ _).mono ?_;rintro e w2 ⟨rfl,hk2⟩;have hB2:=hk2.blk hB1 (by simp)
 replace hkp:=hkp.trans hk2
 have c3:w2.cell? ⟨w.heap.size,3,none⟩=some (.int .i64 0):=hB2.cell rfl;clear hk2 hB1;rw[hnm]
 go_wp2_with fail
 refine (failS _ _ yb _ (k+1) 0 4 hB2).mono ?_;rintro e w3 ⟨rfl,hB3,hk3⟩
 replace hkp:=hkp.newer hk3 (Nat.le_refl _)
 have c4:w3.cell? ⟨w.heap.size,3,none⟩=some (.int .i64 4):=hB3.cell rfl;clear hk3 hB2 c3;go_wp2
 go_quiet (fail)
 go_wp2;refine bodyPost_ret (results_tmp4 rfl _ _ _) rfl ?_;exact⟨hkp.drewN _,by decide,_,_,_,rfl⟩
theorem defineS_full (w:World) (yb:Nat) (rs:RS) (defs:List Def) (lv:Value) (ws:List ByteArray) (k:Nat) (hk:k < ws.length) (hy:Blk w yb 67 rs.arr) (hd:DRel K w rs.d.dv defs) (hr:w.ownsRow 0 9 1 lv ws.length (ws.map Value.string)) (hl:ws.length<=1000)
  (hnm:isName ws[k].data.toList=true) (hf:findI defs ws[k].data.toList < 0) (h30:30<=defs.length):
  Calls Tryz.prog 84 #[.pointer (some ⟨yb,0,none⟩),lv,.int .i64 k] w fun x w'=>Kp w w' (fun _=>False)/\PDe K ws k x w' (.error 5):=by
 have hS:=ScInv.first (k:=k) hy hd hr hl (by omega)
 obtain⟨ao,cap,rfl⟩:=row_slice hr;clear hr hy hd;go_enter Tryz.func84,Tryz.ntmps84
 go_wp2_with fail
 refine (nextS_ok _ _ yb _ ws k 0 hS.row hS.blk hl hk).mono ?_;rintro e w1 ⟨rfl,hB1,hk1⟩;have hkp:=((Kp.refl w (fun _=>False)).alloc _).newer hk1 (Nat.le_refl _);have hS1:=hS.to hk1 hB1 (by omega);clear hk1 hS hB1
 go_wp2_with fail
 refine (nameS _ _).mono ?_;rintro e w2 ⟨rfl,hk2⟩;have hS2:=hS1.kp hk2;have hB2:=hS2.blk;have hdl:=hS2.dr.len;obtain⟨xsd,hrd,-⟩:=hS2.dr.ex;obtain⟨aod,capd,hvd⟩:=row_slice hrd;have cd:w2.cell? ⟨yb,17,none⟩=some (.slice aod defs.length capd):=by rw[<-hvd];exact hS2.yblk.cell rfl
 replace hkp:=hkp.trans hk2
 have c3:w2.cell? ⟨w.heap.size,3,none⟩=some (.int .i64 0):=hB2.cell rfl;clear hk2 hS1 hrd hvd;rw[hnm]
 go_wp2_with fail
 refine (findS _ _ _ _ _ hS2.yblk hS2.dr).mono ?_;rintro e w' ⟨rfl,hw⟩;rw[hw];clear hw
 go_wp2_with fail
 refine (failS _ _ yb _ (k+1) 0 5 hB2).mono ?_;rintro e w3 ⟨rfl,hB3,hk3⟩
 replace hkp:=hkp.newer hk3 (Nat.le_refl _)
 have c4:w3.cell? ⟨w.heap.size,3,none⟩=some (.int .i64 5):=hB3.cell rfl;clear hk3 hB2 c3 hS2;go_wp2
 go_quiet (fail)
 go_wp2;refine bodyPost_ret (results_tmp4 rfl _ _ _) rfl ?_;exact⟨hkp.drewN _,by decide,_,_,_,rfl⟩
theorem defineS_body (w:World) (yb:Nat) (rs:RS) (defs:List Def) (lv:Value) (ws:List ByteArray) (k:Nat) (hk:k < ws.length) (hy:Blk w yb 67 rs.arr) (hd:DRel K w rs.d.dv defs) (hr:w.ownsRow 0 9 1 lv ws.length (ws.map Value.string)) (hl:ws.length<=1000)
  (hnm:isName ws[k].data.toList=true) (hf:¬ findI defs ws[k].data.toList < 0\/(findI defs ws[k].data.toList < 0/\defs.length < 30)) (g:Nat) (res:PRes) (hres:pRead (knownD defs) g ⟨false,0,[kSemi],[]⟩ ((texts ws).drop (k+1))=some res):
  Calls Tryz.prog 84 #[.pointer (some ⟨yb,0,none⟩),lv,.int .i64 k] w fun x w'=>Kp w w' (fun _=>False)/\PDe K ws k x w' (match (generalizing:=false) res with | .error e=>.error e | .ok (b,_,r1)=>.ok (ws[k].data.toList,b,r1)):=by
 have HR:=hide hres;clear hres;have hS:=ScInv.first (k:=k) hy hd hr hl (by omega)
 obtain⟨ao,cap,rfl⟩:=row_slice hr;have HOLD:=hide hd.old;clear hr hy hd;go_enter Tryz.func84,Tryz.ntmps84
 go_wp2_with fail
 refine (nextS_ok _ _ yb _ ws k 0 hS.row hS.blk hl hk).mono ?_;rintro e w1 ⟨rfl,hB1,hk1⟩;have hkp:=((Kp.refl w (fun _=>False)).alloc _).newer hk1 (Nat.le_refl _);have hS1:=hS.to hk1 hB1 (by omega);clear hk1 hS hB1
 go_wp2_with fail
 refine (nameS _ _).mono ?_;rintro e w2 ⟨rfl,hk2⟩;have hS2:=hS1.kp hk2;have hB2:=hS2.blk;have hdl:=hS2.dr.len;obtain⟨xsd,hrd,-⟩:=hS2.dr.ex;obtain⟨aod,capd,hvd⟩:=row_slice hrd;have cd:w2.cell? ⟨yb,17,none⟩=some (.slice aod defs.length capd):=by rw[<-hvd];exact hS2.yblk.cell rfl
 replace hkp:=hkp.trans hk2
 have c3:w2.cell? ⟨w.heap.size,3,none⟩=some (.int .i64 0):=hB2.cell rfl;clear hk2 hS1 hrd hvd;rw[hnm]
 go_wp2_with fail
 refine (findS _ _ _ _ _ hS2.yblk hS2.dr).mono ?_;rintro e w' ⟨rfl,hw⟩;rw[hw];clear hw;have hE:=Blk.new w2 #[.string ⟨#[59]⟩] 9;rcases hf with hf|⟨hf,hf2⟩
 all_goals
  go_wp2_with fail
  refine ((readP g).2 _ _ yb rs defs _ ws (k+1) 0 _ [⟨#[59]⟩] res (by rw[tx_semi];exact HR.out) (hS2.kp ((Kp.refl _ _).alloc _)) (by omega) hE (by decide)).mono ?_;rintro x w3 ⟨hk3,hp⟩;have hkp3:=(hkp.alloc (.cells #[.string ⟨#[59]⟩] 9)).newer hk3 (Nat.le_refl _);rcases res with er|⟨b,t',r1⟩
  ·obtain⟨her,k2,rfl,hkk,hS3⟩:=hp;have d2:w3.cell? ⟨w.heap.size,2,none⟩=some (.int .i64 k2):=hS3.blk.cell rfl;have d3:w3.cell? ⟨w.heap.size,3,none⟩=some (.int .i64 er):=hS3.blk.cell rfl;clear hS3 hk3;go_wp2
   go_quiet (fail)
   go_wp2;refine bodyPost_ret (results_tmp4 rfl _ _ _) rfl ?_;exact⟨hkp3.drewN _,her,_,_,_,rfl⟩
  ·obtain⟨v,tb,k2,rfl,-,hbo,rfl,hkk,hS3⟩:=hp;have d2:w3.cell? ⟨w.heap.size,2,none⟩=some (.int .i64 k2):=hS3.blk.cell rfl;have d3:w3.cell? ⟨w.heap.size,3,none⟩=some (.int .i64 0):=hS3.blk.cell rfl;have hkl3:=hS3.kle;clear hS3 hk3;go_wp2
   go_quiet (fail)
   go_wp2;refine bodyPost_ret (results_tmp4 rfl _ _ _) rfl ?_;exact⟨hkp3.drewN _,_,_,k2,rfl,rfl,hbo.keep (fun b t c hnew h _=>⟨h,fun hK=>by have h1:=HOLD.out b hK;have h2:=hkp.size;have h3:(w2.alloc (.cells #[.string ⟨#[59]⟩] 9)).heap.size<=b:=hnew;simp at h3;omega⟩),rfl,by omega,hkl3⟩
theorem defineS (w:World) (yb:Nat) (rs:RS) (defs:List Def) (lv:Value) (ws:List ByteArray) (k:Nat) (hk:k<=ws.length) (hy:Blk w yb 67 rs.arr) (hd:DRel K w rs.d.dv defs) (hr:w.ownsRow 0 9 1 lv ws.length (ws.map Value.string)) (hl:ws.length<=1000)
  (g:Nat) (res:DRes) (hres:pDefD g defs ((texts ws).drop k)=some res):
  Calls Tryz.prog 84 #[.pointer (some ⟨yb,0,none⟩),lv,.int .i64 k] w fun x w'=>Kp w w' (fun _=>False)/\PDe K ws k x w' res:=by
 by_cases hlt:k < ws.length
 ·rw[texts_drop ws k hlt] at hres;unfold pDefD at hres;dsimp only at hres
  cases hnm:isName ws[k].data.toList with
  | false=>
   rw[if_pos hnm] at hres;injection hres with hres;subst hres;exact defineS_name w yb rs defs lv ws k hlt hy hd hr hl hnm
  | true=>
   rw[if_neg (by rw[hnm];decide)] at hres;by_cases hf:findI defs ws[k].data.toList < 0
   ·by_cases h30:30<=defs.length
    ·rw[if_pos ⟨knownD_neg hf,h30⟩] at hres;injection hres with hres;subst hres;exact defineS_full w yb rs defs lv ws k hlt hy hd hr hl hnm hf h30
    ·rw[if_neg (fun e=>h30 e.2)] at hres
     split at hres
     ·cases hres
     ·rename_i e he;injection hres with hres;subst hres
      exact defineS_body w yb rs defs lv ws k hlt hy hd hr hl hnm (.inr ⟨hf,by omega⟩) g (.error e) he
     ·rename_i b t' r1 he;injection hres with hres;subst hres
      exact defineS_body w yb rs defs lv ws k hlt hy hd hr hl hnm (.inr ⟨hf,by omega⟩) g (.ok (b,t',r1)) he
   ·rw[if_neg (fun e=>by rw[knownD_pos hf] at e;exact absurd e.1 (by decide))] at hres
    split at hres
    ·cases hres
    ·rename_i e he;injection hres with hres;subst hres
     exact defineS_body w yb rs defs lv ws k hlt hy hd hr hl hnm (.inl hf) g (.error e) he
    ·rename_i b t' r1 he;injection hres with hres;subst hres
     exact defineS_body w yb rs defs lv ws k hlt hy hd hr hl hnm (.inl hf) g (.ok (b,t',r1)) he
 ·have:k=ws.length:=by omega
  subst this;rw[texts_end] at hres;injection hres with hres;subst hres;exact defineS_end w yb rs defs lv ws hy hd hr hl
end
section
open Go.RowKit
def TokAt (M:Mem) (v:Value) (ws:List ByteArray):Prop:=
 (ws=[]/\∃ ao cap,v=.slice ao 0 cap)\/∃ g off cap cur,v=.slice (some ⟨g,off,none⟩) ws.length cap/\M g 9 cur/\ws.length<=cap/\off+cap<=maxLen/\off+cap<=cur.size/\∀ i (h:i < ws.length),cur[off+i]? = some (.string ws[i])
theorem TokAt_mono {M M':Mem} (h:∀ b c,M b 9 c->M' b 9 c) {v:Value} {ws:List ByteArray} (hr:TokAt M v ws):TokAt M' v ws:=by
 rcases hr with hr|⟨g,off,cap,cur,h1,h2,h3⟩
 ·exact .inl hr
 ·exact .inr ⟨g,off,cap,cur,h1,h _ _ h2,h3⟩
theorem TokAt.form {M:Mem} {v:Value} {ws:List ByteArray} (h:TokAt M v ws):∃ ao cap,v=.slice ao ws.length cap:=by
 rcases h with⟨rfl,ao,cap,rfl⟩|⟨g,off,cap,cur,rfl,_⟩
 ·exact⟨ao,cap,rfl⟩
 ·exact⟨_,cap,rfl⟩
def heldR (v:Value):Option (DataW Value × List MemPlace):=some (.held v,[])
structure BookK (w:World) (bk mb:Nat) (known:Tok->Bool):Prop where
 ex:∃ h b,Blk w bk 106 #[.map (some mb),.int .i64 h,.int .i64 b]
 look:∃ n DD,w.ownsMap Tryz.prog 9 heldR mb n DD/\∀ t:Tok,t.length<=maxLen->∃ p,DD.atKey (.string t) (.held (.pointer none))=.held (.pointer p)/\p.isSome=known t
def rdArr (rv:Value) (bk:Nat) (lo:Nat):Array Value:=#[rv,.func (.func 74) #[pt bk] #[],.int .i64 lo]
def okW (t:ByteArray):Prop:=t.toList ≠ []/\t.size<=1000
def SpAt (w:World):Prop:=∃ tt fr,w.heap[1]? = some (.cells spellA tt fr)
structure RdInv (w:World) (sb bk mb:Nat) (known:Tok->Bool) (ws:List ByteArray) (lo:Nat):Prop where
 blk:∃ rv,Blk w sb 201 (rdArr rv bk lo)/\TokAt (BD (fun b=>b < sb) w) rv ws
 book:BookK w bk mb known
 len:ws.length+lo<=1000
 ok:∀ t∈ws,okW t
 sp:SpAt w
 s1:sb ≠ 1
theorem ownsMap_same {w w':World} {b n:Nat} {DD:DataW Value} (h:w.ownsMap Tryz.prog 9 heldR b n DD) (e:w'.heap[b]? = w.heap[b]?):w'.ownsMap Tryz.prog 9 heldR b n DD:=by
 obtain⟨es,clock,h1,h2⟩:=h;exact⟨es,clock,e.trans h1,h2⟩
theorem map_ne {w:World} {b n:Nat} {DD:DataW Value} (h:w.ownsMap Tryz.prog 9 heldR b n DD) {b':Nat} {t:TypeId} {c:Array Value} (hb:Blk w b' t c):b ≠ b':=by
 obtain⟨es,clock,h1,_⟩:=h;rintro rfl;have:w.heap[b]? = _:=hb;rw[h1] at this;injection this with this;cases this
theorem BookK.blk {w:World} {bk mb:Nat} {known:Tok->Bool} (h:BookK w bk mb known):Blk w bk 106 #[.map (some mb),.int .i64 h.ex.choose,.int .i64 h.ex.choose_spec.choose]:=h.ex.choose_spec.choose_spec
theorem BookK.kp {w w':World} {bk mb:Nat} {known:Tok->Bool} {V:Nat->Prop} (h:BookK w bk mb known) (hk:Kp w w' V) (h1:¬ V bk) (h2:¬ V mb):BookK w' bk mb known:=by
 obtain⟨n,DD,hm,hl⟩:=h.look;obtain⟨h0,b0,hb⟩:=h.ex;exact⟨⟨h0,b0,hk.blk hb h1⟩,n,DD,ownsMap_same hm (hk.block mb hm.lt h2),hl⟩
theorem BookK.one {w w':World} {bk mb b:Nat} {known:Tok->Bool} (h:BookK w bk mb known) (hk:Kp w w' (fun k=>k=b)) {t:TypeId} {c:Array Value} (hb:Blk w b t c) (ht:t ≠ 106):BookK w' bk mb known:=by
 obtain⟨n,DD,hm,hl⟩:=h.look;obtain⟨h0,b0,hbb⟩:=h.ex;exact h.kp hk (by rintro rfl;exact ht (hb.inj hbb).1) (map_ne hm hb)
theorem SpAt.kp {w w':World} {V:Nat->Prop} (h:SpAt w) (hk:Kp w w' V) (h1:¬ V 1):SpAt w':=by
 obtain⟨tt,fr,hx⟩:=h;have hlt:1 < w.heap.size:=by
  rcases Nat.lt_or_ge 1 w.heap.size with h|h
  ·exact h
  ·rw[Array.getElem?_eq_none h] at hx;cases hx
 exact⟨tt,fr,(hk.block 1 hlt h1).trans hx⟩
theorem RdInv.to {w w':World} {sb bk mb:Nat} {known:Tok->Bool} {ws ws':List ByteArray} {lo lo':Nat} (h:RdInv w sb bk mb known ws lo) (hk:Kp w w' (fun k=>k=sb)) (rv:Value) (hb:Blk w' sb 201 (rdArr rv bk lo')) (ht:TokAt (BD (fun b=>b < sb) w) rv ws') (hl:ws'.length+lo'<=1000) (ho:∀ t∈ws',okW t):RdInv w' sb bk mb known ws' lo':=by
 obtain⟨rv0,hb0,ht0⟩:=h.blk;refine⟨⟨rv,hb,TokAt_mono (fun b c hc=>⟨hc.1,hk.blk hc.2 (by rintro rfl;exact absurd (hc.2.inj hb0).1 (by decide))⟩) ht⟩,h.book.one hk hb0 (by decide),hl,ho,h.sp.kp hk (by rintro e;exact h.s1 e.symm),h.s1⟩
theorem RdInv.kp {w w':World} {sb bk mb:Nat} {known:Tok->Bool} {ws:List ByteArray} {lo:Nat} (h:RdInv w sb bk mb known ws lo) (hk:Kp w w' (fun _=>False)):RdInv w' sb bk mb known ws lo:=by
 obtain⟨rv,hb,ht⟩:=h.blk;exact h.to (hk.mono (fun _ _ e=>e.elim)) rv (hk.blk hb (by simp)) ht h.len h.ok
theorem nextM (w:World) (sb bk mb lo:Nat) (known:Tok->Bool) (t:ByteArray) (ws:List ByteArray) (h:RdInv w sb bk mb known (t :: ws) lo):
  Calls Tryz.prog 196 #[pt sb] w fun e w'=>e=.returned (.string t)/\Kp w w' (fun k=>k=sb)/\RdInv w' sb bk mb known ws lo:=by
 obtain⟨rv,hb,ht⟩:=h.blk;have HH:=hide h;rcases ht with⟨h0,_⟩|⟨g,off,cap,cur,rfl,⟨hgs,hg⟩,h1,h2,h3,h4⟩
 ·cases h0
 ·have hl:=h.len;clear h;simp only[List.length_cons] at h1 hb hl;have c0:w.cell? ⟨sb,0,none⟩=some (.slice (some ⟨g,off,none⟩) (ws.length+1) cap):=hb.cell rfl;have f0:=hb.free 0;have c1:w.cell? ⟨g,off,none⟩=some (.string t):=hg.cell (by have:=h4 0 (by simp);simpa using this);have HT:Hid (∀ rv',TokAt (BD (fun b=>b < sb) w) rv' ws->RdInv (w.setCell ⟨sb,0,none⟩ rv') sb bk mb known ws lo):=by
   intro rv' hr';exact HH.out.to (Kp.one _ _ _ _) rv' (hb.set 0 _) hr' (by omega) (fun t ht=>HH.out.ok t (by simp[ht]))
  have H4:Hid (∀ i (h:i < ws.length),cur[off+1+i]? = some (.string ws[i])):=by
   intro i hi;have:=h4 (i+1) (by simpa using hi);rw[show off+1+i=off+(i+1) by omega];simpa using this
  clear h4;go_enter Tryz.func196,Tryz.ntmps196;go_wp2
  all_goals go_ret
  ·have hz:ws=[]:=List.length_eq_zero_iff.1 (by omega);exact⟨rfl,Kp.one _ _ _ _,HT.out _ (.inl ⟨hz,some ⟨g,off,none⟩,0,by rw[hz];rfl⟩)⟩
  ·exact⟨rfl,Kp.one _ _ _ _,HT.out _ (.inr ⟨g,off+1,cap - 1,cur,rfl,⟨hgs,hg⟩,by omega,by omega,by omega,H4.out⟩)⟩
def allEnds:List Tok:=[kSemi,kElse,kThen,kUntil,kWhile,kRepeat,kLoop]
theorem endsM (a:Int) (w:World):Calls Tryz.prog 197 #[.int .i64 a] w fun e w'=>e=.returned (.bool (decide (a=19\/a=23\/a=24\/a=26\/a=27\/a=28\/a=30)))/\w'=w:=by
 by_cases h:a=19\/a=23\/a=24\/a=26\/a=27\/a=28\/a=30
 ·rw[decide_eq_true h];rcases h with rfl|rfl|rfl|rfl|rfl|rfl|rfl
  all_goals
   go_enter Tryz.func197,Tryz.ntmps197;go_wp2;go_ret;exact⟨rfl,rfl⟩
 ·rw[decide_eq_false h];obtain⟨h1,h⟩:=not_or.1 h;obtain⟨h2,h⟩:=not_or.1 h;obtain⟨h3,h⟩:=not_or.1 h;obtain⟨h4,h⟩:=not_or.1 h;obtain⟨h5,h⟩:=not_or.1 h;obtain⟨h6,h7⟩:=not_or.1 h;go_enter Tryz.func197,Tryz.ntmps197;go_wp2;go_ret;exact⟨rfl,rfl⟩
end
section
open Go.RowKit
theorem keyS (t:ByteArray) (ht:t.size<=maxLen):keyOf Tryz.prog 9 (.string t)=some (.string t.data.toList):=by
 exact WideMaps.keyOf_string_mk Tryz.underlying9 ht
theorem zeroW (w:World):(zeroValue 107).run Tryz.prog w=.ok (.pointer none) w:=by kernel_rfl
theorem look_run {w:World} {mb n:Nat} {DD:DataW Value} (h:w.ownsMap Tryz.prog 9 heldR mb n DD) (t:ByteArray) (ht:t.size<=maxLen) {p:Option Addr} (hp:DD.atKey (.string t.data.toList) (.held (.pointer none))=.held (.pointer p)):
  (Instr.lookup 104 (.map (some mb)) (.string t) false).run Tryz.prog w=.ok (.pointer p) w:=by
 obtain⟨v,ps,hrun,hv⟩:=h.lookup (Maps.string_keyed Tryz.underlying9) Tryz.underlying104 (zeroW w) (zd:=.held (.pointer none)) (zp:=[]) rfl (keyS t ht);rw[hp] at hv;have hv:some (DataW.held v,[])=some (DataW.held (Value.pointer p),ps):=hv;have hv2:DataW.held v=DataW.held (Value.pointer p):=congrArg Prod.fst (Option.some.inj hv);have hv3:v=Value.pointer p:=DataW.held.inj hv2;rw[<-hv3];exact hrun
theorem hasM (w:World) (bk mb:Nat) (known:Tok->Bool) (h:BookK w bk mb known) (t:ByteArray) (ht:t.size<=maxLen):
  Calls Tryz.prog 74 #[pt bk,.string t] w fun e w'=>e=.returned (.bool (known t.data.toList))/\w'=w:=by
 obtain⟨n,DD,hm,hl⟩:=h.look;obtain⟨p,hp,hk⟩:=hl t.data.toList ht;have hrun:=look_run hm t ht hp;obtain⟨h0,b0,hbb⟩:=h.ex;have c0:w.cell? ⟨bk,0,none⟩=some (.map (some mb)):=hbb.cell rfl;clear hbb;rw[<-hk];clear hk hp hl hm
 cases p with
 | none=>
  go_enter Tryz.func74,Tryz.ntmps74;go_wp2;go_ret;exact⟨rfl,rfl⟩
 | some a=>
  go_enter Tryz.func74,Tryz.ntmps74;go_wp2;go_ret;exact⟨rfl,rfl⟩
theorem ent_has:Ents 74:=ents_of Tryz.func74 (by kernel_rfl) (by kernel_rfl)
end
section
open Go.RowKit
def rowZ (M:Mem) (e:TypeId) (z:Nat) (v:Value) (n:Nat) (xs:List Value):Prop:=
 xs.length=n * z/\((v=.slice none 0 0/\n=0)\/∃ g cap cur,v=.slice (some ⟨g,0,none⟩) n cap/\M g e cur/\n<=cap/\cap<=maxLen/\cur.size=cap * z/\cur.toList.take (n * z)=xs)
theorem rowZ_mono {M M':Mem} {e:TypeId} (h:∀ b c,M b e c->M' b e c) {z:Nat} {v:Value} {n:Nat} {xs:List Value} (hr:rowZ M e z v n xs):rowZ M' e z v n xs:=by
 obtain⟨hl,hr⟩:=hr;refine⟨hl,?_⟩;rcases hr with hr|⟨g,cap,cur,h1,h2,h3⟩
 ·exact .inl hr
 ·exact .inr ⟨g,cap,cur,h1,h _ _ h2,h3⟩
theorem rowZ.of {D:Nat->Prop} {w:World} {e:TypeId} {z:Nat} {v:Value} {n:Nat} {xs:List Value} (h:w.ownsRow 0 e z v n xs) (hd:∀ b,own v b->D b):rowZ (BD D w) e z v n xs:=by
 refine⟨h.1,?_⟩;rcases h.2 with h0|⟨g,cap,cur,rfl,_,hg,h3,h4,h5,h6⟩
 ·exact .inl h0
 ·exact .inr ⟨g,cap,cur,rfl,⟨hd g (by simp[own,Value.ownBlock]),hg⟩,h3,h4,h5,h6⟩
theorem rowZ.row {D:Nat->Prop} {w:World} {e:TypeId} {z:Nat} {v:Value} {n:Nat} {xs:List Value} (h:rowZ (BD D w) e z v n xs):w.ownsRow 0 e z v n xs:=by
 obtain⟨hl,h⟩:=h;refine⟨hl,?_⟩;rcases h with h|⟨g,cap,cur,rfl,h2,h3,h4,h5,h6⟩
 ·exact .inl h
 ·exact .inr ⟨g,cap,cur,rfl,Nat.zero_le _,h2.2,h3,h4,h5,h6⟩
theorem rowZ.form {M:Mem} {e:TypeId} {z:Nat} {v:Value} {n:Nat} {xs:List Value} (h:rowZ M e z v n xs):∃ ao cap,v=.slice ao n cap:=by
 rcases h.2 with⟨rfl,rfl⟩|⟨g,cap,cur,rfl,_⟩
 ·exact⟨none,0,rfl⟩
 ·exact⟨_,cap,rfl⟩
theorem rowM.form {M:Mem} {e:TypeId} {v:Value} {xs:List Value} (h:rowM M e v xs):∃ ao cap,v=.slice ao xs.length cap:=by
 rcases h with⟨rfl,rfl⟩|⟨g,cap,cur,rfl,_⟩
 ·exact⟨none,0,rfl⟩
 ·exact⟨_,cap,rfl⟩
def kindP (k:Nat):Int:=if k=110 then 0 else if k=112 then 1 else if k=99 then 2 else if k=63 then 3 else if k=117 then 4 else if k=119 then 5 else if k=100 then 6 else if k=105 then 7 else if k=114 then 8 else if k=120 then 9 else 10
structure PItm (M:Mem) (P:Value->List It->Prop) (x:It) (n pl:Int) (nm:ByteArray) (tv va vb:Value):Prop where
 kd:x.kind=110\/x.kind=112\/x.kind=99\/x.kind=63\/x.kind=117\/x.kind=119\/x.kind=100\/x.kind=105\/x.kind=114\/x.kind=120\/x.kind=123
 num:x.kind=110->n=x.n/\In x.n
 pln:x.kind=112->∃ j,plainL.findIdx? (· == x.name)=some j/\pl=(j:Int)+2
 name:x.kind=99->nm.data.toList=x.name/\nm.size<=1000
 toks:∃ ws,rowM M 9 tv (ws.map Value.string)/\(x.kind=123->texts ws=x.toks/\(∀ t∈ws,okW t)/\ws.length<=1000)
 a:P va x.a
 b:P vb x.b
def itemsL (M:Mem) (P:Value->List It->Prop):List It->List Value->Prop
 | [],xs=>xs=[]
 | x :: l,xs=>∃ n pl nm tv va vb rest,xs=.int .i64 (kindP x.kind) :: .int .i64 n :: .int .i64 pl :: .string nm :: tv :: va :: vb :: rest/\PItm M P x n pl nm tv va vb/\itemsL M P l rest
def itemsIn (M:Mem):Nat->Value->List It->Prop
 | 0,_,_=>False
 | g+1,v,l=>∃ xs,rowZ M 241 7 v l.length xs/\itemsL M (itemsIn M g) l xs/\l.length<=1000
def Items (M:Mem) (v:Value) (l:List It):Prop:=∃ g,itemsIn M g v l
theorem PItm.mono {M M':Mem} {P P':Value->List It->Prop} (h:∀ b t c,M b t c->M' b t c) (hp:∀ v l,P v l->P' v l) {x:It} {n pl:Int} {nm:ByteArray} {tv va vb:Value} (hi:PItm M P x n pl nm tv va vb):PItm M' P' x n pl nm tv va vb:=by
 obtain⟨ws,h1,h2⟩:=hi.toks;exact⟨hi.kd,hi.num,hi.pln,hi.name,⟨ws,rowM_mono h h1,h2⟩,hp _ _ hi.a,hp _ _ hi.b⟩
theorem itemsL_mono {M M':Mem} {P P':Value->List It->Prop} (h:∀ b t c,M b t c->M' b t c) (hp:∀ v l,P v l->P' v l):∀ (l:List It) (xs:List Value),itemsL M P l xs->itemsL M' P' l xs
 | [],_,h0=>h0
 | _ :: l,_,⟨n,pl,nm,tv,va,vb,rest,h1,h2,h3⟩=>⟨n,pl,nm,tv,va,vb,rest,h1,h2.mono h hp,itemsL_mono h hp l rest h3⟩
theorem itemsIn_mono {M M':Mem} (h:∀ b t c,M b t c->M' b t c):∀ (g:Nat) (v:Value) (l:List It),itemsIn M g v l->itemsIn M' g v l
 | 0,_,_,h0=>h0
 | g+1,_,_,⟨xs,h1,h2,h3⟩=>⟨xs,rowZ_mono (fun b c=>h b _ c) h1,itemsL_mono h (itemsIn_mono h g) _ _ h2,h3⟩
theorem itemsIn_succ {M:Mem}:∀ (g:Nat) (v:Value) (l:List It),itemsIn M g v l->itemsIn M (g+1) v l
 | 0,_,_,h=>h.elim
 | g+1,_,_,⟨xs,h1,h2,h3⟩=>⟨xs,h1,itemsL_mono (fun _ _ _ h=>h) (itemsIn_succ g) _ _ h2,h3⟩
theorem itemsIn_le {M:Mem} {g g':Nat} (hg:g<=g') {v:Value} {l:List It} (h:itemsIn M g v l):itemsIn M g' v l:=by
 induction hg with
 | refl=>exact h
 | step _ ih=>exact itemsIn_succ _ _ _ ih
theorem Items.mono {M M':Mem} (h:∀ b t c,M b t c->M' b t c) {v:Value} {l:List It} (hi:Items M v l):Items M' v l:=by
 obtain⟨g,hg⟩:=hi;exact⟨g,itemsIn_mono h g v l hg⟩
theorem itemsL_lift {M:Mem}:∀ (l:List It) (xs:List Value),itemsL M (Items M) l xs->∃ g,itemsL M (itemsIn M g) l xs
 | [],_,h=>⟨0,h⟩
 | _ :: l,_,⟨n,pl,nm,tv,va,vb,rest,h1,h2,h3⟩=>by
  obtain⟨g3,h3⟩:=itemsL_lift l rest h3;obtain⟨g1,ha⟩:=h2.a;obtain⟨g2,hb⟩:=h2.b;refine⟨g1+g2+g3,n,pl,nm,tv,va,vb,rest,h1,⟨h2.kd,h2.num,h2.pln,h2.name,h2.toks,itemsIn_le (by omega) ha,itemsIn_le (by omega) hb⟩,itemsL_mono (fun _ _ _ h=>h) (fun _ _=>itemsIn_le (by omega)) _ _ h3⟩
theorem Items.of {M:Mem} {v:Value} {l:List It} {xs:List Value} (h1:rowZ M 241 7 v l.length xs) (h2:itemsL M (Items M) l xs) (h3:l.length<=1000):Items M v l:=by
 obtain⟨g,h⟩:=itemsL_lift l xs h2;exact⟨g+1,xs,h1,h,h3⟩
theorem Items.out {M:Mem} {v:Value} {l:List It} (h:Items M v l):∃ xs,rowZ M 241 7 v l.length xs/\itemsL M (Items M) l xs:=by
 obtain⟨g,h⟩:=h
 cases g with
 | zero=>exact h.elim
 | succ g=>
  obtain⟨xs,h1,h2,_⟩:=h;exact⟨xs,h1,itemsL_mono (fun _ _ _ h=>h) (fun _ _ h=>⟨g,h⟩) _ _ h2⟩
theorem Items.nil (M:Mem):Items M (.slice none 0 0) []:=⟨1,[],⟨rfl,.inl ⟨rfl,rfl⟩⟩,rfl,by simp⟩
theorem itemsL_app {M:Mem} {P:Value->List It->Prop}:∀ (l l':List It) (xs xs':List Value),itemsL M P l xs->itemsL M P l' xs'->itemsL M P (l ++ l') (xs ++ xs')
 | [],_,_,_,h,h'=>by have h:_=_:=h;subst h;exact h'
 | _ :: l,l',_,xs',⟨n,pl,nm,tv,va,vb,rest,h1,h2,h3⟩,h'=>⟨n,pl,nm,tv,va,vb,rest ++ xs',by rw[h1];rfl,h2,itemsL_app l l' rest xs' h3 h'⟩
def zIt7:Array Value:=#[.int .i64 0,.int .i64 0,.int .i64 0,.string ⟨#[]⟩,.slice none 0 0,.slice none 0 0,.slice none 0 0]
theorem Tryz.infoBI:(Tryz.prog.info? 241).map (fun i=>(i.zero,i.size,i.bytes))=some (some (.agg zIt7),7,112):=by kernel_rfl
abbrev it7 (k n pl:Int) (nm:ByteArray) (tv va vb:Value):Value:=.agg #[.int .i64 k,.int .i64 n,.int .i64 pl,.string nm,tv,va,vb]
def QIt (w:World) (sb bk mb:Nat) (known:Tok->Bool) (lo:Nat) (x:Ending) (w':World):PRes->Prop
 | .ok (xs,_,r)=>∃ x' n pl nm tv va vb ws',xs=[x']/\x=.returned (.tuple #[it7 (kindP x'.kind) n pl nm tv va vb,.int .i64 0])/\PItm (BD (New w) w') (Items (BD (New w) w')) x' n pl nm tv va vb/\texts ws'=r/\RdInv w' sb bk mb known ws' lo
 | .error er=>er ≠ 0/\∃ k n pl nm a1 m1 p1 a2 m2 p2 a3 m3 p3 rv,x=.returned (.tuple #[it7 k n pl nm (.slice a1 m1 p1) (.slice a2 m2 p2) (.slice a3 m3 p3),.int .i64 er])/\Blk w' sb 201 (rdArr rv bk lo)
def QBo (w:World) (sb bk mb:Nat) (known:Tok->Bool) (lo:Nat) (x:Ending) (w':World):PRes->Prop
 | .ok (xs,t',r)=>∃ v ws',x=.returned (.tuple #[v,.int .i64 (kindN t'),.int .i64 0])/\Items (BD (New w) w') v xs/\texts ws'=r/\RdInv w' sb bk mb known ws' lo
 | .error er=>er ≠ 0/\∃ rv,x=.returned (.tuple #[.slice none 0 0,.int .i64 0,.int .i64 er])/\Blk w' sb 201 (rdArr rv bk lo)
def QItem (g:Nat):Prop:=∀ (w:World) (sb bk mb:Nat) (known:Tok->Bool) (ws:List ByteArray) (lo:Nat) (tb:ByteArray) (K:Int) (res:PRes),
 pRead known g ⟨true,lo,[],tb.data.toList⟩ (texts ws)=some res->RdInv w sb bk mb known ws lo->okW tb->ws.length+lo+1<=1000->(K=if (numP tb.toList).isSome then 1 else (kindN tb.toList:Int))->allEnds.any (· == tb.data.toList)=false ->
 Calls Tryz.prog 198 #[pt sb,.string tb,.int .i64 K] w fun x w'=>Kp w w' (fun b=>b=sb)/\QIt w sb bk mb known lo x w' res
def QBody (g:Nat):Prop:=∀ (w:World) (sb bk mb:Nat) (known:Tok->Bool) (ws:List ByteArray) (lo:Nat) (res:PRes),
 pRead known g ⟨false,lo,allEnds,[]⟩ (texts ws)=some res->RdInv w sb bk mb known ws lo ->
 Calls Tryz.prog 182 #[pt sb] w fun x w'=>Kp w w' (fun b=>b=sb)/\QBo w sb bk mb known lo x w' res
def restOf (w:World) (sb:Nat):Nat:=match w.cell? ⟨sb,0,none⟩ with
 | some (.slice _ n _)=>n
 | _=>0
theorem RdInv.rest {w:World} {sb bk mb:Nat} {known:Tok->Bool} {ws:List ByteArray} {lo:Nat} (h:RdInv w sb bk mb known ws lo):restOf w sb=ws.length:=by
 obtain⟨rv,hb,ht⟩:=h.blk;obtain⟨ao,cap,rfl⟩:=ht.form;have:w.cell? ⟨sb,0,none⟩=some (.slice ao ws.length cap):=hb.cell rfl;unfold restOf;rw[this]
end
end Go.Proofs.YteainaiebcphlaaGreatDoor
