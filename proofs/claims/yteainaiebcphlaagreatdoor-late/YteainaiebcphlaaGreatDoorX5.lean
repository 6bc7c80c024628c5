import Derived.Test.YteainaiebcphlaaGreatDoorX4
import Derived.Test.YteainaiebcphlaaGreatDoorX3
import Derived.Maps.OwnSet
namespace Go.Proofs.YteainaiebcphlaaGreatDoor
set_option maxRecDepth 1000000
set_option maxHeartbeats 4000000
set_option linter.all false
section
open Go.RowKit
def spellW:List ByteArray:=[⟨#[]⟩,⟨#[]⟩,⟨#[43]⟩,⟨#[45]⟩,⟨#[42]⟩,⟨#[47]⟩,⟨#[109,111,100]⟩,⟨#[61]⟩,⟨#[60]⟩,⟨#[100,117,112]⟩,⟨#[100,114,111,112]⟩,⟨#[115,119,97,112]⟩,⟨#[111,118,101,114]⟩,⟨#[114,111,116]⟩,⟨#[46]⟩,⟨#[101,109,105,116]⟩,⟨#[64]⟩,⟨#[33]⟩,⟨#[58]⟩,⟨#[59]⟩,⟨#[123]⟩,⟨#[125]⟩,⟨#[105,102]⟩,⟨#[101,108,115,101]⟩,⟨#[116,104,101,110]⟩,⟨#[98,101,103,105,110]⟩,⟨#[117,110,116,105,108]⟩,⟨#[119,104,105,108,101]⟩,⟨#[114,101,112,101,97,116]⟩,⟨#[100,111]⟩,⟨#[108,111,111,112]⟩,⟨#[105]⟩,⟨#[114,101,99,117,114,115,101]⟩,⟨#[101,120,105,116]⟩]
def spellL:List (List UInt8):=[[],[]] ++ (plainL ++ ([[58],[59],[123],[125]] ++ keptL))
def spellA:Array Value:=#[.string ⟨#[]⟩,.string ⟨#[]⟩,.string ⟨#[43]⟩,.string ⟨#[45]⟩,.string ⟨#[42]⟩,.string ⟨#[47]⟩,.string ⟨#[109,111,100]⟩,.string ⟨#[61]⟩,.string ⟨#[60]⟩,.string ⟨#[100,117,112]⟩,.string ⟨#[100,114,111,112]⟩,.string ⟨#[115,119,97,112]⟩,.string ⟨#[111,118,101,114]⟩,.string ⟨#[114,111,116]⟩,.string ⟨#[46]⟩,.string ⟨#[101,109,105,116]⟩,.string ⟨#[64]⟩,.string ⟨#[33]⟩,.string ⟨#[58]⟩,.string ⟨#[59]⟩,.string ⟨#[123]⟩,.string ⟨#[125]⟩,.string ⟨#[105,102]⟩,.string ⟨#[101,108,115,101]⟩,.string ⟨#[116,104,101,110]⟩,.string ⟨#[98,101,103,105,110]⟩,.string ⟨#[117,110,116,105,108]⟩,.string ⟨#[119,104,105,108,101]⟩,.string ⟨#[114,101,112,101,97,116]⟩,.string ⟨#[100,111]⟩,.string ⟨#[108,111,111,112]⟩,.string ⟨#[105]⟩,.string ⟨#[114,101,99,117,114,115,101]⟩,.string ⟨#[101,120,105,116]⟩]
theorem sp_0 (w:World):(Instr.index 142 (.agg spellA) (.int .i64 0)).run Tryz.prog w=.ok (.string ⟨#[]⟩) w:=by kernel_rfl
theorem sp_1 (w:World):(Instr.index 142 (.agg spellA) (.int .i64 1)).run Tryz.prog w=.ok (.string ⟨#[]⟩) w:=by kernel_rfl
theorem sp_2 (w:World):(Instr.index 142 (.agg spellA) (.int .i64 2)).run Tryz.prog w=.ok (.string ⟨#[43]⟩) w:=by kernel_rfl
theorem sp_3 (w:World):(Instr.index 142 (.agg spellA) (.int .i64 3)).run Tryz.prog w=.ok (.string ⟨#[45]⟩) w:=by kernel_rfl
theorem sp_4 (w:World):(Instr.index 142 (.agg spellA) (.int .i64 4)).run Tryz.prog w=.ok (.string ⟨#[42]⟩) w:=by kernel_rfl
theorem sp_5 (w:World):(Instr.index 142 (.agg spellA) (.int .i64 5)).run Tryz.prog w=.ok (.string ⟨#[47]⟩) w:=by kernel_rfl
theorem sp_6 (w:World):(Instr.index 142 (.agg spellA) (.int .i64 6)).run Tryz.prog w=.ok (.string ⟨#[109,111,100]⟩) w:=by kernel_rfl
theorem sp_7 (w:World):(Instr.index 142 (.agg spellA) (.int .i64 7)).run Tryz.prog w=.ok (.string ⟨#[61]⟩) w:=by kernel_rfl
theorem sp_8 (w:World):(Instr.index 142 (.agg spellA) (.int .i64 8)).run Tryz.prog w=.ok (.string ⟨#[60]⟩) w:=by kernel_rfl
theorem sp_9 (w:World):(Instr.index 142 (.agg spellA) (.int .i64 9)).run Tryz.prog w=.ok (.string ⟨#[100,117,112]⟩) w:=by kernel_rfl
theorem sp_10 (w:World):(Instr.index 142 (.agg spellA) (.int .i64 10)).run Tryz.prog w=.ok (.string ⟨#[100,114,111,112]⟩) w:=by kernel_rfl
theorem sp_11 (w:World):(Instr.index 142 (.agg spellA) (.int .i64 11)).run Tryz.prog w=.ok (.string ⟨#[115,119,97,112]⟩) w:=by kernel_rfl
theorem sp_12 (w:World):(Instr.index 142 (.agg spellA) (.int .i64 12)).run Tryz.prog w=.ok (.string ⟨#[111,118,101,114]⟩) w:=by kernel_rfl
theorem sp_13 (w:World):(Instr.index 142 (.agg spellA) (.int .i64 13)).run Tryz.prog w=.ok (.string ⟨#[114,111,116]⟩) w:=by kernel_rfl
theorem sp_14 (w:World):(Instr.index 142 (.agg spellA) (.int .i64 14)).run Tryz.prog w=.ok (.string ⟨#[46]⟩) w:=by kernel_rfl
theorem sp_15 (w:World):(Instr.index 142 (.agg spellA) (.int .i64 15)).run Tryz.prog w=.ok (.string ⟨#[101,109,105,116]⟩) w:=by kernel_rfl
theorem sp_16 (w:World):(Instr.index 142 (.agg spellA) (.int .i64 16)).run Tryz.prog w=.ok (.string ⟨#[64]⟩) w:=by kernel_rfl
theorem sp_17 (w:World):(Instr.index 142 (.agg spellA) (.int .i64 17)).run Tryz.prog w=.ok (.string ⟨#[33]⟩) w:=by kernel_rfl
theorem sp_18 (w:World):(Instr.index 142 (.agg spellA) (.int .i64 18)).run Tryz.prog w=.ok (.string ⟨#[58]⟩) w:=by kernel_rfl
theorem sp_19 (w:World):(Instr.index 142 (.agg spellA) (.int .i64 19)).run Tryz.prog w=.ok (.string ⟨#[59]⟩) w:=by kernel_rfl
theorem sp_20 (w:World):(Instr.index 142 (.agg spellA) (.int .i64 20)).run Tryz.prog w=.ok (.string ⟨#[123]⟩) w:=by kernel_rfl
theorem sp_21 (w:World):(Instr.index 142 (.agg spellA) (.int .i64 21)).run Tryz.prog w=.ok (.string ⟨#[125]⟩) w:=by kernel_rfl
theorem sp_22 (w:World):(Instr.index 142 (.agg spellA) (.int .i64 22)).run Tryz.prog w=.ok (.string ⟨#[105,102]⟩) w:=by kernel_rfl
theorem sp_23 (w:World):(Instr.index 142 (.agg spellA) (.int .i64 23)).run Tryz.prog w=.ok (.string ⟨#[101,108,115,101]⟩) w:=by kernel_rfl
theorem sp_24 (w:World):(Instr.index 142 (.agg spellA) (.int .i64 24)).run Tryz.prog w=.ok (.string ⟨#[116,104,101,110]⟩) w:=by kernel_rfl
theorem sp_25 (w:World):(Instr.index 142 (.agg spellA) (.int .i64 25)).run Tryz.prog w=.ok (.string ⟨#[98,101,103,105,110]⟩) w:=by kernel_rfl
theorem sp_26 (w:World):(Instr.index 142 (.agg spellA) (.int .i64 26)).run Tryz.prog w=.ok (.string ⟨#[117,110,116,105,108]⟩) w:=by kernel_rfl
theorem sp_27 (w:World):(Instr.index 142 (.agg spellA) (.int .i64 27)).run Tryz.prog w=.ok (.string ⟨#[119,104,105,108,101]⟩) w:=by kernel_rfl
theorem sp_28 (w:World):(Instr.index 142 (.agg spellA) (.int .i64 28)).run Tryz.prog w=.ok (.string ⟨#[114,101,112,101,97,116]⟩) w:=by kernel_rfl
theorem sp_29 (w:World):(Instr.index 142 (.agg spellA) (.int .i64 29)).run Tryz.prog w=.ok (.string ⟨#[100,111]⟩) w:=by kernel_rfl
theorem sp_30 (w:World):(Instr.index 142 (.agg spellA) (.int .i64 30)).run Tryz.prog w=.ok (.string ⟨#[108,111,111,112]⟩) w:=by kernel_rfl
theorem sp_31 (w:World):(Instr.index 142 (.agg spellA) (.int .i64 31)).run Tryz.prog w=.ok (.string ⟨#[105]⟩) w:=by kernel_rfl
theorem sp_32 (w:World):(Instr.index 142 (.agg spellA) (.int .i64 32)).run Tryz.prog w=.ok (.string ⟨#[114,101,99,117,114,115,101]⟩) w:=by kernel_rfl
theorem sp_33 (w:World):(Instr.index 142 (.agg spellA) (.int .i64 33)).run Tryz.prog w=.ok (.string ⟨#[101,120,105,116]⟩) w:=by kernel_rfl
theorem spellA_at (k:Nat) (hk:k < 34) (w:World):(Instr.index 142 (.agg spellA) (.int .i64 (k:Int))).run Tryz.prog w=.ok (.string (spellW.getD k ⟨#[]⟩)) w:=by
 have:k=0\/k=1\/k=2\/k=3\/k=4\/k=5\/k=6\/k=7\/k=8\/k=9\/k=10\/k=11\/k=12\/k=13\/k=14\/k=15\/k=16\/k=17\/k=18\/k=19\/k=20\/k=21\/k=22\/k=23\/k=24\/k=25\/k=26\/k=27\/k=28\/k=29\/k=30\/k=31\/k=32\/k=33:=by omega
 rcases this with rfl|rfl|rfl|rfl|rfl|rfl|rfl|rfl|rfl|rfl|rfl|rfl|rfl|rfl|rfl|rfl|rfl|rfl|rfl|rfl|rfl|rfl|rfl|rfl|rfl|rfl|rfl|rfl|rfl|rfl|rfl|rfl|rfl|rfl
 ·exact sp_0 w
 ·exact sp_1 w
 ·exact sp_2 w
 ·exact sp_3 w
 ·exact sp_4 w
 ·exact sp_5 w
 ·exact sp_6 w
 ·exact sp_7 w
 ·exact sp_8 w
 ·exact sp_9 w
 ·exact sp_10 w
 ·exact sp_11 w
 ·exact sp_12 w
 ·exact sp_13 w
 ·exact sp_14 w
 ·exact sp_15 w
 ·exact sp_16 w
 ·exact sp_17 w
 ·exact sp_18 w
 ·exact sp_19 w
 ·exact sp_20 w
 ·exact sp_21 w
 ·exact sp_22 w
 ·exact sp_23 w
 ·exact sp_24 w
 ·exact sp_25 w
 ·exact sp_26 w
 ·exact sp_27 w
 ·exact sp_28 w
 ·exact sp_29 w
 ·exact sp_30 w
 ·exact sp_31 w
 ·exact sp_32 w
 ·exact sp_33 w
theorem spellW_L:spellW.map (fun t=>t.toList)=spellL:=by simp[spellW,spellL,plainL,keptL,ByteArray.toList_eq]
def kindN (l:List UInt8):Nat:=(spellL.findIdx? (· == l)).getD 0
theorem find_snoc {p:List UInt8->Bool} {L:List (List UInt8)} {k:Nat} (h:∀ x∈L.take k,p x=false) (hk:k < L.length) (hp:p L[k]=true):L.findIdx? p=some k:=by
 rw[List.findIdx?_eq_some_iff_getElem];refine⟨hk,hp,fun j hj=>?_⟩;have:=h L[j] (by rw[List.mem_take_iff_getElem];exact⟨j,by omega,rfl⟩);rw[this];decide
theorem kindM (s:ByteArray) (w:World) (tt:TypeId) (fr:Nat × Nat) (hs:s.size<=1000) (hg:w.heap[1]? = some (.cells spellA tt fr)) (R:Int) (hR:R=if (numP s.toList).isSome then 1 else (kindN s.toList:Int)):
  Calls Tryz.prog 67 #[.string s] w fun e w'=>e=.returned (.int .i64 R)/\w'=w:=by
 have HR:=hide hR;have HG:=hide hg;clear hR hg;go_enter Tryz.func67,Tryz.ntmps67
 go_wp2_with fail
 refine (isNumM _ _ hs).mono ?_;rintro e w' ⟨rfl,hw⟩;rw[hw];clear hw
 cases hn:(numP s.toList).isSome
 ·have HR2:Hid (R=(kindN s.toList:Int)):=by have:=HR.out;rw[hn] at this;exact this
  go_wp2_with (refine wpList_load_row rfl 142 _ rfl 1 rfl tt _ fr _ HG.out Tryz.underlying142 rfl (by kernel_rfl) ?_)
  go_loop [8] (fun i=>∃ k:Nat,k<=34/\i=.int .i64 k/\∀ x∈spellL.take k,(x == s.toList)=false) (fun i=>34 - (intOf i).toNat)
  case atStart=>exact⟨0,by omega,rfl,by simp⟩
  case round=>
   obtain⟨k,hk,rfl,hno⟩:=hrel;have HN:=hide hno;clear hno;by_cases hlt:k < 34
   ·have hidx:=spellA_at k hlt;obtain⟨t,ht⟩:∃ t,t=spellW.getD k ⟨#[]⟩:=⟨_,rfl⟩;rw[<-ht] at hidx;have hkl:k < spellL.length:=hlt;have HT:Hid (spellL[k]=t.toList):=by
     unfold Hid;have:spellL[k]? = some t.toList:=by
      rw[<-spellW_L,ht];have hw:k < spellW.length:=hlt;simp[List.getD,hw]
     rw[List.getElem?_eq_getElem hkl] at this;exact Option.some.inj this
    clear ht
    cases hc:(s.toList == t.toList)
    ·go_wp2
     go_round
     case rel=>
      refine⟨k+1,by omega,by go_num,?_⟩;rw[List.take_succ_eq_append_getElem hkl];intro x hx;rcases List.mem_append.1 hx with h1|h1
      ·exact HN.out x h1
      ·have:x=spellL[k]:=by simpa using h1
       rw[this,HT.out];rw[beq_eq_false_iff_ne] at hc ⊢;exact fun e=>hc e.symm
     case measure=>simp[intOf];omega
    ·have HF:Hid (R=(k:Int)):=by
      unfold Hid;rw[HR2.out];unfold kindN;rw[find_snoc HN.out hkl (by rw[HT.out];rw[beq_iff_eq] at hc ⊢;exact hc.symm)];rfl
     go_wp2;go_ret;exact⟨by rw[HF.out];rfl,rfl⟩
   ·have HF:Hid (R=0):=by
     unfold Hid;rw[HR2.out];unfold kindN;have:spellL.findIdx? (· == s.toList)=none:=by
      rw[List.findIdx?_eq_none_iff];intro x hx;exact HN.out x (by rw[List.take_of_length_le (by show 34<=k;omega)];exact hx)
     rw[this];rfl
    go_wp2;go_ret;exact⟨by rw[HF.out];rfl,rfl⟩
 ·have HR2:Hid (R=1):=by have:=HR.out;rw[hn] at this;exact this
  go_wp2;go_ret;exact⟨by rw[HR2.out];rfl,rfl⟩
end
section
open Go.RowKit
variable {K:Nat->Prop}
def findI (defs:List Def) (t:Tok):Int:=match defs.findIdx? (fun d=>d.name == t) with
 | some k=>k
 | none=>-1
end
section
open Go.RowKit
variable {K:Nat->Prop}
theorem Kp.one (w:World) (b o:Nat) (v:Value):Kp w (w.setCell ⟨b,o,none⟩ v) (fun k=>k=b):=(Kp.refl w (fun k=>k=b)).set (a:=⟨b,o,none⟩) (fun _=>rfl) v
theorem Blk.drewN {w:World} {b:Nat} {t:TypeId} {c:Array Value} (h:Blk w b t c) (n:Nat):Blk (w.drewN n) b t c:=h
theorem Kp.drewN {w w':World} {S:Nat->Prop} (h:Kp w w' S) (n:Nat):Kp w (w'.drewN n) S:=⟨h.os,h.tape,h.output,h.size,h.block⟩
theorem row_slice {w:World} {e:TypeId} {z:Nat} {v:Value} {n:Nat} {xs:List Value} (h:w.ownsRow 0 e z v n xs):∃ ao cap,v=.slice ao n cap:=by
 rcases h.2 with⟨hv,h0⟩|⟨g,cap,_,hv,_⟩
 ·exact⟨none,0,by rw[hv,h0]⟩
 ·exact⟨some ⟨g,0,none⟩,cap,hv⟩
theorem row_cell {w:World} {e:TypeId} {z:Nat} {v:Value} {n:Nat} {xs:List Value} (h:w.ownsRow 0 e z v n xs) (hn:0 < n):∃ g cap,v=.slice (some ⟨g,0,none⟩) n cap/\∀ j u,xs[j]? = some u->w.cell? ⟨g,j,none⟩=some u:=by
 rcases h.2 with⟨hv,h0⟩|⟨g,cap,cur,hv,_,hgg,_,_,_,htk⟩
 ·omega
 ·refine⟨g,cap,hv,fun j u hj=>?_⟩;have hb':Blk w g e cur:=hgg;refine hb'.cell ?_;rw[<-htk,List.getElem?_take] at hj
  split at hj
  ·simpa using hj
  ·cases hj
end
section
open Go.RowKit
variable {K:Nat->Prop}
theorem isName_len {t:ByteArray} (h:t.size < 1\/(1<=t.size/\8 < t.size)):isName t.data.toList=false:=by
 have hl:t.data.toList.length=t.size:=rfl;unfold isName;rw[hl,decide_eq_false (by omega)];simp
theorem isName_bad {t:ByteArray} {k:Nat} (hk:k < t.size) (h:¬ (97<=t[k].toNat/\t[k].toNat<=122)):isName t.data.toList=false:=by
 unfold isName;have:(t.data.toList.all fun c=>decide (97<=c.toNat/\c.toNat<=122))=false:=by
  rw[List.all_eq_false];exact⟨t.data.toList[k]'hk,List.getElem_mem _,by show ¬ (decide (97<=t[k].toNat/\t[k].toNat<=122)=true);simpa using h⟩
 rw[this];simp
theorem isName_all {t:ByteArray} (h0:1<=t.size) (h1:t.size<=8) (ha:(t.data.toList.take t.size).all (fun c=>decide (97<=c.toNat/\c.toNat<=122))=true):isName t.data.toList=(!plainL.any (· == t.toList) && !keptL.any (· == t.toList)):=by
 have hl:t.data.toList.length=t.size:=rfl;rw[List.take_of_length_le (by omega)] at ha;unfold isName;rw[ha,hl,decide_eq_true ⟨h0,h1⟩,ByteArray.toList_eq];simp
end
section
open Go.RowKit
variable {K:Nat->Prop}
def consR {α β ε:Type} (done:List α):Except ε (List α × β)->Except ε (List α × β)
 | .ok (bs,r)=>.ok (done ++ bs,r)
 | .error e=>.error e
theorem consR_nil {α β ε:Type} (r:Except ε (List α × β)):consR [] r=r:=by rcases r with e|⟨bs,r⟩ <;> rfl
theorem consR_app {α β ε:Type} (d d':List α) (r:Except ε (List α × β)):consR d (consR d' r)=consR (d ++ d') r:=by rcases r with e|⟨bs,r⟩ <;> simp[consR]
def texts (ws:List ByteArray):List Tok:=ws.map fun t=>t.data.toList
end
section
open Go.RowKit
variable {K:Nat->Prop}
def knownD (defs:List Def) (t:Tok):Bool:=(defs.findIdx? (fun d=>d.name == t)).isSome
theorem knownD_neg {defs:List Def} {t:Tok} (h:findI defs t < 0):knownD defs t=false:=by
 unfold findI at h;unfold knownD
 cases hf:defs.findIdx? (fun d=>d.name == t) with
 | none=>rfl
 | some k=>rw[hf] at h;simp at h;omega
abbrev PRes:=Except Int (List It × Tok × List Tok)
theorem pB0 (known:Tok->Bool) (lo:Nat) (ends:List Tok) (r:List Tok):pRead known 0 ⟨false,lo,ends,[]⟩ r=none:=rfl
theorem pB_nil (known:Tok->Bool) (g lo:Nat) (ends:List Tok):pRead known (g+1) ⟨false,lo,ends,[]⟩ []=some (.error 4):=by rw[pRead];rfl
theorem pB_stop (known:Tok->Bool) (g lo:Nat) (ends:List Tok) (t:Tok) (r:List Tok) (h:ends.any (· == t)=true):pRead known (g+1) ⟨false,lo,ends,[]⟩ (t :: r)=some (.ok ([],t,r)):=by
 rw[pRead];simp[h]
theorem pB_go (known:Tok->Bool) (g lo:Nat) (ends:List Tok) (t:Tok) (r:List Tok) (h:ends.any (· == t)=false) (res:PRes) (hres:pRead known (g+1) ⟨false,lo,ends,[]⟩ (t :: r)=some res):
  (∃ e,pRead known g ⟨true,lo,[],t⟩ r=some (.error e)/\res=.error e) \/
  (∃ xs t1 r2 res',pRead known g ⟨true,lo,[],t⟩ r=some (.ok (xs,t1,r2))/\pRead known g ⟨false,lo,ends,[]⟩ r2=some res'/\res=consR xs res'):=by
 rw[pRead] at hres;simp only[h,Bool.false_eq_true,if_false,if_true] at hres
 split at hres
 ·cases hres
 ·rename_i e he;injection hres with hres;exact .inl ⟨e,he,hres.symm⟩
 ·rename_i xs t1 r2 he
  split at hres
  ·cases hres
  ·rename_i e he';injection hres with hres;exact .inr ⟨xs,t1,r2,.error e,he,he',hres.symm⟩
  ·rename_i ys t' r3 he';injection hres with hres;exact .inr ⟨xs,t1,r2,.ok (ys,t',r3),he,he',hres.symm⟩
def longT (t:Tok):Prop:=t=kIf\/t=kBegin\/t=kDo\/t=kOpen
theorem pI_one (known:Tok->Bool) (g lo:Nat) (t:Tok) (r:List Tok) (h:¬ longT t):pRead known (g+1) ⟨true,lo,[],t⟩ r=match pOne known lo t with
  | .error e=>some (.error e)
  | .ok x=>some (.ok ([x],[],r)):=by
 unfold longT at h;rw[pRead.eq_def];simp only[Bool.true_eq_false,if_false];rw[if_neg (fun e=>h (.inl e)),if_neg (fun e=>h (.inr (.inl e))),if_neg (fun e=>h (.inr (.inr (.inl e)))),if_neg (fun e=>h (.inr (.inr (.inr e))))];rfl
theorem not_long_num {t:Tok} {n:Int} (h:numP t=some n):¬ longT t:=by
 rintro (rfl|rfl|rfl|rfl)
 ·rw[show numP kIf=none by decide] at h;cases h
 ·rw[show numP kBegin=none by decide] at h;cases h
 ·rw[show numP kDo=none by decide] at h;cases h
 ·rw[show numP kOpen=none by decide] at h;cases h
theorem not_long_plain {t:Tok} (h:plainL.any (· == t)=true):¬ longT t:=by
 rintro (rfl|rfl|rfl|rfl) <;> revert h <;> decide
theorem pI_num {known:Tok->Bool} {g lo:Nat} {t:Tok} {r:List Tok} {n:Int} (h:numP t=some n):pRead known (g+1) ⟨true,lo,[],t⟩ r=some (.ok ([⟨110,n,[],[],[],[]⟩],[],r)):=by
 rw[pI_one _ _ _ _ _ (not_long_num h)];unfold pOne;rw[h]
theorem pI_plain {known:Tok->Bool} {g lo:Nat} {t:Tok} {r:List Tok} (h:numP t=none) (h':plainL.any (· == t)=true):pRead known (g+1) ⟨true,lo,[],t⟩ r=some (.ok ([⟨112,0,t,[],[],[]⟩],[],r)):=by
 rw[pI_one _ _ _ _ _ (not_long_plain h')];unfold pOne;rw[h];simp only[h',if_true]
theorem pI_i {known:Tok->Bool} {g lo:Nat} {r:List Tok} (h:0 < lo):pRead known (g+1) ⟨true,lo,[],kI⟩ r=some (.ok ([⟨105,0,[],[],[],[]⟩],[],r)):=by
 rw[pI_one _ _ _ _ _ (by unfold longT;decide)];have:pOne known lo kI=.ok ⟨105,0,[],[],[],[]⟩:=by
  unfold pOne;rw[show numP kI=none by decide];simp only;rw[if_neg (by decide),if_pos ⟨trivial,h⟩]
 rw[this]
theorem pI_i0 {known:Tok->Bool} {g:Nat} {r:List Tok}:pRead known (g+1) ⟨true,0,[],kI⟩ r=some (.error 4):=by
 rw[pI_one _ _ _ _ _ (by unfold longT;decide)];have:pOne known 0 kI=.error 4:=by
  unfold pOne;rw[show numP kI=none by decide];simp only;rw[if_neg (by decide),if_neg (by simp),if_neg (by decide),if_neg (by decide),if_pos (by decide)]
 rw[this]
theorem pI_rec {known:Tok->Bool} {g lo:Nat} {r:List Tok}:pRead known (g+1) ⟨true,lo,[],kRecurse⟩ r=some (.ok ([⟨114,0,[],[],[],[]⟩],[],r)):=by
 rw[pI_one _ _ _ _ _ (by unfold longT;decide)];have:pOne known lo kRecurse=.ok ⟨114,0,[],[],[],[]⟩:=by
  unfold pOne;rw[show numP kRecurse=none by decide];simp only;rw[if_neg (by decide),if_neg (fun h=>absurd h.1 (by decide)),if_pos trivial]
 rw[this]
theorem pI_exit {known:Tok->Bool} {g lo:Nat} {r:List Tok}:pRead known (g+1) ⟨true,lo,[],kExit⟩ r=some (.ok ([⟨120,0,[],[],[],[]⟩],[],r)):=by
 rw[pI_one _ _ _ _ _ (by unfold longT;decide)];have:pOne known lo kExit=.ok ⟨120,0,[],[],[],[]⟩:=by
  unfold pOne;rw[show numP kExit=none by decide];simp only;rw[if_neg (by decide),if_neg (fun h=>absurd h.1 (by decide)),if_neg (by decide),if_pos trivial]
 rw[this]
theorem pI_if {known:Tok->Bool} {g lo:Nat} {r:List Tok} {res:PRes} (h:pRead known (g+1) ⟨true,lo,[],kIf⟩ r=some res):
    (∃ e,pRead known g ⟨false,lo,[kElse,kThen],[]⟩ r=some (.error e)/\res=.error e) \/
    (∃ a t1 r1,pRead known g ⟨false,lo,[kElse,kThen],[]⟩ r=some (.ok (a,t1,r1)) /\
      ((t1=kElse/\((∃ e,pRead known g ⟨false,lo,[kThen],[]⟩ r1=some (.error e)/\res=.error e)\/(∃ b t2 r2,pRead known g ⟨false,lo,[kThen],[]⟩ r1=some (.ok (b,t2,r2))/\res=.ok ([⟨63,0,[],a,b,[]⟩],[],r2)))) \/
       (¬ t1=kElse/\res=.ok ([⟨63,0,[],a,[],[]⟩],[],r1)))):=by
  rw[pRead.eq_def] at h;simp only[Bool.true_eq_false,if_false,if_true] at h
  split at h
  · cases h
  · rename_i e he;injection h with h;exact .inl ⟨e,he,h.symm⟩
  · rename_i a t1 r1 he
    refine .inr ⟨a,t1,r1,he,?_⟩;by_cases h1:t1=kElse
    · rw[if_pos h1] at h
      refine .inl ⟨h1,?_⟩
      split at h
      · cases h
      · rename_i e he';injection h with h;exact .inl ⟨e,he',h.symm⟩
      · rename_i b t2 r2 he';injection h with h;exact .inr ⟨b,t2,r2,he',h.symm⟩
    · rw[if_neg h1] at h
      injection h with h;exact .inr ⟨h1,h.symm⟩
theorem pI_begin {known:Tok->Bool} {g lo:Nat} {r:List Tok} {res:PRes} (h:pRead known (g+1) ⟨true,lo,[],kBegin⟩ r=some res):
    (∃ e,pRead known g ⟨false,lo,[kUntil,kWhile],[]⟩ r=some (.error e)/\res=.error e) \/
    (∃ a t1 r1,pRead known g ⟨false,lo,[kUntil,kWhile],[]⟩ r=some (.ok (a,t1,r1)) /\
      ((t1=kWhile/\((∃ e,pRead known g ⟨false,lo,[kRepeat],[]⟩ r1=some (.error e)/\res=.error e)\/(∃ b t2 r2,pRead known g ⟨false,lo,[kRepeat],[]⟩ r1=some (.ok (b,t2,r2))/\res=.ok ([⟨119,0,[],a,b,[]⟩],[],r2)))) \/
       (¬ t1=kWhile/\res=.ok ([⟨117,0,[],a,[],[]⟩],[],r1)))):=by
  rw[pRead.eq_def] at h;simp only[Bool.true_eq_false,if_false] at h;rw[if_neg (by decide),if_pos trivial] at h
  split at h
  · cases h
  · rename_i e he;injection h with h;exact .inl ⟨e,he,h.symm⟩
  · rename_i a t1 r1 he
    refine .inr ⟨a,t1,r1,he,?_⟩;by_cases h1:t1=kWhile
    · rw[if_pos h1] at h
      refine .inl ⟨h1,?_⟩
      split at h
      · cases h
      · rename_i e he';injection h with h;exact .inl ⟨e,he',h.symm⟩
      · rename_i b t2 r2 he';injection h with h;exact .inr ⟨b,t2,r2,he',h.symm⟩
    · rw[if_neg h1] at h
      injection h with h;exact .inr ⟨h1,h.symm⟩
theorem pI_do {known:Tok->Bool} {g lo:Nat} {r:List Tok} {res:PRes} (h:pRead known (g+1) ⟨true,lo,[],kDo⟩ r=some res):
  (∃ e,pRead known g ⟨false,lo+1,[kLoop],[]⟩ r=some (.error e)/\res=.error e) \/
  (∃ a t1 r1,pRead known g ⟨false,lo+1,[kLoop],[]⟩ r=some (.ok (a,t1,r1))/\res=.ok ([⟨100,0,[],a,[],[]⟩],[],r1)):=by
 rw[pRead.eq_def] at h;simp only[Bool.true_eq_false,if_false] at h;rw[if_neg (by decide),if_neg (by decide),if_pos trivial] at h
 split at h
 ·cases h
 ·rename_i e he;injection h with h;exact .inl ⟨e,he,h.symm⟩
 ·rename_i a t1 r1 he;injection h with h;exact .inr ⟨a,t1,r1,he,h.symm⟩
theorem pI_open {known:Tok->Bool} {g lo:Nat} {r:List Tok}:pRead known (g+1) ⟨true,lo,[],kOpen⟩ r=match pBraces r with
  | .error e=>some (.error e)
  | .ok (ts,r1)=>some (.ok ([⟨123,0,[],[],[],ts⟩],[],r1)):=by
 rw[pRead.eq_def];simp only[Bool.true_eq_false,if_false];rw[if_neg (by decide),if_neg (by decide),if_neg (by decide),if_pos trivial];rcases pBraces r with e|⟨a,b⟩ <;> rfl
end
section
open Go.RowKit
variable {K:Nat->Prop}
abbrev New (w:World):Nat->Prop:=fun b=>w.heap.size<=b
theorem addr_add (g j:Nat):(⟨g,0,none⟩:Addr).add j=⟨g,j,none⟩:=by unfold Addr.add;split <;> simp_all
theorem new_cells (w:World) (o:Obj) (c:Array Value) (t:TypeId):∀ (j:Nat) (u:Value),c.toList[j]? = some u->((w.alloc o).alloc (.cells c t)).cell? ((⟨w.heap.size+1,0,none⟩:Addr).add j)=some u:=by
 intro j u hj;have hb:=Blk.new (w.alloc o) c t;rw[show (w.alloc o).heap.size=w.heap.size+1 by simp] at hb;rw[addr_add];exact hb.cell (by simpa using hj)
theorem grown_keep {w2 w3:World} {o1 o2:Obj} {v:Value} (hg:((w2.alloc o1).alloc o2).grownBy w3 v.ownBlock) {b:Nat} {t:TypeId} {c:Array Value} (hb:Blk w2 b t c) (hn:¬ own v b):Blk w3 b t c:=
 ((hb.alloc o1).alloc o2).same (hg.block b (by have:=hb.lt;simp;omega) (fun e=>hn e.symm))
end
section
open Go.RowKit
variable {K:Nat->Prop}
theorem in0:In 0:=⟨by decide,by decide⟩
end
section
open Go.RowKit
variable {K:Nat->Prop}
abbrev DRes:=Except Int (Tok × List It × List Tok)
def pDefD (g:Nat) (defs:List Def):List Tok->Option DRes
 | []=>some (.error 4)
 | t :: r=>if isName t=false then some (.error 4) else if knownD defs t=false/\30<=defs.length then some (.error 5) else
  match pRead (knownD defs) g ⟨false,0,[kSemi],[]⟩ r with
  | none=>none
  | some (.error e)=>some (.error e)
  | some (.ok (b,_,r1))=>some (.ok (t,b,r1))
theorem pDef_eq (g:Nat) (s:St) (l:List Tok):pDef g s l=pDefD g s.defs l:=by
 cases l <;> rfl
theorem Kp.newer {w w1 w2:World} {b:Nat} (h:Kp w w1 (fun _=>False)) (hk:Kp w1 w2 (fun k=>k=b)) (hb:w.heap.size<=b):Kp w w2 (fun _=>False):=
 ⟨hk.os.trans h.os,hk.tape.trans h.tape,hk.output.trans h.output,Nat.le_trans h.size hk.size,fun k hlt hn=>(hk.block k (Nat.lt_of_lt_of_le hlt h.size) (by omega)).trans (h.block k hlt hn)⟩
end
section
open Go.RowKit
def TokAt (M:Mem) (v:Value) (ws:List ByteArray):Prop:=
 (ws=[]/\∃ ao cap,v=.slice ao 0 cap)\/∃ g off cap cur,v=.slice (some ⟨g,off,none⟩) ws.length cap/\M g 9 cur/\ws.length<=cap/\off+cap<=maxLen/\off+cap<=cur.size/\∀ i (h:i < ws.length),cur[off+i]? = some (.string ws[i])
theorem TokAt_mono {M M':Mem} (h:∀ b c,M b 9 c->M' b 9 c) {v:Value} {ws:List ByteArray} (hr:TokAt M v ws):TokAt M' v ws:=by
 rcases hr with hr|⟨g,off,cap,cur,h1,h2,h3⟩
 ·exact .inl hr
 ·exact .inr ⟨g,off,cap,cur,h1,h _ _ h2,h3⟩
theorem TokAt.form {M:Mem} {v:Value} {ws:List ByteArray} (h:TokAt M v ws):∃ ao cap,v=.slice ao ws.length cap:=by
 rcases h with⟨rfl,ao,cap,rfl⟩|⟨g,off,cap,cur,rfl,_⟩
 ·exact⟨ao,cap,rfl⟩
 ·exact⟨_,cap,rfl⟩
def heldR (v:Value):Option (DataW Value × List MemPlace):=some (.held v,[])
structure BookK (w:World) (bk mb:Nat) (known:Tok->Bool):Prop where
 ex:∃ h b,Blk w bk 106 #[.map (some mb),.int .i64 h,.int .i64 b]
 look:∃ n DD,w.ownsMap Tryz.prog 9 heldR mb n DD/\∀ t:Tok,t.length<=maxLen->∃ p,DD.atKey (.string t) (.held (.pointer none))=.held (.pointer p)/\p.isSome=known t
def rdArr (rv:Value) (bk:Nat) (lo:Nat):Array Value:=#[rv,.func (.func 74) #[pt bk] #[],.int .i64 lo]
def okW (t:ByteArray):Prop:=t.toList ≠ []/\t.size<=1000
def SpAt (w:World):Prop:=∃ tt fr,w.heap[1]? = some (.cells spellA tt fr)
structure RdInv (w:World) (sb bk mb:Nat) (known:Tok->Bool) (ws:List ByteArray) (lo:Nat):Prop where
 blk:∃ rv,Blk w sb 201 (rdArr rv bk lo)/\TokAt (BD (fun b=>b < sb) w) rv ws
 book:BookK w bk mb known
 len:ws.length+lo<=1000
 ok:∀ t∈ws,okW t
 sp:SpAt w
 s1:sb ≠ 1
theorem ownsMap_same {w w':World} {b n:Nat} {DD:DataW Value} (h:w.ownsMap Tryz.prog 9 heldR b n DD) (e:w'.heap[b]? = w.heap[b]?):w'.ownsMap Tryz.prog 9 heldR b n DD:=by
 obtain⟨es,clock,h1,h2⟩:=h;exact⟨es,clock,e.trans h1,h2⟩
theorem map_ne {w:World} {b n:Nat} {DD:DataW Value} (h:w.ownsMap Tryz.prog 9 heldR b n DD) {b':Nat} {t:TypeId} {c:Array Value} (hb:Blk w b' t c):b ≠ b':=by
 obtain⟨es,clock,h1,_⟩:=h;rintro rfl;have:w.heap[b]? = _:=hb;rw[h1] at this;injection this with this;cases this
theorem BookK.blk {w:World} {bk mb:Nat} {known:Tok->Bool} (h:BookK w bk mb known):Blk w bk 106 #[.map (some mb),.int .i64 h.ex.choose,.int .i64 h.ex.choose_spec.choose]:=h.ex.choose_spec.choose_spec
theorem BookK.kp {w w':World} {bk mb:Nat} {known:Tok->Bool} {V:Nat->Prop} (h:BookK w bk mb known) (hk:Kp w w' V) (h1:¬ V bk) (h2:¬ V mb):BookK w' bk mb known:=by
 obtain⟨n,DD,hm,hl⟩:=h.look;obtain⟨h0,b0,hb⟩:=h.ex;exact⟨⟨h0,b0,hk.blk hb h1⟩,n,DD,ownsMap_same hm (hk.block mb hm.lt h2),hl⟩
theorem BookK.one {w w':World} {bk mb b:Nat} {known:Tok->Bool} (h:BookK w bk mb known) (hk:Kp w w' (fun k=>k=b)) {t:TypeId} {c:Array Value} (hb:Blk w b t c) (ht:t ≠ 106):BookK w' bk mb known:=by
 obtain⟨n,DD,hm,hl⟩:=h.look;obtain⟨h0,b0,hbb⟩:=h.ex;exact h.kp hk (by rintro rfl;exact ht (hb.inj hbb).1) (map_ne hm hb)
theorem SpAt.kp {w w':World} {V:Nat->Prop} (h:SpAt w) (hk:Kp w w' V) (h1:¬ V 1):SpAt w':=by
 obtain⟨tt,fr,hx⟩:=h;have hlt:1 < w.heap.size:=by
  rcases Nat.lt_or_ge 1 w.heap.size with h|h
  ·exact h
  ·rw[Array.getElem?_eq_none h] at hx;cases hx
 exact⟨tt,fr,(hk.block 1 hlt h1).trans hx⟩
theorem RdInv.to {w w':World} {sb bk mb:Nat} {known:Tok->Bool} {ws ws':List ByteArray} {lo lo':Nat} (h:RdInv w sb bk mb known ws lo) (hk:Kp w w' (fun k=>k=sb)) (rv:Value) (hb:Blk w' sb 201 (rdArr rv bk lo')) (ht:TokAt (BD (fun b=>b < sb) w) rv ws') (hl:ws'.length+lo'<=1000) (ho:∀ t∈ws',okW t):RdInv w' sb bk mb known ws' lo':=by
 obtain⟨rv0,hb0,ht0⟩:=h.blk;refine⟨⟨rv,hb,TokAt_mono (fun b c hc=>⟨hc.1,hk.blk hc.2 (by rintro rfl;exact absurd (hc.2.inj hb0).1 (by decide))⟩) ht⟩,h.book.one hk hb0 (by decide),hl,ho,h.sp.kp hk (by rintro e;exact h.s1 e.symm),h.s1⟩
theorem RdInv.kp {w w':World} {sb bk mb:Nat} {known:Tok->Bool} {ws:List ByteArray} {lo:Nat} (h:RdInv w sb bk mb known ws lo) (hk:Kp w w' (fun _=>False)):RdInv w' sb bk mb known ws lo:=by
 obtain⟨rv,hb,ht⟩:=h.blk;exact h.to (hk.mono (fun _ _ e=>e.elim)) rv (hk.blk hb (by simp)) ht h.len h.ok
theorem nextM (w:World) (sb bk mb lo:Nat) (known:Tok->Bool) (t:ByteArray) (ws:List ByteArray) (h:RdInv w sb bk mb known (t :: ws) lo):
  Calls Tryz.prog 196 #[pt sb] w fun e w'=>e=.returned (.string t)/\Kp w w' (fun k=>k=sb)/\RdInv w' sb bk mb known ws lo:=by
 obtain⟨rv,hb,ht⟩:=h.blk;have HH:=hide h;rcases ht with⟨h0,_⟩|⟨g,off,cap,cur,rfl,⟨hgs,hg⟩,h1,h2,h3,h4⟩
 ·cases h0
 ·have hl:=h.len;clear h;simp only[List.length_cons] at h1 hb hl;have c0:w.cell? ⟨sb,0,none⟩=some (.slice (some ⟨g,off,none⟩) (ws.length+1) cap):=hb.cell rfl;have f0:=hb.free 0;have c1:w.cell? ⟨g,off,none⟩=some (.string t):=hg.cell (by have:=h4 0 (by simp);simpa using this);have HT:Hid (∀ rv',TokAt (BD (fun b=>b < sb) w) rv' ws->RdInv (w.setCell ⟨sb,0,none⟩ rv') sb bk mb known ws lo):=by
   intro rv' hr';exact HH.out.to (Kp.one _ _ _ _) rv' (hb.set 0 _) hr' (by omega) (fun t ht=>HH.out.ok t (by simp[ht]))
  have H4:Hid (∀ i (h:i < ws.length),cur[off+1+i]? = some (.string ws[i])):=by
   intro i hi;have:=h4 (i+1) (by simpa using hi);rw[show off+1+i=off+(i+1) by omega];simpa using this
  clear h4;go_enter Tryz.func196,Tryz.ntmps196;go_wp2
  all_goals go_ret
  ·have hz:ws=[]:=List.length_eq_zero_iff.1 (by omega);exact⟨rfl,Kp.one _ _ _ _,HT.out _ (.inl ⟨hz,some ⟨g,off,none⟩,0,by rw[hz];rfl⟩)⟩
  ·exact⟨rfl,Kp.one _ _ _ _,HT.out _ (.inr ⟨g,off+1,cap - 1,cur,rfl,⟨hgs,hg⟩,by omega,by omega,by omega,H4.out⟩)⟩
def allEnds:List Tok:=[kSemi,kElse,kThen,kUntil,kWhile,kRepeat,kLoop]
theorem endsM (a:Int) (w:World):Calls Tryz.prog 197 #[.int .i64 a] w fun e w'=>e=.returned (.bool (decide (a=19\/a=23\/a=24\/a=26\/a=27\/a=28\/a=30)))/\w'=w:=by
 by_cases h:a=19\/a=23\/a=24\/a=26\/a=27\/a=28\/a=30
 ·rw[decide_eq_true h];rcases h with rfl|rfl|rfl|rfl|rfl|rfl|rfl
  all_goals
   go_enter Tryz.func197,Tryz.ntmps197;go_wp2;go_ret;exact⟨rfl,rfl⟩
 ·rw[decide_eq_false h];obtain⟨h1,h⟩:=not_or.1 h;obtain⟨h2,h⟩:=not_or.1 h;obtain⟨h3,h⟩:=not_or.1 h;obtain⟨h4,h⟩:=not_or.1 h;obtain⟨h5,h⟩:=not_or.1 h;obtain⟨h6,h7⟩:=not_or.1 h;go_enter Tryz.func197,Tryz.ntmps197;go_wp2;go_ret;exact⟨rfl,rfl⟩
end
section
open Go.RowKit
theorem keyS (t:ByteArray) (ht:t.size<=maxLen):keyOf Tryz.prog 9 (.string t)=some (.string t.data.toList):=by
 exact WideMaps.keyOf_string_mk Tryz.underlying9 ht
theorem zeroW (w:World):(zeroValue 107).run Tryz.prog w=.ok (.pointer none) w:=by kernel_rfl
theorem look_run {w:World} {mb n:Nat} {DD:DataW Value} (h:w.ownsMap Tryz.prog 9 heldR mb n DD) (t:ByteArray) (ht:t.size<=maxLen) {p:Option Addr} (hp:DD.atKey (.string t.data.toList) (.held (.pointer none))=.held (.pointer p)):
  (Instr.lookup 104 (.map (some mb)) (.string t) false).run Tryz.prog w=.ok (.pointer p) w:=by
 obtain⟨v,ps,hrun,hv⟩:=h.lookup (Maps.string_keyed Tryz.underlying9) Tryz.underlying104 (zeroW w) (zd:=.held (.pointer none)) (zp:=[]) rfl (keyS t ht);rw[hp] at hv;have hv:some (DataW.held v,[])=some (DataW.held (Value.pointer p),ps):=hv;have hv2:DataW.held v=DataW.held (Value.pointer p):=congrArg Prod.fst (Option.some.inj hv);have hv3:v=Value.pointer p:=DataW.held.inj hv2;rw[<-hv3];exact hrun
theorem hasM (w:World) (bk mb:Nat) (known:Tok->Bool) (h:BookK w bk mb known) (t:ByteArray) (ht:t.size<=maxLen):
  Calls Tryz.prog 74 #[pt bk,.string t] w fun e w'=>e=.returned (.bool (known t.data.toList))/\w'=w:=by
 obtain⟨n,DD,hm,hl⟩:=h.look;obtain⟨p,hp,hk⟩:=hl t.data.toList ht;have hrun:=look_run hm t ht hp;obtain⟨h0,b0,hbb⟩:=h.ex;have c0:w.cell? ⟨bk,0,none⟩=some (.map (some mb)):=hbb.cell rfl;clear hbb;rw[<-hk];clear hk hp hl hm
 cases p with
 | none=>
  go_enter Tryz.func74,Tryz.ntmps74;go_wp2;go_ret;exact⟨rfl,rfl⟩
 | some a=>
  go_enter Tryz.func74,Tryz.ntmps74;go_wp2;go_ret;exact⟨rfl,rfl⟩
theorem ent_has:Ents 74:=ents_of Tryz.func74 (by kernel_rfl) (by kernel_rfl)
end
section
open Go.RowKit
def rowZ (M:Mem) (e:TypeId) (z:Nat) (v:Value) (n:Nat) (xs:List Value):Prop:=
 xs.length=n * z/\((v=.slice none 0 0/\n=0)\/∃ g cap cur,v=.slice (some ⟨g,0,none⟩) n cap/\M g e cur/\n<=cap/\cap<=maxLen/\cur.size=cap * z/\cur.toList.take (n * z)=xs)
theorem rowZ_mono {M M':Mem} {e:TypeId} (h:∀ b c,M b e c->M' b e c) {z:Nat} {v:Value} {n:Nat} {xs:List Value} (hr:rowZ M e z v n xs):rowZ M' e z v n xs:=by
 obtain⟨hl,hr⟩:=hr;refine⟨hl,?_⟩;rcases hr with hr|⟨g,cap,cur,h1,h2,h3⟩
 ·exact .inl hr
 ·exact .inr ⟨g,cap,cur,h1,h _ _ h2,h3⟩
theorem rowZ.of {D:Nat->Prop} {w:World} {e:TypeId} {z:Nat} {v:Value} {n:Nat} {xs:List Value} (h:w.ownsRow 0 e z v n xs) (hd:∀ b,own v b->D b):rowZ (BD D w) e z v n xs:=by
 refine⟨h.1,?_⟩;rcases h.2 with h0|⟨g,cap,cur,rfl,_,hg,h3,h4,h5,h6⟩
 ·exact .inl h0
 ·exact .inr ⟨g,cap,cur,rfl,⟨hd g (by simp[own,Value.ownBlock]),hg⟩,h3,h4,h5,h6⟩
theorem rowZ.row {D:Nat->Prop} {w:World} {e:TypeId} {z:Nat} {v:Value} {n:Nat} {xs:List Value} (h:rowZ (BD D w) e z v n xs):w.ownsRow 0 e z v n xs:=by
 obtain⟨hl,h⟩:=h;refine⟨hl,?_⟩;rcases h with h|⟨g,cap,cur,rfl,h2,h3,h4,h5,h6⟩
 ·exact .inl h
 ·exact .inr ⟨g,cap,cur,rfl,Nat.zero_le _,h2.2,h3,h4,h5,h6⟩
theorem rowZ.form {M:Mem} {e:TypeId} {z:Nat} {v:Value} {n:Nat} {xs:List Value} (h:rowZ M e z v n xs):∃ ao cap,v=.slice ao n cap:=by
 rcases h.2 with⟨rfl,rfl⟩|⟨g,cap,cur,rfl,_⟩
 ·exact⟨none,0,rfl⟩
 ·exact⟨_,cap,rfl⟩
theorem rowM.form {M:Mem} {e:TypeId} {v:Value} {xs:List Value} (h:rowM M e v xs):∃ ao cap,v=.slice ao xs.length cap:=by
 rcases h with⟨rfl,rfl⟩|⟨g,cap,cur,rfl,_⟩
 ·exact⟨none,0,rfl⟩
 ·exact⟨_,cap,rfl⟩
def kindP (k:Nat):Int:=if k=110 then 0 else if k=112 then 1 else if k=99 then 2 else if k=63 then 3 else if k=117 then 4 else if k=119 then 5 else if k=100 then 6 else if k=105 then 7 else if k=114 then 8 else if k=120 then 9 else 10
structure PItm (M:Mem) (P:Value->List It->Prop) (x:It) (n pl:Int) (nm:ByteArray) (tv va vb:Value):Prop where
 kd:x.kind=110\/x.kind=112\/x.kind=99\/x.kind=63\/x.kind=117\/x.kind=119\/x.kind=100\/x.kind=105\/x.kind=114\/x.kind=120\/x.kind=123
 num:x.kind=110->n=x.n/\In x.n
 pln:x.kind=112->∃ j,plainL.findIdx? (· == x.name)=some j/\pl=(j:Int)+2
 name:x.kind=99->nm.data.toList=x.name/\nm.size<=1000
 toks:∃ ws,rowM M 9 tv (ws.map Value.string)/\(x.kind=123->texts ws=x.toks/\(∀ t∈ws,okW t)/\ws.length<=1000)
 a:P va x.a
 b:P vb x.b
def itemsL (M:Mem) (P:Value->List It->Prop):List It->List Value->Prop
 | [],xs=>xs=[]
 | x :: l,xs=>∃ n pl nm tv va vb rest,xs=.int .i64 (kindP x.kind) :: .int .i64 n :: .int .i64 pl :: .string nm :: tv :: va :: vb :: rest/\PItm M P x n pl nm tv va vb/\itemsL M P l rest
def itemsIn (M:Mem):Nat->Value->List It->Prop
 | 0,_,_=>False
 | g+1,v,l=>∃ xs,rowZ M 241 7 v l.length xs/\itemsL M (itemsIn M g) l xs/\l.length<=1000
def Items (M:Mem) (v:Value) (l:List It):Prop:=∃ g,itemsIn M g v l
theorem PItm.mono {M M':Mem} {P P':Value->List It->Prop} (h:∀ b t c,M b t c->M' b t c) (hp:∀ v l,P v l->P' v l) {x:It} {n pl:Int} {nm:ByteArray} {tv va vb:Value} (hi:PItm M P x n pl nm tv va vb):PItm M' P' x n pl nm tv va vb:=by
 obtain⟨ws,h1,h2⟩:=hi.toks;exact⟨hi.kd,hi.num,hi.pln,hi.name,⟨ws,rowM_mono h h1,h2⟩,hp _ _ hi.a,hp _ _ hi.b⟩
theorem itemsL_mono {M M':Mem} {P P':Value->List It->Prop} (h:∀ b t c,M b t c->M' b t c) (hp:∀ v l,P v l->P' v l):∀ (l:List It) (xs:List Value),itemsL M P l xs->itemsL M' P' l xs
 | [],_,h0=>h0
 | _ :: l,_,⟨n,pl,nm,tv,va,vb,rest,h1,h2,h3⟩=>⟨n,pl,nm,tv,va,vb,rest,h1,h2.mono h hp,itemsL_mono h hp l rest h3⟩
theorem itemsIn_mono {M M':Mem} (h:∀ b t c,M b t c->M' b t c):∀ (g:Nat) (v:Value) (l:List It),itemsIn M g v l->itemsIn M' g v l
 | 0,_,_,h0=>h0
 | g+1,_,_,⟨xs,h1,h2,h3⟩=>⟨xs,rowZ_mono (fun b c=>h b _ c) h1,itemsL_mono h (itemsIn_mono h g) _ _ h2,h3⟩
theorem itemsIn_succ {M:Mem}:∀ (g:Nat) (v:Value) (l:List It),itemsIn M g v l->itemsIn M (g+1) v l
 | 0,_,_,h=>h.elim
 | g+1,_,_,⟨xs,h1,h2,h3⟩=>⟨xs,h1,itemsL_mono (fun _ _ _ h=>h) (itemsIn_succ g) _ _ h2,h3⟩
theorem itemsIn_le {M:Mem} {g g':Nat} (hg:g<=g') {v:Value} {l:List It} (h:itemsIn M g v l):itemsIn M g' v l:=by
 induction hg with
 | refl=>exact h
 | step _ ih=>exact itemsIn_succ _ _ _ ih
theorem Items.mono {M M':Mem} (h:∀ b t c,M b t c->M' b t c) {v:Value} {l:List It} (hi:Items M v l):Items M' v l:=by
 obtain⟨g,hg⟩:=hi;exact⟨g,itemsIn_mono h g v l hg⟩
theorem itemsL_lift {M:Mem}:∀ (l:List It) (xs:List Value),itemsL M (Items M) l xs->∃ g,itemsL M (itemsIn M g) l xs
 | [],_,h=>⟨0,h⟩
 | _ :: l,_,⟨n,pl,nm,tv,va,vb,rest,h1,h2,h3⟩=>by
  obtain⟨g3,h3⟩:=itemsL_lift l rest h3;obtain⟨g1,ha⟩:=h2.a;obtain⟨g2,hb⟩:=h2.b;refine⟨g1+g2+g3,n,pl,nm,tv,va,vb,rest,h1,⟨h2.kd,h2.num,h2.pln,h2.name,h2.toks,itemsIn_le (by omega) ha,itemsIn_le (by omega) hb⟩,itemsL_mono (fun _ _ _ h=>h) (fun _ _=>itemsIn_le (by omega)) _ _ h3⟩
theorem Items.of {M:Mem} {v:Value} {l:List It} {xs:List Value} (h1:rowZ M 241 7 v l.length xs) (h2:itemsL M (Items M) l xs) (h3:l.length<=1000):Items M v l:=by
 obtain⟨g,h⟩:=itemsL_lift l xs h2;exact⟨g+1,xs,h1,h,h3⟩
theorem Items.out {M:Mem} {v:Value} {l:List It} (h:Items M v l):∃ xs,rowZ M 241 7 v l.length xs/\itemsL M (Items M) l xs:=by
 obtain⟨g,h⟩:=h
 cases g with
 | zero=>exact h.elim
 | succ g=>
  obtain⟨xs,h1,h2,_⟩:=h;exact⟨xs,h1,itemsL_mono (fun _ _ _ h=>h) (fun _ _ h=>⟨g,h⟩) _ _ h2⟩
theorem Items.nil (M:Mem):Items M (.slice none 0 0) []:=⟨1,[],⟨rfl,.inl ⟨rfl,rfl⟩⟩,rfl,by simp⟩
theorem itemsL_app {M:Mem} {P:Value->List It->Prop}:∀ (l l':List It) (xs xs':List Value),itemsL M P l xs->itemsL M P l' xs'->itemsL M P (l ++ l') (xs ++ xs')
 | [],_,_,_,h,h'=>by have h:_=_:=h;subst h;exact h'
 | _ :: l,l',_,xs',⟨n,pl,nm,tv,va,vb,rest,h1,h2,h3⟩,h'=>⟨n,pl,nm,tv,va,vb,rest ++ xs',by rw[h1];rfl,h2,itemsL_app l l' rest xs' h3 h'⟩
def zIt7:Array Value:=#[.int .i64 0,.int .i64 0,.int .i64 0,.string ⟨#[]⟩,.slice none 0 0,.slice none 0 0,.slice none 0 0]
theorem Tryz.infoBI:(Tryz.prog.info? 241).map (fun i=>(i.zero,i.size,i.bytes))=some (some (.agg zIt7),7,112):=by kernel_rfl
abbrev it7 (k n pl:Int) (nm:ByteArray) (tv va vb:Value):Value:=.agg #[.int .i64 k,.int .i64 n,.int .i64 pl,.string nm,tv,va,vb]
def QIt (w:World) (sb bk mb:Nat) (known:Tok->Bool) (lo:Nat) (x:Ending) (w':World):PRes->Prop
 | .ok (xs,_,r)=>∃ x' n pl nm tv va vb ws',xs=[x']/\x=.returned (.tuple #[it7 (kindP x'.kind) n pl nm tv va vb,.int .i64 0])/\PItm (BD (New w) w') (Items (BD (New w) w')) x' n pl nm tv va vb/\texts ws'=r/\RdInv w' sb bk mb known ws' lo
 | .error er=>er ≠ 0/\∃ k n pl nm a1 m1 p1 a2 m2 p2 a3 m3 p3 rv,x=.returned (.tuple #[it7 k n pl nm (.slice a1 m1 p1) (.slice a2 m2 p2) (.slice a3 m3 p3),.int .i64 er])/\Blk w' sb 201 (rdArr rv bk lo)
def QBo (w:World) (sb bk mb:Nat) (known:Tok->Bool) (lo:Nat) (x:Ending) (w':World):PRes->Prop
 | .ok (xs,t',r)=>∃ v ws',x=.returned (.tuple #[v,.int .i64 (kindN t'),.int .i64 0])/\Items (BD (New w) w') v xs/\texts ws'=r/\RdInv w' sb bk mb known ws' lo
 | .error er=>er ≠ 0/\∃ rv,x=.returned (.tuple #[.slice none 0 0,.int .i64 0,.int .i64 er])/\Blk w' sb 201 (rdArr rv bk lo)
def QItem (g:Nat):Prop:=∀ (w:World) (sb bk mb:Nat) (known:Tok->Bool) (ws:List ByteArray) (lo:Nat) (tb:ByteArray) (K:Int) (res:PRes),
 pRead known g ⟨true,lo,[],tb.data.toList⟩ (texts ws)=some res->RdInv w sb bk mb known ws lo->okW tb->ws.length+lo+1<=1000->(K=if (numP tb.toList).isSome then 1 else (kindN tb.toList:Int))->allEnds.any (· == tb.data.toList)=false ->
 Calls Tryz.prog 198 #[pt sb,.string tb,.int .i64 K] w fun x w'=>Kp w w' (fun b=>b=sb)/\QIt w sb bk mb known lo x w' res
def QBody (g:Nat):Prop:=∀ (w:World) (sb bk mb:Nat) (known:Tok->Bool) (ws:List ByteArray) (lo:Nat) (res:PRes),
 pRead known g ⟨false,lo,allEnds,[]⟩ (texts ws)=some res->RdInv w sb bk mb known ws lo ->
 Calls Tryz.prog 182 #[pt sb] w fun x w'=>Kp w w' (fun b=>b=sb)/\QBo w sb bk mb known lo x w' res
def restOf (w:World) (sb:Nat):Nat:=match w.cell? ⟨sb,0,none⟩ with
 | some (.slice _ n _)=>n
 | _=>0
theorem RdInv.rest {w:World} {sb bk mb:Nat} {known:Tok->Bool} {ws:List ByteArray} {lo:Nat} (h:RdInv w sb bk mb known ws lo):restOf w sb=ws.length:=by
 obtain⟨rv,hb,ht⟩:=h.blk;obtain⟨ao,cap,rfl⟩:=ht.form;have:w.cell? ⟨sb,0,none⟩=some (.slice ao ws.length cap):=hb.cell rfl;unfold restOf;rw[this]
end
end Go.Proofs.YteainaiebcphlaaGreatDoor
