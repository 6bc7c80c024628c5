import Derived.Test.YteainaiebcphlaaGreatDoorV31
import Derived.Deep.DeepWitnessRowRef
import Derived.Test.YteainaiebcphlaaGreatDoorCards
import Derived.Test.YteainaiebcphlaaGreatDoorTie
import Derived.SevenTiedAt
import Derived.Handy
namespace Go.Proofs.YteainaiebcphlaaGreatDoor
set_option maxRecDepth 1000000
set_option maxHeartbeats 4000000
set_option linter.all false
section
open Go.RowKit
def nbB (c:UInt8):Bool:=decide (c.toNat ≠ 58/\c.toNat ≠ 123)
def smp (K:Int) (S:ByteArray) (k:Nat):Bool:=decide (K<=2) && (S.data.toList.take k).all nbB
theorem smp_zero (K:Int) (S:ByteArray):smp K S 0=decide (K<=2):=by simp[smp]
theorem smp_succ (K:Int) (S:ByteArray) (k:Nat) (h:k < S.size):smp K S (k+1)=(smp K S k && nbB S[k]):=by
 unfold smp;rw[take_snoc S k h,List.all_append];simp[Bool.and_assoc]
theorem smp_full {K:Int} {S:ByteArray} (h:smp K S S.size=true):K<=2:=by
 unfold smp at h;rw[Bool.and_eq_true,decide_eq_true_eq] at h;exact h.1
section
variable {PS:World->Nat->(Nat->Prop)->St->Prop} {B:Nat} {W0:World} (P:PCon B W0 PS)
include P
theorem heads2L (w:World) (hb:Below B W0 w) (hB:B<=w.heap.size):Calls Tryz.prog 13 #[.int .i64 2] w fun e w'=>e=.returned (.bool true)/\Kp w w' (fun _=>False):=by
 go_enter Tryz.func13,Tryz.ntmps13
 go_wp2_with fail
 refine (P.new w hb hB).mono ?_;rintro e w1 ⟨xb,V,rfl,hx,hk1,hV⟩;have H1:=hide (saysL P w1 xb hg V st0 hs1 hl1 hw1 hx WFs.first hv1 ha1 ho1.1 ho1.2)
 have HK1:=hide hk1;have HV:=hide hV;clear hx hk1 hV
 go_wp2_with fail
 refine H1.out.mono ?_;rintro e w2 ⟨rfl,wf1,V1,hx1,hto1⟩;have HK:Hid (Kp w w2 (fun _=>False)):=by
  have t1:=hto1;exact⟨t1.kp.os.trans HK1.out.os,t1.kp.tape.trans HK1.out.tape,t1.kp.output.trans HK1.out.output,Nat.le_trans HK1.out.size t1.kp.size,fun k hk _=>(t1.kp.block k (Nat.lt_of_lt_of_le hk HK1.out.size) (fun h=>by
   rcases h with h|h
   ·exact h
   ·have:=HV.out k h;omega)).trans (HK1.out.block k hk (fun h=>h))⟩
 clear hx1 hto1 wf1 H1;go_wp2;go_ret;exact⟨rfl,HK.out⟩
theorem stepL2 (c:Nat->Nat) (w:World) (wb:Nat) (psv kv:Value) (n:Int) (ps:List Pr) (kept:List Ke) (K A N M:Int) (S:ByteArray) (h:WIn PS B c w wb psv kv n ps kept) (hb0:Below B W0 w) (hK:K<=2) (hA:In A) (hn2:ps.length<=4398046511104):
  Calls Tryz.prog 14 #[.pointer (some ⟨wb,0,none⟩),.agg #[.int .i64 K,.int .i64 A,.int .i64 N,.int .i64 M,.string S]] w fun e w'=>e=.returned (.bool true)/\StepPost PS B w w' wb ps.length kept.length:=by
 by_cases k1:K=1
 ·subst k1;exact stepNew P c w wb psv kv n ps kept A N M S h hb0 hn2
 by_cases hz:ps.length=0
 ·have:ps=[]:=List.eq_nil_of_length_eq_zero hz;subst this;exact stepNone P c w wb psv kv n kept K A N M S h (by simpa using k1)
 by_cases k2:K=2
 ·subst k2;exact stepLine P c w wb psv kv n ps kept A N M S h hA (by omega) hn2
 ·exact stepOther P c w wb psv kv n ps kept K A N M S h (by omega) hA (by omega) hn2
end
def LRel (PS:World->Nat->(Nat->Prop)->St->Prop) (B:Nat) (W wr:World) (wb k:Nat):Prop:=∃ c psv kv n ps kept,WIn PS B c wr wb psv kv n ps kept/\ps.length<=k/\Below B W wr
section
variable {PS:World->Nat->(Nat->Prop)->St->Prop}
theorem linesL (W:World) (P:PCon W.heap.size W PS) (b off len cap:Nat) (hb:b < W.heap.size) (hlen:len<=4398046511104) (hS:∀ i,i < len->∃ K A N M S,Scr W b off i K A N M S/\S.size<=9223372036854775807):
  Calls Tryz.prog 3 #[.slice (some ⟨b,off,none⟩) len cap] W fun e w'=>e=.returned (.bool true)/\Below W.heap.size W w':=by
 have HS:=hide hS;clear hS;go_enter Tryz.func3,Tryz.ntmps3
 go_wp2_with fail
 refine (heads2L P W (Below.refl _ _) (Nat.le_refl _)).mono ?_;rintro e w1 ⟨rfl,hk1⟩;have hb1:Below W.heap.size W w1:=hk1.below (Nat.le_refl _) (fun _ _ h=>h);have hsz1:=hk1.size;have HW0:Hid (LRel PS W.heap.size W (w1.alloc (.cells #[.slice none 0 0,.int .i64 0,.slice none 0 0] 28)) w1.heap.size 0):=
  ⟨_,_,_,_,_,_,WIn.first P w1 hsz1,by simp,hb1.alloc hsz1 _⟩
 clear hk1 hb1;go_wp2
 go_loopw [3,5] (fun o i wr=>∃ k:Nat,k<=len/\i=.int .i64 k/\o=.bool true/\LRel PS W.heap.size W wr w1.heap.size k) (fun _ i _=>len - (intOf i).toNat)
 case atStart=>exact⟨0,Nat.zero_le _,rfl,rfl,HW0.out⟩
 case round=>
  clear HW0;obtain⟨k,hk,rfl,rfl,c,psv,kv,n,ps,kept,hw,hpl,hbel⟩:=hrel;by_cases hlt:k < len
  ·obtain⟨K,A,N,M,S,hs,hSz⟩:=HS.out k hlt;have d0:wr.cell? ⟨b,off+k * 5,none⟩=some (.int .i64 K):=(hbel.cell (p:=⟨b,off+k * 5,none⟩) hb).trans hs.c0;have d1:wr.cell? ⟨b,off+k * 5+1,none⟩=some (.int .i64 A):=(hbel.cell (p:=⟨b,off+k * 5+1,none⟩) hb).trans hs.c1;have d2:wr.cell? ⟨b,off+k * 5+2,none⟩=some (.int .i64 N):=(hbel.cell (p:=⟨b,off+k * 5+2,none⟩) hb).trans hs.c2;have d3:wr.cell? ⟨b,off+k * 5+3,none⟩=some (.int .i64 M):=(hbel.cell (p:=⟨b,off+k * 5+3,none⟩) hb).trans hs.c3;have d4:wr.cell? ⟨b,off+k * 5+4,none⟩=some (.string S):=(hbel.cell (p:=⟨b,off+k * 5+4,none⟩) hb).trans hs.c4;have HWI:=hide hw;have HBEL:=hide hbel;have HSA:=hide hs.a;clear hw hbel hs;go_wp2
   go_loop [7,8] (fun s i=>∃ q:Nat,q<=S.size/\i=.int .i64 q/\s=.bool (smp K S q)) (fun _ i=>S.size - (intOf i).toNat)
   case atStart=>exact⟨0,Nat.zero_le _,rfl,by rw[smp_zero]⟩
   case round=>
    obtain⟨q,hq,rfl,rfl⟩:=hrel;by_cases hqs:q < S.size
    ·have HSU:=hide (smp_succ K S q hqs)
     cases hsm:smp K S q
     ·go_wp2
      go_round
      case rel=>exact⟨q+1,by omega,by go_num,by rw[HSU.out,hsm];rfl⟩
      case measure=>simp[intOf];omega
     ·by_cases h58:S[q].toNat=58
      ·have HN:Hid (nbB S[q]=false):=decide_eq_false (by omega);go_wp2
       go_round
       case rel=>exact⟨q+1,by omega,by go_num,by rw[HSU.out,hsm,HN.out];rfl⟩
       case measure=>simp[intOf];omega
      ·by_cases h123:S[q].toNat=123
       ·have HN:Hid (nbB S[q]=false):=decide_eq_false (by omega);go_wp2
        go_round
        case rel=>exact⟨q+1,by omega,by go_num,by rw[HSU.out,hsm,HN.out];rfl⟩
        case measure=>simp[intOf];omega
       ·have HN:Hid (nbB S[q]=true):=decide_eq_true ⟨h58,h123⟩;have e1:((S[q].toNat:Int) != 58)=true:=by rw[bne_iff_ne];omega
        have e2:((S[q].toNat:Int) != 123)=true:=by rw[bne_iff_ne];omega
        go_wp2
        go_round
        case rel=>exact⟨q+1,by omega,by go_num,by rw[HSU.out,hsm,HN.out];rfl⟩
        case measure=>simp[intOf];omega
    ·have hqe:q=S.size:=by omega
     subst hqe
     cases hsm:smp K S S.size
     ·have HR:Hid (LRel PS W.heap.size W wr w1.heap.size (k+1)):=⟨_,_,_,_,_,_,HWI.out,by omega,HBEL.out⟩;go_wp2
      go_roundw
      case rel=>exact⟨k+1,by omega,by go_num,rfl,HR.out⟩
      case measure=>simp[intOf];omega
     ·have hK2:=smp_full hsm;have HST:=hide (stepL2 P c wr w1.heap.size psv kv n ps kept K A N M S HWI.out HBEL.out hK2 HSA.out (by omega))
      go_wp2_with fail
      refine HST.out.mono ?_;rintro e w2 ⟨rfl,c2,psv2,kv2,n2,ps2,kept2,hw2,hpl2,hkl2,hbel2⟩;have HR:Hid (LRel PS W.heap.size W w2 w1.heap.size (k+1)):=⟨_,_,_,_,_,_,hw2,by omega,HBEL.out.trans hbel2⟩;clear hw2 hbel2;go_wp2
      go_roundw
      case rel=>exact⟨k+1,by omega,by go_num,rfl,HR.out⟩
      case measure=>simp[intOf];omega
  ·have HB2:=hide hbel;clear hw hbel;go_wp2;go_ret;exact⟨rfl,HB2.out⟩
theorem linesL_empty (W:World) (P:PCon W.heap.size W PS) (ao:Option Addr) (cap:Nat):
  Calls Tryz.prog 3 #[.slice ao 0 cap] W fun e w'=>e=.returned (.bool true)/\Below W.heap.size W w':=by
 have HH:=hide (heads2L P W (Below.refl _ _) (Nat.le_refl _));clear P;go_enter Tryz.func3,Tryz.ntmps3
 go_wp2_with fail
 refine HH.out.mono ?_;rintro e w1 ⟨rfl,hk1⟩;have hsz1:=hk1.size;have HB:=hide ((hk1.below (Nat.le_refl _) (by simp)).alloc hsz1 (.cells #[.slice none 0 0,.int .i64 0,.slice none 0 0] 28));clear hk1;go_wp2;refine wp_loop_rounds 1 ?_;rw[rounds_succ];go_wp2;go_ret;exact⟨rfl,HB.out⟩
end
end
section
open Go.ChangeShapes Go.WideShapes Go.ChangeAt Go.RowKit
theorem Tryz.bytesStep:Tryz.prog.bytesOf 30=48:=by kernel_rfl
theorem lines_walk {H:Type} {enc:TypeId × Value->H} {W:World} {base:Nat} {v0:Value} {d0:DataW H} {p:List MemPlace} (hv:Value.okWide Tryz.prog W .any base 22 v0) (h0:DataW.Trod enc Tryz.prog W 0 (fun _=>true) true 22 v0 d0 p)
  (hsz:(DataW.weightsEach Tryz.prog [22] [d0]).all (·<=reachBytes)=true) (hE:Env W.heap.size W):
  Calls Tryz.prog 3 #[v0] W fun e w'=>e=.returned (.bool true)/\Below W.heap.size W w':=by
 obtain⟨a0,len,cap,rfl⟩:=okWide_slice Tryz.underlying22 hv;obtain⟨fuel,hf⟩:=h0;rcases Go.Deep.open_slice Tryz.underlying22 hf with⟨hcs,_⟩|⟨a,len',cap',m,n,D,Pl,hcs,_,hl,hm,hmm,hx,hel⟩
 ·simp[Value.cells] at hcs;obtain⟨rfl,rfl,rfl⟩:=hcs;exact linesL_empty W (conP hE) _ _
 ·simp[Value.cells] at hcs;obtain⟨rfl,rfl,rfl⟩:=hcs;rw[Tryz.cellsStep] at hel;simp only[if_true] at hmm;subst hmm;by_cases hz:len=0
  ·subst hz;exact linesL_empty W (conP hE) _ _
  ·obtain⟨cs0,hc0,_⟩:=hel 0 (by omega);have hfirst:=(World.cells?_some hc0).2.2 0 (by omega);have hl0:=(World.cells?_some hc0).2.1;rw[List.getElem?_eq_getElem (by omega)] at hfirst;obtain⟨b,off,spot⟩:=a
   cases spot with
   | some sp=>
    exfalso
    unfold World.cell? at hfirst
    split at hfirst
    ·simp[Addr.add] at hfirst
    ·cases hfirst
   | none=>
    have hb:b < W.heap.size:=by
     have:=World.block_lt_of_cell? W _ hfirst
     simpa [Addr.add] using this
    simp only[Prod.mk.injEq] at hx;have hs:=sized_slice hsz (j:=0) (t:=22) (e:=30) rfl (by rw[hx.1];rfl) Tryz.underlying22;rw[Tryz.bytesStep] at hs;simp only[List.length_map,List.length_range,reachBytes] at hs;refine linesL W (conP hE) b off _ _ hb (by omega) (fun i hi=>?_);obtain⟨cs,h1,h2⟩:=hel i (by omega);exact scr_of h1 h2
theorem lines_met (os:Os) (args:Array Value):laidMetH Tryz.prog Rows.linesRow.laid ((World.doorLaid Tryz.prog 400 os).forCall (fun _ _=>0) ⟨#[],args,[]⟩).memory:=
 laidMetH_of_parts3 (fuel:=8) (laidMet_of_run' 8 (by kernel_rfl) (by kernel_rfl)) (by kernel_rfl) (by kernel_rfl)
theorem lines_lifted (os:Os) (started:os.Started) (H:Type) (enc:TypeId × Value->H):
  ReturnsInHanded {} Tryz.checked os 3 .any (fun w args=>(Rows.linesSpec.pre enc Tryz.prog Tryz.f3 [] false w args/\laidMetH Tryz.prog Rows.linesRow.laid w)/\sizedMet enc Tryz.prog Tryz.f3 (OpenSpec.ofChange Rows.linesSpec) false w args)
   (Rows.linesSpec.post enc Tryz.prog Tryz.f3 false true false false):=by
 refine returnsInHanded_of_change_and (C:=Tryz.checked) (X:=fun w _=>laidMetH Tryz.prog Rows.linesRow.laid w) (fun _ _ _ hh h=>h.of_heap hh) Tryz.own started (by kernel_rfl) Tryz.func3
  (ChangeSpec.witness_shaped (enc:=enc) (C:=Tryz.checked) (os:=os) (X:=fun w _=>laidMetH Tryz.prog Rows.linesRow.laid w) false (World.doorLaid Tryz.prog 400 os) #[.slice none 0 0] 8 rfl (World.shaped_of_RefB (by kernel_rfl) (by kernel_rfl)) (by kernel_rfl) (by kernel_rfl) (by kernel_rfl) (lines_met os _)) ?_
 intro W base args ds gs before hval0 hW _ hsz0 hL _;have hval:∀ (j:Nat) t v,Tryz.f3.params[j]? = some t->args[j]? = some v->Value.okWide Tryz.prog W .any base t v:=hval0;have hsz:(DataW.weightsEach Tryz.prog (Tryz.f3.params.toList ++ Rows.linesSpec.plain.varTypes Tryz.prog) (ds ++ gs)).all (·<=reachBytes)=true:=hsz0;have hW':=hW;obtain⟨p,q,hA0,hV,rfl,hfz,hnd⟩:=hW;have hA:DataW.TrodAll enc Tryz.prog W 0 (fun _=>true) true Tryz.f3.params.toList args.toList ds p:=hA0;rw[Tryz.params3] at hA hval hsz;obtain⟨v0,d0,rfl,rfl,h0⟩:=trodAll_one hA;obtain⟨rfl,rfl⟩:=trodVars_none hV;have hE:Env W.heap.size W:=of_laid hL;clear hA0 hval0;simp only[List.append_nil] at hW';have hlt:∀ x∈p,x.block < W.heap.size:=fun x hx=>by simpa using hW'.lt x hx
 have h0k:=h0;have walk:=lines_walk (hval 0 22 v0 rfl rfl) h0 hsz hE;refine walk.mono fun e W' ⟨he,hB⟩=>?_;subst he;refine⟨_,rfl,_,_,_,[],p,[],hW',?_,?_,rfl,hB.frame _,fun h=>by cases h⟩
 ·exact trodAll_mk1 (shut_bool Tryz.underlying4 _)
 ·exact trodAll_mk1 (Below.trod Tryz.laidOut (by kernel_rfl) (of_decide_eq_true (by kernel_rfl)) h0k hB hlt)
end
section
open Go
theorem lines_said:Rows.LinesSaid:=
 OpenClaim.holds_of_wide 3 Tryz.f3 rfl rfl rfl rfl rfl rfl rfl ⟨rfl,rfl,rfl,rfl,rfl⟩ rfl rfl rfl rfl rfl (by kernel_rfl) Tryz.func3 (by kernel_rfl)
  (of_decide_eq_true (by kernel_rfl)) (by unfold Func.isWrapper;first|(rw[if_pos (by decide +kernel)];kernel_rfl)|(rw[if_neg (by decide +kernel)];exact⟨rfl,rfl⟩))
  (fun os started H enc _=>lines_lifted os started H enc)
theorem lines_plain (f : FuncId) (fn : Func) (hf : Tryz.pinned.checked.prog.funcNamed "anvil/anvillaw.Lines" = some f) (hfn : Tryz.pinned.checked.prog.funcs[f]? = some fn) :
  true=Tryz.pinned.checked.prog.looks []/\∀ (j:Nat) t,fn.params[j]? = some t->Tryz.pinned.checked.prog.wantsStandIn t=false:=by
 obtain rfl : f = 3 := Option.some.inj ((show Tryz.prog.funcNamed "anvil/anvillaw.Lines" = some 3 by kernel_rfl).symm.trans hf) |>.symm
 obtain rfl:fn=Tryz.f3:=(Option.some.inj (Tryz.func3.symm.trans hfn)).symm;refine⟨by kernel_rfl,fun j t ht=>?_⟩;rw[Tryz.params3] at ht;obtain rfl:t=22:=by simpa using Array.mem_of_getElem? ht
 exact (show Tryz.prog.wantsStandIn 22=false by kernel_rfl)
theorem lines_card:Rows.LinesCardSaid:=
 Claim7.holds_tied_plain_at .later [] _ _ _ _ lines_said (fun _ h=>by cases h) (by kernel_rfl) (fun _ h=>by cases h) lines_row_tie rfl ⟨rfl,rfl⟩ (by kernel_rfl) rfl lines_plain (by kernel_rfl)
end
#print axioms lines_card
end Go.Proofs.YteainaiebcphlaaGreatDoor
