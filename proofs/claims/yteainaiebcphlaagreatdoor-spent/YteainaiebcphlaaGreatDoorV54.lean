import Derived.Test.YteainaiebcphlaaGreatDoorV39
import Derived.Test.YteainaiebcphlaaGreatDoorV49
import Derived.Deep.DeepWitnessRowRef
import Derived.Carry
import Derived.Test.YteainaiebcphlaaGreatDoorV44
import Derived.Test.YteainaiebcphlaaGreatDoorCards
import Derived.Test.YteainaiebcphlaaGreatDoorTie
import Derived.SevenTiedAt
import Derived.Handy
namespace Go.Proofs.YteainaiebcphlaaGreatDoor
set_option maxRecDepth 1000000
set_option maxHeartbeats 4000000
set_option linter.all false
section
open Go.ChangeShapes Go.WideShapes Go.ChangeAt Go.RowKit
theorem spent_met (os:Os) (args:Array Value):laidMetH Tryz.prog Rows.spentRow.laid ((World.doorLaid Tryz.prog 400 os).forCall (fun _ _=>0) ⟨#[],args,[]⟩).memory:=
 laidMetH_of_parts3 (fuel:=8) (laidMet_of_run' 8 (by kernel_rfl) (by kernel_rfl)) (by kernel_rfl) (by kernel_rfl)
theorem int_inS {H:Type} {enc:TypeId × Value->H} {W:World} {b0 base:Nat} {sp:Nat->Bool} {held:Bool} {v:Value} {d:DataW H} {p:List MemPlace} (hv:Value.okWide Tryz.prog W .any b0 3 v) (h:DataW.Trod enc Tryz.prog W base sp held 3 v d p):∃ n:Int,v=.int .i64 n/\In n:=by
 obtain⟨n,e,_,_,hw⟩:=open_int Tryz.underlying3 hv h;exact⟨n,e,bounds_i64 hw⟩
theorem spent_lifted (os:Os) (started:os.Started) (H:Type) (enc:TypeId × Value->H):
  ReturnsInHanded {} Tryz.checked os 8 .any (fun w args=>(Rows.spentSpec.pre enc Tryz.prog Tryz.f8 [] false w args/\laidMetH Tryz.prog Rows.spentRow.laid w)/\sizedMet enc Tryz.prog Tryz.f8 (OpenSpec.ofChange Rows.spentSpec) false w args)
   (Rows.spentSpec.post enc Tryz.prog Tryz.f8 false true false false):=by
 refine returnsInHanded_of_change_and (C:=Tryz.checked) (X:=fun w _=>laidMetH Tryz.prog Rows.spentRow.laid w) (fun _ _ _ hh h=>h.of_heap hh) Tryz.own started (by kernel_rfl) Tryz.func8
  (ChangeSpec.witness_shaped (enc:=enc) (C:=Tryz.checked) (os:=os) (X:=fun w _=>laidMetH Tryz.prog Rows.spentRow.laid w) false (World.doorLaid Tryz.prog 400 os) #[.int .i64 0,.int .i64 0,.int .i64 0,.int .i64 0] 8 rfl (World.shaped_of_RefB (by kernel_rfl) (by kernel_rfl)) (by kernel_rfl) (by kernel_rfl) (by kernel_rfl) (spent_met os _)) ?_
 intro W base args ds gs before hval0 hW _ hsz0 hL _;have hval:∀ (j:Nat) t v,Tryz.f8.params[j]? = some t->args[j]? = some v->Value.okWide Tryz.prog W .any base t v:=hval0;have hW':=hW;obtain⟨p,q,hA0,hV,rfl,hfz,hnd⟩:=hW;have hA:DataW.TrodAll enc Tryz.prog W 0 (fun _=>true) true Tryz.f8.params.toList args.toList ds p:=hA0;rw[Tryz.params8] at hA hval;obtain⟨v0,v1,v2,v3,d0,d1,d2,d3,p0,p1,p2,p3,rfl,rfl,rfl,t0,t1,t2,t3⟩:=trodAll_four hA;obtain⟨rfl,rfl⟩:=trodVars_none hV;have hE:Env W.heap.size W:=of_laid hL;clear hA0 hval0;simp only[List.append_nil] at hW';have hlt:∀ x∈p0 ++ p1 ++ p2 ++ p3,x.block < W.heap.size:=fun x hx=>by simpa using hW'.lt x (by simpa using hx)
 obtain⟨n0,rfl,b0⟩:=int_inS (hval 0 3 v0 rfl rfl) t0;obtain⟨n1,rfl,b1⟩:=int_inS (hval 1 3 v1 rfl rfl) t1;obtain⟨n2,rfl,b2⟩:=int_inS (hval 2 3 v2 rfl rfl) t2;obtain⟨n3,rfl,b3⟩:=int_inS (hval 3 3 v3 rfl rfl) t3;have walk:=spentL W (conP hE) (tuneP _ _) n0 n1 n2 n3 b0 b1 b2 b3;refine walk.mono fun e W' ⟨he,hB⟩=>?_;subst he;refine⟨_,rfl,_,_,_,[],p0 ++ p1 ++ p2 ++ p3,[],hW',?_,?_,rfl,hB.frame _,fun h=>by cases h⟩
 ·exact trodAll_mk1 (shut_bool Tryz.underlying4 _)
 ·rw[List.append_assoc,List.append_assoc];exact trodAll_mk4 (Below.trod Tryz.laidOut (by kernel_rfl) (of_decide_eq_true (by kernel_rfl)) t0 hB (fun x hx=>hlt x (by simp[hx]))) (Below.trod Tryz.laidOut (by kernel_rfl) (of_decide_eq_true (by kernel_rfl)) t1 hB (fun x hx=>hlt x (by simp[hx]))) (Below.trod Tryz.laidOut (by kernel_rfl) (of_decide_eq_true (by kernel_rfl)) t2 hB (fun x hx=>hlt x (by simp[hx]))) (Below.trod Tryz.laidOut (by kernel_rfl) (of_decide_eq_true (by kernel_rfl)) t3 hB (fun x hx=>hlt x (by simp[hx])))
end
section
open Go
theorem spent_said:Rows.SpentSaid:=
 OpenClaim.holds_of_wide 8 Tryz.f8 rfl rfl rfl rfl rfl rfl rfl ⟨rfl,rfl,rfl,rfl,rfl⟩ rfl rfl rfl rfl rfl (by kernel_rfl) Tryz.func8 (by kernel_rfl)
  (of_decide_eq_true (by kernel_rfl)) (by unfold Func.isWrapper;first|(rw[if_pos (by decide +kernel)];kernel_rfl)|(rw[if_neg (by decide +kernel)];exact⟨rfl,rfl⟩))
  (fun os started H enc _=>spent_lifted os started H enc)
theorem spent_plain (f : FuncId) (fn : Func) (hf : Tryz.pinned.checked.prog.funcNamed "anvil/anvilkeep.Spent" = some f) (hfn : Tryz.pinned.checked.prog.funcs[f]? = some fn) :
  true=Tryz.pinned.checked.prog.looks []/\∀ (j:Nat) t,fn.params[j]? = some t->Tryz.pinned.checked.prog.wantsStandIn t=false:=by
 obtain rfl : f = 8 := Option.some.inj ((show Tryz.prog.funcNamed "anvil/anvilkeep.Spent" = some 8 by kernel_rfl).symm.trans hf) |>.symm
 obtain rfl:fn=Tryz.f8:=(Option.some.inj (Tryz.func8.symm.trans hfn)).symm;refine⟨by kernel_rfl,fun j t ht=>?_⟩;rw[Tryz.params8] at ht;obtain rfl:t=3:=by simpa using Array.mem_of_getElem? ht
 exact (show Tryz.prog.wantsStandIn 3=false by kernel_rfl)
theorem spent_card:Rows.SpentCardSaid:=
 Claim7.holds_tied_plain_at .later [] _ _ _ _ spent_said (fun _ h=>by cases h) (by kernel_rfl) (fun _ h=>by cases h) spent_row_tie rfl ⟨rfl,rfl⟩ (by kernel_rfl) rfl spent_plain (by kernel_rfl)
end
#print axioms spent_card
end Go.Proofs.YteainaiebcphlaaGreatDoor
