import Derived.Test.YteainaiebcphlaaGreatDoorQ32
import Derived.Test.YteainaiebcphlaaGreatDoorQ33
import Derived.Test.YteainaiebcphlaaGreatDoorQ34
import Derived.Deep.DeepWitnessRowRef
import Derived.Test.YteainaiebcphlaaGreatDoorCards
import Derived.Test.YteainaiebcphlaaGreatDoorTie
import Derived.SevenTiedAt
import Derived.Handy
namespace Go.Proofs.YteainaiebcphlaaGreatDoor
set_option maxRecDepth 1000000
set_option maxHeartbeats 4000000
set_option linter.all false
open Go.Proofs.Tryz
section
open Go.ChangeShapes Go.WideShapes Go.ChangeAt Go.RowKit
theorem wW (W:World)(hE:Env W.heap.size W)(ao:Option Addr)(cap:Nat):
  Calls prog 11 #[.slice ao 0 cap] W λe w'=>e=.returned (.bool true)/\Below W.heap.size W w':=by
 have HH:=az (yG (Nn hE) W (Below.refl _ _) (ah _));clear hE;go_enter func11,ntmps11
 go_wp2_with (go_at_call 15;go_in)
 refine HH.out.mono ?_;rintro e w1 ⟨rfl,hk1⟩;have hsz1:=hk1.size;have HB:=az ((hk1.below (ah _) (by simp)).alloc hsz1 (.cells #[.slice none 0 0,.int .i64 0,.slice none 0 0] 28));clear hk1;go_wp2;refine wp_loop_rounds 1 ?_;rw[rounds_succ];go_wp2;go_ret;exact⟨rfl,HB.out⟩
theorem CF (os:Os)(args:Array Value):laidMetH prog Rows.wholesUptoRow.laid ((World.doorLaid prog 400 os).forCall (λ_ _=>0) ⟨#[],args,[]⟩).memory:=
 laidMetH_of_parts3 (fuel:=8) (laidMet_of_run' 8 (by kernel_rfl) (by kernel_rfl)) (by kernel_rfl) (by kernel_rfl)
theorem yU (os:Os){H:Type}(enc:TypeId × Value->H):∃places,DataW.whole enc prog ((World.doorLaid prog 400 os).forCall (λ_ _=>0) ⟨#[],#[.slice none 0 0],[]⟩).memory f11.params.toList Rows.wholesSpec.vars false #[Value.slice none 0 0].toList 8=some ([.nil],[],places):=
 ⟨[],by kernel_rfl⟩
theorem wX (os:Os)(started:os.Started)(H:Type)(enc:TypeId × Value->H)(F:Stop.Interp):
  ReturnsInHanded {} checked os 11 .any ((Rows.OpenSpec.upto Rows.wholesSpec).preRow enc prog f11 Rows.wholesUptoRow.domain false Rows.wholesUptoRow.laid) (((Rows.OpenSpec.upto Rows.wholesSpec).at F).post enc prog f11 false true false false):=by
 obtain⟨places,hx⟩:=yU os enc;refine returnsInHanded_of_row (C:=checked) (s:=Rows.OpenSpec.upto Rows.wholesSpec) Tryz.own started (by kernel_rfl) func11
  (witness_row_atRef (enc:=enc) (C:=checked) false (World.doorLaid prog 400 os) #[.slice none 0 0] rfl (by kernel_rfl) (by kernel_rfl) (by kernel_rfl)
   (OpenSpec.preRow_of_cond 8 hx (by kernel_rfl) (λk hk=>by cases hk;kernel_rfl) (by kernel_rfl) (CF os _))) ?_
 intro W base args ds gs before AX hW _ hcond _ hL _ _;have hval:∀(j:Nat) t v,f11.params[j]? = some t->args[j]? = some v->Value.okWide prog W .any base t v:=AX;have hW':=hW;obtain⟨p,q,O6,hV,rfl,hfz,hnd⟩:=hW;have hA:DataW.TrodAll enc prog W 0 (λ_=>true) true f11.params.toList args.toList ds p:=O6;rw[params11] at hA hval;obtain⟨v0,d0,rfl,rfl,h0⟩:=trodAll_one hA;obtain⟨rfl,rfl⟩:=trodVars_none hV;have hE:=DF hL;have hsm:Rows.uptoSmall H [d0]=true:=hcond _ rfl;clear O6 AX;simp only[List.append_nil] at hW';have hlt:∀x∈p,x.block<W.heap.size:=λx hx=>by simpa using hW'.lt x hx
 have h0k:=h0;have walk:Calls prog 11 #[v0] W λe w'=>e=.returned (.bool true)/\Below W.heap.size W w':=by
  obtain⟨ao,len,cap,rfl,hz|⟨b,off,rfl,hb,hl,hS⟩⟩:=xY (hval 0 22 v0 rfl rfl) h0 hsm
  ·subst hz;exact wW W hE _ _
  ·exact Np W (Nn hE) b off _ _ hb (by omega) hS
 refine walk.mono λe W' ⟨he,hB⟩=>?_;subst he;refine⟨_,rfl,_,_,_,[],p,[],hW',?_,?_,rfl,hB.frame _,λh=>by cases h⟩
 ·exact trodAll_mk1 (shut_bool underlying4 _)
 ·exact trodAll_mk1 (Below.trod Tryz.laidOut (by kernel_rfl) (of_decide_eq_true (by kernel_rfl)) h0k hB hlt)
end
section
open Go
theorem AY:Rows.WholesUptoSaid:=
 OpenClaim.holds_of_cond 11 f11 rfl rfl rfl rfl rfl rfl rfl ⟨rfl,rfl,rfl,rfl,rfl⟩ rfl rfl rfl rfl rfl (by kernel_rfl) func11 (by kernel_rfl)
  (of_decide_eq_true (by kernel_rfl)) (by unfold Func.isWrapper;first|(rw[ag (by decide +kernel)];kernel_rfl)|(rw[af (by decide +kernel)];exact⟨rfl,rfl⟩))
  (λos started H enc _ F=>by rw[OpenClaim.pre_eq_preRow];exact wX os started H enc F)
theorem yV (f : FuncId) (fn : Func) (hf : Tryz.pinned.checked.prog.funcNamed "anvil/anvillaw.Wholes" = some f) (hfn : Tryz.pinned.checked.prog.funcs[f]? = some fn) :
  true=Tryz.pinned.checked.prog.looks []/\∀(j:Nat) t,fn.params[j]? = some t->Tryz.pinned.checked.prog.wantsStandIn t=false:=by
 obtain rfl : f=11 := Option.some.inj ((show prog.funcNamed "anvil/anvillaw.Wholes" = some 11 by kernel_rfl).symm.trans hf) |>.symm
 obtain rfl:fn=f11:=(Option.some.inj (func11.symm.trans hfn)).symm;refine⟨by kernel_rfl,λj t ht=>?_⟩;rw[params11] at ht;obtain rfl:t=22:=by simpa using Array.mem_of_getElem? ht
 exact(show prog.wantsStandIn 22=false by kernel_rfl)
theorem wholes_card:Rows.WholesUptoCardSaid:=
 Claim7.holds_tied_plain_at .later [] _ _ _ _ AY (λ_ h=>by cases h) (by kernel_rfl) (λ_ h=>by cases h) wholesUpto_row_tie rfl ⟨rfl,rfl⟩ (by kernel_rfl) rfl yV (by kernel_rfl)
end
#print axioms wholes_card
end Go.Proofs.YteainaiebcphlaaGreatDoor
