import Derived.Test.YteainaiebcphlaaGreatDoorV42
import Derived.Test.YteainaiebcphlaaGreatDoorV41
import Derived.Test.YteainaiebcphlaaGreatDoorV44
import Derived.Handy
namespace Go.Proofs.YteainaiebcphlaaGreatDoor
set_option maxRecDepth 1000000
set_option maxHeartbeats 4000000
set_option linter.all false
section
open Go.RowKit
def XE (j:XJ) (s s':St):Prop:=∃ g,xRun g j s=some (s',true)
theorem step_out {s:St} (h:¬ s.steps < 2000):s.step.e=12/\s.step.out=s.out:=by unfold St.step;rw[if_neg h];exact⟨rfl,rfl⟩
section
variable {f:Fr} {lp:List Int} {s s1 s2:St}
theorem XE.cons1 {x:It} {l:List It} (h1:XE (jItem f lp x) s s1):XE (jBody f lp (x :: l)) s s1:=by
 obtain⟨g1,h1⟩:=h1;refine⟨g1+1,?_⟩;rw[x_cons,h1];dsimp only;rw[if_pos (.inl rfl)]
theorem XE.cons2 {x:It} {l:List It} (h1:XR (jItem f lp x) s s1) (he:s1.e=0) (h2:XE (jBody f lp l) s1 s2):XE (jBody f lp (x :: l)) s s2:=by
 obtain⟨g1,h1⟩:=h1;obtain⟨g2,h2⟩:=h2;refine⟨g1+g2+1,?_⟩;rw[x_cons,xRun_mono (g':=g1+g2) (by omega) h1];dsimp only;rw[if_neg (by simp[he]),xRun_mono (g':=g1+g2) (by omega) h2]
theorem XE.out (x:It) (h1:¬ x.kind=63) (h2:¬ x.kind=117) (h3:¬ x.kind=119) (hs:¬ s.steps < 2000):XE (jItem f lp x) s s.step:=by
 refine⟨1,?_⟩;rw[x_one 0 f lp s x h1 h2 h3,if_pos (by rw[(step_out hs).1];decide)]
theorem XE.doo {l:List It} {b m:Int} {r:List Int} (he:s.e=0) (hs:s.steps < 2000) (hr:s.rs=b :: m :: r) (h:XE (jDo f lp b m l) { s.up with rs:=r } s2):XE (jItem f lp ⟨100,0,[],l,[],[]⟩) s s2:=by
 obtain⟨g,h⟩:=h;refine⟨g+1,?_⟩;rw[x_one g f lp s _ (by decide:¬ (100:Nat)=63) (by decide:¬ (100:Nat)=117) (by decide:¬ (100:Nat)=119),step_up hs,if_neg (by show ¬ s.e ≠ 0;simp[he])]
 show (match s.up.rs with
  | b :: m :: r=>xRun g (jDo f lp b m l) { s.up with rs:=r }
  | _=>some (s.up.err 6,true))=_
 rw[show s.up.rs=b :: m :: r from hr];exact h
theorem XE.doOut {l:List It} {n m:Int} (h:n < m) (hs:¬ s.steps < 2000):XE (jDo f lp n m l) s s.step:=⟨1,by rw[x_do,if_pos h,if_pos (by rw[(step_out hs).1];decide)]⟩
theorem XE.doBody {l:List It} {n m:Int} (h:n < m) (he:s.e=0) (hs:s.steps < 2000) (h1:XE (jBody f (n :: lp) l) s.up s1):XE (jDo f lp n m l) s s1:=by
 obtain⟨g1,h1⟩:=h1;refine⟨g1+1,?_⟩;rw[x_do,if_pos h,step_up hs,if_neg (by show ¬ s.e ≠ 0;simp[he]),h1];rfl
theorem XE.doGo {l:List It} {n m:Int} (h:n < m) (he:s.e=0) (hs:s.steps < 2000) (h1:XR (jBody f (n :: lp) l) s.up s1) (h2:XE (jDo f lp (n+1) m l) s1 s2):XE (jDo f lp n m l) s s2:=by
 obtain⟨g1,h1⟩:=h1;obtain⟨g2,h2⟩:=h2;refine⟨g1+g2+1,?_⟩;rw[x_do,if_pos h,step_up hs,if_neg (by show ¬ s.e ≠ 0;simp[he]),xRun_mono (g':=g1+g2) (by omega) h1];dsimp only;rw[if_neg (by simp),xRun_mono (g':=g1+g2) (by omega) h2]
theorem XR.enterE {g0:Nat} (hd:s.depth < 20) (hc:xCome g0 f s=some s1) (h:XE (jBody f [] f.body) { s1 with depth:=s1.depth+1 } s2):XR (jEnter f) s { s2 with depth:=s2.depth - 1 }:=by
 obtain⟨g,h⟩:=h;refine⟨g0+g+1,?_⟩;have hc':xCome (g0+g) f s=some s1:=by
  clear h
  induction g with
  | zero=>exact hc
  | succ g ih=>exact xCome_mono ih
 rw[x_enter,if_neg (by omega),hc'];dsimp only;rw[xRun_mono (g':=g0+g) (by omega) h]
end
def n7:It:=⟨110,7,[],[],[],[]⟩
def drI:It:=⟨112,0,kDrop,[],[],[]⟩
def bItems:Nat->List It
 | 0=>[]
 | k+1=>n7 :: drI :: bItems k
theorem drop_at {s:St} {a:Int} {r:List Int} (h:s.rs=a :: r):s.up.word 8={ s.up with rs:=r,e:=0 }:=by
 obtain⟨rs,mem,defs,ids,hot,built,e,steps,depth,out⟩:=s;simp only at h;subst h;rfl
theorem body_ok (f:Fr) (lp:List Int):∀ (k:Nat) (s:St),s.e=0->s.rs=[]->s.steps+2 * (k:Int)<=2000->XR (jBody f lp (bItems k)) s { s with steps:=s.steps+2 * (k:Int) }
 | 0,s,_,_,_=>by
  have h:XR (jBody f lp (bItems 0)) s s:=XR.nil
  simpa using h
 | k+1,s,he,hr,hs=>by
  have h1:XR (jItem f lp n7) s { s.up with rs:=7 :: s.rs }:=XR.num 7 he (by omega) (by rw[hr];decide);have hw:({ s.up with rs:=7 :: s.rs }:St).up.word 8={ s.up.up with rs:=[],e:=0 }:=by rw[drop_at (a:=7) (r:=s.rs) rfl,hr];rfl
  have h2:XR (jItem f lp drI) { s.up with rs:=7 :: s.rs } (({ s.up with rs:=7 :: s.rs }:St).up.word 8):=XR.word (by decide) he (by show s.steps+1 < 2000;omega) (by rw[hw]);rw[hw] at h2;have h3:=body_ok f lp k { s.up.up with rs:=[],e:=0 } rfl rfl (by show s.steps+1+1+2 * (k:Int)<=2000;omega);have e:({ ({ s.up.up with rs:=[],e:=0 }:St) with steps:=({ s.up.up with rs:=[],e:=0 }:St).steps+2 * (k:Int) }:St)={ s with steps:=s.steps+2 * ((k+1:Nat):Int) }:=by
   obtain⟨rs,mem,defs,ids,hot,built,e,steps,depth,out⟩:=s;simp only at he hr;subst he hr;show St.mk [] mem defs ids hot built 0 (steps+1+1+2 * (k:Int)) depth out=St.mk [] mem defs ids hot built 0 (steps+2 * ((k+1:Nat):Int)) depth out;rw[show steps+1+1+2 * (k:Int)=steps+2 * ((k+1:Nat):Int) by omega]
  rw[e] at h3;exact XR.cons h1 he (XR.cons h2 rfl h3)
theorem body_bad (f:Fr) (lp:List Int):∀ (k:Nat) (s:St),s.e=0->s.rs=[]->s.steps<=2000->2000 < s.steps+2 * (k:Int)->∃ s',XE (jBody f lp (bItems k)) s s'/\s'.e=12/\s'.out=s.out
 | 0,s,_,_,h1,h2=>by exfalso;simp at h2;omega
 | k+1,s,he,hr,h1,h2=>by
  by_cases c1:s.steps < 2000
  ·have q1:XR (jItem f lp n7) s { s.up with rs:=7 :: s.rs }:=XR.num 7 he c1 (by rw[hr];decide);by_cases c2:s.steps+1 < 2000
   ·have hw:({ s.up with rs:=7 :: s.rs }:St).up.word 8={ s.up.up with rs:=[],e:=0 }:=by rw[drop_at (a:=7) (r:=s.rs) rfl,hr];rfl
    have q2:XR (jItem f lp drI) { s.up with rs:=7 :: s.rs } (({ s.up with rs:=7 :: s.rs }:St).up.word 8):=XR.word (by decide) he (by show s.steps+1 < 2000;omega) (by rw[hw]);rw[hw] at q2;obtain⟨s',q3,q4,q5⟩:=body_bad f lp k { s.up.up with rs:=[],e:=0 } rfl rfl (by show s.steps+1+1<=2000;omega) (by show 2000 < s.steps+1+1+2 * (k:Int);omega);exact⟨s',XE.cons2 q1 he (XE.cons2 q2 rfl q3),q4,q5⟩
   ·have q2:XE (jItem f lp drI) { s.up with rs:=7 :: s.rs } _:=XE.out drI (by decide) (by decide) (by decide) (by show ¬ s.steps+1 < 2000;exact c2);have q3:=step_out (s:={ s.up with rs:=7 :: s.rs }) (by show ¬ s.steps+1 < 2000;exact c2);exact⟨_,XE.cons2 q1 he (XE.cons1 q2),q3.1,q3.2⟩
  ·have q3:=step_out c1;exact⟨_,XE.cons1 (XE.out n7 (by decide) (by decide) (by decide) c1),q3.1,q3.2⟩
theorem loop_ok (f:Fr) (lp:List Int) (k:Nat):∀ (m:Nat) (n:Int) (s:St),s.e=0->s.rs=[]->s.steps+(m:Int) * (1+2 * (k:Int))<=2000->XR (jDo f lp n (n+m) (bItems k)) s { s with steps:=s.steps+(m:Int) * (1+2 * (k:Int)) }
 | 0,n,s,_,_,_=>by
  have h:XR (jDo f lp n (n+(0:Nat)) (bItems k)) s s:=XR.doEnd (by simp)
  simpa using h
 | m+1,n,s,he,hr,hs=>by
  have em:((m+1:Nat):Int) * (1+2 * (k:Int))=(1+2 * (k:Int))+(m:Int) * (1+2 * (k:Int)):=by rw[Int.natCast_add,Int.add_mul];simp;omega
  have hp:0<=(m:Int) * (1+2 * (k:Int)):=Int.mul_nonneg (by omega) (by omega);rw[em] at hs ⊢;have h1:=body_ok f (n :: lp) k s.up he hr (by show s.steps+1+2 * (k:Int)<=2000;omega);have h2:=loop_ok f lp k m (n+1) { s.up with steps:=s.up.steps+2 * (k:Int) } he hr (by show s.steps+1+2 * (k:Int)+(m:Int) * (1+2 * (k:Int))<=2000;omega);have e:n+1+(m:Int)=n+((m+1:Nat):Int):=by omega
  rw[e] at h2;have h3:=XR.doGo (m:=n+((m+1:Nat):Int)) (by omega) he (by omega) h1 h2;have e2:({ ({ s.up with steps:=s.up.steps+2 * (k:Int) }:St) with steps:=({ s.up with steps:=s.up.steps+2 * (k:Int) }:St).steps+(m:Int) * (1+2 * (k:Int)) }:St)={ s with steps:=s.steps+((1+2 * (k:Int))+(m:Int) * (1+2 * (k:Int))) }:=by
   show ({ s with steps:=s.steps+1+2 * (k:Int)+(m:Int) * (1+2 * (k:Int)) }:St)=_;rw[show s.steps+1+2 * (k:Int)+(m:Int) * (1+2 * (k:Int))=s.steps+((1+2 * (k:Int))+(m:Int) * (1+2 * (k:Int))) by omega]
  rw[e2] at h3;exact h3
theorem loop_bad (f:Fr) (lp:List Int) (k:Nat):∀ (m:Nat) (n:Int) (s:St),s.e=0->s.rs=[]->s.steps<=2000->2000 < s.steps+(m:Int) * (1+2 * (k:Int))->∃ s',XE (jDo f lp n (n+m) (bItems k)) s s'/\s'.e=12/\s'.out=s.out
 | 0,n,s,_,_,h1,h2=>by exfalso;simp at h2;omega
 | m+1,n,s,he,hr,h1,h2=>by
  have em:((m+1:Nat):Int) * (1+2 * (k:Int))=(1+2 * (k:Int))+(m:Int) * (1+2 * (k:Int)):=by rw[Int.natCast_add,Int.add_mul];simp;omega
  rw[em] at h2;have e:n+1+(m:Int)=n+((m+1:Nat):Int):=by omega
  by_cases c1:s.steps < 2000
  ·by_cases c2:s.steps+1+2 * (k:Int)<=2000
   ·have q1:=body_ok f (n :: lp) k s.up he hr (by show s.steps+1+2 * (k:Int)<=2000;omega);obtain⟨s',q2,q3,q4⟩:=loop_bad f lp k m (n+1) { s.up with steps:=s.up.steps+2 * (k:Int) } he hr (by show s.steps+1+2 * (k:Int)<=2000;omega) (by show 2000 < s.steps+1+2 * (k:Int)+(m:Int) * (1+2 * (k:Int));omega);rw[e] at q2;exact⟨s',XE.doGo (by omega) he c1 q1 q2,q3,q4⟩
   ·obtain⟨s',q2,q3,q4⟩:=body_bad f (n :: lp) k s.up he hr (by show s.steps+1<=2000;omega) (by show 2000 < s.steps+1+2 * (k:Int);omega);exact⟨s',XE.doBody (by omega) he c1 q2,q3,q4⟩
  ·have q3:=step_out c1;exact⟨_,XE.doOut (by omega) c1,q3.1,q3.2⟩
end
section
open Go.RowKit
def k7:Tok:=[55]
def k0:Tok:=[48]
def kR:Tok:=[114]
def bToks:Nat->List Tok
 | 0=>[]
 | k+1=>bToks k ++ [k7,kDrop]
theorem bItems_snoc:∀ k,bItems (k+1)=bItems k ++ [n7,drI]
 | 0=>rfl
 | k+1=>by
  have h:=bItems_snoc k;show n7 :: drI :: bItems (k+1)=n7 :: drI :: bItems k ++ [n7,drI];rw[h];simp
theorem bToks_items:∀ k,(bToks k).map itemOf=bItems k
 | 0=>rfl
 | k+1=>by rw[bToks,List.map_append,bToks_items k,bItems_snoc];rfl
theorem bToks_good:∀ k,∀ t∈bToks k,GoodT t
 | 0,t,h=>by simp[bToks] at h
 | k+1,t,h=>by
  rw[bToks,List.mem_append] at h;rcases h with h|h
  ·exact bToks_good k t h
  ·simp only[List.mem_cons,List.not_mem_nil,or_false] at h;rcases h with rfl|rfl
   ·exact⟨by decide,by decide,.inl ⟨7,by decide⟩⟩
   ·exact good_all.2.2.2.2.2.1
theorem bToks_len:∀ k,(textOf (bToks k)).length=7 * k
 | 0=>rfl
 | k+1=>by rw[bToks,textOf_app,List.length_append,bToks_len k,show (textOf [k7,kDrop]).length=7 from by decide];omega
theorem GoodT.loop {t:Tok} (h:GoodT t):¬ t=kLoop:=by
 intro e;subst e;have q1:numP kLoop=none:=by decide
 have q2:plainL.findIdx? (· == kLoop)=none:=by decide
 rcases h.w with⟨n,hn⟩|⟨k,hk⟩
 ·rw[q1] at hn;cases hn
 ·rw[q2] at hk;cases hk
theorem read_loop (known:Tok->Bool) (lo:Nat):∀ (ts r:List Tok),(∀ t∈ts,GoodT t)->pRead known (ts.length+2) ⟨false,lo,[kLoop],[]⟩ (ts ++ kLoop :: r)=some (.ok (ts.map itemOf,kLoop,r))
 | [],r,_=>pB_stop known 1 lo [kLoop] kLoop r (by decide)
 | t :: ts,r,h=>by
  have hg:=h t (by simp);exact pB_item known (ts.length+2) lo [kLoop] t kLoop (ts ++ kLoop :: r) (ts ++ kLoop :: r) r [itemOf t] (ts.map itemOf) (by simpa using fun e=>hg.loop e.symm) (read_item known (ts.length+1) lo t _ hg) (read_loop known lo ts r (fun x hx=>h x (by simp[hx])))
theorem read_do (known:Tok->Bool) (g lo:Nat) (a:List It) (t:Tok) (r r1:List Tok) (h:pRead known g ⟨false,lo+1,[kLoop],[]⟩ r=some (.ok (a,t,r1))):pRead known (g+1) ⟨true,lo,[],kDo⟩ r=some (.ok ([⟨100,0,[],a,[],[]⟩],[],r1)):=by
 conv=>lhs;unfold pRead
 rw[if_neg (show ¬ (PJ.mk true lo [] kDo).item=false from (by decide:¬ (true=false))),if_neg (show ¬ (PJ.mk true lo [] kDo).t=kIf from (by decide:¬ kDo=kIf)),if_neg (show ¬ (PJ.mk true lo [] kDo).t=kBegin from (by decide:¬ kDo=kBegin)),if_pos (show (PJ.mk true lo [] kDo).t=kDo from rfl),h]
def doIt (k:Nat):It:=⟨100,0,[],bItems k,[],[]⟩
def sR (mem:Nat->Int) (built:Int) (k:Nat):St:=⟨[],mem,[⟨[115,113],2,[],0,false,[]⟩,⟨kR,3,[doIt k],0,false,[]⟩],3,5,built,0,1,0,⟨#[]⟩⟩
theorem line_r (s:St) (h:Fsh s) (k:Nat):XR (jToks (kColon :: kR :: kDo :: (bToks k ++ [kLoop,kSemi]))) (freshL s) (sR s.mem s.built k):=by
 obtain⟨rs,mem,defs,ids,hot,built,e,steps,depth,out⟩:=s;obtain⟨h1,h2,h3,h4⟩:=h;simp only at h1 h2 h3 h4;subst h1 h2 h3 h4;have hset:(St.mk [] mem [⟨[115,113],2,[],0,false,[]⟩] 2 5 built 0 0 0 ⟨#[]⟩).up.set kR [doIt k]=sR mem built k:=by
  have w3:wrap64 3=3:=by decide +kernel
  simp[St.set,St.up,St.find,List.findIdx?_cons,kR,w3,sR]
 have hp:pDef ((bToks k).length+4) ⟨[],mem,[⟨[115,113],2,[],0,false,[]⟩],2,5,built,0,0,0,⟨#[]⟩⟩ (kR :: kDo :: (bToks k ++ [kLoop,kSemi]))=some (.ok (kR,[doIt k],[])):=by
  have hn:isName kR=true:=by decide
  have hr:=read_loop (St.known ⟨[],mem,[⟨[115,113],2,[],0,false,[]⟩],2,5,built,0,0,0,⟨#[]⟩⟩) 1 (bToks k) [kSemi] (bToks_good k);have hd:=read_do _ _ 0 _ _ _ _ hr;have hb:=pB_item _ ((bToks k).length+3) 0 [kSemi] kDo kSemi (bToks k ++ [kLoop,kSemi]) [kSemi] [] [⟨100,0,[],(bToks k).map itemOf,[],[]⟩] [] (by decide) hd (pB_stop _ ((bToks k).length+2) 0 [kSemi] kSemi [] (by decide));simp only[pDef];rw[hn,if_neg (by decide),if_neg (by simp),hb,bToks_items];rfl
 exact XR.tdef rfl (show (0:Int) < 2000 by decide) hp (by
  rw[show (freshL ⟨[],mem,[⟨[115,113],2,[],0,false,[]⟩],2,5,built,e,steps,depth,out⟩:St)=⟨[],mem,[⟨[115,113],2,[],0,false,[]⟩],2,5,built,0,0,0,⟨#[]⟩⟩ from rfl,hset];exact XR.tnil)
theorem callRs:IsCall kR:=⟨by decide,by decide,by decide,by decide⟩
theorem line_n (mem:Nat->Int) (built:Int) (k n:Nat) (X:Tok) (hX:numP X=some (n:Int)):
  ∃ s',XR (jToks [X,k0,kR]) (freshL (sR mem built k)) s'/\s'.out=⟨#[]⟩/\s'.e=(if 2000 < 4+(n:Int) * (1+2 * (k:Int)) then 12 else 0)/\(s'.e=0->s'.rs=[]):=by
 have h0:numP k0=some 0:=by decide
 have hc:xCome 10 ⟨3,kR,[doIt k]⟩ ⟨[0,(n:Int)],mem,[⟨[115,113],2,[],0,false,[]⟩,⟨kR,3,[doIt k],0,false,[]⟩],3,5,built,0,3,0,⟨#[]⟩⟩=some ⟨[0,(n:Int)],mem,[⟨[115,113],2,[],0,false,[]⟩,⟨kR,3,[doIt k],1,false,[]⟩],3,5,built,0,3,0,⟨#[]⟩⟩:=by
  have w1:wrap64 1=1:=by decide +kernel
  simp[xCome,St.find,St.count,List.findIdx?_cons,kR,w1]
 have fin:∀ s2:St,XR (jEnter ⟨3,kR,[doIt k]⟩) ⟨[0,(n:Int)],mem,[⟨[115,113],2,[],0,false,[]⟩,⟨kR,3,[doIt k],0,false,[]⟩],3,5,built,0,3,0,⟨#[]⟩⟩ s2->XR (jToks [X,k0,kR]) (freshL (sR mem built k)) s2:=by
  intro s2 h2;have k2:XR (jToks [kR]) ⟨[0,(n:Int)],mem,[⟨[115,113],2,[],0,false,[]⟩,⟨kR,3,[doIt k],0,false,[]⟩],3,5,built,0,2,0,⟨#[]⟩⟩ s2:=XR.tcall callRs rfl rfl rfl (show (2:Int) < 2000 by decide) h2 XR.tnil;exact XR.tnum hX rfl (show (0:Int) < 2000 by decide) (show 0 < 32 by decide) (XR.tnum h0 rfl (show (1:Int) < 2000 by decide) (show 1 < 32 by decide) k2)
 by_cases hf:4+(n:Int) * (1+2 * (k:Int))<=2000
 ·have hD:=loop_ok ⟨3,kR,[doIt k]⟩ [] k n 0 ⟨[],mem,[⟨[115,113],2,[],0,false,[]⟩,⟨kR,3,[doIt k],1,false,[]⟩],3,5,built,0,4,1,⟨#[]⟩⟩ rfl rfl hf;rw[show (0:Int)+(n:Int)=(n:Int) by omega] at hD;have k4:XR (jItem ⟨3,kR,[doIt k]⟩ [] (doIt k)) ⟨[0,(n:Int)],mem,[⟨[115,113],2,[],0,false,[]⟩,⟨kR,3,[doIt k],1,false,[]⟩],3,5,built,0,3,1,⟨#[]⟩⟩ _:=XR.doo rfl (show (3:Int) < 2000 by decide) rfl hD;exact⟨_,fin _ (XR.enter (show (0:Int) < 20 by decide) hc (XR.cons k4 rfl XR.nil)),rfl,by rw[if_neg (by omega)],fun _=>rfl⟩
 ·obtain⟨s',hD,q1,q2⟩:=loop_bad ⟨3,kR,[doIt k]⟩ [] k n 0 ⟨[],mem,[⟨[115,113],2,[],0,false,[]⟩,⟨kR,3,[doIt k],1,false,[]⟩],3,5,built,0,4,1,⟨#[]⟩⟩ rfl rfl (show (4:Int)<=2000 by decide) (show 2000 < 4+(n:Int) * (1+2 * (k:Int)) by omega);rw[show (0:Int)+(n:Int)=(n:Int) by omega] at hD;have k4:XE (jItem ⟨3,kR,[doIt k]⟩ [] (doIt k)) ⟨[0,(n:Int)],mem,[⟨[115,113],2,[],0,false,[]⟩,⟨kR,3,[doIt k],1,false,[]⟩],3,5,built,0,3,1,⟨#[]⟩⟩ _:=XE.doo rfl (show (3:Int) < 2000 by decide) rfl hD;refine⟨_,fin _ (XR.enterE (show (0:Int) < 20 by decide) hc (XE.cons1 k4)),q2,by rw[if_pos (by omega)];exact q1,fun e=>?_⟩;have e':s'.e=0:=e;rw[q1] at e';cases e'
section
variable {PS:World->Nat->(Nat->Prop)->St->Prop} {B:Nat} {W0:World} (P:PCon B W0 PS)
include P
theorem line_as (w:World) (xb:Nat) (V:Nat->Prop) (s s0 s2:St) (t out:ByteArray) (er:Int) (hx:PS w xb V s) (hw:WFs s) (hs:Sim s s0) (hl:LineIs s0 t out er s2):
  Calls Tryz.prog 18 #[.pointer (some ⟨xb,0,none⟩),.string t] w fun e w'=>e=.returned (.tuple #[.string out,.int .i64 er])/\∃ V' s',PS w' xb V' s'/\WFs s'/\Sim s' s2/\To (fun _=>False) w w' V V':=by
 obtain⟨out',er',s2',hw2,hl2,hc⟩:=line_any P w xb V s t hx hw;obtain⟨rfl,rfl,hs2⟩:=line_sim hs hl2 hl;refine hc.mono ?_;rintro e w' ⟨rfl,V',hx',hto⟩;exact⟨rfl,V',s2',hx',hw2,hs2,hto⟩
end
end
section
open Go.RowKit
def textK (ts:List Tok):ByteArray:=⟨(textOf ts).toArray⟩
theorem textK_app (a b:List Tok):textK (a ++ b)=textK a ++ textK b:=by
 unfold textK;rw[ba_app,textOf_app];simp
theorem textK_size (ts:List Tok):(textK ts).size=(textOf ts).length:=by
 show (textOf ts).toArray.size=_;simp
def rB (k:Nat):ByteArray:=⟨#[58,32,114,32,100,111,32]⟩ ++ textK (bToks k) ++ ⟨#[108,111,111,112,32,59]⟩
theorem rB_list (k:Nat):(rB k).data.toList=textOf [kColon,kR,kDo] ++ (textOf (bToks k) ++ (textOf [kLoop] ++ kSemi)):=by
 unfold rB textK;rw[ba_app,ba_app];simp[textOf,kColon,kR,kDo,kLoop,kSemi]
theorem rB_fields (k:Nat):Lib.fields (rB k).data.toList=kColon :: kR :: kDo :: (bToks k ++ [kLoop,kSemi]):=by
 rw[rB_list,fields_texts [kColon,kR,kDo] _ (by intro t ht;simp only[List.mem_cons,List.not_mem_nil,or_false] at ht;rcases ht with rfl|rfl|rfl <;> exact⟨by decide,by decide⟩),
  fields_texts _ _ (good_tok (bToks_good k)),fields_texts [kLoop] _ (by intro t ht;simp only[List.mem_cons,List.not_mem_nil,or_false] at ht;subst ht;exact⟨by decide,by decide⟩),fields_end kSemi (by decide) (by decide)]
 rfl
theorem rB_valid (k:Nat) (hk:k < 10):validB (rB k).data.toList=true:=by
 have h1:(rB k).data.toList.length<=400:=by
  rw[rB_list];simp only[List.length_append,bToks_len];have e1:(textOf [kColon,kR,kDo]).length=7:=by decide
  have e2:(textOf [kLoop]).length=5:=by decide
  have e3:kSemi.length=1:=by decide
  omega
 unfold validB;rw[decide_eq_true h1,rB_list,List.all_append,List.all_append,texts_okB _ (good_tok (bToks_good k))]
 decide
def nB (n:Nat):ByteArray:=numB n ++ ⟨#[32,48,32,114]⟩
theorem nB_list (n:Nat):(nB n).data.toList=textOf [Lib.itoa n,k0] ++ kR:=by
 unfold nB numB;rw[ba_app];simp[textOf,k0,kR]
theorem nB_toks (n:Nat) (hn:n < 1200):∀ t∈[Lib.itoa n,k0],t.all tokB=true/\t ≠ []:=by
 intro t ht;simp only[List.mem_cons,List.not_mem_nil,or_false] at ht;rcases ht with rfl|rfl
 ·exact⟨itoa_tok _,itoa_ne _ (by omega) (by omega)⟩
 ·exact⟨by decide,by decide⟩
theorem nB_fields (n:Nat) (hn:n < 1200):Lib.fields (nB n).data.toList=[Lib.itoa n,k0,kR]:=by
 rw[nB_list,fields_texts _ _ (nB_toks n hn),fields_end kR (by decide) (by decide)];rfl
theorem nB_valid (n:Nat) (hn:n < 1200):validB (nB n).data.toList=true:=by
 have h2:=(numLen n (by omega) (by omega)).2;have hl:(nB n).data.toList.length<=400:=by
  rw[nB_list];simp[textOf,k0,kR];omega
 unfold validB;rw[decide_eq_true hl,nB_list,List.all_append,texts_okB _ (nB_toks n hn)]
 decide
theorem isR (k:Nat) (hk:k < 10):LineIs fsC (rB k) ⟨#[]⟩ 0 (sR fsC.mem fsC.built k):=by
 obtain⟨g,hr⟩:=line_r fsC fsC_ok k;rw[<-rB_fields k] at hr;exact .inl ⟨rB_valid k hk,g,_,false,hr,rfl,rfl,rfl⟩
def wantN (k n:Nat):Int:=if 2000 < 4+(n:Int) * (1+2 * (k:Int)) then 12 else 0
theorem isN (mem:Nat->Int) (built:Int) (k n:Nat) (hn:n < 1200):∃ s3,s3.rs=[]/\LineIs (sR mem built k) (nB n) ⟨#[]⟩ (wantN k n) s3:=by
 obtain⟨s',⟨g,hr⟩,ho,he,hrs⟩:=line_n mem built k n (Lib.itoa n) (numP_itoa n (by omega) (by omega));rw[<-nB_fields n hn] at hr;refine⟨endL s',?_,.inl ⟨nB_valid n hn,g,s',false,hr,ho.symm,he.symm,rfl⟩⟩;unfold endL
 split
 ·rename_i h;exact hrs h
 ·rfl
section
variable {PS:World->Nat->(Nat->Prop)->St->Prop} {B:Nat} {W0:World} (P:PCon B W0 PS)
include P
theorem stack0 (w w0:World) (xb:Nat) (V:Nat->Prop) (s:St) (hl:s.rs=[]) (hx:PS w xb V s) (hw:WFs s) (hk:Kp w0 w (fun _=>False)) (hV:∀ k,V k->w0.heap.size<=k):
  Calls Tryz.prog 19 #[.pointer (some ⟨xb,0,none⟩)] w fun e w'=>∃ ao cap,e=.returned (.slice ao 0 cap)/\Kp w0 w' (fun _=>False):=by
 refine (P.stack w xb V s hx hw.g).mono ?_;rintro e w' ⟨v,rfl,hrow,V',hx',hto,_⟩;obtain⟨ao,cap,rfl⟩:=row_slice (Joins.ownsRow_le hrow (Nat.zero_le _));exact⟨ao,cap,by rw[hl];rfl,(Kp.two hk hV hto).1⟩
end
theorem pick_natS (c:Int) (n:Nat) (hn:1<=n):∃ p:Nat,pkV c n=p/\p < n:=by
 have:=pkV_lt c n (by omega);exact⟨(pkV c n).toNat,by omega,by omega⟩
section
variable {PS:World->Nat->(Nat->Prop)->St->Prop}
theorem spentL (W:World) (P:PCon W.heap.size W PS) (T:TuneC PS) (mn nr ht bl:Int) (h1:In mn) (h2:In nr) (h3:In ht) (h4:In bl):
  Calls Tryz.prog 8 #[.int .i64 mn,.int .i64 nr,.int .i64 ht,.int .i64 bl] W fun e w'=>e=.returned (.bool true)/\Below W.heap.size W w':=by
 obtain⟨n,hn,hnl⟩:=pick_natS mn 1200 (by decide);obtain⟨k,hk,hkl⟩:=pick_natS nr 10 (by decide);obtain⟨a,ha,hal⟩:=pick_natS ht 3 (by decide);obtain⟨b,hb,hbl⟩:=pick_natS bl 4 (by decide);have HN:=hide (fun w=>pickK mn 1200 w h1.1 h1.2 (by decide) (by decide));have HK0:=hide (fun w=>pickK nr 10 w h2.1 h2.2 (by decide) (by decide));have HA:=hide (fun w=>pickK ht 3 w h3.1 h3.2 (by decide) (by decide));have HB:=hide (fun w=>pickK bl 4 w h4.1 h4.2 (by decide) (by decide));simp only[show ((1200:Nat):Int)=1200 from rfl,show ((10:Nat):Int)=10 from rfl,show ((3:Nat):Int)=3 from rfl,show ((4:Nat):Int)=4 from rfl] at hn hk ha hb;simp only[hn] at HN;simp only[hk] at HK0;simp only[ha] at HA;simp only[hb] at HB;clear hn hk ha hb h1 h2 h3 h4;have HT:=hide T;have HF1:=hide (freshK P W (Below.refl _ _) (Nat.le_refl _));clear T;go_enter Tryz.func8,Tryz.ntmps8
 go_wp2_with fail
 refine HF1.out.mono ?_;rintro e w1 ⟨xb,rfl,V,hx,hw,hk,hV⟩;have HX:=hide hx;have HW:=hide hw;have HK:=hide hk;have HV:=hide hV;clear hx hw hk hV HF1
 go_wp2_with fail
 refine (HK0.out _).mono ?_;rintro e w' ⟨rfl,hw'⟩;subst hw'
 go_wp2_with fail
 refine (HN.out _).mono ?_;rintro e w2 ⟨rfl,hw'⟩;subst hw';clear HN HK0;go_wp2
 go_loop [12,13] (fun s i=>∃ q:Nat,q<=k/\i=.int .i64 q/\s=.string (textK (bToks q))) (fun _ i=>k - (intOf i).toNat)
 case atStart=>exact⟨0,Nat.zero_le _,rfl,rfl⟩
 case round=>
  obtain⟨q,hq,rfl,rfl⟩:=hrel;have hsz:(textK (bToks q)).size=7 * q:=by rw[textK_size,bToks_len]
  have hsz2:(textK (bToks q)).size<=70:=by omega
  clear hsz;by_cases hlt:q < k
  ·have HR:Hid (textK (bToks q) ++ ⟨#[55,32,100,114,111,112,32]⟩=textK (bToks (q+1))):=by unfold Hid;rw[bToks,textK_app];rfl
   go_wp2
   go_round
   case rel=>exact⟨q+1,by omega,by go_num,by rw[HR.out]⟩
   case measure=>simp[intOf];omega
  ·have hqe:q=k:=by omega
   subst hqe;have HL1:=hide (line_as P _ xb V fsC fsC _ (rB q) ⟨#[]⟩ 0 HX.out HW.out (Sim.refl _) (isR q (by omega)));simp only[rB] at HL1
   go_wp2_with fail
   refine HL1.out.mono ?_;rintro e w3 ⟨rfl,V3,s3,hx3,hw3,hs3,hto3⟩;have K3:=Kp.two HK.out HV.out hto3;have HTU:=hide (HT.out w3 xb V3 s3 (1+a) b hx3 ⟨by omega,by omega⟩ ⟨by omega,by omega⟩);have HK3:=hide K3;have HW3:=hide hw3;have HS3:=hide hs3;clear hx3 hw3 hs3 hto3 K3 HX HW HK HV HL1 HT hsz2
   go_wp2_with fail
   refine (HA.out _).mono ?_;rintro e w' ⟨rfl,hw'⟩;subst hw'
   go_wp2_with fail
   refine (HB.out _).mono ?_;rintro e w'' ⟨rfl,hw'⟩;subst hw';clear HA HB
   go_wp2_with fail
   refine HTU.out.mono ?_;rintro e w4 ⟨r,rfl,hr,V4,s4,hx4,hw4,hs4,hto4⟩;obtain rfl:r=0:=hr (by unfold badU;omega);have K4:=Kp.two HK3.out.1 HK3.out.2 hto4;have HX4:=hide hx4;have HW4:=hide (hw4 HW3.out);have HS4:=hide (hs4.trans HS3.out);have HK4:=hide K4;clear hr hx4 hw4 hs4 hto4 K4 HTU HK3 HW3 HS3;have hns:=numB_size (n:Int) (by omega) (by omega)
   go_wp2_with fail
   refine (digitsK _ _ (by omega) (by omega)).mono ?_;rintro e w5 ⟨rfl,hk5⟩;have hx5:=P.frame _ _ _ _ _ _ HX4.out hk5 (fun _ _ h=>h) (fun _ _ h=>h) HK4.out.1.size;obtain⟨s6,hrs6,hl6⟩:=isN fsC.mem fsC.built q n hnl;have HL2:=hide (line_as P w5 xb V4 s4 (sR fsC.mem fsC.built q) s6 (nB n) ⟨#[]⟩ (wantN q n) hx5 HW4.out HS4.out hl6);simp only[nB] at HL2;have HK5:=hide (HK4.out.1.trans hk5);have HV5:=hide HK4.out.2;have HRS:=hide hrs6;clear hk5 hx5 hrs6 hl6 HX4 HW4 HS4 HK4
   go_wp2_with fail
   refine HL2.out.mono ?_;rintro e w6 ⟨rfl,V6,s7,hx6,hw6,hs6,hto6⟩;have K6:=Kp.two HK5.out HV5.out hto6;have HS:=hide (stack0 P w6 W xb V6 s7 (by rw[hs6.rs];exact HRS.out) hx6 hw6 K6.1 K6.2);clear hx6 hw6 hs6 hto6 K6 HL2 HK5 HV5 HRS hns;have hb1:0<=(n:Int) * (1+2 * (q:Int)):=Int.mul_nonneg (by omega) (by omega);have hb2:(n:Int) * (1+2 * (q:Int))<=22800:=by
    have h:=Nat.mul_le_mul (show n<=1200 by omega) (show 1+2 * q<=19 by omega);have h':((n * (1+2 * q):Nat):Int)<=((1200 * 19:Nat):Int):=by exact_mod_cast h
    rw[Int.natCast_mul] at h'
    simpa using h'
   by_cases hc:2000 < 4+(n:Int) * (1+2 * (q:Int))
   ·rw[show wantN q n=12 from if_pos hc]
    go_wp2_with fail
    refine HS.out.mono ?_;rintro e w7 ⟨ao,cap,rfl,hk7⟩;have HBE:Hid (Below W.heap.size W w7):=hk7.below (Nat.le_refl _) (fun _ _ h=>h);clear hk7 HS;go_wp2;go_ret;exact⟨by simp,HBE.out⟩
   ·rw[show wantN q n=0 from if_neg hc]
    go_wp2_with fail
    refine HS.out.mono ?_;rintro e w7 ⟨ao,cap,rfl,hk7⟩;have HBE:Hid (Below W.heap.size W w7):=hk7.below (Nat.le_refl _) (fun _ _ h=>h);clear hk7 HS;go_wp2;go_ret;exact⟨by simp,HBE.out⟩
end
end
end Go.Proofs.YteainaiebcphlaaGreatDoor
