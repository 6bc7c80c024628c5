import Derived.Test.YteainaiebcphlaaGreatDoorV41
import Derived.Handy
namespace Go.Proofs.YteainaiebcphlaaGreatDoor
set_option maxRecDepth 1000000
set_option maxHeartbeats 4000000
set_option linter.all false
section
open Go.RowKit
def itemOf (t:Tok):It:=match numP t with
 | some n=>⟨110,n,[],[],[],[]⟩
 | none=>⟨112,0,t,[],[],[]⟩
structure GoodT (t:Tok):Prop where
 tok:t.all tokB=true
 ne:t ≠ []
 w:(∃ n,numP t=some n)\/∃ k,plainL.findIdx? (· == t)=some k
structure ActOk (s:St) (t:Tok) (s':St):Prop where
 e0:s.e=0
 st:s.steps < 2000
 e1:s'.e=0
 w:(∃ n,numP t=some n/\s.rs.length < 32/\s'={ s.up with rs:=n :: s.rs })\/(∃ k,plainL.findIdx? (· == t)=some k/\s'=s.up.word k)
def ActsOk:St->List Tok->St->Prop
 | s,[],s'=>s'=s
 | s,t :: r,s'=>∃ s1,ActOk s t s1/\ActsOk s1 r s'
theorem acts_app:∀ (ts ts':List Tok) (s s1 s2:St),ActsOk s ts s1->ActsOk s1 ts' s2->ActsOk s (ts ++ ts') s2
 | [],_,s,s1,s2,h,h'=>by have h:s1=s:=h;subst h;exact h'
 | t :: r,ts',s,s1,s2,⟨q,h1,h2⟩,h'=>⟨q,h1,acts_app r ts' q s1 s2 h2 h'⟩
theorem acts_toks:∀ (ts rest:List Tok) (s s1 s2:St),ActsOk s ts s1->XR (jToks rest) s1 s2->XR (jToks (ts ++ rest)) s s2
 | [],_,s,s1,s2,h,h'=>by have h:s1=s:=h;subst h;exact h'
 | t :: r,rest,s,s1,s2,⟨q,h1,h2⟩,h'=>by
  have hr:=acts_toks r rest q s1 s2 h2 h';rcases h1.w with⟨n,hn,hl,rfl⟩|⟨k,hk,rfl⟩
  ·exact XR.tnum hn h1.e0 h1.st hl hr
  ·exact XR.tword hk h1.e0 h1.st hr
theorem acts_body (f:Fr) (lp:List Int):∀ (ts:List Tok) (s s1:St),ActsOk s ts s1->XR (jBody f lp (ts.map itemOf)) s s1
 | [],s,s1,h=>by have h:s1=s:=h;subst h;exact XR.nil
 | t :: r,s,s1,⟨q,h1,h2⟩=>by
  have hr:=acts_body f lp r q s1 h2;have he:=h1.e1;rcases h1.w with⟨n,hn,hl,rfl⟩|⟨k,hk,rfl⟩
  ·rw[List.map_cons,show itemOf t=⟨110,n,[],[],[],[]⟩ by unfold itemOf;rw[hn]];exact XR.cons (XR.num n h1.e0 h1.st hl) he hr
  ·rw[List.map_cons,show itemOf t=⟨112,0,t,[],[],[]⟩ by unfold itemOf;rw[plain_num hk]];exact XR.cons (XR.word hk h1.e0 h1.st he) he hr
theorem GoodT.semi {t:Tok} (h:GoodT t):¬ t=kSemi:=by
 intro e;subst e;have q1:numP kSemi=none:=by decide
 have q2:plainL.findIdx? (· == kSemi)=none:=by decide
 rcases h.w with⟨n,hn⟩|⟨k,hk⟩
 ·rw[q1] at hn;cases hn
 ·rw[q2] at hk;cases hk
theorem plain_any {t:Tok} {k:Nat} (h:plainL.findIdx? (· == t)=some k):plainL.any (· == t)=true:=by
 rw[List.any_eq_true];obtain⟨x,hx⟩:=List.findIdx?_eq_some_iff_getElem.1 h;exact⟨plainL[k],List.getElem_mem _,hx.1⟩
theorem read_item (known:Tok->Bool) (g lo:Nat) (t:Tok) (r:List Tok) (h:GoodT t):pRead known (g+1) ⟨true,lo,[],t⟩ r=some (.ok ([itemOf t],[],r)):=by
 rcases h.w with⟨n,hn⟩|⟨k,hk⟩
 ·rw[pI_num hn];unfold itemOf;rw[hn]
 ·rw[pI_plain (plain_num hk) (plain_any hk)];unfold itemOf;rw[plain_num hk]
theorem pB_item (known:Tok->Bool) (g lo:Nat) (ends:List Tok) (t t':Tok) (r r1 r2:List Tok) (xs ys:List It) (h:ends.any (· == t)=false) (h1:pRead known g ⟨true,lo,[],t⟩ r=some (.ok (xs,[],r1))) (h2:pRead known g ⟨false,lo,ends,[]⟩ r1=some (.ok (ys,t',r2))):
  pRead known (g+1) ⟨false,lo,ends,[]⟩ (t :: r)=some (.ok (xs ++ ys,t',r2)):=by
 rw[pRead];simp only[if_true,h,Bool.false_eq_true,if_false,h1,h2]
theorem read_items (known:Tok->Bool) (lo:Nat):∀ (ts r:List Tok),(∀ t∈ts,GoodT t)->pRead known (ts.length+2) ⟨false,lo,[kSemi],[]⟩ (ts ++ kSemi :: r)=some (.ok (ts.map itemOf,kSemi,r))
 | [],r,_=>pB_stop known 1 lo [kSemi] kSemi r (by decide)
 | t :: ts,r,h=>by
  have hg:=h t (by simp);exact pB_item known (ts.length+2) lo [kSemi] t kSemi (ts ++ kSemi :: r) (ts ++ kSemi :: r) r [itemOf t] (ts.map itemOf) (by simpa using fun e=>hg.semi e.symm) (read_item known (ts.length+1) lo t _ hg) (read_items known lo ts r (fun x hx=>h x (by simp[hx])))
def St.go (s:St) (rs:List Int) (k:Nat):St:={ s with rs:=rs,steps:=s.steps+(k:Int) }
def kPlus:Tok:=[43]
def kMinus:Tok:=[45]
def kTimes:Tok:=[42]
def kSwap:Tok:=[115,119,97,112]
def kOver:Tok:=[111,118,101,114]
def kDrop:Tok:=[100,114,111,112]
def kDup:Tok:=[100,117,112]
def kLt:Tok:=[60]
def kEq:Tok:=[61]
section
variable {s:St} {a b:Int} {r:List Int}
theorem act_num {t:Tok} {n:Int} (hn:numP t=some n) (he:s.e=0) (hs:s.steps < 2000) (hl:s.rs.length < 32):ActOk s t (s.go (n :: s.rs) 1):=⟨he,hs,he,.inl ⟨n,hn,hl,rfl⟩⟩
theorem act_add (h:s.rs=b :: a :: r) (he:s.e=0) (hs:s.steps < 2000):ActOk s kPlus (s.go (wrap64 (a+b) :: r) 1):=by
 obtain⟨rs,mem,defs,ids,hot,built,e,steps,depth,out⟩:=s;simp only at h he;subst h he;exact⟨rfl,hs,rfl,.inr ⟨0,by decide,rfl⟩⟩
theorem act_sub (h:s.rs=b :: a :: r) (he:s.e=0) (hs:s.steps < 2000):ActOk s kMinus (s.go (wrap64 (a - b) :: r) 1):=by
 obtain⟨rs,mem,defs,ids,hot,built,e,steps,depth,out⟩:=s;simp only at h he;subst h he;exact⟨rfl,hs,rfl,.inr ⟨1,by decide,rfl⟩⟩
theorem act_mul (h:s.rs=b :: a :: r) (he:s.e=0) (hs:s.steps < 2000):ActOk s kTimes (s.go (wrap64 (a * b) :: r) 1):=by
 obtain⟨rs,mem,defs,ids,hot,built,e,steps,depth,out⟩:=s;simp only at h he;subst h he;exact⟨rfl,hs,rfl,.inr ⟨2,by decide,rfl⟩⟩
theorem act_eq (h:s.rs=b :: a :: r) (he:s.e=0) (hs:s.steps < 2000):ActOk s kEq (s.go (sonum (a == b) :: r) 1):=by
 obtain⟨rs,mem,defs,ids,hot,built,e,steps,depth,out⟩:=s;simp only at h he;subst h he;exact⟨rfl,hs,rfl,.inr ⟨5,by decide,rfl⟩⟩
theorem act_lt (h:s.rs=b :: a :: r) (he:s.e=0) (hs:s.steps < 2000):ActOk s kLt (s.go (sonum (decide (a < b)) :: r) 1):=by
 obtain⟨rs,mem,defs,ids,hot,built,e,steps,depth,out⟩:=s;simp only at h he;subst h he;exact⟨rfl,hs,rfl,.inr ⟨6,by decide,rfl⟩⟩
theorem act_dup (h:s.rs=a :: r) (hl:r.length < 31) (he:s.e=0) (hs:s.steps < 2000):ActOk s kDup (s.go (a :: a :: r) 1):=by
 obtain⟨rs,mem,defs,ids,hot,built,e,steps,depth,out⟩:=s;simp only at h he;subst h he;refine⟨rfl,hs,rfl,.inr ⟨7,by decide,?_⟩⟩;simp[St.go,St.word,St.up,plainP,p_dup,hl]
theorem act_drop (h:s.rs=a :: r) (he:s.e=0) (hs:s.steps < 2000):ActOk s kDrop (s.go r 1):=by
 obtain⟨rs,mem,defs,ids,hot,built,e,steps,depth,out⟩:=s;simp only at h he;subst h he;exact⟨rfl,hs,rfl,.inr ⟨8,by decide,rfl⟩⟩
theorem act_swap (h:s.rs=b :: a :: r) (he:s.e=0) (hs:s.steps < 2000):ActOk s kSwap (s.go (a :: b :: r) 1):=by
 obtain⟨rs,mem,defs,ids,hot,built,e,steps,depth,out⟩:=s;simp only at h he;subst h he;exact⟨rfl,hs,rfl,.inr ⟨9,by decide,rfl⟩⟩
theorem act_over (h:s.rs=b :: a :: r) (hl:r.length < 30) (he:s.e=0) (hs:s.steps < 2000):ActOk s kOver (s.go (a :: b :: a :: r) 1):=by
 obtain⟨rs,mem,defs,ids,hot,built,e,steps,depth,out⟩:=s;simp only at h he;subst h he;refine⟨rfl,hs,rfl,.inr ⟨10,by decide,?_⟩⟩;simp[St.go,St.word,St.up,plainP,p_over,hl]
end
def Does (nts:List Tok) (rs rs':List Int):Prop:=∀ s:St,s.e=0->s.rs=rs->s.steps+(nts.length:Int)<=1900->ActsOk s nts (s.go rs' nts.length)
theorem Does.one {t:Tok} {rs rs':List Int} (h:∀ s:St,s.e=0->s.rs=rs->s.steps < 2000->ActOk s t (s.go rs' 1)):Does [t] rs rs':=
 fun s he hr hs=>⟨_,h s he hr (by simp only[List.length_cons,List.length_nil] at hs;omega),rfl⟩
theorem go_go (s:St) (a b:List Int) (m n:Nat):(s.go a m).go b n=s.go b (m+n):=by
 unfold St.go;simp only[St.mk.injEq,true_and,and_true];omega
theorem Does.app {t1 t2:List Tok} {a b c:List Int} (h1:Does t1 a b) (h2:Does t2 b c):Does (t1 ++ t2) a c:=by
 intro s he hr hs;rw[List.length_append] at hs;refine acts_app t1 t2 s _ _ (h1 s he hr (by omega)) ?_;have:=h2 (s.go b t1.length) he rfl (by show s.steps+(t1.length:Int)+t2.length<=1900;omega);rw[go_go] at this;rw[List.length_append];exact this
structure ArInv (ts:List Tok) (rs:List Int) (i:Nat):Prop where
 len:ts.length<=4 * i
 rl:rs.length<=20
 tx:(textOf ts).length<=40 * i
 good:∀ t∈ts,GoodT t
 run:Does ts [] rs
theorem ArInv.first:ArInv [] [] 0:=⟨by simp,by simp,by simp[textOf],by simp,fun s he hr _=>by
 show s.go [] 0=s;obtain⟨rs,mem,defs,ids,hot,built,e,steps,depth,out⟩:=s;simp only at hr;subst hr;simp[St.go]⟩
theorem textOf_app (a b:List Tok):textOf (a ++ b)=textOf a ++ textOf b:=by simp[textOf]
theorem ArInv.step {ts nts:List Tok} {rs rs':List Int} {i:Nat} (h:ArInv ts rs i) (h4:nts.length<=4) (hx:(textOf nts).length<=40) (hr:rs'.length<=20) (hg:∀ t∈nts,GoodT t) (hd:Does nts rs rs'):ArInv (ts ++ nts) rs' (i+1):=by
 refine⟨?_,hr,?_,fun t ht=>?_,h.run.app hd⟩
 ·rw[List.length_append];have:=h.len;omega
 ·rw[textOf_app,List.length_append];have:=h.tx;omega
 ·rcases List.mem_append.1 ht with h1|h1
  ·exact h.good t h1
  ·exact hg t h1
theorem good_num (n:Int) (h0:-10000000 < n) (h1:n < 10000000):GoodT (Lib.itoa n):=⟨itoa_tok n,itoa_ne n h0 h1,.inl ⟨n,numP_itoa n h0 h1⟩⟩
theorem good_all:GoodT kPlus/\GoodT kMinus/\GoodT kTimes/\GoodT kSwap/\GoodT kOver/\GoodT kDrop/\GoodT kDup/\GoodT kLt/\GoodT kEq:=
 ⟨⟨by decide,by decide,.inr ⟨0,by decide⟩⟩,⟨by decide,by decide,.inr ⟨1,by decide⟩⟩,⟨by decide,by decide,.inr ⟨2,by decide⟩⟩,⟨by decide,by decide,.inr ⟨9,by decide⟩⟩,⟨by decide,by decide,.inr ⟨10,by decide⟩⟩,⟨by decide,by decide,.inr ⟨8,by decide⟩⟩,⟨by decide,by decide,.inr ⟨7,by decide⟩⟩,⟨by decide,by decide,.inr ⟨6,by decide⟩⟩,⟨by decide,by decide,.inr ⟨5,by decide⟩⟩⟩
theorem one_good {t:Tok} (h:GoodT t):∀ x∈[t],GoodT x:=fun x hx=>by simp at hx;subst hx;exact h
section
variable {ts:List Tok} {rs:List Int} {i:Nat} {a b:Int} {r:List Int}
theorem ArInv.num (h:ArInv ts rs i) (n:Int) (h0:-10000000 < n) (h1:n < 10000000) (hl:rs.length < 20):ArInv (ts ++ [Lib.itoa n]) (n :: rs) (i+1):=by
 have:=(numLen n h0 h1).2;exact h.step (by simp) (by simp[textOf];omega) (by simp;omega) (one_good (good_num n h0 h1)) (Does.one fun s he hr hs=>by
  have:=act_num (numP_itoa n h0 h1) he hs (by rw[hr];omega);rw[hr] at this;exact this)
theorem ArInv.add (h:ArInv ts (b :: a :: r) i):ArInv (ts ++ [kPlus]) (wrap64 (a+b) :: r) (i+1):=by
 have:=h.rl;exact h.step (by simp) (by decide) (by simp at this ⊢;omega) (one_good good_all.1) (Does.one fun s he hr hs=>act_add hr he hs)
theorem ArInv.sub (h:ArInv ts (b :: a :: r) i):ArInv (ts ++ [kMinus]) (wrap64 (a - b) :: r) (i+1):=by
 have:=h.rl;exact h.step (by simp) (by decide) (by simp at this ⊢;omega) (one_good good_all.2.1) (Does.one fun s he hr hs=>act_sub hr he hs)
theorem ArInv.mul (h:ArInv ts (b :: a :: r) i):ArInv (ts ++ [kTimes]) (wrap64 (a * b) :: r) (i+1):=by
 have:=h.rl;exact h.step (by simp) (by decide) (by simp at this ⊢;omega) (one_good good_all.2.2.1) (Does.one fun s he hr hs=>act_mul hr he hs)
theorem ArInv.swap (h:ArInv ts (b :: a :: r) i):ArInv (ts ++ [kSwap]) (a :: b :: r) (i+1):=by
 have:=h.rl;exact h.step (by simp) (by decide) (by simp at this ⊢;omega) (one_good good_all.2.2.2.1) (Does.one fun s he hr hs=>act_swap hr he hs)
theorem ArInv.drop (h:ArInv ts (b :: a :: r) i):ArInv (ts ++ [kDrop]) (a :: r) (i+1):=by
 have:=h.rl;exact h.step (by simp) (by decide) (by simp at this ⊢;omega) (one_good good_all.2.2.2.2.2.1) (Does.one fun s he hr hs=>act_drop hr he hs)
theorem ArInv.lt (h:ArInv ts (b :: a :: r) i):ArInv (ts ++ [kLt]) (sonum (decide (a < b)) :: r) (i+1):=by
 have:=h.rl;exact h.step (by simp) (by decide) (by simp at this ⊢;omega) (one_good good_all.2.2.2.2.2.2.2.1) (Does.one fun s he hr hs=>act_lt hr he hs)
theorem ArInv.eq (h:ArInv ts (b :: a :: r) i):ArInv (ts ++ [kEq]) (sonum (a == b) :: r) (i+1):=by
 have:=h.rl;exact h.step (by simp) (by decide) (by simp at this ⊢;omega) (one_good good_all.2.2.2.2.2.2.2.2) (Does.one fun s he hr hs=>act_eq hr he hs)
theorem ArInv.over (h:ArInv ts (b :: a :: r) i):ArInv (ts ++ [kOver,kDrop,kDup,kDrop]) (b :: a :: r) (i+1):=by
 have hl:=h.rl;simp only[List.length_cons] at hl;have d1:Does [kOver] (b :: a :: r) (a :: b :: a :: r):=Does.one fun s he hr hs=>act_over hr (by omega) he hs;have d2:Does [kDrop] (a :: b :: a :: r) (b :: a :: r):=Does.one fun s he hr hs=>act_drop hr he hs;have d3:Does [kDup] (b :: a :: r) (b :: b :: a :: r):=Does.one fun s he hr hs=>act_dup hr (by simp;omega) he hs;have d4:Does [kDrop] (b :: b :: a :: r) (b :: a :: r):=Does.one fun s he hr hs=>act_drop hr he hs;refine h.step (by simp) (by decide) h.rl (fun t ht=>?_) (((d1.app d2).app d3).app d4);simp only[List.mem_cons,List.not_mem_nil,or_false] at ht;rcases ht with rfl|rfl|rfl|rfl
 ·exact good_all.2.2.2.2.1
 ·exact good_all.2.2.2.2.2.1
 ·exact good_all.2.2.2.2.2.2.1
 ·exact good_all.2.2.2.2.2.1
end
theorem good_tok {ts:List Tok} (h:∀ t∈ts,GoodT t):∀ t∈ts,t.all tokB=true/\t ≠ []:=fun t ht=>⟨(h t ht).tok,(h t ht).ne⟩
theorem reck_line (s:St) (hf:Fsh s) {ts:List Tok} {rs:List Int} (h:ArInv ts rs 40):∃ s',XR (jToks (Lib.fields (textOf ts))) (freshL s) s'/\s'.e=0/\s'.out=⟨#[]⟩/\s'.rs=rs:=by
 have e:Lib.fields (textOf ts)=ts ++ []:=by
  have:=fields_texts ts [] (good_tok h.good);rw[List.append_nil] at this;rw[this];rfl
 have hl:=h.len;rw[e];exact⟨_,acts_toks ts [] (freshL s) _ _ (h.run (freshL s) rfl hf.rs (by show (0:Int)+ts.length<=1900;omega)) XR.tnil,rfl,rfl,rfl⟩
def kW:Tok:=[119]
theorem callW:IsCall kW:=⟨by decide,by decide,by decide,by decide⟩
theorem reck_word (s:St) (hf:Fsh s) {ts:List Tok} {rs:List Int} (h:ArInv ts rs 40):∃ s',XR (jToks (kColon :: kW :: (ts ++ [kSemi,kW]))) (freshL s) s'/\s'.e=0/\s'.out=⟨#[]⟩/\s'.rs=rs:=by
 obtain⟨rs0,mem,defs,ids,hot,built,e,steps,depth,out⟩:=s;obtain⟨h1,h2,h3,h4⟩:=hf;simp only at h1 h2 h3 h4;subst h1 h2 h3 h4;have hl:=h.len;generalize hb:ts.map itemOf=body;have k4:=acts_body ⟨3,kW,body⟩ [] ts ⟨[],mem,[⟨[115,113],2,[],0,false,[]⟩,⟨kW,3,body,1,false,[]⟩],3,5,built,0,2,1,⟨#[]⟩⟩ _ (h.run _ rfl rfl (by show (2:Int)+ts.length<=1900;omega));rw[hb] at k4;have hc:xCome 10 ⟨3,kW,body⟩ ⟨[],mem,[⟨[115,113],2,[],0,false,[]⟩,⟨kW,3,body,0,false,[]⟩],3,5,built,0,2,0,⟨#[]⟩⟩=some ⟨[],mem,[⟨[115,113],2,[],0,false,[]⟩,⟨kW,3,body,1,false,[]⟩],3,5,built,0,2,0,⟨#[]⟩⟩:=by
  have w1:wrap64 1=1:=by decide +kernel
  simp[xCome,St.find,St.count,List.findIdx?_cons,kW,w1]
 have k3:XR (jEnter ⟨3,kW,body⟩) ⟨[],mem,[⟨[115,113],2,[],0,false,[]⟩,⟨kW,3,body,0,false,[]⟩],3,5,built,0,2,0,⟨#[]⟩⟩ _:=XR.enter (show (0:Int) < 20 by decide) hc k4;have k2:XR (jToks [kW]) ⟨[],mem,[⟨[115,113],2,[],0,false,[]⟩,⟨kW,3,body,0,false,[]⟩],3,5,built,0,1,0,⟨#[]⟩⟩ _:=XR.tcall callW rfl rfl rfl (show (1:Int) < 2000 by decide) k3 XR.tnil;have hset:(St.mk [] mem [⟨[115,113],2,[],0,false,[]⟩] 2 5 built 0 0 0 ⟨#[]⟩).up.set kW body=⟨[],mem,[⟨[115,113],2,[],0,false,[]⟩,⟨kW,3,body,0,false,[]⟩],3,5,built,0,1,0,⟨#[]⟩⟩:=by
  have w3:wrap64 3=3:=by decide +kernel
  simp[St.set,St.up,St.find,List.findIdx?_cons,kW,w3]
 have hp:pDef (ts.length+2) ⟨[],mem,[⟨[115,113],2,[],0,false,[]⟩],2,5,built,0,0,0,⟨#[]⟩⟩ (kW :: (ts ++ [kSemi,kW]))=some (.ok (kW,body,[kW])):=by
  have hn:isName kW=true:=by decide
  have hr:=read_items (St.known ⟨[],mem,[⟨[115,113],2,[],0,false,[]⟩],2,5,built,0,0,0,⟨#[]⟩⟩) 0 ts [kW] h.good;simp only[pDef];rw[hn,if_neg (by decide),if_neg (by simp),hr,hb]
 rw[<-hset] at k2;have k0:XR (jToks (kColon :: kW :: (ts ++ [kSemi,kW]))) ⟨[],mem,[⟨[115,113],2,[],0,false,[]⟩],2,5,built,0,0,0,⟨#[]⟩⟩ _:=XR.tdef rfl (show (0:Int) < 2000 by decide) hp k2;exact⟨_,k0,rfl,rfl,rfl⟩
end
end Go.Proofs.YteainaiebcphlaaGreatDoor
