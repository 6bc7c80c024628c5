import Derived.Test.YteainaiebcphlaaGreatDoorY6
import Derived.Test.YteainaiebcphlaaGreatDoorY4
import Derived.Test.YteainaiebcphlaaGreatDoorY5
import Derived.DeepKeys4
import Derived.Maps.RangeWalk
namespace Go.Proofs.YteainaiebcphlaaGreatDoor
set_option maxRecDepth 1000000
set_option maxHeartbeats 4000000
set_option linter.all false
section
open Go.RowKit
def CLen (l:List It) (n:Nat):Prop:=∀ g names,callsG g l=some names->names.length<=n
theorem CLen.mono {l:List It} {n m:Nat} (h:CLen l n) (hm:n<=m):CLen l m:=fun g names hg=>Nat.le_trans (h g names hg) hm
theorem CLen.nil:CLen [] 0:=by
 intro g names h
 cases g with
 | zero=>cases h
 | succ g=>simp only[callsG] at h;injection h with h;subst h;simp
theorem calls_cons {g:Nat} {x:It} {l:List It} {names:List Tok} (h:callsG (g+1) (x :: l)=some names):∃ a b c,callsG g x.a=some a/\callsG g x.b=some b/\callsG g l=some c/\names=(if x.kind=99 then [x.name] else []) ++ a ++ b ++ c:=by
 simp only[callsG] at h
 split at h
 ·rename_i a b c h1 h2 h3
  injection h with h;exact⟨a,b,c,h1,h2,h3,h.symm⟩
 ·cases h
theorem CLen.one {x:It} {na nb:Nat} (ha:CLen x.a na) (hb:CLen x.b nb):CLen [x] (1+na+nb):=by
 intro g names h
 cases g with
 | zero=>cases h
 | succ g=>
  obtain⟨a,b,c,h1,h2,h3,h4⟩:=calls_cons h;have q1:=ha _ _ h1;have q2:=hb _ _ h2;have q3:=CLen.nil _ _ h3;rw[h4];simp only[List.length_append]
  split <;> simp <;> omega
theorem CLen.one0 {x:It} {na nb:Nat} (hk:¬ x.kind=99) (ha:CLen x.a na) (hb:CLen x.b nb):CLen [x] (na+nb):=by
 intro g names h
 cases g with
 | zero=>cases h
 | succ g=>
  obtain⟨a,b,c,h1,h2,h3,h4⟩:=calls_cons h;have q1:=ha _ _ h1;have q2:=hb _ _ h2;have q3:=CLen.nil _ _ h3;rw[h4,if_neg hk];simp only[List.length_append,List.length_nil];omega
theorem calls_app:∀ (l l':List It) (g:Nat) (names:List Tok),callsG g (l ++ l')=some names->∃ n1 n2 g',callsG g l=some n1/\callsG g' l'=some n2/\names=n1 ++ n2
 | [],l',g,names,h=>by
  cases g with
  | zero=>cases h
  | succ g=>exact⟨[],names,g+1,rfl,h,rfl⟩
 | x :: l,l',g,names,h=>by
  cases g with
  | zero=>cases h
  | succ g=>
   obtain⟨a,b,c,h1,h2,h3,h4⟩:=calls_cons (l:=l ++ l') h;obtain⟨n1,n2,g',h5,h6,h7⟩:=calls_app l l' g c h3;refine⟨(if x.kind=99 then [x.name] else []) ++ a ++ b ++ n1,n2,g',?_,h6,by rw[h4,h7];simp⟩;simp only[callsG,h1,h2,h5]
theorem CLen.app {l l':List It} {n n':Nat} (h:CLen l n) (h':CLen l' n'):CLen (l ++ l') (n+n'):=by
 intro g names hg;obtain⟨n1,n2,g',h1,h2,h3⟩:=calls_app l l' g names hg;rw[h3,List.length_append];exact Nat.add_le_add (h _ _ h1) (h' _ _ h2)
theorem braces_len:∀ (r:List Tok) (ts r':List Tok),pBraces r=.ok (ts,r')->r'.length<=r.length
 | [],_,_,h=>by cases h
 | t :: r,ts,r',h=>by
  unfold pBraces at h
  split at h
  ·cases h
  split at h
  ·injection h with h;injection h with h1 h2;subst h2;simp
  split at h
  ·cases h
  ·rename_i ts1 r1 h1
   injection h with h;injection h with h2 h3;subst h3;have:=braces_len r _ _ h1;simp;omega
theorem pOne_calls {known:Tok->Bool} {lo:Nat} {t:Tok} {x:It} (h:pOne known lo t=.ok x):x.a=[]/\x.b=[]:=by
 unfold pOne at h
 repeat' split at h
 all_goals first
  | (cases h;done)
  | (injection h with h;subst h;exact⟨rfl,rfl⟩)
def PLen (item:Bool) (r:List Tok) (xs:List It) (r':List Tok):Prop:=∃ n,CLen xs n/\r'.length+n<=r.length+(if item=true then 1 else 0)/\r'.length<=r.length
theorem PLen.out {item:Bool} {r:List Tok} {xs:List It} {r':List Tok} (h:PLen item r xs r'):∃ n,CLen xs n/\r'.length+n<=r.length+(if item=true then 1 else 0)/\r'.length<=r.length:=h
theorem pRead_calls (known:Tok->Bool):∀ (g:Nat) (j:PJ) (r:List Tok) (xs:List It) (t:Tok) (r':List Tok),pRead known g j r=some (.ok (xs,t,r'))->PLen j.item r xs r':=by
 intro g
 induction g with
 | zero=>intro j r xs t r' h;cases h
 | succ g ih=>
  intro j r xs t r' h;unfold pRead at h
  cases hj:j.item with
  | false=>
   rw[if_pos hj] at h
   split at h
   ·cases h
   ·rename_i t1 r1
    split at h
    ·injection h with h;injection h with h;injection h with h1 h2;injection h2 with h2 h3;subst h1;subst h3;exact⟨0,CLen.nil,by simp,by simp⟩
    ·split at h
     ·cases h
     ·cases h
     ·rename_i xs1 t2 r2 h1
      have k1:=ih _ _ _ _ _ h1
      split at h
      ·cases h
      ·cases h
      ·rename_i ys t3 r3 h2
       have k2:=ih _ _ _ _ _ h2;injection h with h;injection h with h;injection h with e1 e2;injection e2 with e2 e3;subst e1;subst e3;obtain⟨n1,c1,d1,e1'⟩:=k1;obtain⟨n2,c2,d2,e2'⟩:=k2;rw[hj] at d2;simp only[if_true] at d1;simp only[Bool.false_eq_true,if_false] at d2;exact⟨n1+n2,c1.app c2,by simp;omega,by first|omega|(simp;omega)⟩
  | true=>
   rw[if_neg (by rw[hj];decide)] at h
   split at h
   ·split at h
    ·cases h
    ·cases h
    ·rename_i a t1 r1 h1
     obtain⟨n1,c1,d1,e1'⟩:=ih _ _ _ _ _ h1;simp only[Bool.false_eq_true,if_false] at d1
     split at h
     ·split at h
      ·cases h
      ·cases h
      ·rename_i b t2 r2 h2
       obtain⟨n2,c2,d2,e2'⟩:=ih _ _ _ _ _ h2;simp only[Bool.false_eq_true,if_false] at d2;injection h with h;injection h with h;injection h with e1 e2;injection e2 with e2 e3;subst e1;subst e3;exact⟨n1+n2,CLen.one0 (by simp) c1 c2,by simp;omega,by first|omega|(simp;omega)⟩
     ·injection h with h;injection h with h;injection h with e1 e2;injection e2 with e2 e3;subst e1;subst e3;exact⟨n1+0,CLen.one0 (by simp) c1 CLen.nil,by simp;omega,by first|omega|(simp;omega)⟩
   ·split at h
    ·split at h
     ·cases h
     ·cases h
     ·rename_i a t1 r1 h1
      obtain⟨n1,c1,d1,e1'⟩:=ih _ _ _ _ _ h1;simp only[Bool.false_eq_true,if_false] at d1
      split at h
      ·split at h
       ·cases h
       ·cases h
       ·rename_i b t2 r2 h2
        obtain⟨n2,c2,d2,e2'⟩:=ih _ _ _ _ _ h2;simp only[Bool.false_eq_true,if_false] at d2;injection h with h;injection h with h;injection h with e1 e2;injection e2 with e2 e3;subst e1;subst e3;exact⟨n1+n2,CLen.one0 (by simp) c1 c2,by simp;omega,by first|omega|(simp;omega)⟩
      ·injection h with h;injection h with h;injection h with e1 e2;injection e2 with e2 e3;subst e1;subst e3;exact⟨n1+0,CLen.one0 (by simp) c1 CLen.nil,by simp;omega,by first|omega|(simp;omega)⟩
    ·split at h
     ·split at h
      ·cases h
      ·cases h
      ·rename_i a t1 r1 h1
       obtain⟨n1,c1,d1,e1'⟩:=ih _ _ _ _ _ h1;simp only[Bool.false_eq_true,if_false] at d1;injection h with h;injection h with h;injection h with e1 e2;injection e2 with e2 e3;subst e1;subst e3;exact⟨n1+0,CLen.one0 (by simp) c1 CLen.nil,by simp;omega,by first|omega|(simp;omega)⟩
     ·split at h
      ·split at h
       ·cases h
       ·rename_i ts r1 h1
        have:=braces_len _ _ _ h1;injection h with h;injection h with h;injection h with e1 e2;injection e2 with e2 e3;subst e1;subst e3;exact⟨0+0,CLen.one0 (by simp) CLen.nil CLen.nil,by simp;omega,by first|omega|(simp;omega)⟩
      ·split at h
       ·cases h
       ·rename_i x h1
        obtain⟨xa,xb⟩:=pOne_calls h1;injection h with h;injection h with h;injection h with e1 e2;injection e2 with e2 e3;subst e1;subst e3;exact⟨1+0+0,CLen.one (by rw[xa];exact CLen.nil) (by rw[xb];exact CLen.nil),by simp,by simp⟩
theorem pDefD_ok {g:Nat} {defs:List Def} {r:List Tok} {nm:Tok} {b:List It} {r1:List Tok} (hl:r.length<=1000) (h:pDefD g defs r=some (.ok (nm,b,r1))):CBnd b/\(¬ findI defs nm < 0\/(findI defs nm < 0/\defs.length < 30)):=by
 cases r with
 | nil=>cases h
 | cons t r=>
  unfold pDefD at h;dsimp only at h
  split at h
  ·cases h
  split at h
  ·cases h
  rename_i h30
  split at h
  ·cases h
  ·cases h
  ·rename_i b' t' r' hr
   injection h with h;injection h with h;injection h with e1 e2;injection e2 with e2 e3;subst e1;subst e2;obtain⟨n,c,d,-⟩:=pRead_calls _ _ _ _ _ _ _ hr;simp only[Bool.false_eq_true,if_false] at d;simp at hl;refine⟨c.mono (by omega),?_⟩;by_cases hf:findI defs t < 0
   ·right
    refine⟨hf,?_⟩;rw[knownD_neg hf] at h30;simp at h30;exact h30
   ·exact .inl hf
end
section
open Go.RowKit
theorem pRead_mono (known:Tok->Bool):∀ (g:Nat) (j:PJ) (r:List Tok) (res:PRes),pRead known g j r=some res->pRead known (g+1) j r=some res:=by
 intro g
 induction g with
 | zero=>intro j r res h;cases h
 | succ g ih=>
  intro j r res h;unfold pRead at h ⊢;by_cases hj:j.item=false
  ·rw[if_pos hj] at h ⊢
   cases r with
   | nil=>exact h
   | cons t r1=>
    dsimp only at h ⊢;by_cases he:j.ends.any (· == t)=true
    ·rw[if_pos he] at h ⊢;exact h
    rw[if_neg he] at h ⊢
    cases hx:pRead known g ⟨true,j.loops,[],t⟩ r1 with
    | none=>rw[hx] at h;cases h
    | some v=>
     rw[hx] at h;rw[ih _ _ _ hx]
     cases v with
     | error e=>exact h
     | ok q=>
      obtain⟨xs,t2,r2⟩:=q;dsimp only at h ⊢
      cases hy:pRead known g j r2 with
      | none=>rw[hy] at h;cases h
      | some v2=>rw[hy] at h;rw[ih _ _ _ hy];exact h
  rw[if_neg hj] at h ⊢;by_cases h1:j.t=kIf
  ·rw[if_pos h1] at h ⊢
   cases hx:pRead known g ⟨false,j.loops,[kElse,kThen],[]⟩ r with
   | none=>rw[hx] at h;cases h
   | some v=>
    rw[hx] at h;rw[ih _ _ _ hx]
    cases v with
    | error e=>exact h
    | ok q=>
     obtain⟨a,t1,r1⟩:=q;dsimp only at h ⊢;by_cases h2:t1=kElse
     ·rw[if_pos h2] at h ⊢
      cases hy:pRead known g ⟨false,j.loops,[kThen],[]⟩ r1 with
      | none=>rw[hy] at h;cases h
      | some v2=>rw[hy] at h;rw[ih _ _ _ hy];exact h
     ·rw[if_neg h2] at h ⊢;exact h
  rw[if_neg h1] at h ⊢;by_cases h3:j.t=kBegin
  ·rw[if_pos h3] at h ⊢
   cases hx:pRead known g ⟨false,j.loops,[kUntil,kWhile],[]⟩ r with
   | none=>rw[hx] at h;cases h
   | some v=>
    rw[hx] at h;rw[ih _ _ _ hx]
    cases v with
    | error e=>exact h
    | ok q=>
     obtain⟨a,t1,r1⟩:=q;dsimp only at h ⊢;by_cases h2:t1=kWhile
     ·rw[if_pos h2] at h ⊢
      cases hy:pRead known g ⟨false,j.loops,[kRepeat],[]⟩ r1 with
      | none=>rw[hy] at h;cases h
      | some v2=>rw[hy] at h;rw[ih _ _ _ hy];exact h
     ·rw[if_neg h2] at h ⊢;exact h
  rw[if_neg h3] at h ⊢;by_cases h4:j.t=kDo
  ·rw[if_pos h4] at h ⊢
   cases hx:pRead known g ⟨false,j.loops+1,[kLoop],[]⟩ r with
   | none=>rw[hx] at h;cases h
   | some v=>rw[hx] at h;rw[ih _ _ _ hx];exact h
  rw[if_neg h4] at h ⊢;exact h
theorem pDef_mono {g:Nat} {s:St} {r:List Tok} {res:DRes} (h:pDef g s r=some res):pDef (g+1) s r=some res:=by
 cases r with
 | nil=>exact h
 | cons t r=>
  unfold pDef at h ⊢;dsimp only at h ⊢;by_cases h1:isName t=false
  ·rw[if_pos h1] at h ⊢;exact h
  rw[if_neg h1] at h ⊢;by_cases h2:s.known t=false/\30<=s.defs.length
  ·rw[if_pos h2] at h ⊢;exact h
  rw[if_neg h2] at h ⊢
  cases hx:pRead s.known g ⟨false,0,[kSemi],[]⟩ r with
  | none=>rw[hx] at h;cases h
  | some v=>rw[hx] at h;rw[pRead_mono _ _ _ _ _ hx];exact h
theorem callsG_mono:∀ (g:Nat) (l:List It) (names:List Tok),callsG g l=some names->callsG (g+1) l=some names:=by
 intro g
 induction g with
 | zero=>intro l names h;cases h
 | succ g ih=>
  intro l names h
  cases l with
  | nil=>exact h
  | cons x l=>
   obtain⟨a,b,c,h1,h2,h3,h4⟩:=calls_cons h;rw[callsG,ih _ _ h1,ih _ _ h2,ih _ _ h3,h4]
theorem foldN_mono {f f':Tok->Option (List Tok)} (hf:∀ t x,f t=some x->f' t=some x):∀ (l res:List Tok),foldN f l=some res->foldN f' l=some res
 | [],res,h=>h
 | t :: l,res,h=>by
  unfold foldN at h ⊢
  split at h
  ·rename_i x y h1 h2
   rw[hf _ _ h1,foldN_mono hf l y h2];exact h
  ·cases h
theorem buildsG_mono (defs:List Def) (g:Nat):∀ (n:Nat) (l:List It) (res:List Tok),buildsG defs g n l=some res->buildsG defs (g+1) n l=some res
 | 0,l,res,h=>h
 | n+1,l,res,h=>by
  unfold buildsG at h ⊢
  cases hc:callsG g l with
  | none=>rw[hc] at h;cases h
  | some names=>
   rw[hc] at h;rw[callsG_mono _ _ _ hc];dsimp only at h ⊢;refine foldN_mono (fun t x ht=>?_) names res h
   cases hb:bodyOf defs t with
   | none=>rw[hb] at ht;cases ht
   | some b=>rw[hb] at ht;exact buildsG_mono defs g n b x ht
theorem count_mono {g:Nat} {s s':St} {k:Nat} (h:s.count g k=some s'):s.count (g+1) k=some s':=by
 unfold St.count at h ⊢
 split at h
 ·cases h
 ·by_cases h1:(‹Def›:Def).fast=true
  ·rw[if_pos h1] at h ⊢;exact h
  rw[if_neg h1] at h ⊢
  split at h
  ·rename_i h2;rw[if_pos h2];exact h
  ·rename_i h2;rw[if_neg h2]
   split at h
   ·cases h
   ·rename_i bs hb;rw[buildsG_mono _ _ _ _ _ hb];exact h
theorem xCome_mono {g:Nat} {f:Fr} {s s':St} (h:xCome g f s=some s'):xCome (g+1) f s=some s':=by
 unfold xCome at h ⊢
 split at h
 ·exact h
 ·split at h
  ·cases h
  ·split at h
   ·rename_i h1;rw[if_pos h1];exact count_mono h
   ·rename_i h1;rw[if_neg h1];exact h
end
section
open Go.RowKit
theorem xOne_mono {g:Nat} (ih:∀ (j:XJ) (s:St) (r:St × Bool),xRun g j s=some r->xRun (g+1) j s=some r) {f:Fr} {lp:List Int} {x:It} {s:St} {r:St × Bool} (h:xOne g f lp x s=some r):xOne (g+1) f lp x s=some r:=by
 unfold xOne at h ⊢;by_cases h1:x.kind=110
 ·rw[if_pos h1] at h ⊢;exact h
 rw[if_neg h1] at h ⊢;by_cases h2:x.kind=112
 ·rw[if_pos h2] at h ⊢;exact h
 rw[if_neg h2] at h ⊢;by_cases h3:x.kind=105
 ·rw[if_pos h3] at h ⊢;exact h
 rw[if_neg h3] at h ⊢;by_cases h4:x.kind=120
 ·rw[if_pos h4] at h ⊢;exact h
 rw[if_neg h4] at h ⊢;by_cases h5:x.kind=114
 ·rw[if_pos h5] at h ⊢
  cases hx:xRun g (jEnter f) s with
  | none=>rw[hx] at h;cases h
  | some v=>rw[hx] at h;rw[ih _ _ _ hx];exact h
 rw[if_neg h5] at h ⊢;by_cases h6:x.kind=99
 ·rw[if_pos h6] at h ⊢
  cases hx:xRun g (jCall x.name) s with
  | none=>rw[hx] at h;cases h
  | some v=>rw[hx] at h;rw[ih _ _ _ hx];exact h
 rw[if_neg h6] at h ⊢;by_cases h7:x.kind=123
 ·rw[if_pos h7] at h ⊢;by_cases hd:20<=s.depth
  ·rw[if_pos hd] at h ⊢;exact h
  rw[if_neg hd] at h ⊢
  cases hx:xRun g (jToks x.toks) { s with depth:=s.depth+1 } with
  | none=>rw[hx] at h;cases h
  | some v=>rw[hx] at h;rw[ih _ _ _ hx];exact h
 rw[if_neg h7] at h ⊢;by_cases h8:x.kind=100
 ·rw[if_pos h8] at h ⊢
  split at h
  ·exact ih _ _ _ h
  ·exact h
 rw[if_neg h8] at h ⊢;exact h
theorem xTok_mono {g:Nat} (ih:∀ (j:XJ) (s:St) (r:St × Bool),xRun g j s=some r->xRun (g+1) j s=some r) {t:Tok} {s s':St} (h:xTok g t s=some s'):xTok (g+1) t s=some s':=by
 unfold xTok at h ⊢
 cases hn:numP t with
 | some n=>rw[hn] at h;exact h
 | none=>
  rw[hn] at h;dsimp only at h ⊢
  cases hp:plainL.findIdx? (· == t) with
  | some k=>rw[hp] at h;exact h
  | none=>
   rw[hp] at h;dsimp only at h ⊢;by_cases h1:(keptL.any (· == t) || t == kSemi || t == kOpen || t == kClose)=true
   ·rw[if_pos h1] at h ⊢;exact h
   rw[if_neg h1] at h ⊢;by_cases h2:s.known t=false
   ·rw[if_pos h2] at h ⊢;exact h
   rw[if_neg h2] at h ⊢;by_cases h3:s.step.e ≠ 0
   ·rw[if_pos h3] at h ⊢;exact h
   rw[if_neg h3] at h ⊢
   cases hx:xRun g (jCall t) s.step with
   | none=>rw[hx] at h;cases h
   | some v=>rw[hx] at h;rw[ih _ _ _ hx];exact h
theorem xRun_mono1:∀ (g:Nat) (j:XJ) (s:St) (r:St × Bool),xRun g j s=some r->xRun (g+1) j s=some r:=by
 intro g
 induction g with
 | zero=>intro j s r h;cases h
 | succ g ih=>
  intro j s r h;unfold xRun at h ⊢;by_cases h0:j.what=0
  ·rw[if_pos h0] at h ⊢
   cases hl:j.l with
   | nil=>rw[hl] at h;exact h
   | cons x l=>
    rw[hl] at h;dsimp only at h ⊢
    cases hx:xRun g (jItem j.f j.lp x) s with
    | none=>rw[hx] at h;cases h
    | some v=>
     obtain⟨s1,left⟩:=v;rw[hx] at h;rw[ih _ _ _ hx];dsimp only at h ⊢;by_cases hc:left=true\/s1.e ≠ 0
     ·rw[if_pos hc] at h ⊢;exact h
     ·rw[if_neg hc] at h ⊢;exact ih _ _ _ h
  rw[if_neg h0] at h ⊢;by_cases h1:j.what=1
  ·rw[if_pos h1] at h ⊢;by_cases q1:j.x.kind=63
   ·rw[if_pos q1] at h ⊢;by_cases e1:s.test.1.e ≠ 0
    ·rw[if_pos e1] at h ⊢;exact h
    rw[if_neg e1] at h ⊢;by_cases e2:s.test.2=true
    ·rw[if_pos e2] at h ⊢;exact ih _ _ _ h
    ·rw[if_neg e2] at h ⊢;exact ih _ _ _ h
   rw[if_neg q1] at h ⊢;by_cases q2:j.x.kind=117
   ·rw[if_pos q2] at h ⊢
    cases hx:xRun g (jBody j.f j.lp j.x.a) s with
    | none=>rw[hx] at h;cases h
    | some v=>
     obtain⟨s1,left⟩:=v;rw[hx] at h;rw[ih _ _ _ hx];dsimp only at h ⊢;by_cases e0:left=true
     ·rw[if_pos e0] at h ⊢;exact h
     rw[if_neg e0] at h ⊢;by_cases e1:s1.test.1.e ≠ 0
     ·rw[if_pos e1] at h ⊢;exact h
     rw[if_neg e1] at h ⊢;by_cases e2:s1.test.2=true
     ·rw[if_pos e2] at h ⊢;exact h
     ·rw[if_neg e2] at h ⊢;exact ih _ _ _ h
   rw[if_neg q2] at h ⊢;by_cases q3:j.x.kind=119
   ·rw[if_pos q3] at h ⊢
    cases hx:xRun g (jBody j.f j.lp j.x.a) s with
    | none=>rw[hx] at h;cases h
    | some v=>
     obtain⟨s1,left⟩:=v;rw[hx] at h;rw[ih _ _ _ hx];dsimp only at h ⊢;by_cases e0:left=true
     ·rw[if_pos e0] at h ⊢;exact h
     rw[if_neg e0] at h ⊢;by_cases e1:s1.test.1.e ≠ 0
     ·rw[if_pos e1] at h ⊢;exact h
     rw[if_neg e1] at h ⊢;by_cases e2:s1.test.2=false
     ·rw[if_pos e2] at h ⊢;exact h
     rw[if_neg e2] at h ⊢
     cases hy:xRun g (jBody j.f j.lp j.x.b) s1.test.1 with
     | none=>rw[hy] at h;cases h
     | some v3=>
      obtain⟨s3,left3⟩:=v3;rw[hy] at h;rw[ih _ _ _ hy];dsimp only at h ⊢;by_cases e3:left3=true
      ·rw[if_pos e3] at h ⊢;exact h
      ·rw[if_neg e3] at h ⊢;exact ih _ _ _ h
   rw[if_neg q3] at h ⊢;by_cases q4:s.step.e ≠ 0
   ·rw[if_pos q4] at h ⊢;exact h
   rw[if_neg q4] at h ⊢;exact xOne_mono (f:=j.f) (lp:=j.lp) (x:=j.x) (s:=s.step) (r:=r) ih h
  rw[if_neg h1] at h ⊢;by_cases h2:j.what=2
  ·rw[if_pos h2] at h ⊢;by_cases e0:j.n < j.m
   ·rw[if_pos e0] at h ⊢;by_cases e1:s.step.e ≠ 0
    ·rw[if_pos e1] at h ⊢;exact h
    rw[if_neg e1] at h ⊢
    cases hx:xRun g (jBody j.f (j.n :: j.lp) j.l) s.step with
    | none=>rw[hx] at h;cases h
    | some v=>
     obtain⟨s2,left⟩:=v;rw[hx] at h;rw[ih _ _ _ hx];dsimp only at h ⊢;by_cases e2:left=true
     ·rw[if_pos e2] at h ⊢;exact h
     ·rw[if_neg e2] at h ⊢;exact ih _ _ _ h
   ·rw[if_neg e0] at h ⊢;exact h
  rw[if_neg h2] at h ⊢;by_cases h3:j.what=3
  ·rw[if_pos h3] at h ⊢;by_cases q:20<=s.depth
   ·rw[if_pos q] at h ⊢;exact h
   rw[if_neg q] at h ⊢
   have h:(match xCome g j.f s with
    | none=>none
    | some s1=>match xRun g (jBody j.f [] j.f.body) { s1 with depth:=s1.depth+1 } with
     | none=>none
     | some (s2,_)=>some ({ s2 with depth:=s2.depth - 1 },false))=some r:=h
   show (match xCome (g+1) j.f s with
    | none=>none
    | some s1=>match xRun (g+1) (jBody j.f [] j.f.body) { s1 with depth:=s1.depth+1 } with
     | none=>none
     | some (s2,_)=>some ({ s2 with depth:=s2.depth - 1 },false))=some r
   cases hc:xCome g j.f s with
   | none=>rw[hc] at h;cases h
   | some s1=>
    rw[hc] at h;rw[xCome_mono hc];dsimp only at h ⊢
    cases hx:xRun g (jBody j.f [] j.f.body) { s1 with depth:=s1.depth+1 } with
    | none=>rw[hx] at h;cases h
    | some v=>rw[hx] at h;rw[ih _ _ _ hx];exact h
  rw[if_neg h3] at h ⊢;by_cases h4:j.what=4
  ·rw[if_pos h4] at h ⊢
   split at h
   ·cases h
   ·exact ih _ _ _ h
  rw[if_neg h4] at h ⊢
  cases hts:j.ts with
  | nil=>rw[hts] at h;exact h
  | cons t r1=>
   rw[hts] at h;dsimp only at h ⊢;by_cases he:s.e ≠ 0
   ·rw[if_pos he] at h ⊢;exact h
   have he0:s.e=0:=by simpa using he
   by_cases ht:t=kColon
   ·subst ht;have h:xRun (g+1) (jToks (kColon :: r1)) s=some r:=h;show xRun (g+1+1) (jToks (kColon :: r1)) s=some r;rw[x_def _ s r1 he0] at h ⊢
    cases hp:pDef g s r1 with
    | none=>rw[hp] at h;cases h
    | some res=>
     rw[hp] at h;rw[pDef_mono hp]
     cases res with
     | error e=>exact h
     | ok q=>
      obtain⟨nm,b,r2⟩:=q;dsimp only at h ⊢;by_cases e1:s.step.e ≠ 0
      ·rw[if_pos e1] at h ⊢;exact h
      ·rw[if_neg e1] at h ⊢;exact ih _ _ _ h
   ·have h:xRun (g+1) (jToks (t :: r1)) s=some r:=h;show xRun (g+1+1) (jToks (t :: r1)) s=some r;rw[x_tok _ s t r1 he0 ht] at h ⊢
    cases hx:xTok g t s with
    | none=>rw[hx] at h;cases h
    | some s2=>rw[hx] at h;rw[xTok_mono ih hx];exact ih _ _ _ h
theorem xRun_mono {g g':Nat} (hg:g<=g') {j:XJ} {s:St} {r:St × Bool} (h:xRun g j s=some r):xRun g' j s=some r:=by
 induction hg with
 | refl=>exact h
 | step _ ih=>exact xRun_mono1 _ _ _ _ ih
end
section
open Go.RowKit
variable {K:Nat->Prop}
def slowIf (t:Tok) (d:Def):Def:=if d.fast=true/\d.built.any (· == t)=true then slowD d else d
theorem slowIf_name (t:Tok) (d:Def):(slowIf t d).name=d.name:=by unfold slowIf;split <;> rfl
theorem slowIf_body (t:Tok) (d:Def):(slowIf t d).body=d.body:=by unfold slowIf;split <;> rfl
end
section
open Go.RowKit
def okIt (known:Tok->Prop) (sub:Bool->List It->Prop) (lo:Bool) (x:It):Prop:=
 (((x.kind=110/\In x.n)\/x.kind=114\/x.kind=120\/(x.kind=123/\x.toks.length<=1000)\/(x.kind=112/\(plainL.findIdx? (· == x.name)).isSome=true)\/(x.kind=99/\known x.name)\/(x.kind=105/\lo=true))/\x.a=[]/\x.b=[]) \/
 ((x.kind=63\/x.kind=117\/x.kind=119)/\sub lo x.a/\sub lo x.b)\/(x.kind=100/\sub true x.a/\x.b=[])
def wb (known:Tok->Prop):Nat->Bool->List It->Prop
 | 0,_,l=>l=[]
 | g+1,lo,l=>∀ x∈l,okIt known (wb known g) lo x
theorem okIt.mono {known known':Tok->Prop} {sub sub':Bool->List It->Prop} (hk:∀ t,known t->known' t) (hs:∀ lo l,sub lo l->sub' lo l) {lo:Bool} {x:It} (h:okIt known sub lo x):okIt known' sub' lo x:=by
 rcases h with⟨h,h1,h2⟩|⟨h,h1,h2⟩|⟨h,h1,h2⟩
 ·refine .inl ⟨?_,h1,h2⟩;rcases h with h|h|h|h|h|h|h
  ·exact .inl h
  ·exact .inr (.inl h)
  ·exact .inr (.inr (.inl h))
  ·exact .inr (.inr (.inr (.inl h)))
  ·exact .inr (.inr (.inr (.inr (.inl h))))
  ·exact .inr (.inr (.inr (.inr (.inr (.inl ⟨h.1,hk _ h.2⟩)))))
  ·exact .inr (.inr (.inr (.inr (.inr (.inr h)))))
 ·exact .inr (.inl ⟨h,hs _ _ h1,hs _ _ h2⟩)
 ·exact .inr (.inr ⟨h,hs _ _ h1,h2⟩)
theorem wb_known {known known':Tok->Prop} (hk:∀ t,known t->known' t):∀ (g:Nat) (lo:Bool) (l:List It),wb known g lo l->wb known' g lo l
 | 0,_,_,h=>h
 | g+1,_,_,h=>fun x hx=>(h x hx).mono hk (fun lo l=>wb_known hk g lo l)
theorem wb_nil (known:Tok->Prop):∀ (g:Nat) (lo:Bool),wb known g lo []
 | 0,_=>rfl
 | _+1,_=>fun x hx=>by cases hx
theorem wb_succ {known:Tok->Prop}:∀ (g:Nat) (lo:Bool) (l:List It),wb known g lo l->wb known (g+1) lo l
 | 0,lo,l,h=>by have h:l=[]:=h;subst h;exact wb_nil _ _ _
 | g+1,_,_,h=>fun x hx=>(h x hx).mono (fun _ h=>h) (fun lo l=>wb_succ g lo l)
theorem wb_le {known:Tok->Prop} {g g':Nat} (hg:g<=g') {lo:Bool} {l:List It} (h:wb known g lo l):wb known g' lo l:=by
 induction hg with
 | refl=>exact h
 | step _ ih=>exact wb_succ _ _ _ ih
theorem wb_app {known:Tok->Prop} {g g':Nat} {lo:Bool} {l l':List It} (h:wb known g lo l) (h':wb known g' lo l'):wb known (g+g' + 1) lo (l ++ l'):=by
 intro x hx;rcases List.mem_append.1 hx with h1|h1
 ·exact wb_le (g:=g) (g':=g+g' + 1) (by omega) h x h1
 ·exact wb_le (g:=g') (g':=g+g' + 1) (by omega) h' x h1
theorem callsG_le {g g':Nat} (hg:g<=g') {l:List It} {names:List Tok} (h:callsG g l=some names):callsG g' l=some names:=by
 induction hg with
 | refl=>exact h
 | step _ ih=>exact callsG_mono _ _ _ ih
theorem calls_total {known:Tok->Prop}:∀ (g:Nat) (lo:Bool) (l:List It),wb known g lo l->∃ G names,callsG G l=some names/\∀ n∈names,known n:=by
 intro g
 induction g with
 | zero=>intro lo l h;have h:l=[]:=h;subst h;exact⟨1,[],rfl,by simp⟩
 | succ g ih=>
  intro lo l
  induction l with
  | nil=>intro _;exact⟨1,[],rfl,by simp⟩
  | cons x l ihl=>
   intro h;obtain⟨G3,c,hc,kc⟩:=ihl (fun y hy=>h y (by simp[hy]));have hx:=h x (by simp);have key:∃ G1 a G2 b,callsG G1 x.a=some a/\callsG G2 x.b=some b/\(∀ n∈a,known n)/\(∀ n∈b,known n)/\(x.kind=99->known x.name):=by
    rcases hx with⟨h,h1,h2⟩|⟨h,h1,h2⟩|⟨h,h1,h2⟩
    ·refine⟨1,[],1,[],by rw[h1];rfl,by rw[h2];rfl,by simp,by simp,fun hk=>?_⟩;rcases h with h|h|h|h|h|h|h
     ·omega
     ·omega
     ·omega
     ·omega
     ·omega
     ·exact h.2
     ·omega
    ·obtain⟨G1,a,ha,ka⟩:=ih _ _ h1;obtain⟨G2,b,hb,kb⟩:=ih _ _ h2;exact⟨G1,a,G2,b,ha,hb,ka,kb,fun hk=>by omega⟩
    ·obtain⟨G1,a,ha,ka⟩:=ih _ _ h1;exact⟨G1,a,1,[],ha,by rw[h2];rfl,ka,by simp,fun hk=>by omega⟩
   obtain⟨G1,a,G2,b,ha,hb,ka,kb,kn⟩:=key;refine⟨G1+G2+G3+1,(if x.kind=99 then [x.name] else []) ++ a ++ b ++ c,?_,?_⟩
   ·rw[callsG,callsG_le (by omega) ha,callsG_le (by omega) hb,callsG_le (by omega) hc]
   ·intro n hn;simp only[List.mem_append] at hn;rcases hn with ((hn|hn)|hn)|hn
    ·split at hn
     ·rename_i hk;simp at hn;rw[hn];exact kn hk
     ·cases hn
    ·exact ka n hn
    ·exact kb n hn
    ·exact kc n hn
theorem buildsG_le {defs:List Def} {n:Nat} {g g':Nat} (hg:g<=g') {l:List It} {res:List Tok} (h:buildsG defs g n l=some res):buildsG defs g' n l=some res:=by
 induction hg with
 | refl=>exact h
 | step _ ih=>exact buildsG_mono _ _ _ _ _ ih
def inDefs (defs:List Def) (t:Tok):Prop:=(defs.find? (fun d=>d.name == t)).isSome=true
theorem builds_total {defs:List Def} {known:Tok->Prop} (hk:∀ t,known t->inDefs defs t) (hd:∀ d∈defs,∃ g,wb known g false d.body):∀ (n:Nat) (lo:Bool) (g:Nat) (l:List It),wb known g lo l->∃ G res,buildsG defs G n l=some res:=by
 intro n
 induction n with
 | zero=>intro lo g l _;exact⟨0,[],rfl⟩
 | succ n ih=>
  intro lo g l h;obtain⟨G,names,hc,kn⟩:=calls_total g lo l h;have key:∀ (names:List Tok),(∀ t∈names,known t)->∃ G res,foldN (fun t=>match bodyOf defs t with|none=>none|some b=>buildsG defs G n b) names=some res:=by
   intro names
   induction names with
   | nil=>intro _;exact⟨0,[],rfl⟩
   | cons t r ihr=>
    intro hk2;obtain⟨G2,y,hy⟩:=ihr (fun q hq=>hk2 q (by simp[hq]));have hin:=hk t (hk2 t (by simp));unfold inDefs at hin
    cases hf:defs.find? (fun d=>d.name == t) with
    | none=>rw[hf] at hin;cases hin
    | some d=>
     obtain⟨gd,hgd⟩:=hd d (List.mem_of_find?_eq_some hf);obtain⟨G1,x,hx⟩:=ih false gd d.body hgd;have hb:bodyOf defs t=some d.body:=by unfold bodyOf;rw[hf];rfl
     refine⟨G1+G2,t :: x ++ y,?_⟩;have e1:(match bodyOf defs t with|none=>none|some b=>buildsG defs (G1+G2) n b)=some x:=by rw[hb];exact buildsG_le (by omega) hx
     have e2:foldN (fun t=>match bodyOf defs t with|none=>none|some b=>buildsG defs (G1+G2) n b) r=some y:=by
      refine foldN_mono (fun t x ht=>?_) r y hy
      cases hb2:bodyOf defs t with
      | none=>rw[hb2] at ht;cases ht
      | some b=>rw[hb2] at ht;exact buildsG_le (by omega) ht
     unfold foldN;rw[e1,e2]
  obtain⟨G2,res,hres⟩:=key names kn;refine⟨G+G2,res,?_⟩;unfold buildsG;rw[callsG_le (by omega) hc];dsimp only;refine foldN_mono (fun t x ht=>?_) names res hres
  cases hb2:bodyOf defs t with
  | none=>rw[hb2] at ht;cases ht
  | some b=>rw[hb2] at ht;exact buildsG_le (by omega) ht
def knows (s:St) (t:Tok):Prop:=s.known t=true
structure WFs (s:St):Prop where
 g:SGood s
 d:∀ d∈s.defs,∃ g,wb (knows s) g false d.body
 st:s.e=0->s.steps<=2000
theorem knows_def {s s':St} (h:s'.defs=s.defs) {t:Tok}:knows s' t<->knows s t:=by
 unfold knows St.known St.find;rw[h]
theorem known_names {defs defs':List Def} (h:defs'.map Def.name=defs.map Def.name) (t:Tok):(defs'.findIdx? (fun d=>d.name == t)).isSome=(defs.findIdx? (fun d=>d.name == t)).isSome:=by
 have e:∀ l:List Def,(l.findIdx? (fun d=>d.name == t)).isSome=(l.map Def.name).any (· == t):=by
  intro l
  induction l with
  | nil=>rfl
  | cons x l ih=>
   rw[List.findIdx?_cons]
   cases hx:(x.name == t) with
   | true=>simp[hx]
   | false=>simp[hx] at ih ⊢;rw[<-ih]
 rw[e,e,h]
theorem known_in {s:St} {t:Tok} (h:knows s t):inDefs s.defs t:=by
 unfold knows St.known St.find at h;unfold inDefs
 cases hf:s.defs.findIdx? (fun d=>d.name == t) with
 | none=>rw[hf] at h;cases h
 | some k=>
  obtain⟨h1,h2,_⟩:=List.findIdx?_eq_some_iff_getElem.1 hf;rw[List.find?_isSome];exact⟨_,List.getElem_mem h1,h2⟩
theorem inDefs_set {defs:List Def} {k:Nat} {d':Def} (hk:k < defs.length) (hn:d'.name=defs[k].name) {t:Tok} (h:inDefs defs t):inDefs (defs.set k d') t:=by
 unfold inDefs at h ⊢;rw[List.find?_isSome] at h ⊢;obtain⟨d,hd,ht⟩:=h;obtain⟨i,hi,rfl⟩:=List.mem_iff_getElem.1 hd;by_cases hik:i=k
 ·subst hik;exact⟨d',by rw[List.mem_iff_getElem];exact⟨i,by simpa using hi,by simp⟩,by rw[hn];exact ht⟩
 ·exact⟨defs[i],by rw[List.mem_iff_getElem];exact⟨i,by simpa using hi,by rw[List.getElem_set_ne (by omega)]⟩,ht⟩
theorem names_set {defs:List Def} {k:Nat} {d':Def} (hk:k < defs.length) (hn:d'.name=defs[k].name):(defs.set k d').map Def.name=defs.map Def.name:=by
 rw[List.map_set,hn];have:(defs.map Def.name)[k]'(by simpa using hk)=defs[k].name:=by simp
 rw[<-this,List.set_getElem_self]
theorem count_total {s:St} (h:WFs s) {k:Nat} (hk:k < s.defs.length):∃ G s',s.count G k=some s'/\WFs s'/\(∀ t,knows s' t<->knows s t):=by
 have hset:∀ (d':Def),d'.name=s.defs[k].name->d'.body=s.defs[k].body->WFs { s with defs:=s.defs.set k d' }/\(∀ t,knows { s with defs:=s.defs.set k d' } t<->knows s t):=by
  intro d' hn hb;have hkn:∀ t,knows { s with defs:=s.defs.set k d' } t<->knows s t:=by
   intro t;unfold knows St.known St.find;dsimp only;rw[known_names (names_set hk hn)]
  have hg:=h.g;refine⟨⟨⟨hg.g,hg.s0,hg.s1,hg.s2,hg.d0,hg.d1,hg.b0,hg.b1,cb_set hg hk hb⟩,fun d hd=>?_,h.st⟩,hkn⟩;have:∃ d0∈s.defs,d0.body=d.body:=by
   rcases List.mem_or_eq_of_mem_set hd with h1|h1
   ·exact⟨d,h1,rfl⟩
   ·exact⟨s.defs[k],List.getElem_mem hk,by rw[h1,hb]⟩
  obtain⟨d0,hd0,e⟩:=this;obtain⟨g,hg⟩:=h.d d0 hd0;exact⟨g,by rw[<-e];exact wb_known (fun t ht=>(hkn t).2 ht) _ _ _ hg⟩
 by_cases hf:s.defs[k].fast=true
 ·refine⟨0,s,?_,h,fun _=>Iff.rfl⟩;unfold St.count;rw[List.getElem?_eq_getElem hk];dsimp only;rw[if_pos hf]
 by_cases hc:wrap64 (s.defs[k].count+1) < s.hot
 ·obtain⟨h1,h2⟩:=hset { s.defs[k] with count:=wrap64 (s.defs[k].count+1) } rfl rfl;refine⟨0,_,?_,h1,h2⟩;unfold St.count;rw[List.getElem?_eq_getElem hk];dsimp only;rw[if_neg hf,if_pos hc]
 ·obtain⟨gb,hgb⟩:=h.d s.defs[k] (List.getElem_mem hk);have hd2:∀ d∈s.defs.set k { s.defs[k] with count:=wrap64 (s.defs[k].count+1),fast:=true },∃ g,wb (knows s) g false d.body:=by
   intro d hd;rcases List.mem_or_eq_of_mem_set hd with h1|h1
   ·exact h.d d h1
   ·rw[h1];exact h.d s.defs[k] (List.getElem_mem hk)
  have hk2:∀ t,knows s t->inDefs (s.defs.set k { s.defs[k] with count:=wrap64 (s.defs[k].count+1),fast:=true }) t:=fun t ht=>inDefs_set (d':={ s.defs[k] with count:=wrap64 (s.defs[k].count+1),fast:=true }) hk rfl (known_in ht);obtain⟨G,bs,hbs⟩:=builds_total hk2 hd2 s.built.toNat false gb s.defs[k].body hgb;obtain⟨h1,h2⟩:=hset { s.defs[k] with count:=wrap64 (s.defs[k].count+1),fast:=true,built:=bs } rfl rfl;refine⟨G,_,?_,h1,h2⟩;unfold St.count;rw[List.getElem?_eq_getElem hk];dsimp only;rw[if_neg hf,if_neg hc,hbs]
end
section
open Go.RowKit
theorem Tryz.laidOutS:laidOutB Tryz.prog=true:=by kernel_rfl
theorem Tryz.rowS:(284:TypeId) < Tryz.prog.types.size:=of_decide_eq_true (by kernel_rfl)
theorem Tryz.wideS:(match Tryz.prog.underlying 284 with|some (.array _ _)|some (.struct _)=>true|_=>false)=true:=by kernel_rfl
theorem Tryz.keyAtS:Tryz.prog.keyTypeAt 2 284=true:=by kernel_rfl
theorem Tryz.lawS:Maps.Keyed Tryz.prog 284:=Maps.Keyed.of_law (deep_law_laid Tryz.laidOutS (m:=2) (by omega) Tryz.rowS Tryz.keyAtS Tryz.wideS)
theorem Tryz.keyTS:Tryz.prog.keyType 284=true:=by kernel_rfl
theorem Tryz.cellsS:Tryz.prog.cellsOf 284=2:=by kernel_rfl
theorem Tryz.cells9:Tryz.prog.cellsOf 9=1:=by kernel_rfl
theorem Tryz.cells3:Tryz.prog.cellsOf 3=1:=by kernel_rfl
abbrev siteV (nm:ByteArray) (lf:Int):Value:=.agg #[.string nm,.int .i64 lf]
theorem Tryz.structS : ∃ fs : Array Field, Tryz.prog.underlying 284 = some (.struct fs) ∧ fs.toList.map (fun f => (f.type, f.offset)) = [(9, 0), (3, 1)] ∧ (fs.all (·.name != "_")) = true := ⟨_, Tryz.underlying284, by kernel_rfl, by kernel_rfl⟩
theorem Tryz.sizeTS:∃ n,Tryz.prog.types.size+1=n+1+1:=⟨Tryz.prog.types.size - 1,by have:=Tryz.rowS;have h:0 < Tryz.prog.types.size:=Nat.lt_of_le_of_lt (Nat.zero_le _) this;omega⟩
theorem keySite (nm:ByteArray) (hs:nm.size<=maxLen) (lf:Int) (hl:(Lit.int .i64 lf).wf=true):∃ kl,keyOf Tryz.prog 284 (siteV nm lf)=some kl:=by
 obtain⟨fs,hu,hf,hb⟩:=Tryz.structS;obtain⟨n,hn⟩:=Tryz.sizeTS;obtain⟨f1,f2,hfs,e1,e2,e3,e4⟩:∃ f1 f2:Field,fs.toList=[f1,f2]/\f1.type=9/\f1.offset=0/\f2.type=3/\f2.offset=1:=by
  generalize fs.toList=l at hf
  match l,hf with
  | [],hf=>cases hf
  | [_],hf=>simp at hf
  | [f1,f2],hf=>
   simp at hf;exact⟨f1,f2,rfl,hf.1.1,hf.1.2,hf.2.1,hf.2.2⟩
  | _ :: _ :: _ :: _,hf=>simp at hf
 have hform:(siteV nm lf).formed Tryz.prog 284=true:=by simp[Value.formed,hu,Tryz.cellsS]
 unfold keyOf;rw[hu];simp only[Tryz.keyTS,hform,Bool.and_self,if_true];rw[hn];unfold Program.keyLits;rw[hu];have hc:(siteV nm lf).cells.toList=[.string nm,.int .i64 lf]:=rfl;rw[hc];simp only[Tryz.cellsS,hb,List.length_cons,List.length_nil,and_self,if_true,hfs,List.mapM_cons,List.mapM_nil,e1,e2,e3,e4,Tryz.cells9,Tryz.cells3];unfold Program.keyLits;rw[Tryz.underlying9,Tryz.underlying3];simp[hs,hl]
theorem siteInj {nm nm':ByteArray} {lf lf':Int} {kl:Lit} (h:keyOf Tryz.prog 284 (siteV nm lf)=some kl) (h':keyOf Tryz.prog 284 (siteV nm' lf')=some kl):nm=nm'/\lf=lf':=by
 have:=Tryz.lawS.inj h h';simp at this;exact this
theorem nodup_le {α:Type}:∀ (l m:List α),l.Pairwise (· ≠ ·)->(∀ x∈l,x∈m)->l.length<=m.length
 | [],_,_,_=>Nat.zero_le _
 | x :: l,m,hp,hs=>by
  obtain⟨a,b,rfl⟩:=List.append_of_mem (hs x (by simp));obtain⟨h1,h2⟩:=List.pairwise_cons.1 hp;have:=nodup_le l (a ++ b) h2 (fun y hy=>by
   have h3:=hs y (by simp[hy]);have h4:=h1 y hy;simp only[List.mem_append,List.mem_cons] at h3 ⊢;rcases h3 with h3|h3|h3
   ·exact .inl h3
   ·exact absurd h3.symm h4
   ·exact .inr h3)
  simp only[List.length_append,List.length_cons] at this ⊢;omega
theorem map_size_le {P:Program} {k:TypeId} {R:Value->Option (DataW Value × List MemPlace)} {w:World} {b n:Nat} {DD:DataW Value} (h:w.ownsMap P k R b n DD) (K:Maps.Keyed P k) (m:List Lit) (hm:∀ kl,Maps.has DD kl=true->kl∈m):Maps.size DD<=m.length:=by
 obtain⟨es,rfl,h1,h2⟩:=h.entries K;have:(es.map Prod.fst).length<=m.length:=nodup_le _ _ (List.pairwise_map.2 h1) (fun kl hkl=>by
  obtain⟨p,hp,rfl⟩:=List.mem_map.1 hkl;refine hm _ ?_;rw[Maps.has_eq,List.any_eq_true];exact⟨p,hp,WideAt.sameKey_self (h2 p hp)⟩)
 rw[Maps.size_eq]
 simpa using this
theorem own_tightG {P:Program} {k:TypeId} {R:Value->Option (DataW Value × List MemPlace)} {w:World} {b n:Nat} {DD:DataW Value} (h:w.ownsMap P k R b n DD):w.ownsMap P k R b (Maps.size DD) DD:=by
 obtain⟨es,clock,h1,h2,h3,rfl⟩:=h;refine⟨es,clock,h1,h2,?_,rfl⟩;simp[Maps.size,length_sorted]
end
section
open Go.RowKit
structure GD where
 d:Nat->Prop
 u:Nat->Prop
 r:Nat->Fr->Prop
 tag:Nat->Nat × Nat
 J:Int
structure WC where
 nm:ByteArray
 iv:Value
 sv:Value
 av:Value
 fa:Bool
 ct:Int
 gn:Bool
 pm:Option Nat
 wm:Option Nat
def WC.arr (c:WC):Array Value:=#[.string c.nm,c.iv,c.sv,c.av,.bool c.fa,.int .i64 c.ct,.bool c.gn,.map c.pm,.map c.wm]
theorem WC.inj {c c':WC} (h:c.arr=c'.arr):c=c':=by
 obtain⟨a1,a2,a3,a4,a5,a6,a7,a8,a9⟩:=c;obtain⟨b1,b2,b3,b4,b5,b6,b7,b8,b9⟩:=c';unfold WC.arr at h;simp at h;obtain⟨rfl,rfl,rfl,rfl,rfl,rfl,rfl,rfl,rfl⟩:=h;rfl
def MapE (r:Nat->Fr->Prop) (DD:DataW Value):Prop:=∀ kl,Maps.has DD kl=true->∃ ob f,kl=.string f.name/\r ob f/\∀ zd,DD.atKey kl zd=.held (pt ob)
def MapB (r:Nat->Fr->Prop) (w:World) (b:Nat) (DD:DataW Value):Prop:=(∃ n,w.ownsMap Tryz.prog 9 heldR b n DD)/\MapE r DD
def MapOk (D:GD) (w:World) (o:Option Nat) (tg:Nat × Nat):Prop:=∀ b,o=some b->D.u b/\D.tag b=tg/\∃ DD,MapB D.r w b DD
structure WordC (D:GD) (w:World) (bk ob:Nat) (f:Fr) (c:WC):Prop where
 blk:Blk w ob 111 c.arr
 nm:c.nm.data.toList=f.name
 ns:c.nm.size<=1000
 it:Items (BD D.d w) c.iv f.body
 sl:Acts (BD D.d w) D.r bk ob c.sv f.body
 ac:Acts (BD D.d w) D.r bk ob c.av f.body
 pm:MapOk D w c.pm (ob,1)
 wm:MapOk D w c.wm (ob,0)
 wn:c.gn=false->c.wm.isSome=true
 u:D.u ob
 wf:∃ G,wb (fun _=>True) G false f.body
theorem WordC.inj {D:GD} {w:World} {bk ob:Nat} {f f':Fr} {c c':WC} (h:WordC D w bk ob f c) (h':WordC D w bk ob f' c'):c=c':=WC.inj (h.blk.inj h'.blk).2
structure GLe (D D':GD) (w:World):Prop where
 u:∀ k,D.u k->D'.u k
 r:∀ o f,D.r o f->D'.r o f
 tag:∀ k,k < w.heap.size->D'.tag k=D.tag k
theorem GLe.refl (D:GD) (w:World):GLe D D w:=⟨fun _ h=>h,fun _ _ h=>h,fun _ _=>rfl⟩
theorem MapE.mono {r r':Nat->Fr->Prop} {DD:DataW Value} (h:MapE r DD) (hr:∀ o f,r o f->r' o f):MapE r' DD:=fun kl hk=>by
 obtain⟨ob,f,h1,h2,h3⟩:=h kl hk;exact⟨ob,f,h1,hr _ _ h2,h3⟩
theorem MapB.same {r r':Nat->Fr->Prop} {w w':World} {b:Nat} {DD:DataW Value} (h:MapB r w b DD) (hr:∀ o f,r o f->r' o f) (e:w'.heap[b]? = w.heap[b]?):MapB r' w' b DD:=by
 obtain⟨⟨n,h1⟩,h2⟩:=h;exact⟨⟨n,ownsMap_same h1 e⟩,h2.mono hr⟩
theorem MapB.lt {r:Nat->Fr->Prop} {w:World} {b:Nat} {DD:DataW Value} (h:MapB r w b DD):b < w.heap.size:=by obtain⟨⟨n,h1⟩,_⟩:=h;exact h1.lt
theorem MapB.ne {r:Nat->Fr->Prop} {w:World} {b:Nat} {DD:DataW Value} (h:MapB r w b DD) {b':Nat} {t:TypeId} {c:Array Value} (hb:Blk w b' t c):b ≠ b':=by obtain⟨⟨n,h1⟩,_⟩:=h;exact map_ne h1 hb
theorem MapOk.frame {D D':GD} {w w':World} {S:Nat->Prop} {o:Option Nat} {tg:Nat × Nat} (h:MapOk D w o tg) (hk:Kp w w' S) (hl:GLe D D' w) (hs:∀ b,o=some b->¬ S b):MapOk D' w' o tg:=fun b hb=>by
 obtain⟨h1,h2,DD,h3⟩:=h b hb;exact⟨hl.u b h1,by rw[hl.tag b h3.lt];exact h2,DD,h3.same hl.r (hk.block b h3.lt (hs b hb))⟩
theorem WordC.frame {D D':GD} {w w':World} {S:Nat->Prop} {bk ob:Nat} {f:Fr} {c:WC} (h:WordC D w bk ob f c) (hk:Kp w w' S) (hl:GLe D D' w) (hd:∀ b t c,BD D.d w b t c->BD D'.d w' b t c) (h1:¬ S ob) (h2:∀ b,c.pm=some b->¬ S b) (h3:∀ b,c.wm=some b->¬ S b):WordC D' w' bk ob f c:=
 ⟨hk.blk h.blk h1,h.nm,h.ns,h.it.mono hd,h.sl.mono hd hl.r,h.ac.mono hd hl.r,h.pm.frame hk hl h2,h.wm.frame hk hl h3,h.wn,hl.u _ h.u,h.wf⟩
structure Wds (D:GD) (w:World) (bk:Nat):Prop where
 ok:∀ o f,D.r o f->∃ c,WordC D w bk o f c
 fn:∀ o f f',D.r o f->D.r o f'->f=f'
 ud:∀ k,D.u k->¬ D.d k
 lt:∀ k,D.u k->k < w.heap.size
 dl:∀ k,D.d k->k < w.heap.size
def Pres (D D':GD) (w w':World) (bk:Nat):Prop:=∀ o f c,D.r o f->WordC D w bk o f c->∃ c',c'.gn=c.gn/\c'.nm=c.nm/\c'.iv=c.iv/\c'.sv=c.sv/\c'.wm=c.wm/\WordC D' w' bk o f c'
theorem Pres.refl (D:GD) (w:World) (bk:Nat):Pres D D w w bk:=fun _ _ c _ h=>⟨c,rfl,rfl,rfl,rfl,rfl,h⟩
theorem Pres.trans {D D1 D2:GD} {w w1 w2:World} {bk:Nat} (h:Pres D D1 w w1 bk) (hr:∀ o f,D.r o f->D1.r o f) (g:Pres D1 D2 w1 w2 bk):Pres D D2 w w2 bk:=fun o f c hd hc=>by
 obtain⟨c1,a1,a2,a3,a4,a5,h1⟩:=h o f c hd hc;obtain⟨c2,b1,b2,b3,b4,b5,h2⟩:=g o f c1 (hr o f hd) h1;exact⟨c2,b1.trans a1,b2.trans a2,b3.trans a3,b4.trans a4,b5.trans a5,h2⟩
section
variable {D:GD} {w w':World} {bk ob:Nat} {f:Fr} {c c':WC}
theorem Wds.next (h:Wds D w bk) (hk:w.heap.size<=w'.heap.size) (hp:Pres D D w w' bk):Wds D w' bk:=
 ⟨fun o f hr=>by obtain⟨c,hc⟩:=h.ok o f hr;obtain⟨c',_,_,_,_,_,h'⟩:=hp o f c hr hc;exact⟨c',h'⟩,h.fn,h.ud,fun k hk'=>Nat.lt_of_lt_of_le (h.lt k hk') hk,fun k hk'=>Nat.lt_of_lt_of_le (h.dl k hk') hk⟩
theorem BD_u (hd:∀ k,D.u k->¬ D.d k) {S:Nat->Prop} (hS:∀ k,S k->D.u k) (hk:Kp w w' S):∀ b t c,BD D.d w b t c->BD D.d w' b t c:=
 fun b _ _ h=>⟨h.1,hk.blk h.2 (fun e=>hd b (hS b e) h.1)⟩
theorem MapOk.neBlk {o:Option Nat} {tg:Nat × Nat} (h:MapOk D w o tg) {b:Nat} (hb:o=some b) {b':Nat} {t:TypeId} {ca:Array Value} (hc:Blk w b' t ca):¬ b=b':=by
 obtain⟨_,_,DD,h3⟩:=h b hb;exact h3.ne hc
theorem Wds.word (hW:Wds D w bk) (hr:D.r ob f) (hc:WordC D w bk ob f c) (hk:Kp w w' (fun k=>k=ob)) (hc':WordC D w' bk ob f c') (e1:c'.gn=c.gn) (e2:c'.nm=c.nm) (e3:c'.iv=c.iv) (e4:c'.sv=c.sv) (e5:c'.wm=c.wm):Pres D D w w' bk:=fun o g c0 hr0 hc0=>by
 by_cases ho:o=ob
 ·subst ho;have:=hW.fn o g f hr0 hr;subst this;have:=hc0.inj hc;subst this;exact⟨c',e1,e2,e3,e4,e5,hc'⟩
 ·refine⟨c0,rfl,rfl,rfl,rfl,rfl,hc0.frame hk (GLe.refl _ _) (BD_u hW.ud (fun k e=>by have e:k=ob:=e;rw[e];exact hc.u) hk) ho (fun b hb e=>?_) (fun b hb e=>?_)⟩
  ·exact hc0.pm.neBlk hb hc.blk e
  ·exact hc0.wm.neBlk hb hc.blk e
theorem Wds.wmap (hW:Wds D w bk) (hr:D.r ob f) (hc:WordC D w bk ob f c) {b:Nat} (hb:c.wm=some b) (hk:Kp w w' (fun k=>k=b)) {DD:DataW Value} (hm:MapB D.r w' b DD):Pres D D w w' bk:=fun o g c0 hr0 hc0=>by
 obtain⟨hu,ht,DD0,hm0⟩:=hc.wm b hb;have hbd:=BD_u hW.ud (fun k e=>by have e:k=b:=e;rw[e];exact hu) hk;by_cases ho:o=ob
 ·subst ho;have:=hW.fn o g f hr0 hr;subst this;have:=hc0.inj hc;subst this;refine⟨c0,rfl,rfl,rfl,rfl,rfl,⟨hk.blk hc0.blk (fun e=>hm0.ne hc0.blk e.symm),hc0.nm,hc0.ns,hc0.it.mono hbd,hc0.sl.mono hbd (fun _ _ h=>h),hc0.ac.mono hbd (fun _ _ h=>h),hc0.pm.frame hk (GLe.refl _ _) (fun b' e e2=>?_),fun b' e=>?_,hc0.wn,hc0.u,hc0.wf⟩⟩
  ·obtain⟨_,q,_⟩:=hc0.pm b' e;have e2:b'=b:=e2;rw[e2,ht] at q;cases q
  ·rw[hb] at e;injection e with e;subst e;exact⟨hu,ht,DD,hm⟩
 ·refine⟨c0,rfl,rfl,rfl,rfl,rfl,hc0.frame hk (GLe.refl _ _) hbd (fun e=>hm0.ne hc0.blk (by have e:o=b:=e;exact e.symm)) (fun b' e e2=>?_) (fun b' e e2=>?_)⟩
  ·obtain⟨_,q,_⟩:=hc0.pm b' e;have e2:b'=b:=e2;rw[e2,ht] at q;cases q
  ·obtain⟨_,q,_⟩:=hc0.wm b' e;have e2:b'=b:=e2;rw[e2,ht] at q;injection q with q;exact ho q.symm
theorem Wds.kp (hW:Wds D w bk) (hk:Kp w w' (fun _=>False)):Pres D D w w' bk/\Wds D w' bk:=by
 have hp:Pres D D w w' bk:=fun o g c0 hr0 hc0=>⟨c0,rfl,rfl,rfl,rfl,rfl,hc0.frame hk (GLe.refl _ _) (BD_keep hk (fun b _ hb=>⟨hb,by simp⟩)) (by simp) (by simp) (by simp)⟩;exact⟨hp,hW.next hk.size hp⟩
theorem Wds.out {S:Nat->Prop} (hW:Wds D w bk) (hk:Kp w w' S) (hu:∀ k,D.u k->¬ S k) (hd:∀ k,D.d k->¬ S k):Pres D D w w' bk/\Wds D w' bk:=by
 have hp:Pres D D w w' bk:=fun o g c0 hr0 hc0=>⟨c0,rfl,rfl,rfl,rfl,rfl,hc0.frame hk (GLe.refl _ _) (BD_keep hk (fun b _ hb=>⟨hb,hd b hb⟩)) (hu _ hc0.u) (fun b hb=>hu _ (hc0.pm b hb).1) (fun b hb=>hu _ (hc0.wm b hb).1)⟩;exact⟨hp,hW.next hk.size hp⟩
end
def FU (D:GD) (w:World) (bk:Nat) (k:Nat):Prop:=(∃ g,D.r k g)\/∃ o g c,D.r o g/\WordC D w bk o g c/\c.wm=some k
theorem FU.u {D:GD} {w:World} {bk k:Nat} (hW:Wds D w bk) (h:FU D w bk k):D.u k:=by
 rcases h with⟨g,h⟩|⟨o,g,c,h,hc,hm⟩
 ·obtain⟨c,hc⟩:=hW.ok k g h;exact hc.u
 ·exact (hc.wm k hm).1
theorem FU.back {D:GD} {w w':World} {bk k:Nat} (hW:Wds D w bk) (hp:Pres D D w w' bk) (h:FU D w' bk k):FU D w bk k:=by
 rcases h with⟨g,h⟩|⟨o,g,c,h,hc,hm⟩
 ·exact .inl ⟨g,h⟩
 ·obtain⟨c0,hc0⟩:=hW.ok o g h;obtain⟨c1,_,_,_,_,e5,hc1⟩:=hp o g c0 h hc0;have:=hc1.inj hc;subst this;exact .inr ⟨o,g,c0,h,hc0,by rw[<-e5];exact hm⟩
theorem ranges_same {w w':World} {b r n cnt:Nat} {DD:DataW Value} {left:Lit->Bool} (h:w.ranges Tryz.prog 9 heldR b r n DD left cnt) (e1:w'.heap[b]? = w.heap[b]?) (e2:w'.heap[r]? = w.heap[r]?):w'.ranges Tryz.prog 9 heldR b r n DD left cnt:=by
 obtain⟨es,clock,since,seen,c0,h1,h2,h3,h4,h5,h6⟩:=h;exact⟨es,clock,since,seen,c0,e1.trans h1,h2,h3,h4,e2.trans h5,h6⟩
end
end Go.Proofs.YteainaiebcphlaaGreatDoor
