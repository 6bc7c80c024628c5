import Derived.Test.YteainaiebcphlaaGreatDoorY7
import Derived.Test.YteainaiebcphlaaGreatDoorY6
import Derived.Test.YteainaiebcphlaaGreatDoorY11
import Derived.Test.YteainaiebcphlaaGreatDoorY1
import Derived.Lib.SmallJoins
namespace Go.Proofs.YteainaiebcphlaaGreatDoor
set_option maxRecDepth 1000000
set_option maxHeartbeats 4000000
set_option linter.all false
section
open Go.RowKit
theorem pRead_le {known:Tok->Bool} {g g':Nat} (hg:g<=g') {j:PJ} {r:List Tok} {res:PRes} (h:pRead known g j r=some res):pRead known g' j r=some res:=by
 induction hg with
 | refl=>exact h
 | step _ ih=>exact pRead_mono _ _ _ _ _ ih
def PTot (known:Tok->Bool) (j:PJ) (r:List Tok):Prop:=∃ g res,pRead known g j r=some res
theorem pItem_total (known:Tok->Bool) (n:Nat) (hb:∀ (r:List Tok),r.length<=n->∀ lo ends t,PTot known ⟨false,lo,ends,t⟩ r) (r:List Tok) (hr:r.length<=n) (lo:Nat) (ends:List Tok) (t:Tok):PTot known ⟨true,lo,ends,t⟩ r:=by
 by_cases k1:t=kIf
 ·obtain⟨g1,res1,h1⟩:=hb r hr lo [kElse,kThen] []
  cases res1 with
  | error e=>
   refine⟨g1+1,.error e,?_⟩;unfold pRead;rw[if_neg (by simp)];dsimp only;rw[if_pos k1,h1]
  | ok q=>
   obtain⟨a,t1,r1⟩:=q;obtain⟨_,_,_,hl1⟩:=pRead_calls _ _ _ _ _ _ _ h1;by_cases k2:t1=kElse
   ·obtain⟨g2,res2,h2⟩:=hb r1 (by omega) lo [kThen] [];have h1':=pRead_le (g':=g1+g2) (by omega) h1;have h2':=pRead_le (g':=g1+g2) (by omega) h2
    cases res2 with
    | error e=>
     refine⟨g1+g2+1,.error e,?_⟩;unfold pRead;rw[if_neg (by simp)];dsimp only;rw[if_pos k1,h1'];dsimp only;rw[if_pos k2,h2']
    | ok q2=>
     obtain⟨b,t2,r2⟩:=q2;refine⟨g1+g2+1,.ok ([⟨63,0,[],a,b,[]⟩],[],r2),?_⟩;unfold pRead;rw[if_neg (by simp)];dsimp only;rw[if_pos k1,h1'];dsimp only;rw[if_pos k2,h2']
   ·refine⟨g1+1,.ok ([⟨63,0,[],a,[],[]⟩],[],r1),?_⟩;unfold pRead;rw[if_neg (by simp)];dsimp only;rw[if_pos k1,h1];dsimp only;rw[if_neg k2]
 by_cases k3:t=kBegin
 ·obtain⟨g1,res1,h1⟩:=hb r hr lo [kUntil,kWhile] []
  cases res1 with
  | error e=>
   refine⟨g1+1,.error e,?_⟩;unfold pRead;rw[if_neg (by simp)];dsimp only;rw[if_neg k1,if_pos k3,h1]
  | ok q=>
   obtain⟨a,t1,r1⟩:=q;obtain⟨_,_,_,hl1⟩:=pRead_calls _ _ _ _ _ _ _ h1;by_cases k2:t1=kWhile
   ·obtain⟨g2,res2,h2⟩:=hb r1 (by omega) lo [kRepeat] [];have h1':=pRead_le (g':=g1+g2) (by omega) h1;have h2':=pRead_le (g':=g1+g2) (by omega) h2
    cases res2 with
    | error e=>
     refine⟨g1+g2+1,.error e,?_⟩;unfold pRead;rw[if_neg (by simp)];dsimp only;rw[if_neg k1,if_pos k3,h1'];dsimp only;rw[if_pos k2,h2']
    | ok q2=>
     obtain⟨b,t2,r2⟩:=q2;refine⟨g1+g2+1,.ok ([⟨119,0,[],a,b,[]⟩],[],r2),?_⟩;unfold pRead;rw[if_neg (by simp)];dsimp only;rw[if_neg k1,if_pos k3,h1'];dsimp only;rw[if_pos k2,h2']
   ·refine⟨g1+1,.ok ([⟨117,0,[],a,[],[]⟩],[],r1),?_⟩;unfold pRead;rw[if_neg (by simp)];dsimp only;rw[if_neg k1,if_pos k3,h1];dsimp only;rw[if_neg k2]
 by_cases k4:t=kDo
 ·obtain⟨g1,res1,h1⟩:=hb r hr (lo+1) [kLoop] []
  cases res1 with
  | error e=>
   refine⟨g1+1,.error e,?_⟩;unfold pRead;rw[if_neg (by simp)];dsimp only;rw[if_neg k1,if_neg k3,if_pos k4,h1]
  | ok q=>
   obtain⟨a,t1,r1⟩:=q;refine⟨g1+1,.ok ([⟨100,0,[],a,[],[]⟩],[],r1),?_⟩;unfold pRead;rw[if_neg (by simp)];dsimp only;rw[if_neg k1,if_neg k3,if_pos k4,h1]
 ·refine⟨1,?_⟩;unfold pRead;rw[if_neg (by simp)];dsimp only;rw[if_neg k1,if_neg k3,if_neg k4]
  repeat' split
  all_goals exact⟨_,rfl⟩
theorem pRead_total (known:Tok->Bool):∀ n,(∀ (r:List Tok),r.length<=n->∀ lo ends t,PTot known ⟨false,lo,ends,t⟩ r)/\(∀ (r:List Tok),r.length<=n->∀ lo ends t,PTot known ⟨true,lo,ends,t⟩ r):=by
 intro n
 induction n with
 | zero=>
  have hb:∀ (r:List Tok),r.length<=0->∀ lo ends t,PTot known ⟨false,lo,ends,t⟩ r:=by
   intro r hr lo ends t;have:r=[]:=List.eq_nil_of_length_eq_zero (by omega);subst this;refine⟨1,.error 4,?_⟩;unfold pRead;rfl
  exact⟨hb,fun r hr lo ends t=>pItem_total known 0 hb r hr lo ends t⟩
 | succ n ih=>
  have hb:∀ (r:List Tok),r.length<=n+1->∀ lo ends t,PTot known ⟨false,lo,ends,t⟩ r:=by
   intro r hr lo ends t
   cases r with
   | nil=>refine⟨1,.error 4,?_⟩;unfold pRead;rfl
   | cons t1 r1=>
    have hr1:r1.length<=n:=by simp at hr;omega
    by_cases he:ends.any (· == t1)=true
    ·refine⟨1,.ok ([],t1,r1),?_⟩;unfold pRead;rw[if_pos rfl];dsimp only;rw[if_pos he]
    ·obtain⟨g1,res1,h1⟩:=ih.2 r1 hr1 lo [] t1
     cases res1 with
     | error e=>
      refine⟨g1+1,.error e,?_⟩;unfold pRead;rw[if_pos rfl];dsimp only;rw[if_neg he,h1]
     | ok q=>
      obtain⟨xs,t2,r2⟩:=q;obtain⟨_,_,_,hl2⟩:=pRead_calls _ _ _ _ _ _ _ h1;obtain⟨g2,res2,h2⟩:=ih.1 r2 (by omega) lo ends t;have h1':=pRead_le (g':=g1+g2) (by omega) h1;have h2':=pRead_le (g':=g1+g2) (by omega) h2
      cases res2 with
      | error e=>
       refine⟨g1+g2+1,.error e,?_⟩;unfold pRead;rw[if_pos rfl];dsimp only;rw[if_neg he,h1'];dsimp only;rw[h2']
      | ok q2=>
       obtain⟨ys,t3,r3⟩:=q2;refine⟨g1+g2+1,.ok (xs ++ ys,t3,r3),?_⟩;unfold pRead;rw[if_pos rfl];dsimp only;rw[if_neg he,h1'];dsimp only;rw[h2']
  refine⟨hb,fun r hr lo ends t=>?_⟩;exact pItem_total known (n+1) hb r hr lo ends t
theorem pDef_total (s:St) (r:List Tok):∃ g res,pDef g s r=some res:=by
 cases r with
 | nil=>exact⟨0,_,rfl⟩
 | cons t r=>
  obtain⟨g,res,h⟩:=(pRead_total s.known r.length).1 r (Nat.le_refl _) 0 [kSemi] [];refine⟨g,?_⟩;unfold pDef;dsimp only
  split
  ·exact⟨_,rfl⟩
  split
  ·exact⟨_,rfl⟩
  rw[h]
  cases res with
  | error e=>exact⟨_,rfl⟩
  | ok q=>exact⟨_,rfl⟩
def kn (known:Tok->Bool) (t:Tok):Prop:=known t=true
theorem pOne_ok {known:Tok->Bool} {lo:Nat} {t:Tok} {x:It} (h:pOne known lo t=.ok x) (sub:Bool->List It->Prop):okIt (kn known) sub (decide (0 < lo)) x:=by
 unfold pOne at h
 split at h
 ·rename_i n hn
  injection h with h;subst h;exact .inl ⟨.inl ⟨rfl,numP_range hn⟩,rfl,rfl⟩
 split at h
 ·rename_i hp
  injection h with h;subst h;refine .inl ⟨.inr (.inr (.inr (.inr (.inl ⟨rfl,?_⟩)))),rfl,rfl⟩;rw[List.findIdx?_isSome];exact hp
 split at h
 ·rename_i hp
  injection h with h;subst h;exact .inl ⟨.inr (.inr (.inr (.inr (.inr (.inr ⟨rfl,decide_eq_true hp.2⟩))))),rfl,rfl⟩
 split at h
 ·injection h with h;subst h;exact .inl ⟨.inr (.inl rfl),rfl,rfl⟩
 split at h
 ·injection h with h;subst h;exact .inl ⟨.inr (.inr (.inl rfl)),rfl,rfl⟩
 split at h
 ·cases h
 split at h
 ·rename_i hp
  injection h with h;subst h;exact .inl ⟨.inr (.inr (.inr (.inr (.inr (.inl ⟨rfl,hp⟩))))),rfl,rfl⟩
 ·cases h
theorem wb_one {known:Tok->Prop} {lo:Bool} {x:It} {g:Nat} (h:okIt known (wb known g) lo x):wb known (g+1) lo [x]:=by
 intro y hy;simp at hy;rw[hy];exact h
theorem braces_toks:∀ (r:List Tok) (ts r':List Tok),pBraces r=.ok (ts,r')->ts.length<=r.length
 | [],_,_,h=>by cases h
 | t :: r,ts,r',h=>by
  unfold pBraces at h
  split at h
  ·cases h
  split at h
  ·injection h with h;injection h with h1 h2;subst h1;simp
  split at h
  ·cases h
  ·rename_i ts1 r1 h1
   injection h with h;injection h with h2 h3;subst h2;have:=braces_toks r _ _ h1;simp;omega
theorem pRead_wb (known:Tok->Bool):∀ (g:Nat) (j:PJ) (r:List Tok) (xs:List It) (t:Tok) (r':List Tok),r.length<=1000->pRead known g j r=some (.ok (xs,t,r'))->∃ G,wb (kn known) G (decide (0 < j.loops)) xs:=by
 intro g
 induction g with
 | zero=>intro j r xs t r' _ h;cases h
 | succ g ih=>
  intro j r xs t r' hlen h;unfold pRead at h
  cases hj:j.item with
  | false=>
   rw[if_pos hj] at h
   split at h
   ·cases h
   ·simp at hlen
    split at h
    ·injection h with h;injection h with h;injection h with h1 h2;subst h1;exact⟨0,rfl⟩
    ·split at h
     ·cases h
     ·cases h
     ·rename_i xs1 t2 r2 h1
      obtain⟨_,_,_,hl1⟩:=pRead_calls _ _ _ _ _ _ _ h1;obtain⟨G1,k1⟩:=ih _ _ _ _ _ (by omega) h1
      split at h
      ·cases h
      ·cases h
      ·rename_i ys t3 r3 h2
       obtain⟨G2,k2⟩:=ih _ _ _ _ _ (by omega) h2;injection h with h;injection h with h;injection h with e1 e2;subst e1;exact⟨_,wb_app k1 k2⟩
  | true=>
   rw[if_neg (by rw[hj];decide)] at h
   split at h
   ·split at h
    ·cases h
    ·cases h
    ·rename_i a t1 r1 h1
     obtain⟨_,_,_,hl1⟩:=pRead_calls _ _ _ _ _ _ _ h1;obtain⟨G1,k1⟩:=ih _ _ _ _ _ hlen h1
     split at h
     ·split at h
      ·cases h
      ·cases h
      ·rename_i b t2 r2 h2
       obtain⟨G2,k2⟩:=ih _ _ _ _ _ (by omega) h2;injection h with h;injection h with h;injection h with e1 e2;subst e1;exact⟨G1+G2+1,wb_one (.inr (.inl ⟨.inl rfl,wb_le (by omega) k1,wb_le (by omega) k2⟩))⟩
     ·injection h with h;injection h with h;injection h with e1 e2;subst e1;exact⟨G1+1,wb_one (.inr (.inl ⟨.inl rfl,k1,wb_nil _ _ _⟩))⟩
   ·split at h
    ·split at h
     ·cases h
     ·cases h
     ·rename_i a t1 r1 h1
      obtain⟨_,_,_,hl1⟩:=pRead_calls _ _ _ _ _ _ _ h1;obtain⟨G1,k1⟩:=ih _ _ _ _ _ hlen h1
      split at h
      ·split at h
       ·cases h
       ·cases h
       ·rename_i b t2 r2 h2
        obtain⟨G2,k2⟩:=ih _ _ _ _ _ (by omega) h2;injection h with h;injection h with h;injection h with e1 e2;subst e1;exact⟨G1+G2+1,wb_one (.inr (.inl ⟨.inr (.inr rfl),wb_le (by omega) k1,wb_le (by omega) k2⟩))⟩
      ·injection h with h;injection h with h;injection h with e1 e2;subst e1;exact⟨G1+1,wb_one (.inr (.inl ⟨.inr (.inl rfl),k1,wb_nil _ _ _⟩))⟩
    ·split at h
     ·split at h
      ·cases h
      ·cases h
      ·rename_i a t1 r1 h1
       obtain⟨_,_,_,hl1⟩:=pRead_calls _ _ _ _ _ _ _ h1;obtain⟨G1,k1⟩:=ih _ _ _ _ _ hlen h1;injection h with h;injection h with h;injection h with e1 e2;subst e1;have k1':wb (kn known) G1 true a:=by simpa using k1
       exact⟨G1+1,wb_one (.inr (.inr ⟨rfl,k1',rfl⟩))⟩
     ·split at h
      ·split at h
       ·cases h
       ·rename_i ts r1 hbr
        have:=braces_toks _ _ _ hbr;injection h with h;injection h with h;injection h with e1 e2;subst e1;exact⟨1,wb_one (.inl ⟨.inr (.inr (.inr (.inl ⟨rfl,by show ts.length<=1000;omega⟩))),rfl,rfl⟩)⟩
      ·split at h
       ·cases h
       ·rename_i x h1
        injection h with h;injection h with h;injection h with e1 e2;subst e1;exact⟨1,wb_one (pOne_ok h1 _)⟩
theorem pDef_wb {g:Nat} {s:St} {r:List Tok} {nm:Tok} {b:List It} {r1:List Tok} (hl:r.length<=1000) (h:pDef g s r=some (.ok (nm,b,r1))):∃ G,wb (knows s) G false b:=by
 cases r with
 | nil=>cases h
 | cons t r=>
  unfold pDef at h;dsimp only at h
  split at h
  ·cases h
  split at h
  ·cases h
  split at h
  ·cases h
  ·cases h
  ·rename_i b' t' r' hr
   injection h with h;injection h with h;injection h with e1 e2;injection e2 with e2 e3;subst e2;exact pRead_wb _ _ _ _ _ _ _ (by simp at hl;omega) hr
end
section
open Go.RowKit
variable {K:Nat->Prop}
def xLoop (g:Nat) (f:Fr) (lp:List Int) (l:List It) (s:St):Option (St × Bool):=match s.rs with
 | b :: m :: r=>xRun g (jDo f lp b m l) { s with rs:=r }
 | _=>some (s.err 6,true)
end
section
open Go.RowKit
variable {K:Nat->Prop}
theorem row_slice_len {w:World} {e:TypeId} {z:Nat} {v:Value} {n:Nat} {xs:List Value} (h:w.ownsRow 0 e z v n xs):n<=9223372036854775807:=by
 rcases h.2 with⟨_,h0⟩|⟨_,_,_,_,_,_,h1,h2,_⟩
 ·omega
 ·unfold maxLen at h2;omega
end
section
open Go.RowKit
variable {K:Nat->Prop}
theorem enter_tail {g:Nat} {f:Fr} {s1 s':St} {left:Bool} (h:(match (some s1:Option St) with
      | none=>none
      | some s1=>match xRun g (jBody f [] f.body) { s1 with depth:=s1.depth+1 } with
        | none=>none
        | some (s2,_)=>some ({ s2 with depth:=s2.depth - 1 },false))=some (s',left)):∃ s2 left2,xRun g (jBody f [] f.body) { s1 with depth:=s1.depth+1 }=some (s2,left2)/\s'={ s2 with depth:=s2.depth - 1 }:=by
  dsimp only at h
  split at h
  · cases h
  · rename_i s2 left2 hx
    injection h with h;injection h with h1 h2;exact⟨s2,left2,hx,h1.symm⟩
end
section
open Go.RowKit
variable {K:Nat->Prop}
theorem xBody_e:∀ (g:Nat) (f:Fr) (lp:List Int) (l:List It) (s s':St),s.e=0->xRun g (jBody f lp l) s=some (s',false)->s'.e=0
 | 0,_,_,_,_,_,_,h=>by cases h
 | g+1,f,lp,[],s,s',he,h=>by rw[x_nil] at h;injection h with h;injection h with h1 h2;subst h1;exact he
 | g+1,f,lp,x :: l,s,s',he,h=>by
  rw[x_cons] at h
  split at h
  ·cases h
  ·split at h
   ·injection h with h;injection h with h1 h2;cases h2
   ·rename_i s1 left1 _ hc
    exact xBody_e g f lp l s1 s' (by simp at hc;exact hc.2) h
end
section
open Go.RowKit
theorem SGood.step {s:St} (h:SGood s) (he:s.e=0):SGood s.step:=by
 have h2:=h.s2 he;have h0:=h.s0;unfold St.step
 split
 ·exact⟨h.g,by show 0<=s.steps+1;omega,by show s.steps+1<=2001;omega,fun _=>by show s.steps+1<=2000;omega,h.d0,h.d1,h.b0,h.b1,h.cb⟩
 ·exact⟨h.g,by show 0<=s.steps+1;omega,by show s.steps+1<=2001;omega,(fun h=>by cases h),h.d0,h.d1,h.b0,h.b1,h.cb⟩
theorem SGood.put {s:St} (h:SGood s) {n:Int} (hn:In n):SGood (s.put n):=by
 unfold St.put
 split
 ·exact⟨⟨by simp only[List.mem_cons,forall_eq_or_imp];exact⟨hn,h.g.ins⟩,h.g.mems,by simp only[List.length_cons];omega,h.g.osz⟩,h.s0,h.s1,h.s2,h.d0,h.d1,h.b0,h.b1,h.cb⟩
 ·exact⟨h.g,h.s0,h.s1,(fun h=>by cases h),h.d0,h.d1,h.b0,h.b1,h.cb⟩
theorem SGood.word {s:St} (h:SGood s) (he:s.e=0) (k:Nat):SGood (s.word k):=by
 have hf:Fine (plainP k s.rs s.mem s.out):=plain_fine _ h.g;exact⟨hf,h.s0,h.s1,fun _=>h.s2 he,h.d0,h.d1,h.b0,h.b1,h.cb⟩
theorem SGood.err {s:St} (h:SGood s) {k:Int} (hk:k ≠ 0):SGood (s.err k):=⟨h.g,h.s0,h.s1,(fun e=>absurd e hk),h.d0,h.d1,h.b0,h.b1,h.cb⟩
theorem SGood.tail {s:St} (h:SGood s) {r:List Int} (hr:∀ x∈r,x∈s.rs) (hl:r.length<=s.rs.length):SGood { s with rs:=r }:=
 ⟨⟨fun x hx=>h.g.ins x (hr x hx),h.g.mems,Nat.le_trans hl h.g.len,h.g.osz⟩,h.s0,h.s1,h.s2,h.d0,h.d1,h.b0,h.b1,h.cb⟩
theorem SGood.test {s:St} (h:SGood s) (he:s.e=0):SGood s.test.1:=by
 have h1:=h.step he;unfold St.test
 split
 ·split
  ·exact h1.err (by decide)
  ·rename_i a r hr
   exact h1.tail (fun x hx=>by rw[hr];simp[hx]) (by rw[hr];simp)
 ·exact h1
theorem SGood.dep {s:St} (h:SGood s) {n:Int} (h0:0<=n) (h1:n<=20):SGood { s with depth:=n }:=⟨h.g,h.s0,h.s1,h.s2,h0,h1,h.b0,h.b1,h.cb⟩
theorem knows_iff {s:St} {t:Tok}:knows s t<->∃ d∈s.defs,(d.name == t)=true:=by
 unfold knows St.known St.find;rw[List.findIdx?_isSome,List.any_eq_true]
theorem set_defs_name {s:St} {nm:Tok} {b:List It} {d:Def} (hd:d∈s.defs):∃ d'∈(s.set nm b).defs,d'.name=d.name:=by
 obtain⟨i,hi,rfl⟩:=List.mem_iff_getElem.1 hd;unfold St.set;dsimp only
 cases hf:s.find nm with
 | none=>
  refine⟨slowIf nm s.defs[i],?_,slowIf_name _ _⟩;exact List.mem_append_left _ (List.mem_map_of_mem (List.getElem_mem hi))
 | some k=>
  by_cases hik:i=k
  ·subst hik;obtain⟨h1,h2,_⟩:=List.findIdx?_eq_some_iff_getElem.1 hf;refine⟨⟨nm,wrap64 (s.ids+1),b,0,false,[]⟩,?_,by have:=eq_of_beq h2;exact this.symm⟩;rw[List.mem_iff_getElem];exact⟨i,by simpa using hi,by simp⟩
  ·refine⟨slowIf nm s.defs[i],?_,slowIf_name _ _⟩;rw[List.mem_iff_getElem];refine⟨i,by simpa using hi,?_⟩;rw[List.getElem_set_ne (by omega),List.getElem_map];rfl
theorem set_knows {s:St} {nm:Tok} {b:List It} {t:Tok} (h:knows s t):knows (s.set nm b) t:=by
 rw[knows_iff] at h ⊢;obtain⟨d,hd,ht⟩:=h;obtain⟨d',hd',e⟩:=set_defs_name (nm:=nm) (b:=b) hd;exact⟨d',hd',by rw[e];exact ht⟩
theorem set_body {s:St} {nm:Tok} {b:List It} {d:Def} (hd:d∈(s.set nm b).defs):d.body=b\/∃ d0∈s.defs,d.body=d0.body:=by
 have key:∀ d∈s.defs.map (slowIf nm),∃ d0∈s.defs,d.body=d0.body:=by
  intro d hd;obtain⟨d0,h0,rfl⟩:=List.mem_map.1 hd;exact⟨d0,h0,slowIf_body _ _⟩
 unfold St.set at hd;dsimp only at hd
 cases hf:s.find nm with
 | none=>
  rw[hf] at hd;rcases List.mem_append.1 hd with h|h
  ·exact .inr (key d h)
  ·simp at h;rw[h];exact .inl rfl
 | some k=>
  rw[hf] at hd;rcases List.mem_or_eq_of_mem_set hd with h|h
  ·exact .inr (key d h)
  ·rw[h];exact .inl rfl
theorem WFs.set {s:St} (h:WFs s) {nm:Tok} {b:List It} {G:Nat} (hb:wb (knows s) G false b) (hcb:CBnd b):WFs (s.set nm b):=by
 have hg:=h.g;refine⟨⟨hg.g,hg.s0,hg.s1,hg.s2,hg.d0,hg.d1,hg.b0,hg.b1,fun d hd=>by
  rcases set_body hd with e|⟨d0,h0,e⟩
  ·rw[e];exact hcb
  ·rw[e];exact hg.cb d0 h0⟩,fun d hd=>?_,h.st⟩
 rcases set_body hd with e|⟨d0,h0,e⟩
 ·exact⟨G,by rw[e];exact wb_known (fun t ht=>set_knows ht) _ _ _ hb⟩
 ·obtain⟨g,hg⟩:=h.d d0 h0;exact⟨g,by rw[e];exact wb_known (fun t ht=>set_knows ht) _ _ _ hg⟩
theorem WFs.same {s s':St} (h:WFs s) (hg:SGood s') (hd:s'.defs=s.defs):WFs s'/\∀ t,knows s t->knows s' t:=by
 refine⟨⟨hg,fun d hm=>?_,hg.s2⟩,fun t ht=>(knows_def hd).2 ht⟩;rw[hd] at hm;obtain⟨g,hg⟩:=h.d d hm;exact⟨g,wb_known (fun t ht=>(knows_def hd).2 ht) _ _ _ hg⟩
theorem step_defs (s:St):s.step.defs=s.defs:=by unfold St.step;split <;> rfl
theorem step_ok {s:St} (he:s.e=0) (h:s.step.e=0):s.steps < 2000:=by
 unfold St.step at h
 split at h
 ·assumption
 ·cases h
theorem put_defs (s:St) (n:Int):(s.put n).defs=s.defs:=by unfold St.put;split <;> rfl
theorem test_defs (s:St):s.test.1.defs=s.defs:=by
 unfold St.test;split
 ·split
  ·exact step_defs s
  ·exact step_defs s
 ·exact step_defs s
theorem test_ok {s:St} (he:s.e=0) (h:s.test.1.e=0):s.steps < 2000:=by
 unfold St.test at h
 split at h
 ·exact step_ok he (by assumption)
 ·exact absurd h (by assumption)
def rem (s:St):Nat:=(2001 - s.steps).toNat
def Tot (j:XJ) (s:St):Prop:=∃ g s' left,xRun g j s=some (s',left)/\WFs s'/\∀ t,knows s t->knows s' t
def wbF (s:St) (f:Fr):Prop:=∃ G,wb (knows s) G false f.body
theorem wbF.mono {s s':St} {f:Fr} (h:wbF s f) (hk:∀ t,knows s t->knows s' t):wbF s' f:=by
 obtain⟨G,hG⟩:=h;exact⟨G,wb_known hk _ _ _ hG⟩
structure TotN (N:Nat):Prop where
 body:∀ (G:Nat) (s:St) (f:Fr) (lp:List Int) (l:List It) (lo:Bool),WFs s->s.e=0->rem s<=N->wb (knows s) G lo l->wbF s f->(lo=true->lp ≠ [])->(∀ n∈lp,In n)->Tot (jBody f lp l) s
 item:∀ (G:Nat) (s:St) (f:Fr) (lp:List Int) (x:It) (lo:Bool),WFs s->s.e=0->rem s<=N->okIt (knows s) (wb (knows s) G) lo x->wbF s f->(lo=true->lp ≠ [])->(∀ n∈lp,In n)->Tot (jItem f lp x) s
 do_:∀ (G:Nat) (s:St) (f:Fr) (lp:List Int) (n m:Int) (l:List It),WFs s->s.e=0->rem s<=N->wb (knows s) G true l->wbF s f->(∀ n∈lp,In n)->In n->In m->Tot (jDo f lp n m l) s
 enter:∀ (s:St) (f:Fr),WFs s->s.e=0->rem s<=N->wbF s f->Tot (jEnter f) s
 call:∀ (s:St) (t:Tok),WFs s->s.e=0->rem s<=N->knows s t->Tot (jCall t) s
 toks:∀ (s:St) (ts:List Tok),WFs s->(s.e=0->rem s<=N)->ts.length<=1000->Tot (jToks ts) s
theorem tot_of {j:XJ} {s:St} {g:Nat} {s':St} {left:Bool} (h:xRun g j s=some (s',left)) (hw:WFs s') (hk:∀ t,knows s t->knows s' t):Tot j s:=⟨g,s',left,h,hw,hk⟩
theorem TotN.zero:TotN 0:=by
 have no:∀ s:St,WFs s->s.e=0->rem s<=0->False:=by
  intro s hw he hr;have:=hw.st he;unfold rem at hr;omega
 refine⟨fun G s f lp l lo hw he hr=>(no s hw he hr).elim,fun G s f lp l lo hw he hr=>(no s hw he hr).elim,fun G s f lp n m l hw he hr=>(no s hw he hr).elim,fun s f hw he hr=>(no s hw he hr).elim,fun s t hw he hr=>(no s hw he hr).elim,fun s ts hw hr _=>?_⟩;by_cases he:s.e=0
 ·exact (no s hw he (hr he)).elim
 ·exact tot_of (x_terr 0 s ts he) hw (fun _ h=>h)
theorem step_next {N:Nat} {s:St} (hw:WFs s) (he:s.e=0) (hr:rem s<=N+1):WFs s.step/\(∀ t,knows s t->knows s.step t)/\(s.step.e=0->rem s.step<=N/\s.step.steps<=2000):=by
 have h1:=hw.same (hw.g.step he) (step_defs s);refine⟨h1.1,h1.2,fun h=>?_⟩;have:=step_ok he h;unfold rem at hr ⊢;rw[St.step_steps];omega
theorem test_next {N:Nat} {s:St} (hw:WFs s) (he:s.e=0) (hr:rem s<=N+1):WFs s.test.1/\(∀ t,knows s t->knows s.test.1 t)/\(s.test.1.e=0->rem s.test.1<=N):=by
 have h1:=hw.same (hw.g.test he) (test_defs s);refine⟨h1.1,h1.2,fun h=>?_⟩;have:=test_ok he h;unfold rem at hr ⊢;rw[St.test_steps];omega
theorem rem_le {g:Nat} {j:XJ} {s s':St} {left:Bool} (h:xRun g j s=some (s',left)):rem s'<=rem s:=by
 have:=(xRun_keep _ _ _ _ _ h).2;unfold rem;omega
theorem item_tot {N:Nat} (H:TotN N) (G:Nat) (hB:∀ (s:St) (f:Fr) (lp:List Int) (l:List It) (lo:Bool),WFs s->s.e=0->rem s<=N+1->wb (knows s) G lo l->wbF s f->(lo=true->lp ≠ [])->(∀ n∈lp,In n)->Tot (jBody f lp l) s)
  (s:St) (f:Fr) (lp:List Int) (x:It) (lo:Bool) (hw:WFs s) (he:s.e=0) (hr:rem s<=N+1) (hx:okIt (knows s) (wb (knows s) G) lo x) (hf:wbF s f) (hlp:lo=true->lp ≠ []) (hlI:∀ n∈lp,In n):Tot (jItem f lp x) s:=by
 obtain⟨tw,tk,tr⟩:=test_next hw he hr;obtain⟨sw,sk,sr⟩:=step_next hw he hr;by_cases k63:x.kind=63
 ·have hsub:wb (knows s) G lo x.a/\wb (knows s) G lo x.b:=by
   rcases hx with⟨h,h1,h2⟩|⟨h,h1,h2⟩|⟨h,h1,h2⟩
   ·rw[h1,h2];exact⟨wb_nil _ _ _,wb_nil _ _ _⟩
   ·exact⟨h1,h2⟩
   ·omega
  by_cases e1:s.test.1.e=0
  ·by_cases e2:s.test.2=true
   ·obtain⟨g,s',left,h,h1,h2⟩:=H.body G s.test.1 f lp x.a lo tw e1 (tr e1) (wb_known tk _ _ _ hsub.1) (hf.mono tk) hlp hlI;exact tot_of (g:=g+1) (by rw[x_if _ _ _ _ _ k63,if_neg (by simp[e1]),if_pos e2];exact h) h1 (fun t ht=>h2 t (tk t ht))
   ·obtain⟨g,s',left,h,h1,h2⟩:=H.body G s.test.1 f lp x.b lo tw e1 (tr e1) (wb_known tk _ _ _ hsub.2) (hf.mono tk) hlp hlI;exact tot_of (g:=g+1) (by rw[x_if _ _ _ _ _ k63,if_neg (by simp[e1]),if_neg e2];exact h) h1 (fun t ht=>h2 t (tk t ht))
  ·exact tot_of (g:=1) (by rw[x_if _ _ _ _ _ k63,if_pos e1]) tw tk
 by_cases k117:x.kind=117
 ·have hsub:wb (knows s) G lo x.a:=by
   rcases hx with⟨h,h1,h2⟩|⟨h,h1,h2⟩|⟨h,h1,h2⟩
   ·rw[h1];exact wb_nil _ _ _
   ·exact h1
   ·omega
  obtain⟨g1,s1,left1,h1,w1,kk1⟩:=hB s f lp x.a lo hw he hr hsub hf hlp hlI;by_cases e0:left1=true
  ·exact tot_of (g:=g1+1) (by rw[x_until _ _ _ _ _ k117,h1];dsimp only;rw[if_pos e0]) w1 kk1
  have e0':left1=false:=by simpa using e0
  subst e0';have he1:=xBody_e _ _ _ _ _ _ he h1;have hr1:rem s1<=N+1:=Nat.le_trans (rem_le h1) hr;obtain⟨tw1,tk1,tr1⟩:=test_next w1 he1 hr1;by_cases e1:s1.test.1.e=0
  ·by_cases e2:s1.test.2=true
   ·exact tot_of (g:=g1+1) (by rw[x_until _ _ _ _ _ k117,h1];dsimp only;rw[if_neg (by simp),if_neg (by simp[e1]),if_pos e2]) tw1 (fun t ht=>tk1 t (kk1 t ht))
   ·obtain⟨g2,s2,left2,h2,w2,kk2⟩:=H.item G s1.test.1 f lp x lo tw1 e1 (tr1 e1) (hx.mono (fun t ht=>tk1 t (kk1 t ht)) (fun lo l=>wb_known (fun t ht=>tk1 t (kk1 t ht)) G lo l)) (hf.mono (fun t ht=>tk1 t (kk1 t ht))) hlp hlI;have h1':=xRun_mono (g':=g1+g2) (by omega) h1;have h2':=xRun_mono (g':=g1+g2) (by omega) h2;exact tot_of (g:=g1+g2+1) (by rw[x_until _ _ _ _ _ k117,h1'];dsimp only;rw[if_neg (by simp),if_neg (by simp[e1]),if_neg e2];exact h2') w2 (fun t ht=>kk2 t (tk1 t (kk1 t ht)))
  ·exact tot_of (g:=g1+1) (by rw[x_until _ _ _ _ _ k117,h1];dsimp only;rw[if_neg (by simp),if_pos e1]) tw1 (fun t ht=>tk1 t (kk1 t ht))
 by_cases k119:x.kind=119
 ·have hsub:wb (knows s) G lo x.a/\wb (knows s) G lo x.b:=by
   rcases hx with⟨h,h1,h2⟩|⟨h,h1,h2⟩|⟨h,h1,h2⟩
   ·rw[h1,h2];exact⟨wb_nil _ _ _,wb_nil _ _ _⟩
   ·exact⟨h1,h2⟩
   ·omega
  obtain⟨g1,s1,left1,h1,w1,kk1⟩:=hB s f lp x.a lo hw he hr hsub.1 hf hlp hlI;by_cases e0:left1=true
  ·exact tot_of (g:=g1+1) (by rw[x_while _ _ _ _ _ k119,h1];dsimp only;rw[if_pos e0]) w1 kk1
  have e0':left1=false:=by simpa using e0
  subst e0';have he1:=xBody_e _ _ _ _ _ _ he h1;have hr1:rem s1<=N+1:=Nat.le_trans (rem_le h1) hr;obtain⟨tw1,tk1,tr1⟩:=test_next w1 he1 hr1;by_cases e1:s1.test.1.e=0
  ·by_cases e2:s1.test.2=false
   ·exact tot_of (g:=g1+1) (by rw[x_while _ _ _ _ _ k119,h1];dsimp only;rw[if_neg (by simp),if_neg (by simp[e1]),if_pos e2]) tw1 (fun t ht=>tk1 t (kk1 t ht))
   ·have kk1t:∀ t,knows s t->knows s1.test.1 t:=fun t ht=>tk1 t (kk1 t ht);obtain⟨g2,s2,left2,h2,w2,kk2⟩:=H.body G s1.test.1 f lp x.b lo tw1 e1 (tr1 e1) (wb_known kk1t _ _ _ hsub.2) (hf.mono kk1t) hlp hlI;have h1':=xRun_mono (g':=g1+g2) (by omega) h1;have h2':=xRun_mono (g':=g1+g2) (by omega) h2;by_cases e3:left2=true
    ·exact tot_of (g:=g1+g2+1) (by rw[x_while _ _ _ _ _ k119,h1'];dsimp only;rw[if_neg (by simp),if_neg (by simp[e1]),if_neg e2,h2'];dsimp only;rw[if_pos e3]) w2 (fun t ht=>kk2 t (kk1t t ht))
    have e3':left2=false:=by simpa using e3
    subst e3';have he2:=xBody_e _ _ _ _ _ _ e1 h2;have kk2t:∀ t,knows s t->knows s2 t:=fun t ht=>kk2 t (kk1t t ht);obtain⟨g3,s3,left3,h3,w3,kk3⟩:=H.item G s2 f lp x lo w2 he2 (Nat.le_trans (rem_le h2) (tr1 e1)) (hx.mono kk2t (fun lo l=>wb_known kk2t G lo l)) (hf.mono kk2t) hlp hlI;have h1'':=xRun_mono (g':=g1+g2+g3) (by omega) h1;have h2'':=xRun_mono (g':=g1+g2+g3) (by omega) h2;have h3'':=xRun_mono (g':=g1+g2+g3) (by omega) h3;exact tot_of (g:=g1+g2+g3+1) (by rw[x_while _ _ _ _ _ k119,h1''];dsimp only;rw[if_neg (by simp),if_neg (by simp[e1]),if_neg e2,h2''];dsimp only;rw[if_neg (by simp)];exact h3'') w3 (fun t ht=>kk3 t (kk2t t ht))
  ·exact tot_of (g:=g1+1) (by rw[x_while _ _ _ _ _ k119,h1];dsimp only;rw[if_neg (by simp),if_pos e1]) tw1 (fun t ht=>tk1 t (kk1 t ht))
 by_cases e1:s.step.e=0
 ·obtain⟨srr,s20⟩:=sr e1;have goal:∀ g r,xOne g f lp x s.step=some r->xRun (g+1) (jItem f lp x) s=some r:=fun g r h=>by rw[x_one _ _ _ _ _ k63 k117 k119,if_neg (by simp[e1])];exact h
  rcases hx with⟨h,h1,h2⟩|⟨h,h1,h2⟩|⟨h,h1,h2⟩
  ·rcases h with h|h|h|h|h|h|h
   ·have hn:=sw.same (s':=s.step.put x.n) (sw.g.put h.2) (put_defs _ _);exact tot_of (goal 0 _ (by unfold xOne;rw[if_pos h.1])) hn.1 (fun t ht=>hn.2 t (sk t ht))
   ·obtain⟨g,s2,l2,hx2,w2,kk2⟩:=H.enter s.step f sw e1 srr (hf.mono sk);exact tot_of (goal g _ (by unfold xOne;rw[if_neg (by omega),if_neg (by omega),if_neg (by omega),if_neg (by omega),if_pos h,hx2])) w2 (fun t ht=>kk2 t (sk t ht))
   ·exact tot_of (goal 0 _ (by unfold xOne;rw[if_neg (by omega),if_neg (by omega),if_neg (by omega),if_pos h])) sw sk
   ·by_cases hd:20<=s.step.depth
    ·have hn:=sw.same (s':=s.step.err 8) (sw.g.err (by decide)) rfl;exact tot_of (goal 0 _ (by unfold xOne;rw[if_neg (by omega),if_neg (by omega),if_neg (by omega),if_neg (by omega),if_neg (by omega),if_neg (by omega),if_pos h.1,if_pos hd])) hn.1 (fun t ht=>hn.2 t (sk t ht))
    ·have hn:=sw.same (s':={ s.step with depth:=s.step.depth+1 }) (sw.g.dep (by have:=sw.g.d0;omega) (by omega)) rfl;obtain⟨g,s2,l2,hx2,w2,kk2⟩:=H.toks { s.step with depth:=s.step.depth+1 } x.toks hn.1 (fun _=>srr) h.2;have hdp:=(xRun_keep _ _ _ _ _ hx2).1;have hn2:=w2.same (s':={ s2 with depth:=s2.depth - 1 }) (w2.g.dep (by have:=sw.g.d0;dsimp only at hdp;omega) (by have:=w2.g.d1;omega)) rfl;exact tot_of (goal g _ (by unfold xOne;rw[if_neg (by omega),if_neg (by omega),if_neg (by omega),if_neg (by omega),if_neg (by omega),if_neg (by omega),if_pos h.1,if_neg hd,hx2])) hn2.1 (fun t ht=>hn2.2 t (kk2 t (hn.2 t (sk t ht))))
   ·obtain⟨hk,hp⟩:=h
    cases hq:plainL.findIdx? (· == x.name) with
    | none=>rw[hq] at hp;cases hp
    | some k=>
     have hn:=sw.same (s':=s.step.word k) (sw.g.word e1 k) rfl;exact tot_of (goal 0 _ (by unfold xOne;rw[if_neg (by omega),if_pos hk,hq])) hn.1 (fun t ht=>hn.2 t (sk t ht))
   ·obtain⟨hk,hp⟩:=h;obtain⟨g,s2,l2,hx2,w2,kk2⟩:=H.call s.step x.name sw e1 srr (sk _ hp);exact tot_of (goal g _ (by unfold xOne;rw[if_neg (by omega),if_neg (by omega),if_neg (by omega),if_neg (by omega),if_neg (by omega),if_pos hk,hx2])) w2 (fun t ht=>kk2 t (sk t ht))
   ·obtain⟨hk,hp⟩:=h
    cases lp with
    | nil=>exact absurd rfl (hlp hp)
    | cons i r=>
     have hn:=sw.same (s':=s.step.put i) (sw.g.put (hlI i (by simp))) (put_defs _ _);exact tot_of (goal 0 _ (by unfold xOne;rw[if_neg (by omega),if_neg (by omega),if_pos hk])) hn.1 (fun t ht=>hn.2 t (sk t ht))
  ·omega
  ·have hun:∀ g,xOne g f lp x s.step=xLoop g f lp x.a s.step:=fun g=>by
    unfold xOne xLoop;rw[if_neg (by omega),if_neg (by omega),if_neg (by omega),if_neg (by omega),if_neg (by omega),if_neg (by omega),if_neg (by omega),if_pos h];rfl
   cases hrs:s.step.rs with
   | nil=>
    have hn:=sw.same (s':=s.step.err 6) (sw.g.err (by decide)) rfl;exact tot_of (goal 0 _ (by rw[hun];unfold xLoop;rw[hrs])) hn.1 (fun t ht=>hn.2 t (sk t ht))
   | cons b r=>
    cases r with
    | nil=>
     have hn:=sw.same (s':=s.step.err 6) (sw.g.err (by decide)) rfl;exact tot_of (goal 0 _ (by rw[hun];unfold xLoop;rw[hrs])) hn.1 (fun t ht=>hn.2 t (sk t ht))
    | cons m r=>
     have hn:=sw.same (s':={ s.step with rs:=r }) (sw.g.tail (fun x hx=>by rw[hrs];simp[hx]) (by rw[hrs];simp;omega)) rfl;obtain⟨g,s2,l2,hx2,w2,kk2⟩:=H.do_ G { s.step with rs:=r } f lp b m x.a hn.1 e1 srr (wb_known (fun t ht=>hn.2 t (sk t ht)) _ _ _ h1) (hf.mono (fun t ht=>hn.2 t (sk t ht))) hlI (sw.g.g.ins b (by rw[hrs];simp)) (sw.g.g.ins m (by rw[hrs];simp));exact tot_of (goal g _ (by rw[hun];unfold xLoop;rw[hrs];exact hx2)) w2 (fun t ht=>kk2 t (hn.2 t (sk t ht)))
 ·exact tot_of (g:=1) (by rw[x_one _ _ _ _ _ k63 k117 k119,if_pos e1]) sw sk
theorem body_tot {N:Nat} (H:TotN N):∀ (G:Nat) (s:St) (f:Fr) (lp:List Int) (l:List It) (lo:Bool),WFs s->s.e=0->rem s<=N+1->wb (knows s) G lo l->wbF s f->(lo=true->lp ≠ [])->(∀ n∈lp,In n)->Tot (jBody f lp l) s:=by
 intro G
 induction G with
 | zero=>
  intro s f lp l lo hw he hr hl hf hlp hlI;have hl:l=[]:=hl;subst hl;exact tot_of (x_nil 0 f lp s) hw (fun _ h=>h)
 | succ G ih=>
  intro s f lp l
  induction l generalizing s with
  | nil=>intro lo hw he hr hl hf hlp hlI;exact tot_of (x_nil 0 f lp s) hw (fun _ h=>h)
  | cons x l ihl=>
   intro lo hw he hr hl hf hlp hlI;obtain⟨g1,s1,left1,h1,w1,kk1⟩:=item_tot H G ih s f lp x lo hw he hr (hl x (by simp)) hf hlp hlI;by_cases hc:left1=true\/s1.e ≠ 0
   ·exact tot_of (g:=g1+1) (by rw[x_cons,h1];dsimp only;rw[if_pos hc]) w1 kk1
   ·have he1:s1.e=0:=by
     by_cases h:s1.e=0
     ·exact h
     ·exact absurd (.inr h) hc
    obtain⟨g2,s2,left2,h2,w2,kk2⟩:=ihl s1 lo w1 he1 (Nat.le_trans (rem_le h1) hr) (wb_known kk1 _ _ _ (fun y hy=>hl y (by simp[hy]))) (hf.mono kk1) hlp hlI;have h1':=xRun_mono (g':=g1+g2) (by omega) h1;have h2':=xRun_mono (g':=g1+g2) (by omega) h2;exact tot_of (g:=g1+g2+1) (by rw[x_cons,h1'];dsimp only;rw[if_neg hc];exact h2') w2 (fun t ht=>kk2 t (kk1 t ht))
end
section
open Go.RowKit
def ub:Nat->List It->Prop
 | 0,l=>l=[]
 | g+1,l=>∀ x∈l,(x.kind=117->x.b=[])/\ub g x.a/\ub g x.b
def UB (l:List It):Prop:=∃ g,ub g l
theorem ub_succ:∀ (g:Nat) (l:List It),ub g l->ub (g+1) l
 | 0,l,h=>by have h:l=[]:=h;subst h;exact fun x hx=>by cases hx
 | g+1,_,h=>fun x hx=>⟨(h x hx).1,ub_succ g _ (h x hx).2.1,ub_succ g _ (h x hx).2.2⟩
theorem ub_le {g g':Nat} (hg:g<=g') {l:List It} (h:ub g l):ub g' l:=by
 induction hg with
 | refl=>exact h
 | step _ ih=>exact ub_succ _ _ ih
theorem UB.nil:UB []:=⟨0,rfl⟩
theorem UB.one {x:It} (h:x.kind=117->x.b=[]) (ha:UB x.a) (hb:UB x.b):UB [x]:=by
 obtain⟨g1,h1⟩:=ha;obtain⟨g2,h2⟩:=hb;refine⟨g1+g2+1,fun y hy=>?_⟩;simp at hy;subst hy;exact⟨h,ub_le (by omega) h1,ub_le (by omega) h2⟩
theorem UB.app {l l':List It} (h:UB l) (h':UB l'):UB (l ++ l'):=by
 obtain⟨g1,h1⟩:=h;obtain⟨g2,h2⟩:=h';have h1:ub (g1+g2+1) l:=ub_le (by omega) h1;have h2:ub (g1+g2+1) l':=ub_le (by omega) h2;exact⟨g1+g2+1,fun x hx=>(List.mem_append.1 hx).elim (h1 x) (h2 x)⟩
theorem UB.cons {x:It} {l:List It} (h:UB (x :: l)):(x.kind=117->x.b=[])/\UB x.a/\UB x.b/\UB l:=by
 obtain⟨g,h⟩:=h
 cases g with
 | zero=>have h:x :: l=[]:=h;cases h
 | succ g=>
  have hx:=h x (by simp);exact⟨hx.1,⟨g,hx.2.1⟩,⟨g,hx.2.2⟩,⟨g+1,fun y hy=>h y (by simp[hy])⟩⟩
theorem pRead_ub (known:Tok->Bool):∀ (g:Nat) (j:PJ) (r:List Tok) (xs:List It) (t:Tok) (r':List Tok),pRead known g j r=some (.ok (xs,t,r'))->UB xs:=by
 intro g
 induction g with
 | zero=>intro j r xs t r' h;cases h
 | succ g ih=>
  intro j r xs t r' h;unfold pRead at h
  cases hj:j.item with
  | false=>
   rw[if_pos hj] at h
   split at h
   ·cases h
   ·split at h
    ·injection h with h;injection h with h;injection h with h1 h2;subst h1;exact UB.nil
    ·split at h
     ·cases h
     ·cases h
     ·rename_i h1
      split at h
      ·cases h
      ·cases h
      ·rename_i h2
       injection h with h;injection h with h;injection h with e1 e2;subst e1;exact (ih _ _ _ _ _ h1).app (ih _ _ _ _ _ h2)
  | true=>
   rw[if_neg (by rw[hj];decide)] at h
   split at h
   ·split at h
    ·cases h
    ·cases h
    ·rename_i h1
     split at h
     ·split at h
      ·cases h
      ·cases h
      ·rename_i h2
       injection h with h;injection h with h;injection h with e1 e2;subst e1;exact UB.one (fun e=>by cases e) (ih _ _ _ _ _ h1) (ih _ _ _ _ _ h2)
     ·injection h with h;injection h with h;injection h with e1 e2;subst e1;exact UB.one (fun e=>by cases e) (ih _ _ _ _ _ h1) UB.nil
   ·split at h
    ·split at h
     ·cases h
     ·cases h
     ·rename_i h1
      split at h
      ·split at h
       ·cases h
       ·cases h
       ·rename_i h2
        injection h with h;injection h with h;injection h with e1 e2;subst e1;exact UB.one (fun e=>by cases e) (ih _ _ _ _ _ h1) (ih _ _ _ _ _ h2)
      ·injection h with h;injection h with h;injection h with e1 e2;subst e1;exact UB.one (fun _=>rfl) (ih _ _ _ _ _ h1) UB.nil
    ·split at h
     ·split at h
      ·cases h
      ·cases h
      ·rename_i h1
       injection h with h;injection h with h;injection h with e1 e2;subst e1;exact UB.one (fun _=>rfl) (ih _ _ _ _ _ h1) UB.nil
     ·split at h
      ·split at h
       ·cases h
       ·injection h with h;injection h with h;injection h with e1 e2;subst e1;exact UB.one (fun _=>rfl) UB.nil UB.nil
      ·split at h
       ·cases h
       ·rename_i x h1
        injection h with h;injection h with h;injection h with e1 e2;subst e1;obtain⟨ea,eb⟩:=pOne_calls h1;exact UB.one (fun _=>eb) (by rw[ea];exact UB.nil) (by rw[eb];exact UB.nil)
theorem pDef_ub {g:Nat} {s:St} {r:List Tok} {nm:Tok} {b:List It} {r1:List Tok} (h:pDef g s r=some (.ok (nm,b,r1))):UB b:=by
 cases r with
 | nil=>cases h
 | cons t r=>
  unfold pDef at h;dsimp only at h
  split at h
  ·cases h
  split at h
  ·cases h
  split at h
  ·cases h
  ·cases h
  ·rename_i b' t' r' hr
   injection h with h;injection h with h;injection h with e1 e2;injection e2 with e2 e3;subst e2;exact pRead_ub _ _ _ _ _ _ _ hr
theorem calls_nil {g:Nat} {names:List Tok} (h:callsG g []=some names):names=[]:=by
 cases g with
 | zero=>cases h
 | succ g=>injection h with h;exact h.symm
theorem calls_in {known:Tok->Prop}:∀ (g:Nat) (l:List It) (names:List Tok) (G:Nat) (lo:Bool),wb known G lo l->UB l->callsG g l=some names->∀ t,t∈names<->InC t l
 | 0,_,_,_,_,_,_,h,_=>by cases h
 | g+1,[],names,_,_,_,_,h,t=>by rw[calls_nil h];simp[InC.nil]
 | g+1,x :: l,names,G,lo,hw,hu,h,t=>by
  obtain⟨a,b,c,ha,hb,hc,rfl⟩:=calls_cons h;obtain⟨u1,u2,u3,u4⟩:=hu.cons
  cases G with
  | zero=>have hw:x :: l=[]:=hw;cases hw
  | succ G=>
   have hx:=hw x (by simp);have hl:wb known (G+1) lo l:=fun y hy=>hw y (by simp[hy]);have ic:=calls_in g l c (G+1) lo hl u4 hc t;have h99:t∈(if x.kind=99 then [x.name] else [])<->x.kind=99/\x.name=t:=by
    split
    ·rename_i e;simp[e];exact eq_comm
    ·rename_i e;simp[e]
   rw[InC.cons];simp only[List.mem_append,h99];rcases hx with⟨hk,ea,eb⟩|⟨hk,wa,wb'⟩|⟨hk,wa,eb⟩
   ·rw[ea] at ha;rw[eb] at hb;rw[calls_nil ha,calls_nil hb,ic,ea,eb];simp[InC.nil]
   ·have ia:=calls_in g x.a a G lo wa u2 ha t;have ib:=calls_in g x.b b G lo wb' u3 hb t;rw[ia,ib,ic];have h1:x.kind=63\/x.kind=117\/x.kind=119\/x.kind=100:=by omega
    constructor
    ·rintro (((q|q)|q)|q)
     ·exact .inl q
     ·exact .inr (.inl ⟨h1,q⟩)
     ·refine .inr (.inr (.inl ⟨?_,q⟩));rcases hk with hk|hk|hk
      ·exact .inl hk
      ·rw[u1 hk] at q;exact absurd q (InC.nil t)
      ·exact .inr hk
     ·exact .inr (.inr (.inr q))
    ·rintro (q|⟨_,q⟩|⟨_,q⟩|q)
     ·exact .inl (.inl (.inl q))
     ·exact .inl (.inl (.inr q))
     ·exact .inl (.inr q)
     ·exact .inr q
   ·have ia:=calls_in g x.a a G true wa u2 ha t;rw[eb] at hb;rw[calls_nil hb,ia,ic,eb];have h1:x.kind=63\/x.kind=117\/x.kind=119\/x.kind=100:=by omega
    constructor
    ·rintro (((q|q)|q)|q)
     ·exact .inl q
     ·exact .inr (.inl ⟨h1,q⟩)
     ·cases q
     ·exact .inr (.inr (.inr q))
    ·rintro (q|⟨_,q⟩|⟨_,q⟩|q)
     ·exact .inl (.inl (.inl q))
     ·exact .inl (.inl (.inr q))
     ·exact absurd q (InC.nil t)
     ·exact .inr q
theorem foldN_in {f:Tok->Option (List Tok)}:∀ (l bs:List Tok),foldN f l=some bs->∀ t,t∈bs<->∃ nm∈l,t=nm\/∃ x,f nm=some x/\t∈x
 | [],bs,h,t=>by injection h with h;subst h;simp
 | a :: l,bs,h,t=>by
  unfold foldN at h
  split at h
  ·rename_i x y hx hy
   injection h with h;subst h;have ih:=foldN_in l y hy t;simp only[List.cons_append,List.mem_cons,List.mem_append,ih]
   constructor
   ·rintro (q|q|⟨nm,q1,q2⟩)
    ·exact⟨a,.inl rfl,.inl q⟩
    ·exact⟨a,.inl rfl,.inr ⟨x,hx,q⟩⟩
    ·exact⟨nm,.inr q1,q2⟩
   ·rintro⟨nm,rfl|q1,q2⟩
    ·rcases q2 with q2|⟨z,hz,q2⟩
     ·exact .inl q2
     ·rw[hx] at hz;injection hz with hz;subst hz;exact .inr (.inl q2)
    ·exact .inr (.inr ⟨nm,q1,q2⟩)
  ·cases h
theorem builds_in {defs:List Def} {known:Tok->Prop} (hd:∀ t b,bodyOf defs t=some b->(∃ G,wb known G false b)/\UB b) (g:Nat):∀ (n:Nat) (l:List It) (bs:List Tok) (G:Nat),wb known G false l->UB l->buildsG defs g n l=some bs->∀ t,t∈bs<->Bd (bodyOf defs) n l t
 | 0,_,bs,_,_,_,h,t=>by
  injection h with h;subst h;exact⟨fun q=>(by cases q),fun q=>absurd q (Bd.zero _ _ _)⟩
 | n+1,l,bs,G,hw,hu,h,t=>by
  unfold buildsG at h
  split at h
  ·cases h
  ·rename_i names hc
   have h1:=calls_in g l names G false hw hu hc;rw[foldN_in _ _ h t]
   constructor
   ·rintro⟨nm,hm,q⟩;refine⟨nm,(h1 nm).1 hm,?_⟩;rcases q with q|⟨x,hx,q⟩
    ·exact .inl q
    ·split at hx
     ·cases hx
     ·rename_i b hb
      obtain⟨⟨G',hw'⟩,hu'⟩:=hd _ _ hb;exact .inr ⟨b,hb,(builds_in hd g n b x G' hw' hu' hx t).1 q⟩
   ·rintro⟨nm,hm,q⟩;have hmm:=(h1 nm).2 hm;refine⟨nm,hmm,?_⟩;rcases q with q|⟨b,hb,q⟩
    ·exact .inl q
    ·obtain⟨⟨G',hw'⟩,hu'⟩:=hd _ _ hb;obtain⟨x,hx⟩:∃ x,(match bodyOf defs nm with|none=>none|some b=>buildsG defs g n b)=some x:=by
      clear h1 hc q hm;generalize bs=bs' at h
      induction names generalizing bs' with
      | nil=>cases hmm
      | cons a ns ih=>
       unfold foldN at h
       split at h
       ·rename_i x y hx hy
        rcases List.mem_cons.1 hmm with e|e
        ·rw[e];exact⟨x,hx⟩
        ·exact ih e y hy
       ·cases h
     refine .inr ⟨x,hx,?_⟩;rw[hb] at hx;exact (builds_in hd g n b x G' hw' hu' hx t).2 q
theorem InC.known {known:Tok->Prop} {G:Nat} {lo:Bool} {l:List It} (hw:wb known G lo l) (hu:UB l) {t:Tok} (h:InC t l):known t:=by
 obtain⟨g,names,hc,hk⟩:=calls_total G lo l hw;exact hk t ((calls_in g l names G lo hw hu hc t).2 h)
theorem Bc_known {known:Tok->Prop} {bo:Tok->Option (List It)} (hd:∀ t b,bo t=some b->(∃ G,wb known G false b)/\UB b):∀ (n:Nat) (nm t:Tok),known nm->Bc bo n nm t->known t
 | 0,_,_,_,h=>h.elim
 | n+1,nm,t,hk,h=>by
  rcases h with h|⟨b,hb,nm',hi,h⟩
  ·rw[h];exact hk
  ·obtain⟨⟨G,hw⟩,hu⟩:=hd nm b hb;exact Bc_known hd n nm' t (InC.known hw hu hi) h
theorem Bd_known {known:Tok->Prop} {bo:Tok->Option (List It)} (hd:∀ t b,bo t=some b->(∃ G,wb known G false b)/\UB b) {n G:Nat} {l:List It} (hw:wb known G false l) (hu:UB l) {t:Tok} (h:Bd bo n l t):known t:=by
 obtain⟨nm,hi,h⟩:=h;exact Bc_known hd n nm t (InC.known hw hu hi) h
end
section
open Go.RowKit
section
variable {P:Program} (w:World)
theorem Blk.setRow {w:World} {b:Nat} {t:TypeId} {c:Array Value} (h:Blk w b t c) (c':Array Value):Blk (w.setRow b c') b t c':=by
 have hlt:=h.lt;unfold Blk at h ⊢;have h':w.heap[b]=.cells c t (0,0):=by simpa [Array.getElem?_eq_getElem hlt] using h
 show (w.heap.modify b _)[b]? = _;rw[Array.getElem?_eq_getElem (by simpa using hlt),Array.getElem_modify_self,h']
theorem run_append_keep (t ty e:TypeId) (i:TypeInfo) (z:Value) (size bytes:Nat) (ht:P.underlying t=some (.slice e)) (hi:P.info? e=some i) (hz:i.zero=some z)
  (hsize:i.size=size) (hby:i.bytes=bytes) (hzs:z.cells.size=size) (hsz:0 < size)
  (v:Value) (n:Nat) (xs:List Value) (hown:w.ownsRow 0 e size v n xs)
  (a:Addr) (m c:Nat) (news:List Value) (hl:news.length=m * size) (hnews:∀ j u,news[j]? = some u->w.cell? (a.add j)=some u) (h1:∀ u∈news,u.oneCell'=true)
  (h63:n+m<=maxLen) (hbytes:(n+m) * bytes<=140737488355328):
  ∃ v' w',(Builtin.append_ #[t,t] ty #[v,.slice (some a) m c]).run P w=.ok v' w'/\w'.ownsRow 0 e size v' (n+m) (xs ++ news)/\w.grownBy w' v.ownBlock /\
   ((∀ k,own v' k->own v k\/w.heap.size<=k)/\w'.ownsRow 0 e size v n xs/\(∀ (q j:Nat) (u:Value),w.cell? ⟨q,j,none⟩=some u->w'.cell? ⟨q,j,none⟩=some u\/∃ x∈news,w'.cell? ⟨q,j,none⟩=some x)):=by
 obtain⟨v',w',hr,ho,hg,hn⟩:=run_append_to (P:=P) w t ty e i z size bytes ht hi hz hsize hby hzs hsz v n xs hown a m c news hl hnews h1 h63 hbytes;have same:∀ (q j:Nat) (u:Value),v.ownBlock ≠ some q->w.cell? ⟨q,j,none⟩=some u->w'.cell? ⟨q,j,none⟩=some u:=by
  intro q j u hq hc;have hlt:q < w.heap.size:=by
   rcases Nat.lt_or_ge q w.heap.size with h|h
   ·exact h
   ·unfold World.cell? at hc;rw[Array.getElem?_eq_none h] at hc;cases hc
  have e:=hg.block q hlt (fun h=>hq h.symm);unfold World.cell? at hc ⊢;rw[e];exact hc
 refine⟨v',w',hr,ho,hg,hn,?_⟩;have hlx:=hown.1;rcases hown.2 with⟨rfl,rfl⟩|⟨g,cap,cur,rfl,hbg,hgg,hnc,hcm,hcs,htake⟩
 ·exact⟨⟨hlx,.inl ⟨rfl,rfl⟩⟩,fun q j u hc=>.inl (same q j u (by simp[Value.ownBlock]) hc)⟩
 ·by_cases hroom:n+m<=cap
  ·have hfit:n * i.size+news.length<=cur.size:=by rw[hl,hcs,hsize,<-Nat.add_mul];exact Nat.mul_le_mul_right _ hroom
   have hr2:=run_append_room (P:=P) w t ty e i ht hi g n cap cur hgg a m c news (by rw[hsize];exact hl) hnews h1 hroom hfit;rw[hr] at hr2;injection hr2 with e1 e2;subst e1;rcases ho.2 with⟨hv,_⟩|⟨g',cap',cur',hv,_,hgg',_,_,hcs',htk'⟩
   ·cases hv
   ·injection hv with q1 q2 q3;injection q1 with q1;injection q1 with q1;subst q1;subst q3;refine⟨⟨hlx,.inr ⟨g,cap,cur',rfl,hbg,hgg',hnc,hcm,hcs',?_⟩⟩,fun q j u hc=>?_⟩
    rotate_left
    ·by_cases hq:q=g
     ·subst hq;have hb:Blk w q e cur:=hgg;have hc0:cur[j]? = some u:=by unfold World.cell? at hc;rw[hgg] at hc;simpa using hc
      have hb':Blk w' q e (cur.toList.take (n * i.size) ++ news ++ cur.toList.drop (n * i.size+news.length)).toArray:=by
       rw[e2];exact Blk.setRow hb _
      have hjl:j < cur.size:=by
       rcases Nat.lt_or_ge j cur.size with h|h
       ·exact h
       ·rw[Array.getElem?_eq_none h] at hc0;cases hc0
      have hln:(cur.toList.take (n * i.size)).length=n * i.size:=by simp;omega
      by_cases h2:j < n * i.size
      ·left
       refine hb'.cell ?_;rw[List.getElem?_toArray,List.append_assoc,List.getElem?_append_left (by omega),List.getElem?_take_of_lt h2];simpa using hc0
      ·by_cases h3:j < n * i.size+news.length
       ·right
        refine⟨news[j - n * i.size]'(by omega),List.getElem_mem _,hb'.cell ?_⟩;rw[List.getElem?_toArray,List.append_assoc,List.getElem?_append_right (by omega),hln,List.getElem?_append_left (by omega),List.getElem?_eq_getElem]
       ·left
        refine hb'.cell ?_;rw[List.getElem?_toArray,List.getElem?_append_right (by simp;omega),List.getElem?_drop];have:n * i.size+news.length+(j - (cur.toList.take (n * i.size) ++ news).length)=j:=by simp only[List.length_append,hln];omega
        rw[this];simpa using hc0
     ·exact .inl (same q j u (by simp[Value.ownBlock];omega) hc)
    have h2:(cur'.toList.take ((n+m) * size)).take (n * size)=(xs ++ news).take (n * size):=by rw[htk']
    have h3:(xs ++ news).take (n * size)=xs:=by rw[<-hlx];simp
    rw[List.take_take,Nat.min_eq_left (Nat.mul_le_mul_right _ (by omega)),h3] at h2;exact h2
  ·subst hsize;subst hby;have holds:∀ j u,xs[j]? = some u->w.cell? ((⟨g,0,none⟩:Addr).add j)=some u:=hown.cells (g:=g) rfl;have hr2:=run_append_grow (P:=P) w t ty e i z ht hi hz ⟨g,0,none⟩ n cap xs hown.1 holds a m c news hl hnews (by omega) (by simp only[maxLen] at h63;omega) (growslice_fits (by omega) hbytes);rw[hr] at hr2;injection hr2 with e1 e2;subst e2;refine⟨(World.ownsRow.alloc (w:=w.drew) hown _),fun q j u hc=>.inl ?_⟩;have hlt:q < w.heap.size:=by
    rcases Nat.lt_or_ge q w.heap.size with h|h
    ·exact h
    ·unfold World.cell? at hc;rw[Array.getElem?_eq_none h] at hc;cases hc
   have e:=Below.heap_alloc w.drew (.cells (xs.toArray ++ news.toArray ++ Builtin.zeroCells z.cells (grownCap w (n+m) cap e - (n+m))) e) q hlt;unfold World.cell? at hc ⊢;rw[e];exact hc
theorem wp_append_keep {o:Oper} {a:Act} {K:Act->World->Prop} {Q:Exit->Act->World->Prop} (s x:Operand) (t:TypeId)
  (ho:o.op=.call { callee:=.builtin .append,args:=#[s,x],argTypes:=#[t,t] })
  (e:TypeId) (i:TypeInfo) (z:Value) (size bytes:Nat) (ht:P.underlying t=some (.slice e)) (hi:P.info? e=some i) (hz:i.zero=some z)
  (hsize:i.size=size) (hby:i.bytes=bytes) (hzs:z.cells.size=size) (hsz:0 < size)
  (v:Value) (n:Nat) (xs:List Value) (hs:a.eval s=v) (hown:w.ownsRow 0 e size v n xs)
  (ad:Addr) (m c:Nat) (news:List Value) (hx:a.eval x=.slice (some ad) m c) (hl:news.length=m * size) (hnews:∀ j u,news[j]? = some u->w.cell? (ad.add j)=some u) (h1:∀ u∈news,u.oneCell'=true)
  (h63:n+m<=maxLen) (hbytes:(n+m) * bytes<=140737488355328)
  (h:∀ v' w',w'.ownsRow 0 e size v' (n+m) (xs ++ news)->w.grownBy w' v.ownBlock->((∀ k,own v' k->own v k\/w.heap.size<=k)/\w'.ownsRow 0 e size v n xs/\(∀ (q j:Nat) (u:Value),w.cell? ⟨q,j,none⟩=some u->w'.cell? ⟨q,j,none⟩=some u\/∃ x∈news,w'.cell? ⟨q,j,none⟩=some x))->K (a.put o.dst v') w'):o.wp P a w K Q:=by
 obtain⟨v',w',hr,h2,h3,h4⟩:=run_append_keep (P:=P) w t o.type e i z size bytes ht hi hz hsize hby hzs hsz v n xs hown ad m c news hl hnews h1 h63 hbytes;unfold Oper.wp execOp;simp only[ho,resolve,invoke,builtin,Sem.run_bind,Sem.run_pure,Result.andThen_ok,List.map_toArray,List.map_cons,List.map_nil,hs,hx,hr];exact h v' w' h2 h3 h4
theorem wpList_append_keep {ops:Array Oper} {rest:List Oper} {o:Oper} {a:Act} {Q:Exit->Act->World->Prop} (hgd:o.guard=none) (s x:Operand) (t:TypeId)
  (ho:o.op=.call { callee:=.builtin .append,args:=#[s,x],argTypes:=#[t,t] })
  (e:TypeId) (i:TypeInfo) (z:Value) (size bytes:Nat) (ht:P.underlying t=some (.slice e)) (hi:P.info? e=some i) (hz:i.zero=some z)
  (hsize:i.size=size) (hby:i.bytes=bytes) (hzs:z.cells.size=size) (hsz:0 < size)
  (v:Value) (n:Nat) (xs:List Value) (hs:a.eval s=v) (hown:w.ownsRow 0 e size v n xs)
  (ad:Addr) (m c:Nat) (news:List Value) (hx:a.eval x=.slice (some ad) m c) (hl:news.length=m * size) (hnews:∀ j u,news[j]? = some u->w.cell? (ad.add j)=some u) (h1:∀ u∈news,u.oneCell'=true)
  (h63:n+m<=maxLen) (hbytes:(n+m) * bytes<=140737488355328)
  (h:∀ v' w',w'.ownsRow 0 e size v' (n+m) (xs ++ news)->w.grownBy w' v.ownBlock->((∀ k,own v' k->own v k\/w.heap.size<=k)/\w'.ownsRow 0 e size v n xs/\(∀ (q j:Nat) (u:Value),w.cell? ⟨q,j,none⟩=some u->w'.cell? ⟨q,j,none⟩=some u\/∃ x∈news,w'.cell? ⟨q,j,none⟩=some x))->wpList P ops Q rest (a.put o.dst v') w'):wpList P ops Q (o :: rest) a w:=
 wpList_plain hgd fun _ hK=>wp_append_keep w s x t ho e i z size bytes ht hi hz hsize hby hzs hsz v n xs hs hown ad m c news hx hl hnews h1 h63 hbytes fun v' w' h2 h3 h4=>hK _ _ (h v' w' h2 h3 h4)
end
end
section
open Go.RowKit
variable {K:Nat->Prop}
def freshL (s:St):St:={ s with e:=0,steps:=0,depth:=0,out:=⟨#[]⟩ }
theorem fields_len:∀ (l cur:List UInt8),(Lib.fieldsGo cur l).length<=l.length+1
 | [],cur=>by unfold Lib.fieldsGo;split <;> simp
 | b :: l,cur=>by
  unfold Lib.fieldsGo;have h1:=fields_len l [];have h2:=fields_len l (cur ++ [b])
  split
  ·split <;> simp <;> omega
  ·simp only[List.length_cons];omega
end
end Go.Proofs.YteainaiebcphlaaGreatDoor
