import Derived.Test.YteainaiebcphlaaGreatDoorX13
import Derived.Test.YteainaiebcphlaaGreatDoorX1
import Derived.Test.YteainaiebcphlaaGreatDoorX8
import Derived.Lib.SmallJoins
namespace Go.Proofs.YteainaiebcphlaaGreatDoor
set_option maxRecDepth 1000000
set_option maxHeartbeats 4000000
set_option linter.all false
section
open Go.RowKit
theorem SGood.step {s:St} (h:SGood s) (he:s.e=0):SGood s.step:=by
 have h2:=h.s2 he;have h0:=h.s0;unfold St.step
 split
 ·exact⟨h.g,by show 0<=s.steps+1;omega,by show s.steps+1<=2001;omega,fun _=>by show s.steps+1<=2000;omega,h.d0,h.d1,h.b0,h.b1,h.cb⟩
 ·exact⟨h.g,by show 0<=s.steps+1;omega,by show s.steps+1<=2001;omega,(fun h=>by cases h),h.d0,h.d1,h.b0,h.b1,h.cb⟩
theorem SGood.put {s:St} (h:SGood s) {n:Int} (hn:In n):SGood (s.put n):=by
 unfold St.put
 split
 ·exact⟨⟨by simp only[List.mem_cons,forall_eq_or_imp];exact⟨hn,h.g.ins⟩,h.g.mems,by simp only[List.length_cons];omega,h.g.osz⟩,h.s0,h.s1,h.s2,h.d0,h.d1,h.b0,h.b1,h.cb⟩
 ·exact⟨h.g,h.s0,h.s1,(fun h=>by cases h),h.d0,h.d1,h.b0,h.b1,h.cb⟩
theorem SGood.word {s:St} (h:SGood s) (he:s.e=0) (k:Nat):SGood (s.word k):=by
 have hf:Fine (plainP k s.rs s.mem s.out):=plain_fine _ h.g;exact⟨hf,h.s0,h.s1,fun _=>h.s2 he,h.d0,h.d1,h.b0,h.b1,h.cb⟩
theorem SGood.err {s:St} (h:SGood s) {k:Int} (hk:k ≠ 0):SGood (s.err k):=⟨h.g,h.s0,h.s1,(fun e=>absurd e hk),h.d0,h.d1,h.b0,h.b1,h.cb⟩
theorem SGood.tail {s:St} (h:SGood s) {r:List Int} (hr:∀ x∈r,x∈s.rs) (hl:r.length<=s.rs.length):SGood { s with rs:=r }:=
 ⟨⟨fun x hx=>h.g.ins x (hr x hx),h.g.mems,Nat.le_trans hl h.g.len,h.g.osz⟩,h.s0,h.s1,h.s2,h.d0,h.d1,h.b0,h.b1,h.cb⟩
theorem SGood.test {s:St} (h:SGood s) (he:s.e=0):SGood s.test.1:=by
 have h1:=h.step he;unfold St.test
 split
 ·split
  ·exact h1.err (by decide)
  ·rename_i a r hr
   exact h1.tail (fun x hx=>by rw[hr];simp[hx]) (by rw[hr];simp)
 ·exact h1
theorem SGood.dep {s:St} (h:SGood s) {n:Int} (h0:0<=n) (h1:n<=20):SGood { s with depth:=n }:=⟨h.g,h.s0,h.s1,h.s2,h0,h1,h.b0,h.b1,h.cb⟩
theorem knows_iff {s:St} {t:Tok}:knows s t<->∃ d∈s.defs,(d.name == t)=true:=by
 unfold knows St.known St.find;rw[List.findIdx?_isSome,List.any_eq_true]
theorem set_defs_name {s:St} {nm:Tok} {b:List It} {d:Def} (hd:d∈s.defs):∃ d'∈(s.set nm b).defs,d'.name=d.name:=by
 obtain⟨i,hi,rfl⟩:=List.mem_iff_getElem.1 hd;unfold St.set;dsimp only
 cases hf:s.find nm with
 | none=>
  refine⟨slowIf nm s.defs[i],?_,slowIf_name _ _⟩;exact List.mem_append_left _ (List.mem_map_of_mem (List.getElem_mem hi))
 | some k=>
  by_cases hik:i=k
  ·subst hik;obtain⟨h1,h2,_⟩:=List.findIdx?_eq_some_iff_getElem.1 hf;refine⟨⟨nm,wrap64 (s.ids+1),b,0,false,[]⟩,?_,by have:=eq_of_beq h2;exact this.symm⟩;rw[List.mem_iff_getElem];exact⟨i,by simpa using hi,by simp⟩
  ·refine⟨slowIf nm s.defs[i],?_,slowIf_name _ _⟩;rw[List.mem_iff_getElem];refine⟨i,by simpa using hi,?_⟩;rw[List.getElem_set_ne (by omega),List.getElem_map];rfl
theorem set_knows {s:St} {nm:Tok} {b:List It} {t:Tok} (h:knows s t):knows (s.set nm b) t:=by
 rw[knows_iff] at h ⊢;obtain⟨d,hd,ht⟩:=h;obtain⟨d',hd',e⟩:=set_defs_name (nm:=nm) (b:=b) hd;exact⟨d',hd',by rw[e];exact ht⟩
theorem set_body {s:St} {nm:Tok} {b:List It} {d:Def} (hd:d∈(s.set nm b).defs):d.body=b\/∃ d0∈s.defs,d.body=d0.body:=by
 have key:∀ d∈s.defs.map (slowIf nm),∃ d0∈s.defs,d.body=d0.body:=by
  intro d hd;obtain⟨d0,h0,rfl⟩:=List.mem_map.1 hd;exact⟨d0,h0,slowIf_body _ _⟩
 unfold St.set at hd;dsimp only at hd
 cases hf:s.find nm with
 | none=>
  rw[hf] at hd;rcases List.mem_append.1 hd with h|h
  ·exact .inr (key d h)
  ·simp at h;rw[h];exact .inl rfl
 | some k=>
  rw[hf] at hd;rcases List.mem_or_eq_of_mem_set hd with h|h
  ·exact .inr (key d h)
  ·rw[h];exact .inl rfl
theorem WFs.set {s:St} (h:WFs s) {nm:Tok} {b:List It} {G:Nat} (hb:wb (knows s) G false b) (hcb:CBnd b):WFs (s.set nm b):=by
 have hg:=h.g;refine⟨⟨hg.g,hg.s0,hg.s1,hg.s2,hg.d0,hg.d1,hg.b0,hg.b1,fun d hd=>by
  rcases set_body hd with e|⟨d0,h0,e⟩
  ·rw[e];exact hcb
  ·rw[e];exact hg.cb d0 h0⟩,fun d hd=>?_,h.st⟩
 rcases set_body hd with e|⟨d0,h0,e⟩
 ·exact⟨G,by rw[e];exact wb_known (fun t ht=>set_knows ht) _ _ _ hb⟩
 ·obtain⟨g,hg⟩:=h.d d0 h0;exact⟨g,by rw[e];exact wb_known (fun t ht=>set_knows ht) _ _ _ hg⟩
theorem WFs.same {s s':St} (h:WFs s) (hg:SGood s') (hd:s'.defs=s.defs):WFs s'/\∀ t,knows s t->knows s' t:=by
 refine⟨⟨hg,fun d hm=>?_,hg.s2⟩,fun t ht=>(knows_def hd).2 ht⟩;rw[hd] at hm;obtain⟨g,hg⟩:=h.d d hm;exact⟨g,wb_known (fun t ht=>(knows_def hd).2 ht) _ _ _ hg⟩
theorem step_defs (s:St):s.step.defs=s.defs:=by unfold St.step;split <;> rfl
theorem step_ok {s:St} (he:s.e=0) (h:s.step.e=0):s.steps < 2000:=by
 unfold St.step at h
 split at h
 ·assumption
 ·cases h
theorem put_defs (s:St) (n:Int):(s.put n).defs=s.defs:=by unfold St.put;split <;> rfl
theorem test_defs (s:St):s.test.1.defs=s.defs:=by
 unfold St.test;split
 ·split
  ·exact step_defs s
  ·exact step_defs s
 ·exact step_defs s
theorem test_ok {s:St} (he:s.e=0) (h:s.test.1.e=0):s.steps < 2000:=by
 unfold St.test at h
 split at h
 ·exact step_ok he (by assumption)
 ·exact absurd h (by assumption)
def rem (s:St):Nat:=(2001 - s.steps).toNat
def Tot (j:XJ) (s:St):Prop:=∃ g s' left,xRun g j s=some (s',left)/\WFs s'/\∀ t,knows s t->knows s' t
def wbF (s:St) (f:Fr):Prop:=∃ G,wb (knows s) G false f.body
theorem wbF.mono {s s':St} {f:Fr} (h:wbF s f) (hk:∀ t,knows s t->knows s' t):wbF s' f:=by
 obtain⟨G,hG⟩:=h;exact⟨G,wb_known hk _ _ _ hG⟩
structure TotN (N:Nat):Prop where
 body:∀ (G:Nat) (s:St) (f:Fr) (lp:List Int) (l:List It) (lo:Bool),WFs s->s.e=0->rem s<=N->wb (knows s) G lo l->wbF s f->(lo=true->lp ≠ [])->(∀ n∈lp,In n)->Tot (jBody f lp l) s
 item:∀ (G:Nat) (s:St) (f:Fr) (lp:List Int) (x:It) (lo:Bool),WFs s->s.e=0->rem s<=N->okIt (knows s) (wb (knows s) G) lo x->wbF s f->(lo=true->lp ≠ [])->(∀ n∈lp,In n)->Tot (jItem f lp x) s
 do_:∀ (G:Nat) (s:St) (f:Fr) (lp:List Int) (n m:Int) (l:List It),WFs s->s.e=0->rem s<=N->wb (knows s) G true l->wbF s f->(∀ n∈lp,In n)->In n->In m->Tot (jDo f lp n m l) s
 enter:∀ (s:St) (f:Fr),WFs s->s.e=0->rem s<=N->wbF s f->Tot (jEnter f) s
 call:∀ (s:St) (t:Tok),WFs s->s.e=0->rem s<=N->knows s t->Tot (jCall t) s
 toks:∀ (s:St) (ts:List Tok),WFs s->(s.e=0->rem s<=N)->ts.length<=1000->Tot (jToks ts) s
theorem tot_of {j:XJ} {s:St} {g:Nat} {s':St} {left:Bool} (h:xRun g j s=some (s',left)) (hw:WFs s') (hk:∀ t,knows s t->knows s' t):Tot j s:=⟨g,s',left,h,hw,hk⟩
theorem TotN.zero:TotN 0:=by
 have no:∀ s:St,WFs s->s.e=0->rem s<=0->False:=by
  intro s hw he hr;have:=hw.st he;unfold rem at hr;omega
 refine⟨fun G s f lp l lo hw he hr=>(no s hw he hr).elim,fun G s f lp l lo hw he hr=>(no s hw he hr).elim,fun G s f lp n m l hw he hr=>(no s hw he hr).elim,fun s f hw he hr=>(no s hw he hr).elim,fun s t hw he hr=>(no s hw he hr).elim,fun s ts hw hr _=>?_⟩;by_cases he:s.e=0
 ·exact (no s hw he (hr he)).elim
 ·exact tot_of (x_terr 0 s ts he) hw (fun _ h=>h)
theorem step_next {N:Nat} {s:St} (hw:WFs s) (he:s.e=0) (hr:rem s<=N+1):WFs s.step/\(∀ t,knows s t->knows s.step t)/\(s.step.e=0->rem s.step<=N/\s.step.steps<=2000):=by
 have h1:=hw.same (hw.g.step he) (step_defs s);refine⟨h1.1,h1.2,fun h=>?_⟩;have:=step_ok he h;unfold rem at hr ⊢;rw[St.step_steps];omega
theorem test_next {N:Nat} {s:St} (hw:WFs s) (he:s.e=0) (hr:rem s<=N+1):WFs s.test.1/\(∀ t,knows s t->knows s.test.1 t)/\(s.test.1.e=0->rem s.test.1<=N):=by
 have h1:=hw.same (hw.g.test he) (test_defs s);refine⟨h1.1,h1.2,fun h=>?_⟩;have:=test_ok he h;unfold rem at hr ⊢;rw[St.test_steps];omega
theorem rem_le {g:Nat} {j:XJ} {s s':St} {left:Bool} (h:xRun g j s=some (s',left)):rem s'<=rem s:=by
 have:=(xRun_keep _ _ _ _ _ h).2;unfold rem;omega
theorem item_tot {N:Nat} (H:TotN N) (G:Nat) (hB:∀ (s:St) (f:Fr) (lp:List Int) (l:List It) (lo:Bool),WFs s->s.e=0->rem s<=N+1->wb (knows s) G lo l->wbF s f->(lo=true->lp ≠ [])->(∀ n∈lp,In n)->Tot (jBody f lp l) s)
  (s:St) (f:Fr) (lp:List Int) (x:It) (lo:Bool) (hw:WFs s) (he:s.e=0) (hr:rem s<=N+1) (hx:okIt (knows s) (wb (knows s) G) lo x) (hf:wbF s f) (hlp:lo=true->lp ≠ []) (hlI:∀ n∈lp,In n):Tot (jItem f lp x) s:=by
 obtain⟨tw,tk,tr⟩:=test_next hw he hr;obtain⟨sw,sk,sr⟩:=step_next hw he hr;by_cases k63:x.kind=63
 ·have hsub:wb (knows s) G lo x.a/\wb (knows s) G lo x.b:=by
   rcases hx with⟨h,h1,h2⟩|⟨h,h1,h2⟩|⟨h,h1,h2⟩
   ·rw[h1,h2];exact⟨wb_nil _ _ _,wb_nil _ _ _⟩
   ·exact⟨h1,h2⟩
   ·omega
  by_cases e1:s.test.1.e=0
  ·by_cases e2:s.test.2=true
   ·obtain⟨g,s',left,h,h1,h2⟩:=H.body G s.test.1 f lp x.a lo tw e1 (tr e1) (wb_known tk _ _ _ hsub.1) (hf.mono tk) hlp hlI;exact tot_of (g:=g+1) (by rw[x_if _ _ _ _ _ k63,if_neg (by simp[e1]),if_pos e2];exact h) h1 (fun t ht=>h2 t (tk t ht))
   ·obtain⟨g,s',left,h,h1,h2⟩:=H.body G s.test.1 f lp x.b lo tw e1 (tr e1) (wb_known tk _ _ _ hsub.2) (hf.mono tk) hlp hlI;exact tot_of (g:=g+1) (by rw[x_if _ _ _ _ _ k63,if_neg (by simp[e1]),if_neg e2];exact h) h1 (fun t ht=>h2 t (tk t ht))
  ·exact tot_of (g:=1) (by rw[x_if _ _ _ _ _ k63,if_pos e1]) tw tk
 by_cases k117:x.kind=117
 ·have hsub:wb (knows s) G lo x.a:=by
   rcases hx with⟨h,h1,h2⟩|⟨h,h1,h2⟩|⟨h,h1,h2⟩
   ·rw[h1];exact wb_nil _ _ _
   ·exact h1
   ·omega
  obtain⟨g1,s1,left1,h1,w1,kk1⟩:=hB s f lp x.a lo hw he hr hsub hf hlp hlI;by_cases e0:left1=true
  ·exact tot_of (g:=g1+1) (by rw[x_until _ _ _ _ _ k117,h1];dsimp only;rw[if_pos e0]) w1 kk1
  have e0':left1=false:=by simpa using e0
  subst e0';have he1:=xBody_e _ _ _ _ _ _ he h1;have hr1:rem s1<=N+1:=Nat.le_trans (rem_le h1) hr;obtain⟨tw1,tk1,tr1⟩:=test_next w1 he1 hr1;by_cases e1:s1.test.1.e=0
  ·by_cases e2:s1.test.2=true
   ·exact tot_of (g:=g1+1) (by rw[x_until _ _ _ _ _ k117,h1];dsimp only;rw[if_neg (by simp),if_neg (by simp[e1]),if_pos e2]) tw1 (fun t ht=>tk1 t (kk1 t ht))
   ·obtain⟨g2,s2,left2,h2,w2,kk2⟩:=H.item G s1.test.1 f lp x lo tw1 e1 (tr1 e1) (hx.mono (fun t ht=>tk1 t (kk1 t ht)) (fun lo l=>wb_known (fun t ht=>tk1 t (kk1 t ht)) G lo l)) (hf.mono (fun t ht=>tk1 t (kk1 t ht))) hlp hlI;have h1':=xRun_mono (g':=g1+g2) (by omega) h1;have h2':=xRun_mono (g':=g1+g2) (by omega) h2;exact tot_of (g:=g1+g2+1) (by rw[x_until _ _ _ _ _ k117,h1'];dsimp only;rw[if_neg (by simp),if_neg (by simp[e1]),if_neg e2];exact h2') w2 (fun t ht=>kk2 t (tk1 t (kk1 t ht)))
  ·exact tot_of (g:=g1+1) (by rw[x_until _ _ _ _ _ k117,h1];dsimp only;rw[if_neg (by simp),if_pos e1]) tw1 (fun t ht=>tk1 t (kk1 t ht))
 by_cases k119:x.kind=119
 ·have hsub:wb (knows s) G lo x.a/\wb (knows s) G lo x.b:=by
   rcases hx with⟨h,h1,h2⟩|⟨h,h1,h2⟩|⟨h,h1,h2⟩
   ·rw[h1,h2];exact⟨wb_nil _ _ _,wb_nil _ _ _⟩
   ·exact⟨h1,h2⟩
   ·omega
  obtain⟨g1,s1,left1,h1,w1,kk1⟩:=hB s f lp x.a lo hw he hr hsub.1 hf hlp hlI;by_cases e0:left1=true
  ·exact tot_of (g:=g1+1) (by rw[x_while _ _ _ _ _ k119,h1];dsimp only;rw[if_pos e0]) w1 kk1
  have e0':left1=false:=by simpa using e0
  subst e0';have he1:=xBody_e _ _ _ _ _ _ he h1;have hr1:rem s1<=N+1:=Nat.le_trans (rem_le h1) hr;obtain⟨tw1,tk1,tr1⟩:=test_next w1 he1 hr1;by_cases e1:s1.test.1.e=0
  ·by_cases e2:s1.test.2=false
   ·exact tot_of (g:=g1+1) (by rw[x_while _ _ _ _ _ k119,h1];dsimp only;rw[if_neg (by simp),if_neg (by simp[e1]),if_pos e2]) tw1 (fun t ht=>tk1 t (kk1 t ht))
   ·have kk1t:∀ t,knows s t->knows s1.test.1 t:=fun t ht=>tk1 t (kk1 t ht);obtain⟨g2,s2,left2,h2,w2,kk2⟩:=H.body G s1.test.1 f lp x.b lo tw1 e1 (tr1 e1) (wb_known kk1t _ _ _ hsub.2) (hf.mono kk1t) hlp hlI;have h1':=xRun_mono (g':=g1+g2) (by omega) h1;have h2':=xRun_mono (g':=g1+g2) (by omega) h2;by_cases e3:left2=true
    ·exact tot_of (g:=g1+g2+1) (by rw[x_while _ _ _ _ _ k119,h1'];dsimp only;rw[if_neg (by simp),if_neg (by simp[e1]),if_neg e2,h2'];dsimp only;rw[if_pos e3]) w2 (fun t ht=>kk2 t (kk1t t ht))
    have e3':left2=false:=by simpa using e3
    subst e3';have he2:=xBody_e _ _ _ _ _ _ e1 h2;have kk2t:∀ t,knows s t->knows s2 t:=fun t ht=>kk2 t (kk1t t ht);obtain⟨g3,s3,left3,h3,w3,kk3⟩:=H.item G s2 f lp x lo w2 he2 (Nat.le_trans (rem_le h2) (tr1 e1)) (hx.mono kk2t (fun lo l=>wb_known kk2t G lo l)) (hf.mono kk2t) hlp hlI;have h1'':=xRun_mono (g':=g1+g2+g3) (by omega) h1;have h2'':=xRun_mono (g':=g1+g2+g3) (by omega) h2;have h3'':=xRun_mono (g':=g1+g2+g3) (by omega) h3;exact tot_of (g:=g1+g2+g3+1) (by rw[x_while _ _ _ _ _ k119,h1''];dsimp only;rw[if_neg (by simp),if_neg (by simp[e1]),if_neg e2,h2''];dsimp only;rw[if_neg (by simp)];exact h3'') w3 (fun t ht=>kk3 t (kk2t t ht))
  ·exact tot_of (g:=g1+1) (by rw[x_while _ _ _ _ _ k119,h1];dsimp only;rw[if_neg (by simp),if_pos e1]) tw1 (fun t ht=>tk1 t (kk1 t ht))
 by_cases e1:s.step.e=0
 ·obtain⟨srr,s20⟩:=sr e1;have goal:∀ g r,xOne g f lp x s.step=some r->xRun (g+1) (jItem f lp x) s=some r:=fun g r h=>by rw[x_one _ _ _ _ _ k63 k117 k119,if_neg (by simp[e1])];exact h
  rcases hx with⟨h,h1,h2⟩|⟨h,h1,h2⟩|⟨h,h1,h2⟩
  ·rcases h with h|h|h|h|h|h|h
   ·have hn:=sw.same (s':=s.step.put x.n) (sw.g.put h.2) (put_defs _ _);exact tot_of (goal 0 _ (by unfold xOne;rw[if_pos h.1])) hn.1 (fun t ht=>hn.2 t (sk t ht))
   ·obtain⟨g,s2,l2,hx2,w2,kk2⟩:=H.enter s.step f sw e1 srr (hf.mono sk);exact tot_of (goal g _ (by unfold xOne;rw[if_neg (by omega),if_neg (by omega),if_neg (by omega),if_neg (by omega),if_pos h,hx2])) w2 (fun t ht=>kk2 t (sk t ht))
   ·exact tot_of (goal 0 _ (by unfold xOne;rw[if_neg (by omega),if_neg (by omega),if_neg (by omega),if_pos h])) sw sk
   ·by_cases hd:20<=s.step.depth
    ·have hn:=sw.same (s':=s.step.err 8) (sw.g.err (by decide)) rfl;exact tot_of (goal 0 _ (by unfold xOne;rw[if_neg (by omega),if_neg (by omega),if_neg (by omega),if_neg (by omega),if_neg (by omega),if_neg (by omega),if_pos h.1,if_pos hd])) hn.1 (fun t ht=>hn.2 t (sk t ht))
    ·have hn:=sw.same (s':={ s.step with depth:=s.step.depth+1 }) (sw.g.dep (by have:=sw.g.d0;omega) (by omega)) rfl;obtain⟨g,s2,l2,hx2,w2,kk2⟩:=H.toks { s.step with depth:=s.step.depth+1 } x.toks hn.1 (fun _=>srr) h.2;have hdp:=(xRun_keep _ _ _ _ _ hx2).1;have hn2:=w2.same (s':={ s2 with depth:=s2.depth - 1 }) (w2.g.dep (by have:=sw.g.d0;dsimp only at hdp;omega) (by have:=w2.g.d1;omega)) rfl;exact tot_of (goal g _ (by unfold xOne;rw[if_neg (by omega),if_neg (by omega),if_neg (by omega),if_neg (by omega),if_neg (by omega),if_neg (by omega),if_pos h.1,if_neg hd,hx2])) hn2.1 (fun t ht=>hn2.2 t (kk2 t (hn.2 t (sk t ht))))
   ·obtain⟨hk,hp⟩:=h
    cases hq:plainL.findIdx? (· == x.name) with
    | none=>rw[hq] at hp;cases hp
    | some k=>
     have hn:=sw.same (s':=s.step.word k) (sw.g.word e1 k) rfl;exact tot_of (goal 0 _ (by unfold xOne;rw[if_neg (by omega),if_pos hk,hq])) hn.1 (fun t ht=>hn.2 t (sk t ht))
   ·obtain⟨hk,hp⟩:=h;obtain⟨g,s2,l2,hx2,w2,kk2⟩:=H.call s.step x.name sw e1 srr (sk _ hp);exact tot_of (goal g _ (by unfold xOne;rw[if_neg (by omega),if_neg (by omega),if_neg (by omega),if_neg (by omega),if_neg (by omega),if_pos hk,hx2])) w2 (fun t ht=>kk2 t (sk t ht))
   ·obtain⟨hk,hp⟩:=h
    cases lp with
    | nil=>exact absurd rfl (hlp hp)
    | cons i r=>
     have hn:=sw.same (s':=s.step.put i) (sw.g.put (hlI i (by simp))) (put_defs _ _);exact tot_of (goal 0 _ (by unfold xOne;rw[if_neg (by omega),if_neg (by omega),if_pos hk])) hn.1 (fun t ht=>hn.2 t (sk t ht))
  ·omega
  ·have hun:∀ g,xOne g f lp x s.step=xLoop g f lp x.a s.step:=fun g=>by
    unfold xOne xLoop;rw[if_neg (by omega),if_neg (by omega),if_neg (by omega),if_neg (by omega),if_neg (by omega),if_neg (by omega),if_neg (by omega),if_pos h];rfl
   cases hrs:s.step.rs with
   | nil=>
    have hn:=sw.same (s':=s.step.err 6) (sw.g.err (by decide)) rfl;exact tot_of (goal 0 _ (by rw[hun];unfold xLoop;rw[hrs])) hn.1 (fun t ht=>hn.2 t (sk t ht))
   | cons b r=>
    cases r with
    | nil=>
     have hn:=sw.same (s':=s.step.err 6) (sw.g.err (by decide)) rfl;exact tot_of (goal 0 _ (by rw[hun];unfold xLoop;rw[hrs])) hn.1 (fun t ht=>hn.2 t (sk t ht))
    | cons m r=>
     have hn:=sw.same (s':={ s.step with rs:=r }) (sw.g.tail (fun x hx=>by rw[hrs];simp[hx]) (by rw[hrs];simp;omega)) rfl;obtain⟨g,s2,l2,hx2,w2,kk2⟩:=H.do_ G { s.step with rs:=r } f lp b m x.a hn.1 e1 srr (wb_known (fun t ht=>hn.2 t (sk t ht)) _ _ _ h1) (hf.mono (fun t ht=>hn.2 t (sk t ht))) hlI (sw.g.g.ins b (by rw[hrs];simp)) (sw.g.g.ins m (by rw[hrs];simp));exact tot_of (goal g _ (by rw[hun];unfold xLoop;rw[hrs];exact hx2)) w2 (fun t ht=>kk2 t (hn.2 t (sk t ht)))
 ·exact tot_of (g:=1) (by rw[x_one _ _ _ _ _ k63 k117 k119,if_pos e1]) sw sk
theorem body_tot {N:Nat} (H:TotN N):∀ (G:Nat) (s:St) (f:Fr) (lp:List Int) (l:List It) (lo:Bool),WFs s->s.e=0->rem s<=N+1->wb (knows s) G lo l->wbF s f->(lo=true->lp ≠ [])->(∀ n∈lp,In n)->Tot (jBody f lp l) s:=by
 intro G
 induction G with
 | zero=>
  intro s f lp l lo hw he hr hl hf hlp hlI;have hl:l=[]:=hl;subst hl;exact tot_of (x_nil 0 f lp s) hw (fun _ h=>h)
 | succ G ih=>
  intro s f lp l
  induction l generalizing s with
  | nil=>intro lo hw he hr hl hf hlp hlI;exact tot_of (x_nil 0 f lp s) hw (fun _ h=>h)
  | cons x l ihl=>
   intro lo hw he hr hl hf hlp hlI;obtain⟨g1,s1,left1,h1,w1,kk1⟩:=item_tot H G ih s f lp x lo hw he hr (hl x (by simp)) hf hlp hlI;by_cases hc:left1=true\/s1.e ≠ 0
   ·exact tot_of (g:=g1+1) (by rw[x_cons,h1];dsimp only;rw[if_pos hc]) w1 kk1
   ·have he1:s1.e=0:=by
     by_cases h:s1.e=0
     ·exact h
     ·exact absurd (.inr h) hc
    obtain⟨g2,s2,left2,h2,w2,kk2⟩:=ihl s1 lo w1 he1 (Nat.le_trans (rem_le h1) hr) (wb_known kk1 _ _ _ (fun y hy=>hl y (by simp[hy]))) (hf.mono kk1) hlp hlI;have h1':=xRun_mono (g':=g1+g2) (by omega) h1;have h2':=xRun_mono (g':=g1+g2) (by omega) h2;exact tot_of (g:=g1+g2+1) (by rw[x_cons,h1'];dsimp only;rw[if_neg hc];exact h2') w2 (fun t ht=>kk2 t (kk1 t ht))
end
section
open Go.RowKit
section
variable {P:Program} (w:World)
theorem Blk.setRow {w:World} {b:Nat} {t:TypeId} {c:Array Value} (h:Blk w b t c) (c':Array Value):Blk (w.setRow b c') b t c':=by
 have hlt:=h.lt;unfold Blk at h ⊢;have h':w.heap[b]=.cells c t (0,0):=by simpa [Array.getElem?_eq_getElem hlt] using h
 show (w.heap.modify b _)[b]? = _;rw[Array.getElem?_eq_getElem (by simpa using hlt),Array.getElem_modify_self,h']
theorem run_append_keep (t ty e:TypeId) (i:TypeInfo) (z:Value) (size bytes:Nat) (ht:P.underlying t=some (.slice e)) (hi:P.info? e=some i) (hz:i.zero=some z)
  (hsize:i.size=size) (hby:i.bytes=bytes) (hzs:z.cells.size=size) (hsz:0 < size)
  (v:Value) (n:Nat) (xs:List Value) (hown:w.ownsRow 0 e size v n xs)
  (a:Addr) (m c:Nat) (news:List Value) (hl:news.length=m * size) (hnews:∀ j u,news[j]? = some u->w.cell? (a.add j)=some u) (h1:∀ u∈news,u.oneCell'=true)
  (h63:n+m<=maxLen) (hbytes:(n+m) * bytes<=140737488355328):
  ∃ v' w',(Builtin.append_ #[t,t] ty #[v,.slice (some a) m c]).run P w=.ok v' w'/\w'.ownsRow 0 e size v' (n+m) (xs ++ news)/\w.grownBy w' v.ownBlock /\
   ((∀ k,own v' k->own v k\/w.heap.size<=k)/\w'.ownsRow 0 e size v n xs/\(∀ (q j:Nat) (u:Value),w.cell? ⟨q,j,none⟩=some u->w'.cell? ⟨q,j,none⟩=some u\/∃ x∈news,w'.cell? ⟨q,j,none⟩=some x)):=by
 obtain⟨v',w',hr,ho,hg,hn⟩:=run_append_to (P:=P) w t ty e i z size bytes ht hi hz hsize hby hzs hsz v n xs hown a m c news hl hnews h1 h63 hbytes;have same:∀ (q j:Nat) (u:Value),v.ownBlock ≠ some q->w.cell? ⟨q,j,none⟩=some u->w'.cell? ⟨q,j,none⟩=some u:=by
  intro q j u hq hc;have hlt:q < w.heap.size:=by
   rcases Nat.lt_or_ge q w.heap.size with h|h
   ·exact h
   ·unfold World.cell? at hc;rw[Array.getElem?_eq_none h] at hc;cases hc
  have e:=hg.block q hlt (fun h=>hq h.symm);unfold World.cell? at hc ⊢;rw[e];exact hc
 refine⟨v',w',hr,ho,hg,hn,?_⟩;have hlx:=hown.1;rcases hown.2 with⟨rfl,rfl⟩|⟨g,cap,cur,rfl,hbg,hgg,hnc,hcm,hcs,htake⟩
 ·exact⟨⟨hlx,.inl ⟨rfl,rfl⟩⟩,fun q j u hc=>.inl (same q j u (by simp[Value.ownBlock]) hc)⟩
 ·by_cases hroom:n+m<=cap
  ·have hfit:n * i.size+news.length<=cur.size:=by rw[hl,hcs,hsize,<-Nat.add_mul];exact Nat.mul_le_mul_right _ hroom
   have hr2:=run_append_room (P:=P) w t ty e i ht hi g n cap cur hgg a m c news (by rw[hsize];exact hl) hnews h1 hroom hfit;rw[hr] at hr2;injection hr2 with e1 e2;subst e1;rcases ho.2 with⟨hv,_⟩|⟨g',cap',cur',hv,_,hgg',_,_,hcs',htk'⟩
   ·cases hv
   ·injection hv with q1 q2 q3;injection q1 with q1;injection q1 with q1;subst q1;subst q3;refine⟨⟨hlx,.inr ⟨g,cap,cur',rfl,hbg,hgg',hnc,hcm,hcs',?_⟩⟩,fun q j u hc=>?_⟩
    rotate_left
    ·by_cases hq:q=g
     ·subst hq;have hb:Blk w q e cur:=hgg;have hc0:cur[j]? = some u:=by unfold World.cell? at hc;rw[hgg] at hc;simpa using hc
      have hb':Blk w' q e (cur.toList.take (n * i.size) ++ news ++ cur.toList.drop (n * i.size+news.length)).toArray:=by
       rw[e2];exact Blk.setRow hb _
      have hjl:j < cur.size:=by
       rcases Nat.lt_or_ge j cur.size with h|h
       ·exact h
       ·rw[Array.getElem?_eq_none h] at hc0;cases hc0
      have hln:(cur.toList.take (n * i.size)).length=n * i.size:=by simp;omega
      by_cases h2:j < n * i.size
      ·left
       refine hb'.cell ?_;rw[List.getElem?_toArray,List.append_assoc,List.getElem?_append_left (by omega),List.getElem?_take_of_lt h2];simpa using hc0
      ·by_cases h3:j < n * i.size+news.length
       ·right
        refine⟨news[j - n * i.size]'(by omega),List.getElem_mem _,hb'.cell ?_⟩;rw[List.getElem?_toArray,List.append_assoc,List.getElem?_append_right (by omega),hln,List.getElem?_append_left (by omega),List.getElem?_eq_getElem]
       ·left
        refine hb'.cell ?_;rw[List.getElem?_toArray,List.getElem?_append_right (by simp;omega),List.getElem?_drop];have:n * i.size+news.length+(j - (cur.toList.take (n * i.size) ++ news).length)=j:=by simp only[List.length_append,hln];omega
        rw[this];simpa using hc0
     ·exact .inl (same q j u (by simp[Value.ownBlock];omega) hc)
    have h2:(cur'.toList.take ((n+m) * size)).take (n * size)=(xs ++ news).take (n * size):=by rw[htk']
    have h3:(xs ++ news).take (n * size)=xs:=by rw[<-hlx];simp
    rw[List.take_take,Nat.min_eq_left (Nat.mul_le_mul_right _ (by omega)),h3] at h2;exact h2
  ·subst hsize;subst hby;have holds:∀ j u,xs[j]? = some u->w.cell? ((⟨g,0,none⟩:Addr).add j)=some u:=hown.cells (g:=g) rfl;have hr2:=run_append_grow (P:=P) w t ty e i z ht hi hz ⟨g,0,none⟩ n cap xs hown.1 holds a m c news hl hnews (by omega) (by simp only[maxLen] at h63;omega) (growslice_fits (by omega) hbytes);rw[hr] at hr2;injection hr2 with e1 e2;subst e2;refine⟨(World.ownsRow.alloc (w:=w.drew) hown _),fun q j u hc=>.inl ?_⟩;have hlt:q < w.heap.size:=by
    rcases Nat.lt_or_ge q w.heap.size with h|h
    ·exact h
    ·unfold World.cell? at hc;rw[Array.getElem?_eq_none h] at hc;cases hc
   have e:=Below.heap_alloc w.drew (.cells (xs.toArray ++ news.toArray ++ Builtin.zeroCells z.cells (grownCap w (n+m) cap e - (n+m))) e) q hlt;unfold World.cell? at hc ⊢;rw[e];exact hc
theorem wp_append_keep {o:Oper} {a:Act} {K:Act->World->Prop} {Q:Exit->Act->World->Prop} (s x:Operand) (t:TypeId)
  (ho:o.op=.call { callee:=.builtin .append,args:=#[s,x],argTypes:=#[t,t] })
  (e:TypeId) (i:TypeInfo) (z:Value) (size bytes:Nat) (ht:P.underlying t=some (.slice e)) (hi:P.info? e=some i) (hz:i.zero=some z)
  (hsize:i.size=size) (hby:i.bytes=bytes) (hzs:z.cells.size=size) (hsz:0 < size)
  (v:Value) (n:Nat) (xs:List Value) (hs:a.eval s=v) (hown:w.ownsRow 0 e size v n xs)
  (ad:Addr) (m c:Nat) (news:List Value) (hx:a.eval x=.slice (some ad) m c) (hl:news.length=m * size) (hnews:∀ j u,news[j]? = some u->w.cell? (ad.add j)=some u) (h1:∀ u∈news,u.oneCell'=true)
  (h63:n+m<=maxLen) (hbytes:(n+m) * bytes<=140737488355328)
  (h:∀ v' w',w'.ownsRow 0 e size v' (n+m) (xs ++ news)->w.grownBy w' v.ownBlock->((∀ k,own v' k->own v k\/w.heap.size<=k)/\w'.ownsRow 0 e size v n xs/\(∀ (q j:Nat) (u:Value),w.cell? ⟨q,j,none⟩=some u->w'.cell? ⟨q,j,none⟩=some u\/∃ x∈news,w'.cell? ⟨q,j,none⟩=some x))->K (a.put o.dst v') w'):o.wp P a w K Q:=by
 obtain⟨v',w',hr,h2,h3,h4⟩:=run_append_keep (P:=P) w t o.type e i z size bytes ht hi hz hsize hby hzs hsz v n xs hown ad m c news hl hnews h1 h63 hbytes;unfold Oper.wp execOp;simp only[ho,resolve,invoke,builtin,Sem.run_bind,Sem.run_pure,Result.andThen_ok,List.map_toArray,List.map_cons,List.map_nil,hs,hx,hr];exact h v' w' h2 h3 h4
theorem wpList_append_keep {ops:Array Oper} {rest:List Oper} {o:Oper} {a:Act} {Q:Exit->Act->World->Prop} (hgd:o.guard=none) (s x:Operand) (t:TypeId)
  (ho:o.op=.call { callee:=.builtin .append,args:=#[s,x],argTypes:=#[t,t] })
  (e:TypeId) (i:TypeInfo) (z:Value) (size bytes:Nat) (ht:P.underlying t=some (.slice e)) (hi:P.info? e=some i) (hz:i.zero=some z)
  (hsize:i.size=size) (hby:i.bytes=bytes) (hzs:z.cells.size=size) (hsz:0 < size)
  (v:Value) (n:Nat) (xs:List Value) (hs:a.eval s=v) (hown:w.ownsRow 0 e size v n xs)
  (ad:Addr) (m c:Nat) (news:List Value) (hx:a.eval x=.slice (some ad) m c) (hl:news.length=m * size) (hnews:∀ j u,news[j]? = some u->w.cell? (ad.add j)=some u) (h1:∀ u∈news,u.oneCell'=true)
  (h63:n+m<=maxLen) (hbytes:(n+m) * bytes<=140737488355328)
  (h:∀ v' w',w'.ownsRow 0 e size v' (n+m) (xs ++ news)->w.grownBy w' v.ownBlock->((∀ k,own v' k->own v k\/w.heap.size<=k)/\w'.ownsRow 0 e size v n xs/\(∀ (q j:Nat) (u:Value),w.cell? ⟨q,j,none⟩=some u->w'.cell? ⟨q,j,none⟩=some u\/∃ x∈news,w'.cell? ⟨q,j,none⟩=some x))->wpList P ops Q rest (a.put o.dst v') w'):wpList P ops Q (o :: rest) a w:=
 wpList_plain hgd fun _ hK=>wp_append_keep w s x t ho e i z size bytes ht hi hz hsize hby hzs hsz v n xs hs hown ad m c news hx hl hnews h1 h63 hbytes fun v' w' h2 h3 h4=>hK _ _ (h v' w' h2 h3 h4)
end
end
section
open Go.RowKit
variable {K:Nat->Prop}
def freshL (s:St):St:={ s with e:=0,steps:=0,depth:=0,out:=⟨#[]⟩ }
theorem fields_len:∀ (l cur:List UInt8),(Lib.fieldsGo cur l).length<=l.length+1
 | [],cur=>by unfold Lib.fieldsGo;split <;> simp
 | b :: l,cur=>by
  unfold Lib.fieldsGo;have h1:=fields_len l [];have h2:=fields_len l (cur ++ [b])
  split
  ·split <;> simp <;> omega
  ·simp only[List.length_cons];omega
end
section
open Go.RowKit
theorem do_tot {N:Nat} (H:TotN N) (G:Nat) (s:St) (f:Fr) (lp:List Int) (n m:Int) (l:List It) (hw:WFs s) (he:s.e=0) (hr:rem s<=N+1) (hl:wb (knows s) G true l) (hf:wbF s f) (hlI:∀ n∈lp,In n) (hnI:In n) (hmI:In m):Tot (jDo f lp n m l) s:=by
 obtain⟨sw,sk,sr⟩:=step_next hw he hr;by_cases hnm:n < m
 ·by_cases e1:s.step.e=0
  ·obtain⟨srr,s20⟩:=sr e1;obtain⟨g1,s1,left1,h1,w1,kk1⟩:=H.body G s.step f (n :: lp) l true sw e1 srr (wb_known sk _ _ _ hl) (hf.mono sk) (fun _=>by simp) (by intro q hq;rcases List.mem_cons.1 hq with h|h;rw[h];exact hnI;exact hlI q h);by_cases e2:left1=true
   ·exact tot_of (g:=g1+1) (by rw[x_do,if_pos hnm,if_neg (by simp[e1]),h1];dsimp only;rw[if_pos e2]) w1 (fun t ht=>kk1 t (sk t ht))
   have e2':left1=false:=by simpa using e2
   subst e2';have he1:=xBody_e _ _ _ _ _ _ e1 h1;have kt:∀ t,knows s t->knows s1 t:=fun t ht=>kk1 t (sk t ht);obtain⟨g2,s2,left2,h2,w2,kk2⟩:=H.do_ G s1 f lp (n+1) m l w1 he1 (Nat.le_trans (rem_le h1) srr) (wb_known kt _ _ _ hl) (hf.mono kt) hlI (by unfold In at hnI hmI ⊢;omega) hmI;have h1':=xRun_mono (g':=g1+g2) (by omega) h1;have h2':=xRun_mono (g':=g1+g2) (by omega) h2;exact tot_of (g:=g1+g2+1) (by rw[x_do,if_pos hnm,if_neg (by simp[e1]),h1'];dsimp only;rw[if_neg (by simp)];exact h2') w2 (fun t ht=>kk2 t (kt t ht))
  ·exact tot_of (g:=1) (by rw[x_do,if_pos hnm,if_pos e1]) sw sk
 ·exact tot_of (g:=1) (by rw[x_do,if_neg hnm]) hw (fun _ h=>h)
theorem count_e' {g:Nat} {s s':St} {k:Nat} (h:s.count g k=some s'):s'.e=s.e:=by
 unfold St.count at h
 repeat' split at h
 all_goals first
  | (cases h;done)
  | (injection h with h;subst h;rfl)
theorem come_tot {s:St} (hw:WFs s) (f:Fr):∃ g s1,xCome g f s=some s1/\WFs s1/\(∀ t,knows s t->knows s1 t)/\s1.e=s.e/\s1.steps=s.steps/\s1.depth=s.depth:=by
 cases hf:s.find f.name with
 | none=>exact⟨0,s,by unfold xCome;rw[hf],hw,fun _ h=>h,rfl,rfl,rfl⟩
 | some k=>
  have hk:k < s.defs.length:=(List.findIdx?_eq_some_iff_getElem.1 hf).1;by_cases hid:s.defs[k].id=f.id
  ·obtain⟨g,s1,h1,w1,k1⟩:=count_total hw hk;exact⟨g,s1,by unfold xCome;rw[hf];dsimp only;rw[List.getElem?_eq_getElem hk];dsimp only;rw[if_pos hid];exact h1,w1,fun t ht=>(k1 t).2 ht,count_e' h1,(St.count_keep h1).2,(St.count_keep h1).1⟩
  ·exact⟨0,s,by unfold xCome;rw[hf];dsimp only;rw[List.getElem?_eq_getElem hk];dsimp only;rw[if_neg hid],hw,fun _ h=>h,rfl,rfl,rfl⟩
theorem xCome_le {g g':Nat} (hg:g<=g') {f:Fr} {s s':St} (h:xCome g f s=some s'):xCome g' f s=some s':=by
 induction hg with
 | refl=>exact h
 | step _ ih=>exact xCome_mono ih
theorem enter_tot {N:Nat} (H:TotN N) (s:St) (f:Fr) (hw:WFs s) (he:s.e=0) (hr:rem s<=N+1) (hf:wbF s f):Tot (jEnter f) s:=by
 by_cases hd:20<=s.depth
 ·have hn:=hw.same (s':=s.err 8) (hw.g.err (by decide)) rfl;exact tot_of (g:=1) (by rw[x_enter,if_pos hd]) hn.1 hn.2
 obtain⟨g1,s1,h1,w1,kk1,e1,st1,dp1⟩:=come_tot hw f;have hn:=w1.same (s':={ s1 with depth:=s1.depth+1 }) (w1.g.dep (by have:=w1.g.d0;omega) (by omega)) rfl;have kt:∀ t,knows s t->knows { s1 with depth:=s1.depth+1 } t:=fun t ht=>hn.2 t (kk1 t ht);obtain⟨Gf,hGf⟩:=hf;obtain⟨g2,s2,left2,h2,w2,kk2⟩:=body_tot H Gf { s1 with depth:=s1.depth+1 } f [] f.body false hn.1 (by show s1.e=0;rw[e1];exact he) (by show rem s1<=N+1;unfold rem at hr ⊢;rw[st1];exact hr) (wb_known kt _ _ _ hGf) ⟨Gf,wb_known kt _ _ _ hGf⟩ (fun h=>by cases h) (fun q hq=>by cases hq);have hdp:=(xRun_keep _ _ _ _ _ h2).1;dsimp only at hdp;have hn2:=w2.same (s':={ s2 with depth:=s2.depth - 1 }) (w2.g.dep (by have:=w1.g.d0;omega) (by have:=w2.g.d1;omega)) rfl;exact tot_of (g:=g1+g2+1) (by rw[x_enter,if_neg hd,xCome_le (by omega) h1];dsimp only;rw[xRun_mono (by omega) h2]) hn2.1 (fun t ht=>hn2.2 t (kk2 t (kt t ht)))
theorem call_tot {N:Nat} (H:TotN N) (s:St) (t:Tok) (hw:WFs s) (he:s.e=0) (hr:rem s<=N+1) (hk:knows s t):Tot (jCall t) s:=by
 have hin:=known_in hk;unfold inDefs at hin
 cases hf:s.defs.find? (fun d=>d.name == t) with
 | none=>rw[hf] at hin;cases hin
 | some d=>
  obtain⟨g,s',left,h,w1,kk⟩:=enter_tot H s ⟨d.id,d.name,d.body⟩ hw he hr (hw.d d (List.mem_of_find?_eq_some hf));exact tot_of (g:=g+1) (by rw[x_call,hf];exact h) w1 kk
theorem pDef_le {g g':Nat} (hg:g<=g') {s:St} {r:List Tok} {res:DRes} (h:pDef g s r=some res):pDef g' s r=some res:=by
 induction hg with
 | refl=>exact h
 | step _ ih=>exact pDef_mono ih
theorem tok_tot {N:Nat} (H:TotN N) (s:St) (t:Tok) (hw:WFs s) (he:s.e=0) (hr:rem s<=N+1):∃ g s',xTok g t s=some s'/\WFs s'/\(∀ t,knows s t->knows s' t)/\(s'.e=0->rem s'<=N):=by
 obtain⟨sw,sk,sr⟩:=step_next hw he hr;by_cases e1:s.step.e=0
 ·obtain⟨srr,s20⟩:=sr e1
  cases hn:numP t with
  | some n=>
   have hn2:=sw.same (s':=s.step.put n) (sw.g.put (numP_range hn)) (put_defs _ _);exact⟨0,_,by unfold xTok;rw[hn];dsimp only;rw[if_neg (by simp[e1])],hn2.1,fun t ht=>hn2.2 t (sk t ht),fun _=>by unfold rem at srr ⊢;rw[St.put_steps];exact srr⟩
  | none=>
   cases hp:plainL.findIdx? (· == t) with
   | some k=>
    have hn2:=sw.same (s':=s.step.word k) (sw.g.word e1 k) rfl;exact⟨0,_,by unfold xTok;rw[hn];dsimp only;rw[hp];dsimp only;rw[if_neg (by simp[e1])],hn2.1,fun t ht=>hn2.2 t (sk t ht),fun _=>srr⟩
   | none=>
    by_cases q1:(keptL.any (· == t) || t == kSemi || t == kOpen || t == kClose)=true
    ·have hn2:=hw.same (s':=s.err 4) (hw.g.err (by decide)) rfl;exact⟨0,_,by unfold xTok;rw[hn];dsimp only;rw[hp];dsimp only;rw[if_pos q1],hn2.1,hn2.2,fun h=>by cases h⟩
    by_cases q2:s.known t=false
    ·have hn2:=hw.same (s':=s.err 3) (hw.g.err (by decide)) rfl;exact⟨0,_,by unfold xTok;rw[hn];dsimp only;rw[hp];dsimp only;rw[if_neg q1,if_pos q2],hn2.1,hn2.2,fun h=>by cases h⟩
    ·obtain⟨g,s2,l2,hx2,w2,kk2⟩:=H.call s.step t sw e1 srr (sk _ (by unfold knows;simpa using q2));exact⟨g,s2,by unfold xTok;rw[hn];dsimp only;rw[hp];dsimp only;rw[if_neg q1,if_neg q2,if_neg (by simp[e1]),hx2],w2,fun t ht=>kk2 t (sk t ht),fun _=>Nat.le_trans (rem_le hx2) srr⟩
 ·cases hn:numP t with
  | some n=>exact⟨0,_,by unfold xTok;rw[hn];dsimp only;rw[if_pos e1],sw,sk,fun h=>absurd h e1⟩
  | none=>
   cases hp:plainL.findIdx? (· == t) with
   | some k=>exact⟨0,_,by unfold xTok;rw[hn];dsimp only;rw[hp];dsimp only;rw[if_pos e1],sw,sk,fun h=>absurd h e1⟩
   | none=>
    by_cases q1:(keptL.any (· == t) || t == kSemi || t == kOpen || t == kClose)=true
    ·have hn2:=hw.same (s':=s.err 4) (hw.g.err (by decide)) rfl;exact⟨0,_,by unfold xTok;rw[hn];dsimp only;rw[hp];dsimp only;rw[if_pos q1],hn2.1,hn2.2,fun h=>by cases h⟩
    by_cases q2:s.known t=false
    ·have hn2:=hw.same (s':=s.err 3) (hw.g.err (by decide)) rfl;exact⟨0,_,by unfold xTok;rw[hn];dsimp only;rw[hp];dsimp only;rw[if_neg q1,if_pos q2],hn2.1,hn2.2,fun h=>by cases h⟩
    ·exact⟨0,_,by unfold xTok;rw[hn];dsimp only;rw[hp];dsimp only;rw[if_neg q1,if_neg q2,if_pos e1],sw,sk,fun h=>absurd h e1⟩
theorem xTok_le {g g':Nat} (hg:g<=g') {t:Tok} {s s':St} (h:xTok g t s=some s'):xTok g' t s=some s':=by
 induction hg with
 | refl=>exact h
 | step _ ih=>exact xTok_mono (fun j s r h=>xRun_mono1 _ j s r h) ih
theorem pDef_len {g:Nat} {s:St} {r:List Tok} {nm:Tok} {b:List It} {r1:List Tok} (h:pDef g s r=some (.ok (nm,b,r1))):r1.length<=r.length:=by
 cases r with
 | nil=>cases h
 | cons t r=>
  unfold pDef at h;dsimp only at h
  split at h
  ·cases h
  split at h
  ·cases h
  split at h
  ·cases h
  ·cases h
  ·rename_i b' t' r' hr
   injection h with h;injection h with h;injection h with e1 e2;injection e2 with e2 e3;subst e3;obtain⟨_,_,_,hl⟩:=pRead_calls _ _ _ _ _ _ _ hr;simp;omega
theorem toks_tot {N:Nat} (H:TotN N) (s:St) (ts:List Tok) (hw:WFs s) (hr:s.e=0->rem s<=N+1) (hlt:ts.length<=1000):Tot (jToks ts) s:=by
 by_cases he:s.e=0
 ·have hr:=hr he
  cases ts with
  | nil=>exact tot_of (x_tnil 0 s) hw (fun _ h=>h)
  | cons t r=>
   have hlr:r.length<=1000:=by simp at hlt;omega
   by_cases ht:t=kColon
   ·subst ht;obtain⟨sw,sk,sr⟩:=step_next hw he hr;obtain⟨g1,res,hp⟩:=pDef_total s r
    cases res with
    | error e=>
     have hg:=hw.g;have hn:=hw.same (s':=s.err e) ⟨hg.g,hg.s0,hg.s1,fun _=>hw.st he,hg.d0,hg.d1,hg.b0,hg.b1,hg.cb⟩ rfl;exact tot_of (g:=g1+1) (by rw[x_def _ _ _ he,hp]) hn.1 hn.2
    | ok q=>
     obtain⟨nm,b,r1⟩:=q;by_cases e1:s.step.e=0
     ·obtain⟨srr,s20⟩:=sr e1;obtain⟨G,hG⟩:=pDef_wb hlr hp;have hcb:=(pDefD_ok hlr (by rw[<-pDef_eq];exact hp)).1;have hl1:=pDef_len hp;have w2:=sw.set (nm:=nm) (b:=b) (wb_known sk _ _ _ hG) hcb;obtain⟨g2,s2,l2,h2,w3,kk3⟩:=H.toks (s.step.set nm b) r1 w2 (fun _=>srr) (by omega);exact tot_of (g:=g1+g2+1) (by rw[x_def _ _ _ he,pDef_le (by omega) hp];dsimp only;rw[if_neg (by simp[e1])];exact xRun_mono (by omega) h2) w3 (fun t ht=>kk3 t (set_knows (sk t ht)))
     ·exact tot_of (g:=g1+1) (by rw[x_def _ _ _ he,hp];dsimp only;rw[if_pos e1]) sw sk
   ·obtain⟨g1,s1,h1,w1,kk1,r1⟩:=tok_tot H s t hw he hr;obtain⟨g2,s2,l2,h2,w2,kk2⟩:=H.toks s1 r w1 r1 hlr;exact tot_of (g:=g1+g2+1) (by rw[x_tok _ _ _ _ he ht,xTok_le (by omega) h1];exact xRun_mono (by omega) h2) w2 (fun t ht=>kk2 t (kk1 t ht))
 ·exact tot_of (x_terr 0 s ts he) hw (fun _ h=>h)
theorem totN:∀ N,TotN N
 | 0=>TotN.zero
 | N+1=>⟨fun G s f lp l lo=>body_tot (totN N) G s f lp l lo,fun G s f lp x lo=>item_tot (totN N) G (body_tot (totN N) G) s f lp x lo,fun G s f lp n m l=>do_tot (totN N) G s f lp n m l,fun s f=>enter_tot (totN N) s f,fun s t=>call_tot (totN N) s t,fun s ts=>toks_tot (totN N) s ts⟩
theorem line_total (s:St) (hw:WFs s) (text:List UInt8) (hlt:(Lib.fields text).length<=1000):∃ g s1 left,xRun g (jToks (Lib.fields text)) { s with e:=0,steps:=0,depth:=0,out:=⟨#[]⟩ }=some (s1,left)/\WFs (if s1.e=0 then s1 else { s1 with rs:=[] }):=by
 have hg:=hw.g;have hn:=hw.same (s':={ s with e:=0,steps:=0,depth:=0,out:=⟨#[]⟩ }) ⟨⟨hg.g.ins,hg.g.mems,hg.g.len,by show (0:Nat)<=300;decide⟩,by show (0:Int)<=0;decide,by show (0:Int)<=2001;decide,fun _=>by show (0:Int)<=2000;decide,by show (0:Int)<=0;decide,by show (0:Int)<=20;decide,hg.b0,hg.b1,hg.cb⟩ rfl;obtain⟨g,s1,left,h,w1,_⟩:=(totN 2001).toks _ (Lib.fields text) hn.1 (fun _=>by unfold rem;simp) hlt;refine⟨g,s1,left,h,?_⟩
 split
 ·exact w1
 ·exact (w1.same (s':={ s1 with rs:=[] }) (w1.g.tail (fun x hx=>by cases hx) (by simp)) rfl).1
end
section
open Go.RowKit
variable {K:Nat->Prop}
theorem SGood.first:SGood st0:=
 ⟨⟨(by intro x hx;cases hx),(fun i=>by show In 0;unfold In;decide),by show (0:Nat)<=32;decide,by show (0:Nat)<=300;decide⟩,by show (0:Int)<=0;decide,by show (0:Int)<=2001;decide,fun _=>by show (0:Int)<=2000;decide,by show (0:Int)<=0;decide,by show (0:Int)<=20;decide,by show (0:Int)<=1;decide,by show (1:Int)<=3;decide,(by intro d hd;cases hd)⟩
theorem WFs.first:WFs st0:=⟨SGood.first,(fun d hd=>by cases hd),fun _=>by show (0:Int)<=2000;decide⟩
end
section
open Go.RowKit
def insN (x:Tok):List Tok->List Tok
 | []=>[x]
 | b :: r=>if Op.bytesLess x b=true then b :: insN x r else x :: b :: r
def rsortN (l:List Tok):List Tok:=l.foldl (fun rp x=>insN x rp) []
def sortN (l:List Tok):List Tok:=(rsortN l).reverse
def wordsP (s:St):List Tok:=sortN (s.defs.map Def.name)
def cellP (s:St) (n:Int):Int × Int:=if n < 0\/16<=n then (0,10) else (s.mem n.toNat,0)
def badT (hot built:Int):Prop:=hot < 1\/1000 < hot\/built < 0\/3 < built
def tuneS (s:St) (hot built:Int):St:={ s with hot:=hot,built:=built,defs:=s.defs.map slowD }
end
section
open Go.RowKit
def endL (s1:St):St:=if s1.e=0 then s1 else { s1 with rs:=[] }
structure PCon (B:Nat) (W0:World) (PS:World->Nat->(Nat->Prop)->St->Prop):Prop where
 lt:∀ w xb V s,PS w xb V s->∀ k,V k->k < w.heap.size
 frame:∀ w w' S xb V s,PS w xb V s->Kp w w' S->(∀ k,V k->¬ S k)->(∀ k,k < B->¬ S k)->B<=w.heap.size->PS w' xb V s
 new:∀ w,Below B W0 w->B<=w.heap.size->Calls Tryz.prog 27 #[] w fun e w'=>∃ xb V,e=.returned (.pointer (some ⟨xb,0,none⟩))/\PS w' xb V st0/\Kp w w' (fun _=>False)/\∀ k,V k->w.heap.size<=k
 line:∀ w xb V s s1 left g (t:ByteArray),PS w xb V s->WFs s->SGood s->validB t.data.toList=true->xRun g (jToks (Lib.fields t.data.toList)) (freshL s)=some (s1,left) ->
  Calls Tryz.prog 18 #[.pointer (some ⟨xb,0,none⟩),.string t] w fun e w'=>e=.returned (.tuple #[.string s1.out,.int .i64 s1.e])/\∃ V',PS w' xb V' (endL s1)/\To (fun _=>False) w w' V V'
 lineBad:∀ w xb V s (t:ByteArray),PS w xb V s->validB t.data.toList=false ->
  Calls Tryz.prog 18 #[.pointer (some ⟨xb,0,none⟩),.string t] w fun e w'=>e=.returned (.tuple #[.string ⟨#[]⟩,.int .i64 2])/\∃ V',PS w' xb V' s/\To (fun _=>False) w w' V V'
 stack:∀ w xb V s,PS w xb V s->SGood s->Calls Tryz.prog 19 #[.pointer (some ⟨xb,0,none⟩)] w fun e w'=>∃ v,e=.returned v/\w'.ownsRow w.heap.size 3 1 v s.rs.length (ints s.rs.reverse)/\∃ V',PS w' xb V' s/\To (fun _=>False) w w' V V'/\∀ k,own v k->¬ V' k
 cell:∀ w xb V s n,PS w xb V s->In n->Calls Tryz.prog 39 #[.pointer (some ⟨xb,0,none⟩),.int .i64 n] w fun e w'=>e=.returned (.tuple #[.int .i64 (cellP s n).1,.int .i64 (cellP s n).2])/\∃ V',PS w' xb V' s/\To (fun _=>False) w w' V V'
 words:∀ w xb V s,PS w xb V s->Calls Tryz.prog 33 #[.pointer (some ⟨xb,0,none⟩)] w fun e w'=>∃ v,e=.returned v/\(∃ L:List ByteArray,w'.ownsRow w.heap.size 9 1 v L.length (L.map Value.string)/\texts L=wordsP s)/\∃ V',PS w' xb V' s/\To (fun _=>False) w w' V V'/\∀ k,own v k->¬ V' k
section
variable {PS:World->Nat->(Nat->Prop)->St->Prop} {B:Nat} {W0:World} (P:PCon B W0 PS)
include P
end
end
end Go.Proofs.YteainaiebcphlaaGreatDoor
