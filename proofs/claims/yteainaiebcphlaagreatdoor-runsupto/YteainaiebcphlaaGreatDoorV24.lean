import Derived.Test.YteainaiebcphlaaGreatDoorV22
import Derived.Test.YteainaiebcphlaaGreatDoorV23
import Derived.Test.YteainaiebcphlaaGreatDoorV1
namespace Go.Proofs.YteainaiebcphlaaGreatDoor
set_option maxRecDepth 1000000
set_option maxHeartbeats 4000000
set_option linter.all false
section
open Go.RowKit
theorem SGood.step {s:St} (h:SGood s) (he:s.e=0):SGood s.step:=by
 have h2:=h.s2 he;have h0:=h.s0;unfold St.step
 split
 ·exact⟨h.g,by show 0<=s.steps+1;omega,by show s.steps+1<=2001;omega,fun _=>by show s.steps+1<=2000;omega,h.d0,h.d1,h.b0,h.b1,h.cb⟩
 ·exact⟨h.g,by show 0<=s.steps+1;omega,by show s.steps+1<=2001;omega,(fun h=>by cases h),h.d0,h.d1,h.b0,h.b1,h.cb⟩
theorem SGood.put {s:St} (h:SGood s) {n:Int} (hn:In n):SGood (s.put n):=by
 unfold St.put
 split
 ·exact⟨⟨by simp only[List.mem_cons,forall_eq_or_imp];exact⟨hn,h.g.ins⟩,h.g.mems,by simp only[List.length_cons];omega,h.g.osz⟩,h.s0,h.s1,h.s2,h.d0,h.d1,h.b0,h.b1,h.cb⟩
 ·exact⟨h.g,h.s0,h.s1,(fun h=>by cases h),h.d0,h.d1,h.b0,h.b1,h.cb⟩
theorem SGood.word {s:St} (h:SGood s) (he:s.e=0) (k:Nat):SGood (s.word k):=by
 have hf:Fine (plainP k s.rs s.mem s.out):=plain_fine _ h.g;exact⟨hf,h.s0,h.s1,fun _=>h.s2 he,h.d0,h.d1,h.b0,h.b1,h.cb⟩
theorem SGood.err {s:St} (h:SGood s) {k:Int} (hk:k ≠ 0):SGood (s.err k):=⟨h.g,h.s0,h.s1,(fun e=>absurd e hk),h.d0,h.d1,h.b0,h.b1,h.cb⟩
theorem SGood.tail {s:St} (h:SGood s) {r:List Int} (hr:∀ x∈r,x∈s.rs) (hl:r.length<=s.rs.length):SGood { s with rs:=r }:=
 ⟨⟨fun x hx=>h.g.ins x (hr x hx),h.g.mems,Nat.le_trans hl h.g.len,h.g.osz⟩,h.s0,h.s1,h.s2,h.d0,h.d1,h.b0,h.b1,h.cb⟩
theorem SGood.test {s:St} (h:SGood s) (he:s.e=0):SGood s.test.1:=by
 have h1:=h.step he;unfold St.test
 split
 ·split
  ·exact h1.err (by decide)
  ·rename_i a r hr
   exact h1.tail (fun x hx=>by rw[hr];simp[hx]) (by rw[hr];simp)
 ·exact h1
theorem SGood.dep {s:St} (h:SGood s) {n:Int} (h0:0<=n) (h1:n<=20):SGood { s with depth:=n }:=⟨h.g,h.s0,h.s1,h.s2,h0,h1,h.b0,h.b1,h.cb⟩
theorem knows_iff {s:St} {t:Tok}:knows s t<->∃ d∈s.defs,(d.name == t)=true:=by
 unfold knows St.known St.find;rw[List.findIdx?_isSome,List.any_eq_true]
theorem set_defs_name {s:St} {nm:Tok} {b:List It} {d:Def} (hd:d∈s.defs):∃ d'∈(s.set nm b).defs,d'.name=d.name:=by
 obtain⟨i,hi,rfl⟩:=List.mem_iff_getElem.1 hd;unfold St.set;dsimp only
 cases hf:s.find nm with
 | none=>
  refine⟨slowIf nm s.defs[i],?_,slowIf_name _ _⟩;exact List.mem_append_left _ (List.mem_map_of_mem (List.getElem_mem hi))
 | some k=>
  by_cases hik:i=k
  ·subst hik;obtain⟨h1,h2,_⟩:=List.findIdx?_eq_some_iff_getElem.1 hf;refine⟨⟨nm,wrap64 (s.ids+1),b,0,false,[]⟩,?_,by have:=eq_of_beq h2;exact this.symm⟩;rw[List.mem_iff_getElem];exact⟨i,by simpa using hi,by simp⟩
  ·refine⟨slowIf nm s.defs[i],?_,slowIf_name _ _⟩;rw[List.mem_iff_getElem];refine⟨i,by simpa using hi,?_⟩;rw[List.getElem_set_ne (by omega),List.getElem_map];rfl
theorem set_knows {s:St} {nm:Tok} {b:List It} {t:Tok} (h:knows s t):knows (s.set nm b) t:=by
 rw[knows_iff] at h ⊢;obtain⟨d,hd,ht⟩:=h;obtain⟨d',hd',e⟩:=set_defs_name (nm:=nm) (b:=b) hd;exact⟨d',hd',by rw[e];exact ht⟩
theorem set_body {s:St} {nm:Tok} {b:List It} {d:Def} (hd:d∈(s.set nm b).defs):d.body=b\/∃ d0∈s.defs,d.body=d0.body:=by
 have key:∀ d∈s.defs.map (slowIf nm),∃ d0∈s.defs,d.body=d0.body:=by
  intro d hd;obtain⟨d0,h0,rfl⟩:=List.mem_map.1 hd;exact⟨d0,h0,slowIf_body _ _⟩
 unfold St.set at hd;dsimp only at hd
 cases hf:s.find nm with
 | none=>
  rw[hf] at hd;rcases List.mem_append.1 hd with h|h
  ·exact .inr (key d h)
  ·simp at h;rw[h];exact .inl rfl
 | some k=>
  rw[hf] at hd;rcases List.mem_or_eq_of_mem_set hd with h|h
  ·exact .inr (key d h)
  ·rw[h];exact .inl rfl
theorem WFs.set {s:St} (h:WFs s) {nm:Tok} {b:List It} {G:Nat} (hb:wb (knows s) G false b) (hcb:CBnd b):WFs (s.set nm b):=by
 have hg:=h.g;refine⟨⟨hg.g,hg.s0,hg.s1,hg.s2,hg.d0,hg.d1,hg.b0,hg.b1,fun d hd=>by
  rcases set_body hd with e|⟨d0,h0,e⟩
  ·rw[e];exact hcb
  ·rw[e];exact hg.cb d0 h0⟩,fun d hd=>?_,h.st⟩
 rcases set_body hd with e|⟨d0,h0,e⟩
 ·exact⟨G,by rw[e];exact wb_known (fun t ht=>set_knows ht) _ _ _ hb⟩
 ·obtain⟨g,hg⟩:=h.d d0 h0;exact⟨g,by rw[e];exact wb_known (fun t ht=>set_knows ht) _ _ _ hg⟩
theorem WFs.same {s s':St} (h:WFs s) (hg:SGood s') (hd:s'.defs=s.defs):WFs s'/\∀ t,knows s t->knows s' t:=by
 refine⟨⟨hg,fun d hm=>?_,hg.s2⟩,fun t ht=>(knows_def hd).2 ht⟩;rw[hd] at hm;obtain⟨g,hg⟩:=h.d d hm;exact⟨g,wb_known (fun t ht=>(knows_def hd).2 ht) _ _ _ hg⟩
theorem step_defs (s:St):s.step.defs=s.defs:=by unfold St.step;split <;> rfl
theorem step_ok {s:St} (he:s.e=0) (h:s.step.e=0):s.steps < 2000:=by
 unfold St.step at h
 split at h
 ·assumption
 ·cases h
theorem put_defs (s:St) (n:Int):(s.put n).defs=s.defs:=by unfold St.put;split <;> rfl
theorem test_defs (s:St):s.test.1.defs=s.defs:=by
 unfold St.test;split
 ·split
  ·exact step_defs s
  ·exact step_defs s
 ·exact step_defs s
theorem test_ok {s:St} (he:s.e=0) (h:s.test.1.e=0):s.steps < 2000:=by
 unfold St.test at h
 split at h
 ·exact step_ok he (by assumption)
 ·exact absurd h (by assumption)
def rem (s:St):Nat:=(2001 - s.steps).toNat
def Tot (j:XJ) (s:St):Prop:=∃ g s' left,xRun g j s=some (s',left)/\WFs s'/\∀ t,knows s t->knows s' t
def wbF (s:St) (f:Fr):Prop:=∃ G,wb (knows s) G false f.body
theorem wbF.mono {s s':St} {f:Fr} (h:wbF s f) (hk:∀ t,knows s t->knows s' t):wbF s' f:=by
 obtain⟨G,hG⟩:=h;exact⟨G,wb_known hk _ _ _ hG⟩
structure TotN (N:Nat):Prop where
 body:∀ (G:Nat) (s:St) (f:Fr) (lp:List Int) (l:List It) (lo:Bool),WFs s->s.e=0->rem s<=N->wb (knows s) G lo l->wbF s f->(lo=true->lp ≠ [])->(∀ n∈lp,In n)->Tot (jBody f lp l) s
 item:∀ (G:Nat) (s:St) (f:Fr) (lp:List Int) (x:It) (lo:Bool),WFs s->s.e=0->rem s<=N->okIt (knows s) (wb (knows s) G) lo x->wbF s f->(lo=true->lp ≠ [])->(∀ n∈lp,In n)->Tot (jItem f lp x) s
 do_:∀ (G:Nat) (s:St) (f:Fr) (lp:List Int) (n m:Int) (l:List It),WFs s->s.e=0->rem s<=N->wb (knows s) G true l->wbF s f->(∀ n∈lp,In n)->In n->In m->Tot (jDo f lp n m l) s
 enter:∀ (s:St) (f:Fr),WFs s->s.e=0->rem s<=N->wbF s f->Tot (jEnter f) s
 call:∀ (s:St) (t:Tok),WFs s->s.e=0->rem s<=N->knows s t->Tot (jCall t) s
 toks:∀ (s:St) (ts:List Tok),WFs s->(s.e=0->rem s<=N)->ts.length<=1000->Tot (jToks ts) s
theorem tot_of {j:XJ} {s:St} {g:Nat} {s':St} {left:Bool} (h:xRun g j s=some (s',left)) (hw:WFs s') (hk:∀ t,knows s t->knows s' t):Tot j s:=⟨g,s',left,h,hw,hk⟩
theorem TotN.zero:TotN 0:=by
 have no:∀ s:St,WFs s->s.e=0->rem s<=0->False:=by
  intro s hw he hr;have:=hw.st he;unfold rem at hr;omega
 refine⟨fun G s f lp l lo hw he hr=>(no s hw he hr).elim,fun G s f lp l lo hw he hr=>(no s hw he hr).elim,fun G s f lp n m l hw he hr=>(no s hw he hr).elim,fun s f hw he hr=>(no s hw he hr).elim,fun s t hw he hr=>(no s hw he hr).elim,fun s ts hw hr _=>?_⟩;by_cases he:s.e=0
 ·exact (no s hw he (hr he)).elim
 ·exact tot_of (x_terr 0 s ts he) hw (fun _ h=>h)
theorem step_next {N:Nat} {s:St} (hw:WFs s) (he:s.e=0) (hr:rem s<=N+1):WFs s.step/\(∀ t,knows s t->knows s.step t)/\(s.step.e=0->rem s.step<=N/\s.step.steps<=2000):=by
 have h1:=hw.same (hw.g.step he) (step_defs s);refine⟨h1.1,h1.2,fun h=>?_⟩;have:=step_ok he h;unfold rem at hr ⊢;rw[St.step_steps];omega
theorem test_next {N:Nat} {s:St} (hw:WFs s) (he:s.e=0) (hr:rem s<=N+1):WFs s.test.1/\(∀ t,knows s t->knows s.test.1 t)/\(s.test.1.e=0->rem s.test.1<=N):=by
 have h1:=hw.same (hw.g.test he) (test_defs s);refine⟨h1.1,h1.2,fun h=>?_⟩;have:=test_ok he h;unfold rem at hr ⊢;rw[St.test_steps];omega
theorem rem_le {g:Nat} {j:XJ} {s s':St} {left:Bool} (h:xRun g j s=some (s',left)):rem s'<=rem s:=by
 have:=(xRun_keep _ _ _ _ _ h).2;unfold rem;omega
theorem item_tot {N:Nat} (H:TotN N) (G:Nat) (hB:∀ (s:St) (f:Fr) (lp:List Int) (l:List It) (lo:Bool),WFs s->s.e=0->rem s<=N+1->wb (knows s) G lo l->wbF s f->(lo=true->lp ≠ [])->(∀ n∈lp,In n)->Tot (jBody f lp l) s)
  (s:St) (f:Fr) (lp:List Int) (x:It) (lo:Bool) (hw:WFs s) (he:s.e=0) (hr:rem s<=N+1) (hx:okIt (knows s) (wb (knows s) G) lo x) (hf:wbF s f) (hlp:lo=true->lp ≠ []) (hlI:∀ n∈lp,In n):Tot (jItem f lp x) s:=by
 obtain⟨tw,tk,tr⟩:=test_next hw he hr;obtain⟨sw,sk,sr⟩:=step_next hw he hr;by_cases k63:x.kind=63
 ·have hsub:wb (knows s) G lo x.a/\wb (knows s) G lo x.b:=by
   rcases hx with⟨h,h1,h2⟩|⟨h,h1,h2⟩|⟨h,h1,h2⟩
   ·rw[h1,h2];exact⟨wb_nil _ _ _,wb_nil _ _ _⟩
   ·exact⟨h1,h2⟩
   ·omega
  by_cases e1:s.test.1.e=0
  ·by_cases e2:s.test.2=true
   ·obtain⟨g,s',left,h,h1,h2⟩:=H.body G s.test.1 f lp x.a lo tw e1 (tr e1) (wb_known tk _ _ _ hsub.1) (hf.mono tk) hlp hlI;exact tot_of (g:=g+1) (by rw[x_if _ _ _ _ _ k63,if_neg (by simp[e1]),if_pos e2];exact h) h1 (fun t ht=>h2 t (tk t ht))
   ·obtain⟨g,s',left,h,h1,h2⟩:=H.body G s.test.1 f lp x.b lo tw e1 (tr e1) (wb_known tk _ _ _ hsub.2) (hf.mono tk) hlp hlI;exact tot_of (g:=g+1) (by rw[x_if _ _ _ _ _ k63,if_neg (by simp[e1]),if_neg e2];exact h) h1 (fun t ht=>h2 t (tk t ht))
  ·exact tot_of (g:=1) (by rw[x_if _ _ _ _ _ k63,if_pos e1]) tw tk
 by_cases k117:x.kind=117
 ·have hsub:wb (knows s) G lo x.a:=by
   rcases hx with⟨h,h1,h2⟩|⟨h,h1,h2⟩|⟨h,h1,h2⟩
   ·rw[h1];exact wb_nil _ _ _
   ·exact h1
   ·omega
  obtain⟨g1,s1,left1,h1,w1,kk1⟩:=hB s f lp x.a lo hw he hr hsub hf hlp hlI;by_cases e0:left1=true
  ·exact tot_of (g:=g1+1) (by rw[x_until _ _ _ _ _ k117,h1];dsimp only;rw[if_pos e0]) w1 kk1
  have e0':left1=false:=by simpa using e0
  subst e0';have he1:=xBody_e _ _ _ _ _ _ he h1;have hr1:rem s1<=N+1:=Nat.le_trans (rem_le h1) hr;obtain⟨tw1,tk1,tr1⟩:=test_next w1 he1 hr1;by_cases e1:s1.test.1.e=0
  ·by_cases e2:s1.test.2=true
   ·exact tot_of (g:=g1+1) (by rw[x_until _ _ _ _ _ k117,h1];dsimp only;rw[if_neg (by simp),if_neg (by simp[e1]),if_pos e2]) tw1 (fun t ht=>tk1 t (kk1 t ht))
   ·obtain⟨g2,s2,left2,h2,w2,kk2⟩:=H.item G s1.test.1 f lp x lo tw1 e1 (tr1 e1) (hx.mono (fun t ht=>tk1 t (kk1 t ht)) (fun lo l=>wb_known (fun t ht=>tk1 t (kk1 t ht)) G lo l)) (hf.mono (fun t ht=>tk1 t (kk1 t ht))) hlp hlI;have h1':=xRun_mono (g':=g1+g2) (by omega) h1;have h2':=xRun_mono (g':=g1+g2) (by omega) h2;exact tot_of (g:=g1+g2+1) (by rw[x_until _ _ _ _ _ k117,h1'];dsimp only;rw[if_neg (by simp),if_neg (by simp[e1]),if_neg e2];exact h2') w2 (fun t ht=>kk2 t (tk1 t (kk1 t ht)))
  ·exact tot_of (g:=g1+1) (by rw[x_until _ _ _ _ _ k117,h1];dsimp only;rw[if_neg (by simp),if_pos e1]) tw1 (fun t ht=>tk1 t (kk1 t ht))
 by_cases k119:x.kind=119
 ·have hsub:wb (knows s) G lo x.a/\wb (knows s) G lo x.b:=by
   rcases hx with⟨h,h1,h2⟩|⟨h,h1,h2⟩|⟨h,h1,h2⟩
   ·rw[h1,h2];exact⟨wb_nil _ _ _,wb_nil _ _ _⟩
   ·exact⟨h1,h2⟩
   ·omega
  obtain⟨g1,s1,left1,h1,w1,kk1⟩:=hB s f lp x.a lo hw he hr hsub.1 hf hlp hlI;by_cases e0:left1=true
  ·exact tot_of (g:=g1+1) (by rw[x_while _ _ _ _ _ k119,h1];dsimp only;rw[if_pos e0]) w1 kk1
  have e0':left1=false:=by simpa using e0
  subst e0';have he1:=xBody_e _ _ _ _ _ _ he h1;have hr1:rem s1<=N+1:=Nat.le_trans (rem_le h1) hr;obtain⟨tw1,tk1,tr1⟩:=test_next w1 he1 hr1;by_cases e1:s1.test.1.e=0
  ·by_cases e2:s1.test.2=false
   ·exact tot_of (g:=g1+1) (by rw[x_while _ _ _ _ _ k119,h1];dsimp only;rw[if_neg (by simp),if_neg (by simp[e1]),if_pos e2]) tw1 (fun t ht=>tk1 t (kk1 t ht))
   ·have kk1t:∀ t,knows s t->knows s1.test.1 t:=fun t ht=>tk1 t (kk1 t ht);obtain⟨g2,s2,left2,h2,w2,kk2⟩:=H.body G s1.test.1 f lp x.b lo tw1 e1 (tr1 e1) (wb_known kk1t _ _ _ hsub.2) (hf.mono kk1t) hlp hlI;have h1':=xRun_mono (g':=g1+g2) (by omega) h1;have h2':=xRun_mono (g':=g1+g2) (by omega) h2;by_cases e3:left2=true
    ·exact tot_of (g:=g1+g2+1) (by rw[x_while _ _ _ _ _ k119,h1'];dsimp only;rw[if_neg (by simp),if_neg (by simp[e1]),if_neg e2,h2'];dsimp only;rw[if_pos e3]) w2 (fun t ht=>kk2 t (kk1t t ht))
    have e3':left2=false:=by simpa using e3
    subst e3';have he2:=xBody_e _ _ _ _ _ _ e1 h2;have kk2t:∀ t,knows s t->knows s2 t:=fun t ht=>kk2 t (kk1t t ht);obtain⟨g3,s3,left3,h3,w3,kk3⟩:=H.item G s2 f lp x lo w2 he2 (Nat.le_trans (rem_le h2) (tr1 e1)) (hx.mono kk2t (fun lo l=>wb_known kk2t G lo l)) (hf.mono kk2t) hlp hlI;have h1'':=xRun_mono (g':=g1+g2+g3) (by omega) h1;have h2'':=xRun_mono (g':=g1+g2+g3) (by omega) h2;have h3'':=xRun_mono (g':=g1+g2+g3) (by omega) h3;exact tot_of (g:=g1+g2+g3+1) (by rw[x_while _ _ _ _ _ k119,h1''];dsimp only;rw[if_neg (by simp),if_neg (by simp[e1]),if_neg e2,h2''];dsimp only;rw[if_neg (by simp)];exact h3'') w3 (fun t ht=>kk3 t (kk2t t ht))
  ·exact tot_of (g:=g1+1) (by rw[x_while _ _ _ _ _ k119,h1];dsimp only;rw[if_neg (by simp),if_pos e1]) tw1 (fun t ht=>tk1 t (kk1 t ht))
 by_cases e1:s.step.e=0
 ·obtain⟨srr,s20⟩:=sr e1;have goal:∀ g r,xOne g f lp x s.step=some r->xRun (g+1) (jItem f lp x) s=some r:=fun g r h=>by rw[x_one _ _ _ _ _ k63 k117 k119,if_neg (by simp[e1])];exact h
  rcases hx with⟨h,h1,h2⟩|⟨h,h1,h2⟩|⟨h,h1,h2⟩
  ·rcases h with h|h|h|h|h|h|h
   ·have hn:=sw.same (s':=s.step.put x.n) (sw.g.put h.2) (put_defs _ _);exact tot_of (goal 0 _ (by unfold xOne;rw[if_pos h.1])) hn.1 (fun t ht=>hn.2 t (sk t ht))
   ·obtain⟨g,s2,l2,hx2,w2,kk2⟩:=H.enter s.step f sw e1 srr (hf.mono sk);exact tot_of (goal g _ (by unfold xOne;rw[if_neg (by omega),if_neg (by omega),if_neg (by omega),if_neg (by omega),if_pos h,hx2])) w2 (fun t ht=>kk2 t (sk t ht))
   ·exact tot_of (goal 0 _ (by unfold xOne;rw[if_neg (by omega),if_neg (by omega),if_neg (by omega),if_pos h])) sw sk
   ·by_cases hd:20<=s.step.depth
    ·have hn:=sw.same (s':=s.step.err 8) (sw.g.err (by decide)) rfl;exact tot_of (goal 0 _ (by unfold xOne;rw[if_neg (by omega),if_neg (by omega),if_neg (by omega),if_neg (by omega),if_neg (by omega),if_neg (by omega),if_pos h.1,if_pos hd])) hn.1 (fun t ht=>hn.2 t (sk t ht))
    ·have hn:=sw.same (s':={ s.step with depth:=s.step.depth+1 }) (sw.g.dep (by have:=sw.g.d0;omega) (by omega)) rfl;obtain⟨g,s2,l2,hx2,w2,kk2⟩:=H.toks { s.step with depth:=s.step.depth+1 } x.toks hn.1 (fun _=>srr) h.2;have hdp:=(xRun_keep _ _ _ _ _ hx2).1;have hn2:=w2.same (s':={ s2 with depth:=s2.depth - 1 }) (w2.g.dep (by have:=sw.g.d0;dsimp only at hdp;omega) (by have:=w2.g.d1;omega)) rfl;exact tot_of (goal g _ (by unfold xOne;rw[if_neg (by omega),if_neg (by omega),if_neg (by omega),if_neg (by omega),if_neg (by omega),if_neg (by omega),if_pos h.1,if_neg hd,hx2])) hn2.1 (fun t ht=>hn2.2 t (kk2 t (hn.2 t (sk t ht))))
   ·obtain⟨hk,hp⟩:=h
    cases hq:plainL.findIdx? (· == x.name) with
    | none=>rw[hq] at hp;cases hp
    | some k=>
     have hn:=sw.same (s':=s.step.word k) (sw.g.word e1 k) rfl;exact tot_of (goal 0 _ (by unfold xOne;rw[if_neg (by omega),if_pos hk,hq])) hn.1 (fun t ht=>hn.2 t (sk t ht))
   ·obtain⟨hk,hp⟩:=h;obtain⟨g,s2,l2,hx2,w2,kk2⟩:=H.call s.step x.name sw e1 srr (sk _ hp);exact tot_of (goal g _ (by unfold xOne;rw[if_neg (by omega),if_neg (by omega),if_neg (by omega),if_neg (by omega),if_neg (by omega),if_pos hk,hx2])) w2 (fun t ht=>kk2 t (sk t ht))
   ·obtain⟨hk,hp⟩:=h
    cases lp with
    | nil=>exact absurd rfl (hlp hp)
    | cons i r=>
     have hn:=sw.same (s':=s.step.put i) (sw.g.put (hlI i (by simp))) (put_defs _ _);exact tot_of (goal 0 _ (by unfold xOne;rw[if_neg (by omega),if_neg (by omega),if_pos hk])) hn.1 (fun t ht=>hn.2 t (sk t ht))
  ·omega
  ·have hun:∀ g,xOne g f lp x s.step=xLoop g f lp x.a s.step:=fun g=>by
    unfold xOne xLoop;rw[if_neg (by omega),if_neg (by omega),if_neg (by omega),if_neg (by omega),if_neg (by omega),if_neg (by omega),if_neg (by omega),if_pos h];rfl
   cases hrs:s.step.rs with
   | nil=>
    have hn:=sw.same (s':=s.step.err 6) (sw.g.err (by decide)) rfl;exact tot_of (goal 0 _ (by rw[hun];unfold xLoop;rw[hrs])) hn.1 (fun t ht=>hn.2 t (sk t ht))
   | cons b r=>
    cases r with
    | nil=>
     have hn:=sw.same (s':=s.step.err 6) (sw.g.err (by decide)) rfl;exact tot_of (goal 0 _ (by rw[hun];unfold xLoop;rw[hrs])) hn.1 (fun t ht=>hn.2 t (sk t ht))
    | cons m r=>
     have hn:=sw.same (s':={ s.step with rs:=r }) (sw.g.tail (fun x hx=>by rw[hrs];simp[hx]) (by rw[hrs];simp;omega)) rfl;obtain⟨g,s2,l2,hx2,w2,kk2⟩:=H.do_ G { s.step with rs:=r } f lp b m x.a hn.1 e1 srr (wb_known (fun t ht=>hn.2 t (sk t ht)) _ _ _ h1) (hf.mono (fun t ht=>hn.2 t (sk t ht))) hlI (sw.g.g.ins b (by rw[hrs];simp)) (sw.g.g.ins m (by rw[hrs];simp));exact tot_of (goal g _ (by rw[hun];unfold xLoop;rw[hrs];exact hx2)) w2 (fun t ht=>kk2 t (hn.2 t (sk t ht)))
 ·exact tot_of (g:=1) (by rw[x_one _ _ _ _ _ k63 k117 k119,if_pos e1]) sw sk
theorem body_tot {N:Nat} (H:TotN N):∀ (G:Nat) (s:St) (f:Fr) (lp:List Int) (l:List It) (lo:Bool),WFs s->s.e=0->rem s<=N+1->wb (knows s) G lo l->wbF s f->(lo=true->lp ≠ [])->(∀ n∈lp,In n)->Tot (jBody f lp l) s:=by
 intro G
 induction G with
 | zero=>
  intro s f lp l lo hw he hr hl hf hlp hlI;have hl:l=[]:=hl;subst hl;exact tot_of (x_nil 0 f lp s) hw (fun _ h=>h)
 | succ G ih=>
  intro s f lp l
  induction l generalizing s with
  | nil=>intro lo hw he hr hl hf hlp hlI;exact tot_of (x_nil 0 f lp s) hw (fun _ h=>h)
  | cons x l ihl=>
   intro lo hw he hr hl hf hlp hlI;obtain⟨g1,s1,left1,h1,w1,kk1⟩:=item_tot H G ih s f lp x lo hw he hr (hl x (by simp)) hf hlp hlI;by_cases hc:left1=true\/s1.e ≠ 0
   ·exact tot_of (g:=g1+1) (by rw[x_cons,h1];dsimp only;rw[if_pos hc]) w1 kk1
   ·have he1:s1.e=0:=by
     by_cases h:s1.e=0
     ·exact h
     ·exact absurd (.inr h) hc
    obtain⟨g2,s2,left2,h2,w2,kk2⟩:=ihl s1 lo w1 he1 (Nat.le_trans (rem_le h1) hr) (wb_known kk1 _ _ _ (fun y hy=>hl y (by simp[hy]))) (hf.mono kk1) hlp hlI;have h1':=xRun_mono (g':=g1+g2) (by omega) h1;have h2':=xRun_mono (g':=g1+g2) (by omega) h2;exact tot_of (g:=g1+g2+1) (by rw[x_cons,h1'];dsimp only;rw[if_neg hc];exact h2') w2 (fun t ht=>kk2 t (kk1 t ht))
end
section
open Go.RowKit
section
variable {P:Program} (w:World)
theorem Blk.setRow {w:World} {b:Nat} {t:TypeId} {c:Array Value} (h:Blk w b t c) (c':Array Value):Blk (w.setRow b c') b t c':=by
 have hlt:=h.lt;unfold Blk at h ⊢;have h':w.heap[b]=.cells c t (0,0):=by simpa [Array.getElem?_eq_getElem hlt] using h
 show (w.heap.modify b _)[b]? = _;rw[Array.getElem?_eq_getElem (by simpa using hlt),Array.getElem_modify_self,h']
theorem run_append_keep (t ty e:TypeId) (i:TypeInfo) (z:Value) (size bytes:Nat) (ht:P.underlying t=some (.slice e)) (hi:P.info? e=some i) (hz:i.zero=some z)
  (hsize:i.size=size) (hby:i.bytes=bytes) (hzs:z.cells.size=size) (hsz:0 < size)
  (v:Value) (n:Nat) (xs:List Value) (hown:w.ownsRow 0 e size v n xs)
  (a:Addr) (m c:Nat) (news:List Value) (hl:news.length=m * size) (hnews:∀ j u,news[j]? = some u->w.cell? (a.add j)=some u) (h1:∀ u∈news,u.oneCell'=true)
  (h63:n+m<=maxLen) (hbytes:(n+m) * bytes<=140737488355328):
  ∃ v' w',(Builtin.append_ #[t,t] ty #[v,.slice (some a) m c]).run P w=.ok v' w'/\w'.ownsRow 0 e size v' (n+m) (xs ++ news)/\w.grownBy w' v.ownBlock /\
   ((∀ k,own v' k->own v k\/w.heap.size<=k)/\w'.ownsRow 0 e size v n xs/\(∀ (q j:Nat) (u:Value),w.cell? ⟨q,j,none⟩=some u->w'.cell? ⟨q,j,none⟩=some u\/∃ x∈news,w'.cell? ⟨q,j,none⟩=some x)):=by
 obtain⟨v',w',hr,ho,hg,hn⟩:=run_append_to (P:=P) w t ty e i z size bytes ht hi hz hsize hby hzs hsz v n xs hown a m c news hl hnews h1 h63 hbytes;have same:∀ (q j:Nat) (u:Value),v.ownBlock ≠ some q->w.cell? ⟨q,j,none⟩=some u->w'.cell? ⟨q,j,none⟩=some u:=by
  intro q j u hq hc;have hlt:q < w.heap.size:=by
   rcases Nat.lt_or_ge q w.heap.size with h|h
   ·exact h
   ·unfold World.cell? at hc;rw[Array.getElem?_eq_none h] at hc;cases hc
  have e:=hg.block q hlt (fun h=>hq h.symm);unfold World.cell? at hc ⊢;rw[e];exact hc
 refine⟨v',w',hr,ho,hg,hn,?_⟩;have hlx:=hown.1;rcases hown.2 with⟨rfl,rfl⟩|⟨g,cap,cur,rfl,hbg,hgg,hnc,hcm,hcs,htake⟩
 ·exact⟨⟨hlx,.inl ⟨rfl,rfl⟩⟩,fun q j u hc=>.inl (same q j u (by simp[Value.ownBlock]) hc)⟩
 ·by_cases hroom:n+m<=cap
  ·have hfit:n * i.size+news.length<=cur.size:=by rw[hl,hcs,hsize,<-Nat.add_mul];exact Nat.mul_le_mul_right _ hroom
   have hr2:=run_append_room (P:=P) w t ty e i ht hi g n cap cur hgg a m c news (by rw[hsize];exact hl) hnews h1 hroom hfit;rw[hr] at hr2;injection hr2 with e1 e2;subst e1;rcases ho.2 with⟨hv,_⟩|⟨g',cap',cur',hv,_,hgg',_,_,hcs',htk'⟩
   ·cases hv
   ·injection hv with q1 q2 q3;injection q1 with q1;injection q1 with q1;subst q1;subst q3;refine⟨⟨hlx,.inr ⟨g,cap,cur',rfl,hbg,hgg',hnc,hcm,hcs',?_⟩⟩,fun q j u hc=>?_⟩
    rotate_left
    ·by_cases hq:q=g
     ·subst hq;have hb:Blk w q e cur:=hgg;have hc0:cur[j]? = some u:=by unfold World.cell? at hc;rw[hgg] at hc;simpa using hc
      have hb':Blk w' q e (cur.toList.take (n * i.size) ++ news ++ cur.toList.drop (n * i.size+news.length)).toArray:=by
       rw[e2];exact Blk.setRow hb _
      have hjl:j < cur.size:=by
       rcases Nat.lt_or_ge j cur.size with h|h
       ·exact h
       ·rw[Array.getElem?_eq_none h] at hc0;cases hc0
      have hln:(cur.toList.take (n * i.size)).length=n * i.size:=by simp;omega
      by_cases h2:j < n * i.size
      ·left
       refine hb'.cell ?_;rw[List.getElem?_toArray,List.append_assoc,List.getElem?_append_left (by omega),List.getElem?_take_of_lt h2];simpa using hc0
      ·by_cases h3:j < n * i.size+news.length
       ·right
        refine⟨news[j - n * i.size]'(by omega),List.getElem_mem _,hb'.cell ?_⟩;rw[List.getElem?_toArray,List.append_assoc,List.getElem?_append_right (by omega),hln,List.getElem?_append_left (by omega),List.getElem?_eq_getElem]
       ·left
        refine hb'.cell ?_;rw[List.getElem?_toArray,List.getElem?_append_right (by simp;omega),List.getElem?_drop];have:n * i.size+news.length+(j - (cur.toList.take (n * i.size) ++ news).length)=j:=by simp only[List.length_append,hln];omega
        rw[this];simpa using hc0
     ·exact .inl (same q j u (by simp[Value.ownBlock];omega) hc)
    have h2:(cur'.toList.take ((n+m) * size)).take (n * size)=(xs ++ news).take (n * size):=by rw[htk']
    have h3:(xs ++ news).take (n * size)=xs:=by rw[<-hlx];simp
    rw[List.take_take,Nat.min_eq_left (Nat.mul_le_mul_right _ (by omega)),h3] at h2;exact h2
  ·subst hsize;subst hby;have holds:∀ j u,xs[j]? = some u->w.cell? ((⟨g,0,none⟩:Addr).add j)=some u:=hown.cells (g:=g) rfl;have hr2:=run_append_grow (P:=P) w t ty e i z ht hi hz ⟨g,0,none⟩ n cap xs hown.1 holds a m c news hl hnews (by omega) (by simp only[maxLen] at h63;omega) (growslice_fits (by omega) hbytes);rw[hr] at hr2;injection hr2 with e1 e2;subst e2;refine⟨(World.ownsRow.alloc (w:=w.drew) hown _),fun q j u hc=>.inl ?_⟩;have hlt:q < w.heap.size:=by
    rcases Nat.lt_or_ge q w.heap.size with h|h
    ·exact h
    ·unfold World.cell? at hc;rw[Array.getElem?_eq_none h] at hc;cases hc
   have e:=Below.heap_alloc w.drew (.cells (xs.toArray ++ news.toArray ++ Builtin.zeroCells z.cells (grownCap w (n+m) cap e - (n+m))) e) q hlt;unfold World.cell? at hc ⊢;rw[e];exact hc
theorem wp_append_keep {o:Oper} {a:Act} {K:Act->World->Prop} {Q:Exit->Act->World->Prop} (s x:Operand) (t:TypeId)
  (ho:o.op=.call { callee:=.builtin .append,args:=#[s,x],argTypes:=#[t,t] })
  (e:TypeId) (i:TypeInfo) (z:Value) (size bytes:Nat) (ht:P.underlying t=some (.slice e)) (hi:P.info? e=some i) (hz:i.zero=some z)
  (hsize:i.size=size) (hby:i.bytes=bytes) (hzs:z.cells.size=size) (hsz:0 < size)
  (v:Value) (n:Nat) (xs:List Value) (hs:a.eval s=v) (hown:w.ownsRow 0 e size v n xs)
  (ad:Addr) (m c:Nat) (news:List Value) (hx:a.eval x=.slice (some ad) m c) (hl:news.length=m * size) (hnews:∀ j u,news[j]? = some u->w.cell? (ad.add j)=some u) (h1:∀ u∈news,u.oneCell'=true)
  (h63:n+m<=maxLen) (hbytes:(n+m) * bytes<=140737488355328)
  (h:∀ v' w',w'.ownsRow 0 e size v' (n+m) (xs ++ news)->w.grownBy w' v.ownBlock->((∀ k,own v' k->own v k\/w.heap.size<=k)/\w'.ownsRow 0 e size v n xs/\(∀ (q j:Nat) (u:Value),w.cell? ⟨q,j,none⟩=some u->w'.cell? ⟨q,j,none⟩=some u\/∃ x∈news,w'.cell? ⟨q,j,none⟩=some x))->K (a.put o.dst v') w'):o.wp P a w K Q:=by
 obtain⟨v',w',hr,h2,h3,h4⟩:=run_append_keep (P:=P) w t o.type e i z size bytes ht hi hz hsize hby hzs hsz v n xs hown ad m c news hl hnews h1 h63 hbytes;unfold Oper.wp execOp;simp only[ho,resolve,invoke,builtin,Sem.run_bind,Sem.run_pure,Result.andThen_ok,List.map_toArray,List.map_cons,List.map_nil,hs,hx,hr];exact h v' w' h2 h3 h4
theorem wpList_append_keep {ops:Array Oper} {rest:List Oper} {o:Oper} {a:Act} {Q:Exit->Act->World->Prop} (hgd:o.guard=none) (s x:Operand) (t:TypeId)
  (ho:o.op=.call { callee:=.builtin .append,args:=#[s,x],argTypes:=#[t,t] })
  (e:TypeId) (i:TypeInfo) (z:Value) (size bytes:Nat) (ht:P.underlying t=some (.slice e)) (hi:P.info? e=some i) (hz:i.zero=some z)
  (hsize:i.size=size) (hby:i.bytes=bytes) (hzs:z.cells.size=size) (hsz:0 < size)
  (v:Value) (n:Nat) (xs:List Value) (hs:a.eval s=v) (hown:w.ownsRow 0 e size v n xs)
  (ad:Addr) (m c:Nat) (news:List Value) (hx:a.eval x=.slice (some ad) m c) (hl:news.length=m * size) (hnews:∀ j u,news[j]? = some u->w.cell? (ad.add j)=some u) (h1:∀ u∈news,u.oneCell'=true)
  (h63:n+m<=maxLen) (hbytes:(n+m) * bytes<=140737488355328)
  (h:∀ v' w',w'.ownsRow 0 e size v' (n+m) (xs ++ news)->w.grownBy w' v.ownBlock->((∀ k,own v' k->own v k\/w.heap.size<=k)/\w'.ownsRow 0 e size v n xs/\(∀ (q j:Nat) (u:Value),w.cell? ⟨q,j,none⟩=some u->w'.cell? ⟨q,j,none⟩=some u\/∃ x∈news,w'.cell? ⟨q,j,none⟩=some x))->wpList P ops Q rest (a.put o.dst v') w'):wpList P ops Q (o :: rest) a w:=
 wpList_plain hgd fun _ hK=>wp_append_keep w s x t ho e i z size bytes ht hi hz hsize hby hzs hsz v n xs hs hown ad m c news hx hl hnews h1 h63 hbytes fun v' w' h2 h3 h4=>hK _ _ (h v' w' h2 h3 h4)
end
end
section
open Go.RowKit
variable {K:Nat->Prop}
theorem loopX (g:Nat) (hB:∀ g',g' < g->CB K g'):CL K g:=by
 intro w yb fb rs s s' f lp lv x nm va vb vt left hr he hf hlp hat hx;have HB:=hide hB;clear hB;obtain⟨ns,hi,hns⟩:=hr.inv;have hg:=hr.good;have hns:=hns he;subst hns;obtain⟨i0,hti,hz0,hz1,hz2⟩:=info_parts Tryz.info3;unfold xLoop at hx
 split at hx
 ·rename_i b m r hrs
  have HX:=hide hx;clear hx;have hinb:In b:=hg.g.ins b (by rw[hrs];simp);have hinm:In m:=hg.g.ins m (by rw[hrs];simp);rw[hrs] at hi;go_enter Tryz.func212,Tryz.ntmps212;have hK0:Kp w (w.alloc (.cells #[.int .u8 x.kind,.int .i64 x.n,.string nm,va,vb,vt] 227)) (fun _=>False):=(Kp.refl w _).alloc _;have hr0:=hr.kpF hK0;have hnk:nK K w.heap.size:=fun h=>Nat.lt_irrefl _ (hr.dr.old _ h);obtain⟨hf0,hto0⟩:=hf.sto hr (STo.kpF (rs:=rs) hK0);have hi0:=hi.kp hK0;have hxb:=Blk.new w #[.int .u8 x.kind,.int .i64 x.n,.string nm,va,vb,vt] 227;have hba:=hat.a.keep (Keeps.kpF hK0 (nK K));have hRS:=hrs;clear hr hf hi hK0 hat hrs
  go_wp2_with fail
  generalize hW0:w.alloc (.cells #[.int .u8 x.kind,.int .i64 x.n,.string nm,va,vb,vt] 227)=w0 at hr0 hf0 hto0 hi0 hxb hba ⊢;clear hW0;refine (takeR2 _ _ _ _ _ _ hi0).mono ?_;rintro e w1 ⟨gt,v',rfl,hT⟩;have HN:=hr0.turn (s':={ s with rs:=r }) hT.to rfl ⟨_,hT.inv,fun _=>rfl⟩ hr0.e hr0.st hr0.mem hr0.out rfl rfl rfl rfl rfl ⟨⟨fun y hy=>hg.g.ins y (by rw[hRS];simp[hy]),hg.g.mems,by have:=hg.g.len;rw[hRS] at this;simp only[List.length_cons] at this;show r.length<=32;omega,hg.g.osz⟩,hg.s0,hg.s1,hg.s2,hg.d0,hg.d1,hg.b0,hg.b1,hg.cb⟩;obtain⟨hr1,hsto1⟩:=HN;obtain⟨hf1,hto1⟩:=hf0.sto hr0 hsto1;have hgt:¬ own lv gt:=fun e=>by have:=own_lt hf0.row e;have:=hT.new;omega
  have hkp1:Keeps (nK K) (nK K) w0 w1:=Keeps.to hsto1 hr0.noB _;have hxb1:=(hkp1 _ _ _ hnk hxb (.inl rfl)).1;have HL:Hid (LoopAt K g yb fb gt w w1 rs s' f lp lv va x.a left b m b/\Blk w1 w.heap.size 227 #[.int .u8 x.kind,.int .i64 x.n,.string nm,va,vb,vt]):=
   ⟨⟨⟨g,_,lv,_,Nat.le_refl _,hr1,he,hf1,hlp,hto0.trans hto1,HX.out,hT.blk,hT.apart,hgt⟩,hba.keep hkp1,hinb⟩,hxb1⟩
  have k0:=hT.blk.cell (o:=0) rfl;clear hT hr0 hf0 hto0 hi0 hxb hba hr1 hsto1 hf1 hto1 hgt hkp1 hxb1 HX;go_wp2;clear k0
  go_loopw [9] (fun i wr=>∃ n:Int,i=.int .i64 n/\LoopAt K g yb fb gt w wr rs s' f lp lv va x.a left b m n/\Blk wr w.heap.size 227 #[.int .u8 x.kind,.int .i64 x.n,.string nm,va,vb,vt]) (fun i _=>(m - intOf i).toNat)
  case atStart=>exact⟨b,rfl,HL.out⟩
  case round=>
   clear HL;obtain⟨n,rfl,⟨⟨g',rsk,lvk,sk,hg',hrel,hek,hfk,hlpk,hto,hx,hbt,hnv,hlv⟩,hbd,hinn⟩,hxb⟩:=hrel;have k1:=hbt.cell (o:=1) rfl
   cases g' with
   | zero=>cases hx
   | succ g'=>
    rw[x_do] at hx;by_cases hnm:n < m
    ·rw[if_pos hnm] at hx
     go_wp2_with fail
     refine (stepS wr yb rsk sk hrel hek).mono ?_;rintro e w2 ⟨rfl,rs2,hrel2,hsto2,-⟩;obtain⟨hf2,hto2⟩:=hfk.sto hrel hsto2;obtain⟨hbt2,hnv2,hlv2⟩:=hto2.held hrel hfk hbt hnv hlv;have hkp2:Keeps (nK K) (nK K) wr w2:=Keeps.to hsto2 hrel.noB _;have hxb2:=(hkp2 _ _ _ hnk hxb (.inl rfl)).1;have hbd2:=hbd.keep hkp2;have hTO2:=hto.trans hto2;clear hrel hfk hto hbt hnv hlv hbd hxb k1 hsto2 hto2 hkp2;by_cases hse:sk.step.e=0
     ·rw[if_neg (by simp[hse])] at hx;rw[decide_eq_true hse]
      split at hx
      ·cases hx
      ·rename_i s3 left3 hx3
       have hstp:(lp.length:Int)+1<=sk.step.steps:=by rw[St.step_steps];omega
       have hs2k:=hrel2.good.s1;obtain⟨al,pl,hlve⟩:=row_slice hf2.row;subst hlve;obtain⟨nmf,vbf,hbf,-⟩:=hf2.blk;have cf:w2.cell? ⟨fb,3,none⟩=some (.slice al lp.length pl):=hbf.cell rfl;have hxl:=hxb2.lt;have hfl:=hbf.lt;have HRL:=hide hrel2;have HF2:=hide hf2;have HX3:=hide hx3;have HXX:=hide hx;have HBT2:=hide hbt2;clear hx hx3 hbf
       go_wp2_with (first
        | (at_builtin;refine wpList_append_to _ rfl _ _ 34 rfl 3 i0 (.int .i64 0) 1 8 Tryz.underlying34 hti hz0 hz1 hz2 rfl (by decide) _ _ _ rfl (hf2.row.alloc _) ⟨w2.heap.size,0,none⟩ 1 1 [.int .i64 n] rfl rfl ?c1 ?c2 ?c3 ?c4 ?_)
        | fail)
       case c1=>intro j u hj;match j,hj with|0,hj=>simp at hj;subst hj;simp[Addr.add]
       case c2=>intro u hu;simp at hu;subst hu;rfl
       case c3=>unfold maxLen;omega
       case c4=>omega
       intro v3 w3 hown hgrow hnx;obtain⟨gl,pl3,rfl⟩:∃ gl cap',v3=.slice (some ⟨gl,0,none⟩) (lp.length+1) cap':=by
        rcases hown.2 with⟨_,h0⟩|⟨g,cap',_,hv,_⟩
        ·omega
        ·exact⟨g,cap',hv⟩
       have hnx3:∀ k,own (.slice (some ⟨gl,0,none⟩) (lp.length+1) pl3) k->own (.slice al lp.length pl) k\/w2.heap.size+1<=k:=fun k hk=>(hnx k hk).imp (fun h=>h) (fun h=>by simpa using h);obtain⟨hk3,⟨nm3,vb3,hb3⟩,hrel3,hf3,hto3,hkp3⟩:=HF2.out.push HRL.out hinn hown hgrow hnx3;obtain⟨hbt3,hnv3,hlv3⟩:=hto3.held HRL.out HF2.out HBT2.out hnv2 hlv2;have hxb3:=(hkp3 _ _ _ hnk hxb2 (.inl rfl)).1;have hbd3:=hbd2.keep hkp3;have hTO3:=hTO2.trans hto3;have hxw3:Blk w3 w.heap.size 227 #[.int .u8 x.kind,.int .i64 x.n,.string nm,va,vb,vt]:=hk3.blk hxb2 (own_ne hf2.row hxb2 (by decide));have hxf:¬ w.heap.size=fb:=by intro e;rw[e] at hxw3;exact absurd (hxw3.inj hb3).1 (by decide)
       have cx3:w3.cell? ⟨w.heap.size,3,none⟩=some va:=hxw3.cell rfl;have cf3:w3.cell? ⟨fb,3,none⟩=some (.slice al lp.length pl):=hb3.cell rfl;have ff3:=hb3.free 3;have HR3:=hide hrel3;have HF3:=hide hf3;have HTO3:=hide hTO3;have HBT3:=hide hbt3;have HXB3:=hide hxb3;have HBD3:=hide hbd3;clear hown hgrow hnx hnx3 hk3 hb3 hrel3 hf3 hto3 hkp3 hbt3 hxb3 hbd3 hTO3 hxw3 hbd2 hxb2 hTO2 hrel2 hf2 hbt2 cf HRL HF2 HBT2
       go_wp2_with fail
       refine (HB.out g' (by omega) _ yb fb _ _ s3 f (n :: lp) _ va x.a left3 HR3.out hse HF3.out (by simp only[List.length_cons];omega) HBD3.out HX3.out).mono ?_;rintro e w4 ⟨rfl,rs4,lv4,hrel4,hf4,hto4⟩;obtain⟨hbt4,hnv4,hlv4⟩:=hto4.held HR3.out HF3.out HBT3.out hnv3 hlv3;have hkp4:Keeps (nK K) (nK K) _ w4:=Keeps.to hto4 (HF3.out.noB HR3.out) _;have hxb4:=(hkp4 _ _ _ hnk HXB3.out (.inl rfl)).1;have hbd4:=HBD3.out.keep hkp4;have hTO4:=HTO3.out.trans hto4;obtain⟨gl4,pl4,rfl⟩:∃ gl cap',lv4=.slice (some ⟨gl,0,none⟩) (lp.length+1) cap':=by
        rcases hf4.row.2 with⟨_,h0⟩|⟨g,cap',_,hv,_⟩
        ·simp at h0
        ·exact⟨g,cap',hv⟩
       have hnc4:lp.length+1<=pl4:=by
        rcases hf4.row.2 with⟨hv,h0⟩|⟨g,cap',_,hv,_,_,hnc,_⟩
        ·simp at h0
        ·injection hv with e1 e2 e3;subst e3;simpa using hnc
       obtain⟨hrel5,hf5,hto5,hkp5⟩:=hf4.popD hrel4;obtain⟨hbt5,hnv5,hlv5⟩:=hto5.held hrel4 hf4 hbt4 hnv4 hlv4;have hxb5:=(hkp5 _ _ _ hnk hxb4 (.inl rfl)).1;have hbd5:=hbd4.keep hkp5;have hTO5:=hTO4.trans hto5;have hst5:=(xRun_keep _ _ _ _ _ HX3.out).2;have HE3:Hid (left3=false->s3.e=0):=fun e=>by have h:=HX3.out;rw[e] at h;exact xBody_e _ _ _ _ _ _ hse h
       have hinn1:In (n+1):=by unfold In at hinn hinm ⊢;omega
       obtain⟨nm4,vb4,hb4,-⟩:=hf4.blk;have cf4:w4.cell? ⟨fb,3,none⟩=some (.slice (some ⟨gl4,0,none⟩) (lp.length+1) pl4):=hb4.cell rfl;have ff4:=hb4.free 3;have HR5:=hide hrel5;have HF5:=hide hf5;have HTO5:=hide hTO5;have HBT5:=hide hbt5;have HXB5:=hide hxb5;have HBD5:=hide hbd5;clear hrel4 hf4 hto4 hkp4 hbt4 hxb4 hbd4 hTO4 hrel5 hf5 hto5 hkp5 hbt5 hxb5 hbd5 hTO5 hb4 HR3 HF3 HTO3 HBT3 HXB3 HBD3 HX3 cf3 ff3 cx3 hnv2 hlv2 hnv3 hlv3 hnv4 hlv4;have hxx:=HXX.out;clear HXX;by_cases hl3:left3=true
       ·subst hl3;rw[if_pos rfl] at hxx;injection hxx with hxx;injection hxx with hx1 hx2;subst hx1;subst hx2;go_wp2
        go_region
        all_goals
         go_wp2;go_ret;exact⟨rfl,rs4,_,HR5.out,HF5.out,HTO5.out⟩
       ·have hl3:left3=false:=by simpa using hl3
        subst hl3;rw[if_neg (by simp)] at hxx;have HXX:=hide hxx;have he3:s3.e=0:=HE3.out rfl;clear hxx;go_wp2
        go_region
        all_goals
         have hwn:wrap64 (n+1)=n+1:=by unfold In at hinn1;unfold wrap64;omega
         go_wp2
         go_roundw
         case rel=>exact⟨n+1,by rw[hwn],⟨⟨g',rs4,_,s3,by omega,HR5.out,he3,HF5.out,by omega,HTO5.out,HXX.out,HBT5.out,hnv5,hlv5⟩,HBD5.out,hinn1⟩,HXB5.out⟩
         case measure=>simp[intOf,hwn];omega
     ·rw[if_pos hse] at hx;rw[decide_eq_false hse];injection hx with hx;injection hx with hx1 hx2;subst hx1;subst hx2;clear hbt2 hxb2 hbd2;go_wp2;go_ret;exact⟨rfl,rs2,lvk,hrel2,hf2,hTO2⟩
    ·rw[if_neg hnm] at hx;injection hx with hx;injection hx with hx1 hx2;subst hx1;subst hx2;go_wp2;go_ret;exact⟨rfl,rsk,lvk,hrel,hfk,hto⟩
 ·rename_i hne
  injection hx with hx;injection hx with hx1 hx2;subst hx1;subst hx2;have hlt:(s.rs.reverse.length:Int) < 2:=by
   rw[List.length_reverse]
   match hrs:s.rs with
   | []=>simp
   | [a]=>simp
   | b :: m :: r=>exact absurd hrs (hne b m r)
  go_enter Tryz.func212,Tryz.ntmps212;have hK0:Kp w (w.alloc (.cells #[.int .u8 x.kind,.int .i64 x.n,.string nm,va,vb,vt] 227)) (fun _=>False):=(Kp.refl w _).alloc _;have hr0:=hr.kpF hK0;have hnk:nK K w.heap.size:=fun h=>Nat.lt_irrefl _ (hr.dr.old _ h);obtain⟨hf0,hto0⟩:=hf.sto hr (STo.kpF (rs:=rs) hK0);have hi0:=hi.kp hK0;clear hr hf hi hK0 hat
  go_wp2_with fail
  refine (takeR_under _ _ _ _ _ hi0 hlt).mono ?_;rintro e w2 ⟨v,rfl,hi2,hto2⟩;have HN:=hr0.turn (s':=s.err 6) hto2 rfl ⟨_,hi2,(fun h=>by cases h)⟩ rfl hr0.st hr0.mem hr0.out rfl rfl rfl rfl rfl ⟨hg.g,hg.s0,hg.s1,(fun h=>by cases h),hg.d0,hg.d1,hg.b0,hg.b1,hg.cb⟩;obtain⟨hf2,hto3⟩:=hf0.sto hr0 HN.2;clear hi2 hto2 hi0;go_wp2;go_ret;exact⟨rfl,_,lv,HN.1,hf2,hto0.trans hto3⟩
end
end Go.Proofs.YteainaiebcphlaaGreatDoor
