import Derived.Test.YteainaiebcphlaaGreatDoorV18
import Derived.Test.YteainaiebcphlaaGreatDoorV20
import Derived.Test.YteainaiebcphlaaGreatDoorV14
namespace Go.Proofs.YteainaiebcphlaaGreatDoor
set_option maxRecDepth 1000000
set_option maxHeartbeats 4000000
set_option linter.all false
section
open Go.RowKit
theorem do_tot {N:Nat} (H:TotN N) (G:Nat) (s:St) (f:Fr) (lp:List Int) (n m:Int) (l:List It) (hw:WFs s) (he:s.e=0) (hr:rem s<=N+1) (hl:wb (knows s) G true l) (hf:wbF s f) (hlI:∀ n∈lp,In n) (hnI:In n) (hmI:In m):Tot (jDo f lp n m l) s:=by
 obtain⟨sw,sk,sr⟩:=step_next hw he hr;by_cases hnm:n < m
 ·by_cases e1:s.step.e=0
  ·obtain⟨srr,s20⟩:=sr e1;obtain⟨g1,s1,left1,h1,w1,kk1⟩:=H.body G s.step f (n :: lp) l true sw e1 srr (wb_known sk _ _ _ hl) (hf.mono sk) (fun _=>by simp) (by intro q hq;rcases List.mem_cons.1 hq with h|h;rw[h];exact hnI;exact hlI q h);by_cases e2:left1=true
   ·exact tot_of (g:=g1+1) (by rw[x_do,if_pos hnm,if_neg (by simp[e1]),h1];dsimp only;rw[if_pos e2]) w1 (fun t ht=>kk1 t (sk t ht))
   have e2':left1=false:=by simpa using e2
   subst e2';have he1:=xBody_e _ _ _ _ _ _ e1 h1;have kt:∀ t,knows s t->knows s1 t:=fun t ht=>kk1 t (sk t ht);obtain⟨g2,s2,left2,h2,w2,kk2⟩:=H.do_ G s1 f lp (n+1) m l w1 he1 (Nat.le_trans (rem_le h1) srr) (wb_known kt _ _ _ hl) (hf.mono kt) hlI (by unfold In at hnI hmI ⊢;omega) hmI;have h1':=xRun_mono (g':=g1+g2) (by omega) h1;have h2':=xRun_mono (g':=g1+g2) (by omega) h2;exact tot_of (g:=g1+g2+1) (by rw[x_do,if_pos hnm,if_neg (by simp[e1]),h1'];dsimp only;rw[if_neg (by simp)];exact h2') w2 (fun t ht=>kk2 t (kt t ht))
  ·exact tot_of (g:=1) (by rw[x_do,if_pos hnm,if_pos e1]) sw sk
 ·exact tot_of (g:=1) (by rw[x_do,if_neg hnm]) hw (fun _ h=>h)
theorem count_e' {g:Nat} {s s':St} {k:Nat} (h:s.count g k=some s'):s'.e=s.e:=by
 unfold St.count at h
 repeat' split at h
 all_goals first
  | (cases h;done)
  | (injection h with h;subst h;rfl)
theorem come_tot {s:St} (hw:WFs s) (f:Fr):∃ g s1,xCome g f s=some s1/\WFs s1/\(∀ t,knows s t->knows s1 t)/\s1.e=s.e/\s1.steps=s.steps/\s1.depth=s.depth:=by
 cases hf:s.find f.name with
 | none=>exact⟨0,s,by unfold xCome;rw[hf],hw,fun _ h=>h,rfl,rfl,rfl⟩
 | some k=>
  have hk:k < s.defs.length:=(List.findIdx?_eq_some_iff_getElem.1 hf).1;by_cases hid:s.defs[k].id=f.id
  ·obtain⟨g,s1,h1,w1,k1⟩:=count_total hw hk;exact⟨g,s1,by unfold xCome;rw[hf];dsimp only;rw[List.getElem?_eq_getElem hk];dsimp only;rw[if_pos hid];exact h1,w1,fun t ht=>(k1 t).2 ht,count_e' h1,(St.count_keep h1).2,(St.count_keep h1).1⟩
  ·exact⟨0,s,by unfold xCome;rw[hf];dsimp only;rw[List.getElem?_eq_getElem hk];dsimp only;rw[if_neg hid],hw,fun _ h=>h,rfl,rfl,rfl⟩
theorem xCome_le {g g':Nat} (hg:g<=g') {f:Fr} {s s':St} (h:xCome g f s=some s'):xCome g' f s=some s':=by
 induction hg with
 | refl=>exact h
 | step _ ih=>exact xCome_mono ih
theorem enter_tot {N:Nat} (H:TotN N) (s:St) (f:Fr) (hw:WFs s) (he:s.e=0) (hr:rem s<=N+1) (hf:wbF s f):Tot (jEnter f) s:=by
 by_cases hd:20<=s.depth
 ·have hn:=hw.same (s':=s.err 8) (hw.g.err (by decide)) rfl;exact tot_of (g:=1) (by rw[x_enter,if_pos hd]) hn.1 hn.2
 obtain⟨g1,s1,h1,w1,kk1,e1,st1,dp1⟩:=come_tot hw f;have hn:=w1.same (s':={ s1 with depth:=s1.depth+1 }) (w1.g.dep (by have:=w1.g.d0;omega) (by omega)) rfl;have kt:∀ t,knows s t->knows { s1 with depth:=s1.depth+1 } t:=fun t ht=>hn.2 t (kk1 t ht);obtain⟨Gf,hGf⟩:=hf;obtain⟨g2,s2,left2,h2,w2,kk2⟩:=body_tot H Gf { s1 with depth:=s1.depth+1 } f [] f.body false hn.1 (by show s1.e=0;rw[e1];exact he) (by show rem s1<=N+1;unfold rem at hr ⊢;rw[st1];exact hr) (wb_known kt _ _ _ hGf) ⟨Gf,wb_known kt _ _ _ hGf⟩ (fun h=>by cases h) (fun q hq=>by cases hq);have hdp:=(xRun_keep _ _ _ _ _ h2).1;dsimp only at hdp;have hn2:=w2.same (s':={ s2 with depth:=s2.depth - 1 }) (w2.g.dep (by have:=w1.g.d0;omega) (by have:=w2.g.d1;omega)) rfl;exact tot_of (g:=g1+g2+1) (by rw[x_enter,if_neg hd,xCome_le (by omega) h1];dsimp only;rw[xRun_mono (by omega) h2]) hn2.1 (fun t ht=>hn2.2 t (kk2 t (kt t ht)))
theorem call_tot {N:Nat} (H:TotN N) (s:St) (t:Tok) (hw:WFs s) (he:s.e=0) (hr:rem s<=N+1) (hk:knows s t):Tot (jCall t) s:=by
 have hin:=known_in hk;unfold inDefs at hin
 cases hf:s.defs.find? (fun d=>d.name == t) with
 | none=>rw[hf] at hin;cases hin
 | some d=>
  obtain⟨g,s',left,h,w1,kk⟩:=enter_tot H s ⟨d.id,d.name,d.body⟩ hw he hr (hw.d d (List.mem_of_find?_eq_some hf));exact tot_of (g:=g+1) (by rw[x_call,hf];exact h) w1 kk
theorem pDef_le {g g':Nat} (hg:g<=g') {s:St} {r:List Tok} {res:DRes} (h:pDef g s r=some res):pDef g' s r=some res:=by
 induction hg with
 | refl=>exact h
 | step _ ih=>exact pDef_mono ih
theorem tok_tot {N:Nat} (H:TotN N) (s:St) (t:Tok) (hw:WFs s) (he:s.e=0) (hr:rem s<=N+1):∃ g s',xTok g t s=some s'/\WFs s'/\(∀ t,knows s t->knows s' t)/\(s'.e=0->rem s'<=N):=by
 obtain⟨sw,sk,sr⟩:=step_next hw he hr;by_cases e1:s.step.e=0
 ·obtain⟨srr,s20⟩:=sr e1
  cases hn:numP t with
  | some n=>
   have hn2:=sw.same (s':=s.step.put n) (sw.g.put (numP_range hn)) (put_defs _ _);exact⟨0,_,by unfold xTok;rw[hn];dsimp only;rw[if_neg (by simp[e1])],hn2.1,fun t ht=>hn2.2 t (sk t ht),fun _=>by unfold rem at srr ⊢;rw[St.put_steps];exact srr⟩
  | none=>
   cases hp:plainL.findIdx? (· == t) with
   | some k=>
    have hn2:=sw.same (s':=s.step.word k) (sw.g.word e1 k) rfl;exact⟨0,_,by unfold xTok;rw[hn];dsimp only;rw[hp];dsimp only;rw[if_neg (by simp[e1])],hn2.1,fun t ht=>hn2.2 t (sk t ht),fun _=>srr⟩
   | none=>
    by_cases q1:(keptL.any (· == t) || t == kSemi || t == kOpen || t == kClose)=true
    ·have hn2:=hw.same (s':=s.err 4) (hw.g.err (by decide)) rfl;exact⟨0,_,by unfold xTok;rw[hn];dsimp only;rw[hp];dsimp only;rw[if_pos q1],hn2.1,hn2.2,fun h=>by cases h⟩
    by_cases q2:s.known t=false
    ·have hn2:=hw.same (s':=s.err 3) (hw.g.err (by decide)) rfl;exact⟨0,_,by unfold xTok;rw[hn];dsimp only;rw[hp];dsimp only;rw[if_neg q1,if_pos q2],hn2.1,hn2.2,fun h=>by cases h⟩
    ·obtain⟨g,s2,l2,hx2,w2,kk2⟩:=H.call s.step t sw e1 srr (sk _ (by unfold knows;simpa using q2));exact⟨g,s2,by unfold xTok;rw[hn];dsimp only;rw[hp];dsimp only;rw[if_neg q1,if_neg q2,if_neg (by simp[e1]),hx2],w2,fun t ht=>kk2 t (sk t ht),fun _=>Nat.le_trans (rem_le hx2) srr⟩
 ·cases hn:numP t with
  | some n=>exact⟨0,_,by unfold xTok;rw[hn];dsimp only;rw[if_pos e1],sw,sk,fun h=>absurd h e1⟩
  | none=>
   cases hp:plainL.findIdx? (· == t) with
   | some k=>exact⟨0,_,by unfold xTok;rw[hn];dsimp only;rw[hp];dsimp only;rw[if_pos e1],sw,sk,fun h=>absurd h e1⟩
   | none=>
    by_cases q1:(keptL.any (· == t) || t == kSemi || t == kOpen || t == kClose)=true
    ·have hn2:=hw.same (s':=s.err 4) (hw.g.err (by decide)) rfl;exact⟨0,_,by unfold xTok;rw[hn];dsimp only;rw[hp];dsimp only;rw[if_pos q1],hn2.1,hn2.2,fun h=>by cases h⟩
    by_cases q2:s.known t=false
    ·have hn2:=hw.same (s':=s.err 3) (hw.g.err (by decide)) rfl;exact⟨0,_,by unfold xTok;rw[hn];dsimp only;rw[hp];dsimp only;rw[if_neg q1,if_pos q2],hn2.1,hn2.2,fun h=>by cases h⟩
    ·exact⟨0,_,by unfold xTok;rw[hn];dsimp only;rw[hp];dsimp only;rw[if_neg q1,if_neg q2,if_pos e1],sw,sk,fun h=>absurd h e1⟩
theorem xTok_le {g g':Nat} (hg:g<=g') {t:Tok} {s s':St} (h:xTok g t s=some s'):xTok g' t s=some s':=by
 induction hg with
 | refl=>exact h
 | step _ ih=>exact xTok_mono (fun j s r h=>xRun_mono1 _ j s r h) ih
theorem pDef_len {g:Nat} {s:St} {r:List Tok} {nm:Tok} {b:List It} {r1:List Tok} (h:pDef g s r=some (.ok (nm,b,r1))):r1.length<=r.length:=by
 cases r with
 | nil=>cases h
 | cons t r=>
  unfold pDef at h;dsimp only at h
  split at h
  ·cases h
  split at h
  ·cases h
  split at h
  ·cases h
  ·cases h
  ·rename_i b' t' r' hr
   injection h with h;injection h with h;injection h with e1 e2;injection e2 with e2 e3;subst e3;obtain⟨_,_,_,hl⟩:=pRead_calls _ _ _ _ _ _ _ hr;simp;omega
theorem toks_tot {N:Nat} (H:TotN N) (s:St) (ts:List Tok) (hw:WFs s) (hr:s.e=0->rem s<=N+1) (hlt:ts.length<=1000):Tot (jToks ts) s:=by
 by_cases he:s.e=0
 ·have hr:=hr he
  cases ts with
  | nil=>exact tot_of (x_tnil 0 s) hw (fun _ h=>h)
  | cons t r=>
   have hlr:r.length<=1000:=by simp at hlt;omega
   by_cases ht:t=kColon
   ·subst ht;obtain⟨sw,sk,sr⟩:=step_next hw he hr;obtain⟨g1,res,hp⟩:=pDef_total s r
    cases res with
    | error e=>
     have hg:=hw.g;have hn:=hw.same (s':=s.err e) ⟨hg.g,hg.s0,hg.s1,fun _=>hw.st he,hg.d0,hg.d1,hg.b0,hg.b1,hg.cb⟩ rfl;exact tot_of (g:=g1+1) (by rw[x_def _ _ _ he,hp]) hn.1 hn.2
    | ok q=>
     obtain⟨nm,b,r1⟩:=q;by_cases e1:s.step.e=0
     ·obtain⟨srr,s20⟩:=sr e1;obtain⟨G,hG⟩:=pDef_wb hlr hp;have hcb:=(pDefD_ok hlr (by rw[<-pDef_eq];exact hp)).1;have hl1:=pDef_len hp;have w2:=sw.set (nm:=nm) (b:=b) (wb_known sk _ _ _ hG) hcb;obtain⟨g2,s2,l2,h2,w3,kk3⟩:=H.toks (s.step.set nm b) r1 w2 (fun _=>srr) (by omega);exact tot_of (g:=g1+g2+1) (by rw[x_def _ _ _ he,pDef_le (by omega) hp];dsimp only;rw[if_neg (by simp[e1])];exact xRun_mono (by omega) h2) w3 (fun t ht=>kk3 t (set_knows (sk t ht)))
     ·exact tot_of (g:=g1+1) (by rw[x_def _ _ _ he,hp];dsimp only;rw[if_pos e1]) sw sk
   ·obtain⟨g1,s1,h1,w1,kk1,r1⟩:=tok_tot H s t hw he hr;obtain⟨g2,s2,l2,h2,w2,kk2⟩:=H.toks s1 r w1 r1 hlr;exact tot_of (g:=g1+g2+1) (by rw[x_tok _ _ _ _ he ht,xTok_le (by omega) h1];exact xRun_mono (by omega) h2) w2 (fun t ht=>kk2 t (kk1 t ht))
 ·exact tot_of (x_terr 0 s ts he) hw (fun _ h=>h)
theorem totN:∀ N,TotN N
 | 0=>TotN.zero
 | N+1=>⟨fun G s f lp l lo=>body_tot (totN N) G s f lp l lo,fun G s f lp x lo=>item_tot (totN N) G (body_tot (totN N) G) s f lp x lo,fun G s f lp n m l=>do_tot (totN N) G s f lp n m l,fun s f=>enter_tot (totN N) s f,fun s t=>call_tot (totN N) s t,fun s ts=>toks_tot (totN N) s ts⟩
theorem line_total (s:St) (hw:WFs s) (text:List UInt8) (hlt:(Lib.fields text).length<=1000):∃ g s1 left,xRun g (jToks (Lib.fields text)) { s with e:=0,steps:=0,depth:=0,out:=⟨#[]⟩ }=some (s1,left)/\WFs (if s1.e=0 then s1 else { s1 with rs:=[] }):=by
 have hg:=hw.g;have hn:=hw.same (s':={ s with e:=0,steps:=0,depth:=0,out:=⟨#[]⟩ }) ⟨⟨hg.g.ins,hg.g.mems,hg.g.len,by show (0:Nat)<=300;decide⟩,by show (0:Int)<=0;decide,by show (0:Int)<=2001;decide,fun _=>by show (0:Int)<=2000;decide,by show (0:Int)<=0;decide,by show (0:Int)<=20;decide,hg.b0,hg.b1,hg.cb⟩ rfl;obtain⟨g,s1,left,h,w1,_⟩:=(totN 2001).toks _ (Lib.fields text) hn.1 (fun _=>by unfold rem;simp) hlt;refine⟨g,s1,left,h,?_⟩
 split
 ·exact w1
 ·exact (w1.same (s':={ s1 with rs:=[] }) (w1.g.tail (fun x hx=>by cases hx) (by simp)) rfl).1
end
section
open Go.RowKit
variable {K:Nat->Prop}
theorem Keeps.out {w w':World} {S:Nat->Prop} (hk:Kp w w' S) (hS:∀ b,b < w.heap.size->S b->K b):Keeps (nK K) (nK K) w w':=fun b _ _ hb hbl _=>⟨hk.blk hbl (fun h=>hb (hS b hbl.lt h)),hb⟩
theorem Ses.frame {w w':World} {S:Nat->Prop} {yb:Nat} {rs:RS} {s:St} (h:Ses K w yb rs s) (hk:Kp w w' S) (hS:∀ b,b < w.heap.size->S b->K b) (h1:¬ S yb) (h2:∀ b,own rs.nv b->¬ S b) (h3:∀ b,own rs.d.dv b->¬ S b):Ses K w' yb rs s:=by
 have hi:=h.inv;have hi':RInv w' yb rs s.rs.reverse:=⟨hk.blk hi.blk h1,hk.row hi.row h2,hi.len⟩;have hr:=h.rel;have hd:DRel K w' rs.d.dv s.defs:=hr.dr.keep (Keeps.out hk hS) (fun b hb=>by
  obtain⟨xs,hrow,_⟩:=hr.dr.ex;exact hk.block b (own_lt hrow hb) (h3 b hb)) hk.size
 exact⟨⟨⟨_,hi',fun _=>rfl⟩,hr.e,hr.st,hr.mem,hr.out,hr.ids,hr.hot,hr.blt,hr.dp,hd,hr.good⟩,hi'⟩
theorem Ses.move {w w1:World} {S:Nat->Prop} {yb:Nat} {rs:RS} {s:St} {K':Nat->Prop} (h:Ses K w yb rs s) (hk:Kp w w1 S) (hS:∀ b,b < w.heap.size->S b->K b) (q1:¬ S yb) (q2:∀ b,own rs.nv b->¬ S b) (q3:∀ b,own rs.d.dv b->¬ S b) (h1:∀ b,K' b->K b\/w.heap.size<=b) (h2:∀ b,K' b->b < w1.heap.size):Ses K' w1 yb rs s:=by
 have hi:=h.inv;have hi':RInv w1 yb rs s.rs.reverse:=⟨hk.blk hi.blk q1,hk.row hi.row q2,hi.len⟩;have hr:=h.rel;have hkeep:Keeps (nK K) (nK K') w w1:=fun b _ _ hb hbl _=>⟨hk.blk hbl (fun h=>hb (hS b hbl.lt h)),fun hK=>by
  rcases h1 b hK with h|h
  ·exact hb h
  ·have:=hbl.lt;omega⟩
 obtain⟨xs,hrow,hx⟩:=hr.dr.ex;have hdefs:∀ (l:List Def) (xs:List Value),defsIn K w l xs->defsIn K' w1 l xs:=by
  intro l
  induction l with
  | nil=>intro xs h;exact h
  | cons d l ih=>
   rintro xs ⟨nm,vb,vt,rest,h1,h2,h3,h4,h5⟩;exact⟨nm,vb,vt,rest,h1,h2,h3.keep hkeep,toksIn_keep hkeep h4,ih rest h5⟩
 exact⟨⟨⟨_,hi',fun _=>rfl⟩,hr.e,hr.st,hr.mem,hr.out,hr.ids,hr.hot,hr.blt,hr.dp,⟨⟨xs,hk.row hrow q3,hdefs _ _ hx⟩,hr.dr.len,h2⟩,hr.good⟩,hi'⟩
theorem Ses.bar {w w1:World} {yb:Nat} {rs:RS} {s:St} {K':Nat->Prop} (h:Ses K w yb rs s) (hk:Kp w w1 (fun _=>False)) (h1:∀ b,K' b->K b\/w.heap.size<=b) (h2:∀ b,K' b->b < w1.heap.size):Ses K' w1 yb rs s:=
 h.move hk (fun _ _ h=>h.elim) (fun h=>h) (fun _ _ h=>h) (fun _ _ h=>h) h1 h2
theorem Ses.less {w:World} {yb:Nat} {rs:RS} {s:St} {K':Nat->Prop} (h:Ses K w yb rs s) (h1:∀ b,K' b->K b):Ses K' w yb rs s:=
 h.bar (Kp.refl _ _) (fun b hb=>.inl (h1 b hb)) (fun b hb=>h.rel.dr.old b (h1 b hb))
def rs0:RS:=⟨.slice none 0 0,fun _=>0,0,0,⟨#[]⟩,⟨.slice none 0 0,0,5,1,0⟩⟩
theorem SGood.first:SGood st0:=
 ⟨⟨(by intro x hx;cases hx),(fun i=>by show In 0;unfold In;decide),by show (0:Nat)<=32;decide,by show (0:Nat)<=300;decide⟩,by show (0:Int)<=0;decide,by show (0:Int)<=2001;decide,fun _=>by show (0:Int)<=2000;decide,by show (0:Int)<=0;decide,by show (0:Int)<=20;decide,by show (0:Int)<=1;decide,by show (1:Int)<=3;decide,(by intro d hd;cases hd)⟩
theorem Ses.first (w:World) (hK:∀ b,K b->b < (w.alloc (.cells rs0.arr 67)).heap.size):Ses K (w.alloc (.cells rs0.arr 67)) w.heap.size rs0 st0:=by
 have hi:RInv (w.alloc (.cells rs0.arr 67)) w.heap.size rs0 []:=⟨Blk.new _ _ _,World.ownsRow_nil _ _ _ _,by simp⟩;exact⟨⟨⟨[],hi,fun _=>rfl⟩,rfl,rfl,rfl,rfl,rfl,rfl,rfl,rfl,⟨⟨[],World.ownsRow_nil _ _ _ _,rfl⟩,by decide,hK⟩,SGood.first⟩,hi⟩
theorem WFs.first:WFs st0:=⟨SGood.first,(fun d hd=>by cases hd),fun _=>by show (0:Int)<=2000;decide⟩
theorem freshX (w:World):Calls Tryz.prog 29 #[] w fun e w'=>e=.returned (.pointer (some ⟨w.heap.size,0,none⟩))/\w'=w.alloc (.cells rs0.arr 67):=by
 go_enter Tryz.func29,Tryz.ntmps29;go_wp2;go_ret;exact⟨rfl,rfl⟩
end
section
open Go.RowKit
def insN (x:Tok):List Tok->List Tok
 | []=>[x]
 | b :: r=>if Op.bytesLess x b=true then b :: insN x r else x :: b :: r
def rsortN (l:List Tok):List Tok:=l.foldl (fun rp x=>insN x rp) []
def sortN (l:List Tok):List Tok:=(rsortN l).reverse
def sink:Nat->List Tok->List Tok
 | 0,l=>l
 | k+1,l=>match l[k+1]?,l[k]? with
  | some a,some b=>if Op.bytesLess a b=true then sink k ((l.set (k+1) b).set k a) else l
  | _,_=>l
theorem sink_eq (x:Tok):∀ (rp post:List Tok),sink rp.length (rp.reverse ++ x :: post)=(insN x rp).reverse ++ post
 | [],post=>by simp[sink,insN]
 | b :: r,post=>by
  have e1:((b :: r).reverse ++ x :: post)[r.length+1]? = some x:=by
   rw[List.getElem?_append_right (by simp)];simp
  have e2:((b :: r).reverse ++ x :: post)[r.length]? = some b:=by
   rw[List.reverse_cons,List.append_assoc,List.getElem?_append_right (by simp)];simp
  have e3:((((b :: r).reverse ++ x :: post).set (r.length+1) b).set r.length x)=r.reverse ++ x :: (b :: post):=by
   rw[List.reverse_cons,List.append_assoc];rw[List.set_append_right _ _ (by simp),List.set_append_right _ _ (by simp)];simp
  show sink (r.length+1) _=_;rw[sink,e1,e2];dsimp only;rw[insN];by_cases h:Op.bytesLess x b=true
  ·rw[if_pos h,if_pos h,e3,sink_eq x r (b :: post)];simp
  ·rw[if_neg h,if_neg h];simp
def sortTo (i:Nat) (l:List Tok):List Tok:=(rsortN (l.take i)).reverse ++ l.drop i
theorem insN_len (x:Tok):∀ (rp:List Tok),(insN x rp).length=rp.length+1
 | []=>rfl
 | b :: r=>by unfold insN;split <;> simp[insN_len x r]
theorem rsortN_snoc (l:List Tok) (x:Tok):rsortN (l ++ [x])=insN x (rsortN l):=by unfold rsortN;rw[List.foldl_append];rfl
theorem rsortN_len:∀ (l:List Tok),(rsortN l).length=l.length:=by
 have key:∀ (l rp:List Tok),(l.foldl (fun rp x=>insN x rp) rp).length=rp.length+l.length:=by
  intro l
  induction l with
  | nil=>intro rp;simp
  | cons x l ih=>intro rp;rw[List.foldl_cons,ih,insN_len];simp;omega
 intro l;unfold rsortN;rw[key];simp
theorem sortTo_succ (l:List Tok) (i:Nat) (h:i < l.length):sink i (sortTo i l)=sortTo (i+1) l:=by
 unfold sortTo;rw[List.drop_eq_getElem_cons h,List.take_succ_eq_append_getElem h,rsortN_snoc];have:(rsortN (l.take i)).length=i:=by rw[rsortN_len];simp;omega
 have h2:=sink_eq l[i] (rsortN (l.take i)) (l.drop (i+1));rw[this] at h2;exact h2
theorem sortTo_one (l:List Tok):sortTo 1 l=l:=by
 unfold sortTo
 cases l with
 | nil=>rfl
 | cons x r=>simp[rsortN,insN]
def wordsP (s:St):List Tok:=sortN (s.defs.map Def.name)
def cellP (s:St) (n:Int):Int × Int:=if n < 0\/16<=n then (0,10) else (s.mem n.toNat,0)
end
section
open Go.RowKit
variable {K:Nat->Prop}
theorem cellX (w:World) (yb:Nat) (rs:RS) (s:St) (n:Int) (h:Ses K w yb rs s) (hn:In n):
  Calls Tryz.prog 49 #[.pointer (some ⟨yb,0,none⟩),.int .i64 n] w fun e w'=>e=.returned (.tuple #[.int .i64 (cellP s n).1,.int .i64 (cellP s n).2])/\Kp w w' (fun _=>False):=by
 by_cases h0:n < 0
 ·have HP:Hid (cellP s n=(0,10)):=by unfold Hid cellP;rw[if_pos (.inl h0)]
  go_enter Tryz.func49,Tryz.ntmps49;go_wp2;go_ret2;rw[HP.out];exact⟨rfl,Kp.refl _ _⟩
 by_cases h1:16<=n
 ·have HP:Hid (cellP s n=(0,10)):=by unfold Hid cellP;rw[if_pos (.inr h1)]
  go_enter Tryz.func49,Tryz.ntmps49;go_wp2;go_ret2;rw[HP.out];exact⟨rfl,Kp.refl _ _⟩
 ·obtain⟨k,rfl⟩:∃ k:Nat,n=k:=⟨n.toNat,by omega⟩;have hk:k < 16:=by omega
  have HP:Hid (cellP s k=(s.mem k,0)):=by unfold Hid cellP;rw[if_neg (by omega)];simp
  have c:w.cell? ⟨yb,1+k,none⟩=some (.int .i64 (s.mem k)):=by rw[<-h.rel.mem];exact h.inv.blk.cell (RS.at _ _ hk)
  clear h0 h1;go_enter Tryz.func49,Tryz.ntmps49;go_wp2;go_ret2;rw[HP.out];exact⟨rfl,Kp.refl _ _⟩
structure SortAt (w wr:World) (v:Value) (n:Nat) (T:List Tok) (k:Nat):Prop where
 ex:∃ L:List ByteArray,L.length=n/\wr.ownsRow 0 9 1 v n (L.map Value.string)/\sink k (texts L)=T
 kp:Kp w wr (fun b=>own v b)
theorem texts_set (L:List ByteArray) (i:Nat) (t:ByteArray):texts (L.set i t)=(texts L).set i t.data.toList:=by unfold texts;rw[List.map_set]
theorem texts_at (L:List ByteArray) (i:Nat) (h:i < L.length):(texts L)[i]? = some L[i].data.toList:=by unfold texts;simp[h]
theorem texts_len (L:List ByteArray):(texts L).length=L.length:=by simp[texts]
theorem sortedX (w:World) (v:Value) (ws:List ByteArray) (hr:w.ownsRow 0 9 1 v ws.length (ws.map Value.string)) (hl:ws.length<=100):
  Calls Tryz.prog 54 #[v] w fun e w'=>e=.returned v/\(∃ L:List ByteArray,w'.ownsRow 0 9 1 v L.length (L.map Value.string)/\texts L=sortN (texts ws))/\Kp w w' (fun b=>own v b):=by
 have HO:Hid (∃ L:List ByteArray,L.length=ws.length/\w.ownsRow 0 9 1 v ws.length (L.map Value.string)/\texts L=sortTo 1 (texts ws)):=⟨ws,rfl,hr,(sortTo_one _).symm⟩;obtain⟨ao,cap,rfl⟩:=row_slice hr;clear hr;go_enter Tryz.func54,Tryz.ntmps54;go_wp2
 go_loopw [3] (fun i wr=>∃ k:Nat,1<=k/\(k<=ws.length\/k=1)/\i=.int .i64 k/\(∃ L:List ByteArray,L.length=ws.length/\wr.ownsRow 0 9 1 (.slice ao ws.length cap) ws.length (L.map Value.string)/\texts L=sortTo k (texts ws))/\Kp w wr (fun b=>own (.slice ao ws.length cap) b)) (fun i _=>ws.length - (intOf i).toNat)
 case atStart=>exact⟨1,Nat.le_refl _,.inr rfl,rfl,HO.out,Kp.refl _ _⟩
 case round=>
  obtain⟨i,h1,h2,rfl,⟨L,hL,hrow,hT⟩,hkp⟩:=hrel;clear HO;by_cases hlt:i < ws.length
  ·have HS:Hid (SortAt w wr (.slice ao ws.length cap) ws.length (sortTo (i+1) (texts ws)) i):=⟨⟨L,hL,hrow,by rw[hT];exact sortTo_succ _ _ (by rw[texts_len];exact hlt)⟩,hkp⟩;clear hrow hT hkp hL;go_wp2
   go_loopw [4] (fun j wr2=>∃ m:Nat,m<=i/\j=.int .i64 m/\SortAt w wr2 (.slice ao ws.length cap) ws.length (sortTo (i+1) (texts ws)) m) (fun j _=>(intOf j).toNat)
   case atStart=>exact⟨i,Nat.le_refl _,rfl,HS.out⟩
   case round=>
    clear HS;obtain⟨m,hm,rfl,⟨L,hL,hrow,hT⟩,hkp⟩:=hrel
    cases m with
    | zero=>
     have HN:Hid ((∃ L:List ByteArray,L.length=ws.length/\wr.ownsRow 0 9 1 (.slice ao ws.length cap) ws.length (L.map Value.string)/\texts L=sortTo (i+1) (texts ws))/\Kp w wr (fun b=>own (.slice ao ws.length cap) b)):=⟨⟨L,hL,hrow,hT⟩,hkp⟩;clear hrow hT hL hkp;go_wp2
     go_quiet (fail)
     go_wp2
     go_roundw
     case rel=>exact⟨i+1,by omega,by omega,by go_num,HN.out.1,HN.out.2.drewN _⟩
     case measure=>simp[intOf];omega
    | succ m=>
     obtain⟨g,cap',hv,hc⟩:=row_cell hrow (by omega);injection hv with e1 e2 e3;subst e1;clear e2 e3;have hm1:m+1 < L.length:=by omega
     have c1:=hc (m+1) (.string L[m+1]) (by simp[hm1]);have c0:=hc m (.string L[m]) (by first|(simp;done)|(simp;omega))
     have hwm:IntKind.i64.wrap (((m+1:Nat):Int) - 1)=(m:Int):=by
      rw[show ((m+1:Nat):Int) - 1=(m:Int) by omega,IntKind.wrap_i64];omega
     have hwm2:IntKind.i64.wrap ((m:Int)+1 - 1)=(m:Int):=by
      rw[show (m:Int)+1 - 1=(m:Int) by omega,IntKind.wrap_i64];omega
     clear hc;have hTT:Hid (sink (m+1) (texts L)=if Op.bytesLess L[m+1].toList L[m].toList=true then sink m (texts ((L.set (m+1) L[m]).set m L[m+1])) else texts L):=by
      unfold Hid;rw[sink,texts_at L (m+1) hm1,texts_at L m (by omega),texts_set,texts_set,ByteArray.toList_eq,ByteArray.toList_eq]
     cases hb:Op.bytesLess L[m+1].toList L[m].toList with
     | false=>
      have HN:Hid ((∃ L:List ByteArray,L.length=ws.length/\wr.ownsRow 0 9 1 (.slice (some ⟨g,0,none⟩) ws.length cap) ws.length (L.map Value.string)/\texts L=sortTo (i+1) (texts ws))/\Kp w wr (fun b=>own (.slice (some ⟨g,0,none⟩) ws.length cap) b)):=⟨⟨L,hL,hrow,by rw[<-hT,hTT.out,if_neg (by rw[hb];decide)]⟩,hkp⟩;clear hrow hT hkp hTT;go_wp2
      go_quiet (fail)
      go_wp2
      go_roundw
      case rel=>exact⟨i+1,by omega,by omega,by go_num,HN.out.1,HN.out.2.drewN _⟩
      case measure=>simp[intOf];omega
     | true=>
      have hgo:own (.slice (some ⟨g,0,none⟩) ws.length cap) g:=rfl;obtain⟨cc,hcc⟩:=row_blk hrow hgo;have f1:=hcc.free (m+1);have f0:=hcc.free m;have HROW:=hide hrow;have HT:=hide hT;have HKP:=hide hkp;clear hrow hT hkp hcc;go_wp2
      go_quiet (fail)
      go_wp2;have hK:Kp w (((wr.drewN nq).setCell ⟨g,m+1,none⟩ (.string L[m])).setCell ⟨g,m,none⟩ (.string L[m+1])) (fun b=>own (.slice (some ⟨g,0,none⟩) ws.length cap) b):=((HKP.out.drewN nq).set (a:=⟨g,m+1,none⟩) (fun _=>hgo) _).set (a:=⟨g,m,none⟩) (fun _=>hgo) _;have hR:=row_set (row_set (row_drewN HROW.out nq) hgo (m+1) (.string L[m])) hgo m (.string L[m+1]);refine⟨⟨m,by omega,rfl,⟨⟨(L.set (m+1) L[m]).set m L[m+1],by simp;exact hL,by rw[List.map_set,List.map_set];exact hR,?_⟩,hK⟩⟩,by simp[intOf]⟩;rw[<-HT.out,hTT.out,if_pos hb]
  ·have HN:Hid (texts L=sortN (texts ws)):=by
    unfold Hid;rw[hT];unfold sortTo sortN;rw[List.take_of_length_le (by rw[texts_len];omega),List.drop_of_length_le (by rw[texts_len];omega)];simp
   clear hT;go_wp2;go_ret;exact⟨rfl,⟨L,by rw[hL];exact hrow,HN.out⟩,hkp⟩
end
section
open Go.RowKit
variable {K:Nat->Prop}
theorem Kp.newS {w w1 w2:World} {S:Nat->Prop} (h:Kp w w1 (fun _=>False)) (hk:Kp w1 w2 S) (hb:∀ b,S b->w.heap.size<=b):Kp w w2 (fun _=>False):=
 ⟨hk.os.trans h.os,hk.tape.trans h.tape,hk.output.trans h.output,Nat.le_trans h.size hk.size,fun k hlt hn=>(hk.block k (Nat.lt_of_lt_of_le hlt h.size) (fun hS=>by have:=hb k hS;omega)).trans (h.block k hlt hn)⟩
structure NamesAt (w wr:World) (v:Value) (l:List Tok):Prop where
 ex:∃ L:List ByteArray,wr.ownsRow 0 9 1 v L.length (L.map Value.string)/\texts L=l
 new:∀ b,own v b->w.heap.size<=b
 kp:Kp w wr (fun _=>False)
theorem NamesAt.nil (w:World):NamesAt w w (.slice none 0 0) []:=⟨⟨[],World.ownsRow_nil _ _ _ _,rfl⟩,fun b hb=>by simp[own,Value.ownBlock] at hb,Kp.refl _ _⟩
theorem NamesAt.more {w wr w1:World} {v v':Value} {l:List Tok} {L:List ByteArray} {t:ByteArray} {o:Obj} (hL:texts L=l) (hnew:∀ b,own v b->w.heap.size<=b) (hkp:Kp w wr (fun _=>False))
  (hown:w1.ownsRow 0 9 1 v' (L.length+1) (L.map Value.string ++ [.string t])) (hg:(wr.alloc o).grownBy w1 v.ownBlock) (hnx:∀ k,own v' k->own v k\/wr.heap.size+1<=k):NamesAt w w1 v' (l ++ [t.data.toList]):=by
 refine⟨⟨L ++ [t],by simpa using hown,by rw[<-hL];simp[texts]⟩,fun b hb=>?_,(hkp.alloc o).grown hg (fun b hb e=>?_)⟩
 ·rcases hnx b hb with h|h
  ·exact hnew b h
  ·have:=hkp.size;omega
 ·have:=hnew b e;omega
theorem wordsX (w:World) (yb:Nat) (rs:RS) (s:St) (h:Ses K w yb rs s):
  Calls Tryz.prog 34 #[.pointer (some ⟨yb,0,none⟩)] w fun e w'=>∃ v,e=.returned v/\NamesAt w w' v (wordsP s):=by
 have hdl:=h.rel.dr.len;have HS:=hide h;obtain⟨i0,hi,hz0,hz1,hz2⟩:=info_parts Tryz.info9;clear h;go_enter Tryz.func34,Tryz.ntmps34;go_wp2
 go_loopw [3,4] (fun v i wr=>∃ k:Nat,k<=s.defs.length/\i=.int .i64 k/\NamesAt w wr v ((s.defs.take k).map Def.name)) (fun _ i _=>s.defs.length - (intOf i).toNat)
 case atStart=>exact⟨0,Nat.zero_le _,rfl,by simpa using NamesAt.nil w⟩
 case round=>
  obtain⟨k,hk,rfl,⟨⟨L,hrow,hL⟩,hnew,hkp⟩⟩:=hrel;have hS:=HS.out.kpF hkp;have hLl:L.length<=30:=by have:=congrArg List.length hL;rw[texts_len] at this;simp at this;omega
  have HL:=hide hL;clear hL;by_cases hlt:k < s.defs.length
  ·obtain⟨gd,capd,xs,nm,vb,vt,hD⟩:=hS.rel.dr.cells k hlt;have cy:wr.cell? ⟨yb,17,none⟩=some (.slice (some ⟨gd,0,none⟩) s.defs.length capd):=by rw[<-hD.dv];exact hS.inv.blk.cell rfl
   have k0:=hD.cell _ _ hD.x0;have hyl:=hS.inv.blk.lt;have HNM:=hide hD.at_.nm;obtain⟨ao,cap,rfl⟩:=row_slice hrow;clear hD hS
   go_wp2_with (first
    | (at_builtin;refine wpList_append_to _ rfl _ _ 47 rfl 9 i0 (.string ByteArray.empty) 1 16 Tryz.underlying47 hi hz0 hz1 hz2 rfl (by decide) _ _ _ rfl (hrow.alloc _) ⟨wr.heap.size,0,none⟩ 1 1 [.string nm] rfl rfl ?c1 ?c2 ?c3 ?c4 ?_)
    | go_in)
   case c1=>intro j u hj;match j,hj with|0,hj=>simp at hj;subst hj;simp[Addr.add]
   case c2=>intro u hu;simp at hu;subst hu;rfl
   case c3=>unfold maxLen;omega
   case c4=>omega
   intro v1 w1 hown hgrow hnx;have HN0:=NamesAt.more HL.out hnew hkp hown hgrow (fun q hq=>(hnx q hq).imp (fun h=>h) (fun h=>by simpa using h));have HN:Hid (NamesAt w w1 v1 ((s.defs.take (k+1)).map Def.name)):=by
    unfold Hid;rw[List.take_succ_eq_append_getElem hlt,List.map_append];rw[HNM.out] at HN0;exact HN0
   clear HN0 hown hgrow hnx hrow hnew hkp cy k0;go_wp2
   go_roundw
   case rel=>exact⟨k+1,by omega,by go_num,HN.out⟩
   case measure=>simp[intOf];omega
  ·have cy0:wr.cell? ⟨yb,17,none⟩=some rs.d.dv:=hS.inv.blk.cell rfl;obtain⟨xsd,hrd,-⟩:=hS.rel.dr.ex;obtain⟨aod,capd,hvd⟩:=row_slice hrd;rw[hvd] at cy0;have HLL:Hid (texts L=s.defs.map Def.name):=by have:=HL.out;rw[List.take_of_length_le (by omega)] at this;exact this
   clear hrd hvd hS
   go_wp2_with fail
   refine (sortedX wr _ L hrow (by omega)).mono ?_;rintro e w2 ⟨rfl,⟨L2,hrow2,hL2⟩,hkp2⟩;have HN:Hid (NamesAt w w2 _ (wordsP s)):=⟨⟨L2,hrow2,by rw[hL2,HLL.out];rfl⟩,hnew,hkp.newS hkp2 hnew⟩;clear hrow2 hL2 hkp2 hrow hnew hkp;go_wp2;go_ret;exact⟨_,rfl,HN.out⟩
end
section
open Go.RowKit
def endL (s1:St):St:=if s1.e=0 then s1 else { s1 with rs:=[] }
structure PCon (B:Nat) (W0:World) (PS:World->Nat->(Nat->Prop)->St->Prop):Prop where
 lt:∀ w xb V s,PS w xb V s->∀ k,V k->k < w.heap.size
 frame:∀ w w' S xb V s,PS w xb V s->Kp w w' S->(∀ k,V k->¬ S k)->(∀ k,k < B->¬ S k)->B<=w.heap.size->PS w' xb V s
 new:∀ w,Below B W0 w->B<=w.heap.size->Calls Tryz.prog 27 #[] w fun e w'=>∃ xb V,e=.returned (.pointer (some ⟨xb,0,none⟩))/\PS w' xb V st0/\Kp w w' (fun _=>False)/\∀ k,V k->w.heap.size<=k
 line:∀ w xb V s s1 left g (t:ByteArray),PS w xb V s->WFs s->SGood s->validB t.data.toList=true->xRun g (jToks (Lib.fields t.data.toList)) (freshL s)=some (s1,left) ->
  Calls Tryz.prog 18 #[.pointer (some ⟨xb,0,none⟩),.string t] w fun e w'=>e=.returned (.tuple #[.string s1.out,.int .i64 s1.e])/\∃ V',PS w' xb V' (endL s1)/\To (fun _=>False) w w' V V'
 lineBad:∀ w xb V s (t:ByteArray),PS w xb V s->validB t.data.toList=false ->
  Calls Tryz.prog 18 #[.pointer (some ⟨xb,0,none⟩),.string t] w fun e w'=>e=.returned (.tuple #[.string ⟨#[]⟩,.int .i64 2])/\∃ V',PS w' xb V' s/\To (fun _=>False) w w' V V'
 stack:∀ w xb V s,PS w xb V s->SGood s->Calls Tryz.prog 19 #[.pointer (some ⟨xb,0,none⟩)] w fun e w'=>∃ v,e=.returned v/\w'.ownsRow w.heap.size 3 1 v s.rs.length (ints s.rs.reverse)/\∃ V',PS w' xb V' s/\To (fun _=>False) w w' V V'/\∀ k,own v k->¬ V' k
 cell:∀ w xb V s n,PS w xb V s->In n->Calls Tryz.prog 39 #[.pointer (some ⟨xb,0,none⟩),.int .i64 n] w fun e w'=>e=.returned (.tuple #[.int .i64 (cellP s n).1,.int .i64 (cellP s n).2])/\∃ V',PS w' xb V' s/\To (fun _=>False) w w' V V'
 words:∀ w xb V s,PS w xb V s->Calls Tryz.prog 33 #[.pointer (some ⟨xb,0,none⟩)] w fun e w'=>∃ v,e=.returned v/\(∃ L:List ByteArray,w'.ownsRow w.heap.size 9 1 v L.length (L.map Value.string)/\texts L=wordsP s)/\∃ V',PS w' xb V' s/\To (fun _=>False) w w' V V'/\∀ k,own v k->¬ V' k
def cx (i:Nat):Nat:=2 * i+3
def cy (i:Nat):Nat:=2 * i+4
theorem cx_cy (i j:Nat):cx i ≠ cy j:=by unfold cx cy;omega
theorem cx_inj {i j:Nat} (h:cx i=cx j):i=j:=by unfold cx at h;omega
theorem cy_inj {i j:Nat} (h:cy i=cy j):i=j:=by unfold cy at h;omega
def paint (c:Nat->Nat) (n a:Nat):Nat->Nat:=fun b=>if b < n then c b else a
def barK (c:Nat->Nat) (w:World) (a:Nat):Nat->Prop:=fun b=>b < w.heap.size/\c b ≠ a
structure Mv (A:Nat->Prop) (c:Nat->Nat) (w:World) (c':Nat->Nat) (w':World):Prop where
 kp:Kp w w' (fun b=>A (c b))
 old:∀ b,b < w.heap.size->c' b=c b
 new:∀ b,w.heap.size<=b->A (c' b)
theorem Mv.trans {A:Nat->Prop} {c c1 c2:Nat->Nat} {w w1 w2:World} (h:Mv A c w c1 w1) (g:Mv A c1 w1 c2 w2):Mv A c w c2 w2:=by
 refine⟨⟨g.kp.os.trans h.kp.os,g.kp.tape.trans h.kp.tape,g.kp.output.trans h.kp.output,Nat.le_trans h.kp.size g.kp.size,fun k hk hn=>?_⟩,fun b hb=>?_,fun b hb=>?_⟩
 ·refine (g.kp.block k (Nat.lt_of_lt_of_le hk h.kp.size) (fun e=>hn ?_)).trans (h.kp.block k hk hn);have e:A (c1 k):=e;rw[h.old k hk] at e;exact e
 ·rw[g.old b (Nat.lt_of_lt_of_le hb h.kp.size),h.old b hb]
 ·by_cases hlt:b < w1.heap.size
  ·rw[g.old b hlt];exact h.new b hb
  ·exact g.new b (by omega)
theorem Mv.mono {A B:Nat->Prop} {c c1:Nat->Nat} {w w1:World} (h:Mv A c w c1 w1) (hAB:∀ a,A a->B a):Mv B c w c1 w1:=
 ⟨h.kp.mono (fun k _ hk=>hAB _ hk),h.old,fun b hb=>hAB _ (h.new b hb)⟩
theorem Mv.paint {c:Nat->Nat} {w w':World} {a:Nat} (hk:Kp w w' (fun b=>c b=a)):Mv (fun x=>x=a) c w (Go.Proofs.YteainaiebcphlaaGreatDoor.paint c w.heap.size a) w':=
 ⟨hk,fun b hb=>if_pos hb,fun b hb=>if_neg (by omega)⟩
structure Pr where
 pb:Nat
 xb:Nat
 yb:Nat
 V:Nat->Prop
 sx:St
 rs:RS
 s:St
structure PrIn (B:Nat) (PS:World->Nat->(Nat->Prop)->St->Prop) (c:Nat->Nat) (w:World) (i:Nat) (p:Pr):Prop where
 blk:Blk w p.pb 61 #[.pointer (some ⟨p.xb,0,none⟩),.pointer (some ⟨p.yb,0,none⟩)]
 cp:c p.pb=0
 x:PS w p.xb p.V p.sx
 cv:∀ k,p.V k->c k=cx i
 y:Ses (barK c w (cy i)) w p.yb p.rs p.s
 cyb:c p.yb=cy i
 cn:∀ k,own p.rs.nv k->c k=cy i
 cd:∀ k,own p.rs.d.dv k->c k=cy i
 low:∀ b,b < B->c b=0
 bl:B<=w.heap.size
section
variable {PS:World->Nat->(Nat->Prop)->St->Prop} {B:Nat} {W0:World} (P:PCon B W0 PS)
include P
theorem PrIn.other {A:Nat->Prop} {c c':Nat->Nat} {w w':World} {i:Nat} {p:Pr} (h:PrIn B PS c w i p) (hm:Mv A c w c' w') (h0:¬ A 0) (h1:¬ A (cx i)) (h2:¬ A (cy i)):PrIn B PS c' w' i p:=by
 have hlt:=hm.old;have hk:=hm.kp;have hvl:=P.lt _ _ _ _ h.x;have hyl:=h.y.inv.blk.lt;have hnl:∀ k,own p.rs.nv k->k < w.heap.size:=fun k hk=>own_lt h.y.inv.row hk;have hdl:∀ k,own p.rs.d.dv k->k < w.heap.size:=fun k hk=>by obtain⟨xs,hr,_⟩:=h.y.rel.dr.ex;exact own_lt hr hk
 refine⟨hk.blk h.blk (fun e=>?_),?_,P.frame _ _ _ _ _ _ h.x hk (fun k hv e=>?_) (fun k hk e=>h0 (by have e:A (c k):=e;rw[h.low k hk] at e;exact e)) h.bl,fun k hv=>?_,?_,?_,fun k hv=>?_,fun k hv=>?_,fun b hb=>by rw[hlt b (Nat.lt_of_lt_of_le hb h.bl)];exact h.low b hb,Nat.le_trans h.bl hk.size⟩
 ·have e:A (c p.pb):=e;rw[h.cp] at e;exact h0 e
 ·rw[hlt _ h.blk.lt];exact h.cp
 ·have e:A (c k):=e;rw[h.cv k hv] at e;exact h1 e
 ·rw[hlt k (hvl k hv)];exact h.cv k hv
 ·refine h.y.move hk (fun b hb e=>⟨hb,fun e2=>?_⟩) (fun e=>?_) (fun b hb e=>?_) (fun b hb e=>?_) (fun b hb=>?_) (fun b hb=>hb.1)
  ·have e:A (c b):=e;rw[e2] at e;exact h2 e
  ·have e:A (c p.yb):=e;rw[h.cyb] at e;exact h2 e
  ·have e:A (c b):=e;rw[h.cn b hb] at e;exact h2 e
  ·have e:A (c b):=e;rw[h.cd b hb] at e;exact h2 e
  ·by_cases hlt2:b < w.heap.size
   ·left;refine⟨hlt2,?_⟩;have:=hb.2;rw[hlt b hlt2] at this;exact this
   ·right;omega
 ·rw[hlt _ hyl];exact h.cyb
 ·rw[hlt k (hnl k hv)];exact h.cn k hv
 ·rw[hlt k (hdl k hv)];exact h.cd k hv
theorem PrIn.ranX {c:Nat->Nat} {w w':World} {i:Nat} {p:Pr} {V':Nat->Prop} {s':St} (h:PrIn B PS c w i p) (hto:To (fun _=>False) w w' p.V V') (hx:PS w' p.xb V' s'):
  PrIn B PS (paint c w.heap.size (cx i)) w' i { p with V:=V',sx:=s' }/\Mv (fun a=>a=cx i) c w (paint c w.heap.size (cx i)) w':=by
 have hk:Kp w w' (fun b=>c b=cx i):=hto.kp.mono (fun k _ hk=>by rcases hk with e|e;exact e.elim;exact h.cv k e);have hm:=Mv.paint hk;have hlt:=hm.old;have hyl:=h.y.inv.blk.lt;have hnl:∀ k,own p.rs.nv k->k < w.heap.size:=fun k hk=>own_lt h.y.inv.row hk;have hdl:∀ k,own p.rs.d.dv k->k < w.heap.size:=fun k hk=>by obtain⟨xs,hr,_⟩:=h.y.rel.dr.ex;exact own_lt hr hk
 have hxy:cx i ≠ cy i:=cx_cy i i;refine⟨⟨hk.blk h.blk (fun e=>?_),?_,hx,fun k hv=>?_,?_,?_,fun k hv=>?_,fun k hv=>?_,fun b hb=>by rw[hlt b (Nat.lt_of_lt_of_le hb h.bl)];exact h.low b hb,Nat.le_trans h.bl hk.size⟩,hm⟩
 ·have e:c p.pb=cx i:=e;rw[h.cp] at e;unfold cx at e;omega
 ·rw[hlt _ h.blk.lt];exact h.cp
 ·rcases hto.nx k hv with h1|h1
  ·rw[hlt k (P.lt _ _ _ _ h.x k h1)];exact h.cv k h1
  ·exact hm.new k h1
 ·refine h.y.move hk (fun b hb e=>⟨hb,fun e2=>?_⟩) (fun e=>?_) (fun b hb e=>?_) (fun b hb e=>?_) (fun b hb=>?_) (fun b hb=>hb.1)
  ·have e:c b=cx i:=e;rw[e2] at e;exact hxy e.symm
  ·have e:c p.yb=cx i:=e;rw[h.cyb] at e;exact hxy e.symm
  ·have e:c b=cx i:=e;rw[h.cn b hb] at e;exact hxy e.symm
  ·have e:c b=cx i:=e;rw[h.cd b hb] at e;exact hxy e.symm
  ·by_cases hlt2:b < w.heap.size
   ·left;refine⟨hlt2,?_⟩;have:=hb.2;rw[hlt b hlt2] at this;exact this
   ·right;omega
 ·rw[hlt _ hyl];exact h.cyb
 ·rw[hlt k (hnl k hv)];exact h.cn k hv
 ·rw[hlt k (hdl k hv)];exact h.cd k hv
theorem PrIn.ranY {c:Nat->Nat} {w w':World} {i:Nat} {p:Pr} {rs':RS} {s':St} (h:PrIn B PS c w i p) (hto:STo p.yb w w' p.rs rs') (hy:Ses (barK c w (cy i)) w' p.yb rs' s'):
  PrIn B PS (paint c w.heap.size (cy i)) w' i { p with rs:=rs',s:=s' }/\Mv (fun a=>a=cy i) c w (paint c w.heap.size (cy i)) w':=by
 have hk:Kp w w' (fun b=>c b=cy i):=hto.kp.mono (fun k _ hk=>by
  rcases hk with e|e|e
  ·rw[e];exact h.cyb
  ·exact h.cn k e
  ·exact h.cd k e)
 have hm:=Mv.paint hk;have hlt:=hm.old;have hvl:=P.lt _ _ _ _ h.x;have hxy:cx i ≠ cy i:=cx_cy i i;have key:∀ k,(own rs'.nv k\/own rs'.d.dv k)->paint c w.heap.size (cy i) k=cy i:=by
  intro k hv;rcases hto.nx k hv with h1|h1
  ·have hkl:k < w.heap.size:=by
    rcases h1 with h1|h1
    ·exact own_lt h.y.inv.row h1
    ·obtain⟨xs,hr,_⟩:=h.y.rel.dr.ex;exact own_lt hr h1
   rw[hlt k hkl];rcases h1 with h1|h1
   ·exact h.cn k h1
   ·exact h.cd k h1
  ·exact hm.new k h1
 refine⟨⟨hk.blk h.blk (fun e=>?_),?_,P.frame _ _ _ _ _ _ h.x hk (fun k hv e=>?_) (fun k hk e=>by have e:c k=cy i:=e;rw[h.low k hk] at e;unfold cy at e;omega) h.bl,fun k hv=>?_,?_,?_,fun k hv=>key k (.inl hv),fun k hv=>key k (.inr hv),fun b hb=>by rw[hlt b (Nat.lt_of_lt_of_le hb h.bl)];exact h.low b hb,Nat.le_trans h.bl hk.size⟩,hm⟩
 ·have e:c p.pb=cy i:=e;rw[h.cp] at e;unfold cy at e;omega
 ·rw[hlt _ h.blk.lt];exact h.cp
 ·have e:c k=cy i:=e;rw[h.cv k hv] at e;exact hxy e
 ·rw[hlt k (hvl k hv)];exact h.cv k hv
 ·refine hy.less (fun b hb=>?_);by_cases hlt2:b < w.heap.size
  ·refine⟨hlt2,?_⟩;have:=hb.2;rw[hlt b hlt2] at this;exact this
  ·exact absurd (hm.new b (by omega)) hb.2
 ·rw[hlt _ h.y.inv.blk.lt];exact h.cyb
end
end
end Go.Proofs.YteainaiebcphlaaGreatDoor
