import Derived.Test.YteainaiebcphlaaGreatDoorY12
import Derived.Test.YteainaiebcphlaaGreatDoorY7
namespace Go.Proofs.YteainaiebcphlaaGreatDoor
set_option maxRecDepth 1000000
set_option maxHeartbeats 4000000
set_option linter.all false
section
open Go.RowKit
theorem do_tot {N:Nat} (H:TotN N) (G:Nat) (s:St) (f:Fr) (lp:List Int) (n m:Int) (l:List It) (hw:WFs s) (he:s.e=0) (hr:rem s<=N+1) (hl:wb (knows s) G true l) (hf:wbF s f) (hlI:∀ n∈lp,In n) (hnI:In n) (hmI:In m):Tot (jDo f lp n m l) s:=by
 obtain⟨sw,sk,sr⟩:=step_next hw he hr;by_cases hnm:n < m
 ·by_cases e1:s.step.e=0
  ·obtain⟨srr,s20⟩:=sr e1;obtain⟨g1,s1,left1,h1,w1,kk1⟩:=H.body G s.step f (n :: lp) l true sw e1 srr (wb_known sk _ _ _ hl) (hf.mono sk) (fun _=>by simp) (by intro q hq;rcases List.mem_cons.1 hq with h|h;rw[h];exact hnI;exact hlI q h);by_cases e2:left1=true
   ·exact tot_of (g:=g1+1) (by rw[x_do,if_pos hnm,if_neg (by simp[e1]),h1];dsimp only;rw[if_pos e2]) w1 (fun t ht=>kk1 t (sk t ht))
   have e2':left1=false:=by simpa using e2
   subst e2';have he1:=xBody_e _ _ _ _ _ _ e1 h1;have kt:∀ t,knows s t->knows s1 t:=fun t ht=>kk1 t (sk t ht);obtain⟨g2,s2,left2,h2,w2,kk2⟩:=H.do_ G s1 f lp (n+1) m l w1 he1 (Nat.le_trans (rem_le h1) srr) (wb_known kt _ _ _ hl) (hf.mono kt) hlI (by unfold In at hnI hmI ⊢;omega) hmI;have h1':=xRun_mono (g':=g1+g2) (by omega) h1;have h2':=xRun_mono (g':=g1+g2) (by omega) h2;exact tot_of (g:=g1+g2+1) (by rw[x_do,if_pos hnm,if_neg (by simp[e1]),h1'];dsimp only;rw[if_neg (by simp)];exact h2') w2 (fun t ht=>kk2 t (kt t ht))
  ·exact tot_of (g:=1) (by rw[x_do,if_pos hnm,if_pos e1]) sw sk
 ·exact tot_of (g:=1) (by rw[x_do,if_neg hnm]) hw (fun _ h=>h)
theorem count_e' {g:Nat} {s s':St} {k:Nat} (h:s.count g k=some s'):s'.e=s.e:=by
 unfold St.count at h
 repeat' split at h
 all_goals first
  | (cases h;done)
  | (injection h with h;subst h;rfl)
theorem come_tot {s:St} (hw:WFs s) (f:Fr):∃ g s1,xCome g f s=some s1/\WFs s1/\(∀ t,knows s t->knows s1 t)/\s1.e=s.e/\s1.steps=s.steps/\s1.depth=s.depth:=by
 cases hf:s.find f.name with
 | none=>exact⟨0,s,by unfold xCome;rw[hf],hw,fun _ h=>h,rfl,rfl,rfl⟩
 | some k=>
  have hk:k < s.defs.length:=(List.findIdx?_eq_some_iff_getElem.1 hf).1;by_cases hid:s.defs[k].id=f.id
  ·obtain⟨g,s1,h1,w1,k1⟩:=count_total hw hk;exact⟨g,s1,by unfold xCome;rw[hf];dsimp only;rw[List.getElem?_eq_getElem hk];dsimp only;rw[if_pos hid];exact h1,w1,fun t ht=>(k1 t).2 ht,count_e' h1,(St.count_keep h1).2,(St.count_keep h1).1⟩
  ·exact⟨0,s,by unfold xCome;rw[hf];dsimp only;rw[List.getElem?_eq_getElem hk];dsimp only;rw[if_neg hid],hw,fun _ h=>h,rfl,rfl,rfl⟩
theorem xCome_le {g g':Nat} (hg:g<=g') {f:Fr} {s s':St} (h:xCome g f s=some s'):xCome g' f s=some s':=by
 induction hg with
 | refl=>exact h
 | step _ ih=>exact xCome_mono ih
theorem enter_tot {N:Nat} (H:TotN N) (s:St) (f:Fr) (hw:WFs s) (he:s.e=0) (hr:rem s<=N+1) (hf:wbF s f):Tot (jEnter f) s:=by
 by_cases hd:20<=s.depth
 ·have hn:=hw.same (s':=s.err 8) (hw.g.err (by decide)) rfl;exact tot_of (g:=1) (by rw[x_enter,if_pos hd]) hn.1 hn.2
 obtain⟨g1,s1,h1,w1,kk1,e1,st1,dp1⟩:=come_tot hw f;have hn:=w1.same (s':={ s1 with depth:=s1.depth+1 }) (w1.g.dep (by have:=w1.g.d0;omega) (by omega)) rfl;have kt:∀ t,knows s t->knows { s1 with depth:=s1.depth+1 } t:=fun t ht=>hn.2 t (kk1 t ht);obtain⟨Gf,hGf⟩:=hf;obtain⟨g2,s2,left2,h2,w2,kk2⟩:=body_tot H Gf { s1 with depth:=s1.depth+1 } f [] f.body false hn.1 (by show s1.e=0;rw[e1];exact he) (by show rem s1<=N+1;unfold rem at hr ⊢;rw[st1];exact hr) (wb_known kt _ _ _ hGf) ⟨Gf,wb_known kt _ _ _ hGf⟩ (fun h=>by cases h) (fun q hq=>by cases hq);have hdp:=(xRun_keep _ _ _ _ _ h2).1;dsimp only at hdp;have hn2:=w2.same (s':={ s2 with depth:=s2.depth - 1 }) (w2.g.dep (by have:=w1.g.d0;omega) (by have:=w2.g.d1;omega)) rfl;exact tot_of (g:=g1+g2+1) (by rw[x_enter,if_neg hd,xCome_le (by omega) h1];dsimp only;rw[xRun_mono (by omega) h2]) hn2.1 (fun t ht=>hn2.2 t (kk2 t (kt t ht)))
theorem call_tot {N:Nat} (H:TotN N) (s:St) (t:Tok) (hw:WFs s) (he:s.e=0) (hr:rem s<=N+1) (hk:knows s t):Tot (jCall t) s:=by
 have hin:=known_in hk;unfold inDefs at hin
 cases hf:s.defs.find? (fun d=>d.name == t) with
 | none=>rw[hf] at hin;cases hin
 | some d=>
  obtain⟨g,s',left,h,w1,kk⟩:=enter_tot H s ⟨d.id,d.name,d.body⟩ hw he hr (hw.d d (List.mem_of_find?_eq_some hf));exact tot_of (g:=g+1) (by rw[x_call,hf];exact h) w1 kk
theorem pDef_le {g g':Nat} (hg:g<=g') {s:St} {r:List Tok} {res:DRes} (h:pDef g s r=some res):pDef g' s r=some res:=by
 induction hg with
 | refl=>exact h
 | step _ ih=>exact pDef_mono ih
theorem tok_tot {N:Nat} (H:TotN N) (s:St) (t:Tok) (hw:WFs s) (he:s.e=0) (hr:rem s<=N+1):∃ g s',xTok g t s=some s'/\WFs s'/\(∀ t,knows s t->knows s' t)/\(s'.e=0->rem s'<=N):=by
 obtain⟨sw,sk,sr⟩:=step_next hw he hr;by_cases e1:s.step.e=0
 ·obtain⟨srr,s20⟩:=sr e1
  cases hn:numP t with
  | some n=>
   have hn2:=sw.same (s':=s.step.put n) (sw.g.put (numP_range hn)) (put_defs _ _);exact⟨0,_,by unfold xTok;rw[hn];dsimp only;rw[if_neg (by simp[e1])],hn2.1,fun t ht=>hn2.2 t (sk t ht),fun _=>by unfold rem at srr ⊢;rw[St.put_steps];exact srr⟩
  | none=>
   cases hp:plainL.findIdx? (· == t) with
   | some k=>
    have hn2:=sw.same (s':=s.step.word k) (sw.g.word e1 k) rfl;exact⟨0,_,by unfold xTok;rw[hn];dsimp only;rw[hp];dsimp only;rw[if_neg (by simp[e1])],hn2.1,fun t ht=>hn2.2 t (sk t ht),fun _=>srr⟩
   | none=>
    by_cases q1:(keptL.any (· == t) || t == kSemi || t == kOpen || t == kClose)=true
    ·have hn2:=hw.same (s':=s.err 4) (hw.g.err (by decide)) rfl;exact⟨0,_,by unfold xTok;rw[hn];dsimp only;rw[hp];dsimp only;rw[if_pos q1],hn2.1,hn2.2,fun h=>by cases h⟩
    by_cases q2:s.known t=false
    ·have hn2:=hw.same (s':=s.err 3) (hw.g.err (by decide)) rfl;exact⟨0,_,by unfold xTok;rw[hn];dsimp only;rw[hp];dsimp only;rw[if_neg q1,if_pos q2],hn2.1,hn2.2,fun h=>by cases h⟩
    ·obtain⟨g,s2,l2,hx2,w2,kk2⟩:=H.call s.step t sw e1 srr (sk _ (by unfold knows;simpa using q2));exact⟨g,s2,by unfold xTok;rw[hn];dsimp only;rw[hp];dsimp only;rw[if_neg q1,if_neg q2,if_neg (by simp[e1]),hx2],w2,fun t ht=>kk2 t (sk t ht),fun _=>Nat.le_trans (rem_le hx2) srr⟩
 ·cases hn:numP t with
  | some n=>exact⟨0,_,by unfold xTok;rw[hn];dsimp only;rw[if_pos e1],sw,sk,fun h=>absurd h e1⟩
  | none=>
   cases hp:plainL.findIdx? (· == t) with
   | some k=>exact⟨0,_,by unfold xTok;rw[hn];dsimp only;rw[hp];dsimp only;rw[if_pos e1],sw,sk,fun h=>absurd h e1⟩
   | none=>
    by_cases q1:(keptL.any (· == t) || t == kSemi || t == kOpen || t == kClose)=true
    ·have hn2:=hw.same (s':=s.err 4) (hw.g.err (by decide)) rfl;exact⟨0,_,by unfold xTok;rw[hn];dsimp only;rw[hp];dsimp only;rw[if_pos q1],hn2.1,hn2.2,fun h=>by cases h⟩
    by_cases q2:s.known t=false
    ·have hn2:=hw.same (s':=s.err 3) (hw.g.err (by decide)) rfl;exact⟨0,_,by unfold xTok;rw[hn];dsimp only;rw[hp];dsimp only;rw[if_neg q1,if_pos q2],hn2.1,hn2.2,fun h=>by cases h⟩
    ·exact⟨0,_,by unfold xTok;rw[hn];dsimp only;rw[hp];dsimp only;rw[if_neg q1,if_neg q2,if_pos e1],sw,sk,fun h=>absurd h e1⟩
theorem xTok_le {g g':Nat} (hg:g<=g') {t:Tok} {s s':St} (h:xTok g t s=some s'):xTok g' t s=some s':=by
 induction hg with
 | refl=>exact h
 | step _ ih=>exact xTok_mono (fun j s r h=>xRun_mono1 _ j s r h) ih
theorem pDef_len {g:Nat} {s:St} {r:List Tok} {nm:Tok} {b:List It} {r1:List Tok} (h:pDef g s r=some (.ok (nm,b,r1))):r1.length<=r.length:=by
 cases r with
 | nil=>cases h
 | cons t r=>
  unfold pDef at h;dsimp only at h
  split at h
  ·cases h
  split at h
  ·cases h
  split at h
  ·cases h
  ·cases h
  ·rename_i b' t' r' hr
   injection h with h;injection h with h;injection h with e1 e2;injection e2 with e2 e3;subst e3;obtain⟨_,_,_,hl⟩:=pRead_calls _ _ _ _ _ _ _ hr;simp;omega
theorem toks_tot {N:Nat} (H:TotN N) (s:St) (ts:List Tok) (hw:WFs s) (hr:s.e=0->rem s<=N+1) (hlt:ts.length<=1000):Tot (jToks ts) s:=by
 by_cases he:s.e=0
 ·have hr:=hr he
  cases ts with
  | nil=>exact tot_of (x_tnil 0 s) hw (fun _ h=>h)
  | cons t r=>
   have hlr:r.length<=1000:=by simp at hlt;omega
   by_cases ht:t=kColon
   ·subst ht;obtain⟨sw,sk,sr⟩:=step_next hw he hr;obtain⟨g1,res,hp⟩:=pDef_total s r
    cases res with
    | error e=>
     have hg:=hw.g;have hn:=hw.same (s':=s.err e) ⟨hg.g,hg.s0,hg.s1,fun _=>hw.st he,hg.d0,hg.d1,hg.b0,hg.b1,hg.cb⟩ rfl;exact tot_of (g:=g1+1) (by rw[x_def _ _ _ he,hp]) hn.1 hn.2
    | ok q=>
     obtain⟨nm,b,r1⟩:=q;by_cases e1:s.step.e=0
     ·obtain⟨srr,s20⟩:=sr e1;obtain⟨G,hG⟩:=pDef_wb hlr hp;have hcb:=(pDefD_ok hlr (by rw[<-pDef_eq];exact hp)).1;have hl1:=pDef_len hp;have w2:=sw.set (nm:=nm) (b:=b) (wb_known sk _ _ _ hG) hcb;obtain⟨g2,s2,l2,h2,w3,kk3⟩:=H.toks (s.step.set nm b) r1 w2 (fun _=>srr) (by omega);exact tot_of (g:=g1+g2+1) (by rw[x_def _ _ _ he,pDef_le (by omega) hp];dsimp only;rw[if_neg (by simp[e1])];exact xRun_mono (by omega) h2) w3 (fun t ht=>kk3 t (set_knows (sk t ht)))
     ·exact tot_of (g:=g1+1) (by rw[x_def _ _ _ he,hp];dsimp only;rw[if_pos e1]) sw sk
   ·obtain⟨g1,s1,h1,w1,kk1,r1⟩:=tok_tot H s t hw he hr;obtain⟨g2,s2,l2,h2,w2,kk2⟩:=H.toks s1 r w1 r1 hlr;exact tot_of (g:=g1+g2+1) (by rw[x_tok _ _ _ _ he ht,xTok_le (by omega) h1];exact xRun_mono (by omega) h2) w2 (fun t ht=>kk2 t (kk1 t ht))
 ·exact tot_of (x_terr 0 s ts he) hw (fun _ h=>h)
theorem totN:∀ N,TotN N
 | 0=>TotN.zero
 | N+1=>⟨fun G s f lp l lo=>body_tot (totN N) G s f lp l lo,fun G s f lp x lo=>item_tot (totN N) G (body_tot (totN N) G) s f lp x lo,fun G s f lp n m l=>do_tot (totN N) G s f lp n m l,fun s f=>enter_tot (totN N) s f,fun s t=>call_tot (totN N) s t,fun s ts=>toks_tot (totN N) s ts⟩
theorem line_total (s:St) (hw:WFs s) (text:List UInt8) (hlt:(Lib.fields text).length<=1000):∃ g s1 left,xRun g (jToks (Lib.fields text)) { s with e:=0,steps:=0,depth:=0,out:=⟨#[]⟩ }=some (s1,left)/\WFs (if s1.e=0 then s1 else { s1 with rs:=[] }):=by
 have hg:=hw.g;have hn:=hw.same (s':={ s with e:=0,steps:=0,depth:=0,out:=⟨#[]⟩ }) ⟨⟨hg.g.ins,hg.g.mems,hg.g.len,by show (0:Nat)<=300;decide⟩,by show (0:Int)<=0;decide,by show (0:Int)<=2001;decide,fun _=>by show (0:Int)<=2000;decide,by show (0:Int)<=0;decide,by show (0:Int)<=20;decide,hg.b0,hg.b1,hg.cb⟩ rfl;obtain⟨g,s1,left,h,w1,_⟩:=(totN 2001).toks _ (Lib.fields text) hn.1 (fun _=>by unfold rem;simp) hlt;refine⟨g,s1,left,h,?_⟩
 split
 ·exact w1
 ·exact (w1.same (s':={ s1 with rs:=[] }) (w1.g.tail (fun x hx=>by cases hx) (by simp)) rfl).1
end
section
open Go.RowKit
variable {K:Nat->Prop}
theorem SGood.first:SGood st0:=
 ⟨⟨(by intro x hx;cases hx),(fun i=>by show In 0;unfold In;decide),by show (0:Nat)<=32;decide,by show (0:Nat)<=300;decide⟩,by show (0:Int)<=0;decide,by show (0:Int)<=2001;decide,fun _=>by show (0:Int)<=2000;decide,by show (0:Int)<=0;decide,by show (0:Int)<=20;decide,by show (0:Int)<=1;decide,by show (1:Int)<=3;decide,(by intro d hd;cases hd)⟩
theorem WFs.first:WFs st0:=⟨SGood.first,(fun d hd=>by cases hd),fun _=>by show (0:Int)<=2000;decide⟩
end
section
open Go.RowKit
def insN (x:Tok):List Tok->List Tok
 | []=>[x]
 | b :: r=>if Op.bytesLess x b=true then b :: insN x r else x :: b :: r
def rsortN (l:List Tok):List Tok:=l.foldl (fun rp x=>insN x rp) []
def sortN (l:List Tok):List Tok:=(rsortN l).reverse
theorem insN_len (x:Tok):∀ (rp:List Tok),(insN x rp).length=rp.length+1
 | []=>rfl
 | b :: r=>by unfold insN;split <;> simp[insN_len x r]
theorem rsortN_len:∀ (l:List Tok),(rsortN l).length=l.length:=by
 have key:∀ (l rp:List Tok),(l.foldl (fun rp x=>insN x rp) rp).length=rp.length+l.length:=by
  intro l
  induction l with
  | nil=>intro rp;simp
  | cons x l ih=>intro rp;rw[List.foldl_cons,ih,insN_len];simp;omega
 intro l;unfold rsortN;rw[key];simp
def wordsP (s:St):List Tok:=sortN (s.defs.map Def.name)
def fastP (s:St):List Tok:=sortN ((s.defs.filter (fun d=>d.fast)).map Def.name)
def cellP (s:St) (n:Int):Int × Int:=if n < 0\/16<=n then (0,10) else (s.mem n.toNat,0)
def badT (hot built:Int):Prop:=hot < 1\/1000 < hot\/built < 0\/3 < built
def tuneS (s:St) (hot built:Int):St:={ s with hot:=hot,built:=built,defs:=s.defs.map slowD }
end
section
open Go.RowKit
variable {K:Nat->Prop}
theorem texts_len (L:List ByteArray):(texts L).length=L.length:=by simp[texts]
end
section
open Go.RowKit
variable {K:Nat->Prop}
theorem WFs.tune {s:St} (h:WFs s) (hot built:Int) (h0:0<=built) (h3:built<=3):WFs (tuneS s hot built):=by
 have hkn:∀ t,knows (tuneS s hot built) t<->knows s t:=by
  intro t;unfold knows St.known St.find tuneS;dsimp only;rw[known_names (defs:=s.defs) (defs':=s.defs.map slowD)];simp only[List.map_map];rfl
 have hg:=h.g;refine⟨⟨hg.g,hg.s0,hg.s1,hg.s2,hg.d0,hg.d1,h0,h3,fun d hd=>by obtain⟨d0,q0,rfl⟩:=List.mem_map.1 (show d∈s.defs.map slowD from hd);exact hg.cb d0 q0⟩,fun d hd=>?_,h.st⟩;obtain⟨d0,h0,rfl⟩:=List.mem_map.1 (show d∈s.defs.map slowD from hd);obtain⟨g,hg⟩:=h.d d0 h0;exact⟨g,wb_known (fun t ht=>(hkn t).2 ht) _ _ _ hg⟩
end
section
open Go.RowKit
def endL (s1:St):St:=if s1.e=0 then s1 else { s1 with rs:=[] }
structure PCon (B:Nat) (W0:World) (PS:World->Nat->(Nat->Prop)->St->Prop):Prop where
 lt:∀ w xb V s,PS w xb V s->∀ k,V k->k < w.heap.size
 frame:∀ w w' S xb V s,PS w xb V s->Kp w w' S->(∀ k,V k->¬ S k)->(∀ k,k < B->¬ S k)->B<=w.heap.size->PS w' xb V s
 new:∀ w,Below B W0 w->B<=w.heap.size->Calls Tryz.prog 27 #[] w fun e w'=>∃ xb V,e=.returned (.pointer (some ⟨xb,0,none⟩))/\PS w' xb V st0/\Kp w w' (fun _=>False)/\∀ k,V k->w.heap.size<=k
 lineBad:∀ w xb V s (t:ByteArray),PS w xb V s->validB t.data.toList=false ->
  Calls Tryz.prog 18 #[.pointer (some ⟨xb,0,none⟩),.string t] w fun e w'=>e=.returned (.tuple #[.string ⟨#[]⟩,.int .i64 2])/\∃ V',PS w' xb V' s/\To (fun _=>False) w w' V V'
 stack:∀ w xb V s,PS w xb V s->SGood s->Calls Tryz.prog 19 #[.pointer (some ⟨xb,0,none⟩)] w fun e w'=>∃ v,e=.returned v/\w'.ownsRow w.heap.size 3 1 v s.rs.length (ints s.rs.reverse)/\∃ V',PS w' xb V' s/\To (fun _=>False) w w' V V'/\∀ k,own v k->¬ V' k
 cell:∀ w xb V s n,PS w xb V s->In n->Calls Tryz.prog 39 #[.pointer (some ⟨xb,0,none⟩),.int .i64 n] w fun e w'=>e=.returned (.tuple #[.int .i64 (cellP s n).1,.int .i64 (cellP s n).2])/\∃ V',PS w' xb V' s/\To (fun _=>False) w w' V V'
 words:∀ w xb V s,PS w xb V s->Calls Tryz.prog 33 #[.pointer (some ⟨xb,0,none⟩)] w fun e w'=>∃ v,e=.returned v/\(∃ L:List ByteArray,w'.ownsRow w.heap.size 9 1 v L.length (L.map Value.string)/\texts L=wordsP s)/\∃ V',PS w' xb V' s/\To (fun _=>False) w w' V V'/\∀ k,own v k->¬ V' k
structure PLine (PS PS':World->Nat->(Nat->Prop)->St->Prop):Prop where
 mono:∀ w xb V s,PS w xb V s->PS' w xb V s
 line:∀ w xb V s s1 left g (t:ByteArray),PS w xb V s->WFs s->SGood s->validB t.data.toList=true->xRun g (jToks (Lib.fields t.data.toList)) (freshL s)=some (s1,left) ->
  Calls Tryz.prog 18 #[.pointer (some ⟨xb,0,none⟩),.string t] w fun e w'=>e=.returned (.tuple #[.string s1.out,.int .i64 s1.e])/\∃ V',PS' w' xb V' (endL s1)/\To (fun _=>False) w w' V V'
structure PConF (B:Nat) (W0:World) (PS:World->Nat->(Nat->Prop)->St->Prop):Prop extends PCon B W0 PS where
 fast:∀ w xb V s,PS w xb V s->Calls Tryz.prog 24 #[.pointer (some ⟨xb,0,none⟩)] w fun e w'=>∃ v,e=.returned v/\(∃ L:List ByteArray,w'.ownsRow w.heap.size 9 1 v L.length (L.map Value.string)/\texts L=fastP s)/\∃ V',PS w' xb V' s/\To (fun _=>False) w w' V V'/\∀ k,own v k->¬ V' k
 tune:∀ w xb V s hot built,PS w xb V s->¬ badT hot built->Calls Tryz.prog 22 #[.pointer (some ⟨xb,0,none⟩),.int .i64 hot,.int .i64 built] w fun e w'=>e=.returned (.int .i64 0)/\∃ V',PS w' xb V' (tuneS s hot built)/\To (fun _=>False) w w' V V'
 tuneBad:∀ w xb V s hot built,PS w xb V s->badT hot built->Calls Tryz.prog 22 #[.pointer (some ⟨xb,0,none⟩),.int .i64 hot,.int .i64 built] w fun e w'=>e=.returned (.int .i64 1)/\∃ V',PS w' xb V' s/\To (fun _=>False) w w' V V'
structure PFam (B:Nat) (W0:World) (PS:Int->World->Nat->(Nat->Prop)->St->Prop):Prop where
 con:∀ I,0<=I->PConF B W0 (PS I)
 line:∀ I,0<=I->I<=4611686018427387904->PLine (PS I) (PS (I+2000))
section
variable {PS:World->Nat->(Nat->Prop)->St->Prop} {B:Nat} {W0:World} (P:PCon B W0 PS)
include P
end
end
end Go.Proofs.YteainaiebcphlaaGreatDoor
