import Derived.Test.YteainaiebcphlaaGreatDoorQ18
import Derived.Test.YteainaiebcphlaaGreatDoorQ20
import Derived.Test.YteainaiebcphlaaGreatDoorQ13
namespace Go.Proofs.YteainaiebcphlaaGreatDoor
set_option maxRecDepth 1000000
set_option maxHeartbeats 4000000
set_option linter.all false
open Go.Proofs.Tryz
section
open Go.RowKit
theorem Qk {N:Nat}(H:uC N)(G:Nat)(s:St)(f:Fr)(lp:List Int)(n m:Int)(l:List It)(hw:iZ s)(he:s.e=0)(hr:rem s<=N+1)(hl:wb (bq s) G true l)(hf:F5 s f)(zU:∀n∈lp,In n)(hnI:In n)(hmI:In m):Dc (Eb f lp n m l) s:=by
 obtain⟨sw,sk,sr⟩:=nI hw he hr;by_cases hnm:n<m
 ·by_cases e1:s.step.e=0
  ·obtain⟨BP,Zf⟩:=sr e1;obtain⟨g1,s1,fK,h1,w1,tj⟩:=H.body G s.step f (n::lp) l true sw e1 BP (cm sk _ _ _ hl) (hf.mono sk) (λ_=>by simp) (by intro q hq;rcases List.mem_cons.1 hq with h|h;rw[h];exact hnI;exact zU q h);by_cases e2:fK=true
   ·exact bN (g:=g1+1) (by rw[Ec,ag hnm,af (by simp[e1]),h1];dsimp only;rw[ag e2]) w1 (λt ht=>tj t (sk t ht))
   have e2':fK=false:=by simpa using e2
   subst e2';have fA:=jx _ _ _ _ _ _ e1 h1;have kt:∀t,bq s t->bq s1 t:=λt ht=>tj t (sk t ht);obtain⟨g2,s2,bH,h2,w2,wj⟩:=H.do_ G s1 f lp (n+1) m l w1 fA (ai (qF h1) BP) (cm kt _ _ _ hl) (hf.mono kt) zU (by unfold In at hnI hmI ⊢;omega) hmI;have h1':=dB (g':=g1+g2) (by omega) h1;have h2':=dB (g':=g1+g2) (by omega) h2;exact bN (g:=g1+g2+1) (by rw[Ec,ag hnm,af (by simp[e1]),h1'];dsimp only;rw[af (by simp)];exact h2') w2 (λt ht=>wj t (kt t ht))
  ·exact bN (g:=1) (by rw[Ec,ag hnm,ag e1]) sw sk
 ·exact bN (g:=1) (by rw[Ec,af hnm]) hw (λ_ h=>h)
theorem Ij {g:Nat}{s s':St}{k:Nat}(h:s.count g k=some s'):s'.e=s.e:=by
 unfold St.count at h
 repeat' split at h
 all_goals first
  | (cases h;done)
  | (injection h with h;subst h;rfl)
theorem Ik {s:St}(hw:iZ s)(f:Fr):∃g s1,eA g f s=some s1/\iZ s1/\(∀t,bq s t->bq s1 t)/\s1.e=s.e/\s1.steps=s.steps/\s1.depth=s.depth:=by
 cases hf:s.find f.name with
 | none=>exact⟨0,s,by unfold eA;rw[hf],hw,λ_ h=>h,rfl,rfl,rfl⟩
 | some k=>
  have hk:k<s.ay.length:=(List.findIdx?_eq_some_iff_getElem.1 hf).1;by_cases hid:s.ay[k].id=f.id
  ·obtain⟨g,s1,h1,w1,k1⟩:=zJ hw hk;exact⟨g,s1,by unfold eA;rw[hf];dsimp only;rw[List.getElem?_eq_getElem hk];dsimp only;rw[ag hid];exact h1,w1,λt ht=>(k1 t).2 ht,Ij h1,(St.lu h1).2,(St.lu h1).1⟩
  ·exact⟨0,s,by unfold eA;rw[hf];dsimp only;rw[List.getElem?_eq_getElem hk];dsimp only;rw[af hid],hw,λ_ h=>h,rfl,rfl,rfl⟩
theorem Il {g g':Nat}(hg:g<=g'){f:Fr}{s s':St}(h:eA g f s=some s'):eA g' f s=some s':=by
 induction hg with
 | refl=>exact h
 | step _ ih=>exact uj ih
theorem xN {N:Nat}(H:uC N)(s:St)(f:Fr)(hw:iZ s)(he:s.e=0)(hr:rem s<=N+1)(hf:F5 s f):Dc (iM f) s:=by
 by_cases hd:20<=s.depth
 ·have hn:=hw.same (s':=s.err 8) (hw.g.err (by decide)) rfl;exact bN (g:=1) (by rw[lC,ag hd]) hn.1 hn.2
 obtain⟨g1,s1,h1,w1,tj,e1,Di,dp1⟩:=Ik hw f;have hn:=w1.same (s':={s1 with depth:=s1.depth+1}) (w1.g.dep (by have:=w1.g.d0;omega) (by omega)) rfl;have kt:∀t,bq s t->bq {s1 with depth:=s1.depth+1} t:=λt ht=>hn.2 t (tj t ht);obtain⟨Gf,hGf⟩:=hf;obtain⟨g2,s2,bH,h2,w2,wj⟩:=uD H Gf {s1 with depth:=s1.depth+1} f [] f.body false hn.1 (by show s1.e=0;rw[e1];exact he) (by show rem s1<=N+1;unfold rem at hr ⊢;rw[Di];exact hr) (cm kt _ _ _ hGf) ⟨Gf,cm kt _ _ _ hGf⟩ (λh=>by cases h) (λq hq=>by cases hq);have hdp:=(cH _ _ _ _ _ h2).1;dsimp only at hdp;have hn2:=w2.same (s':={s2 with depth:=s2.depth-1}) (w2.g.dep (by have:=w1.g.d0;omega) (by have:=w2.g.d1;omega)) rfl;exact bN (g:=g1+g2+1) (by rw[lC,af hd,Il (by omega) h1];dsimp only;rw[dB (by omega) h2]) hn2.1 (λt ht=>hn2.2 t (wj t (kt t ht)))
theorem Im {N:Nat}(H:uC N)(s:St)(t:Tok)(hw:iZ s)(he:s.e=0)(hr:rem s<=N+1)(hk:bq s t):Dc (gB t) s:=by
 have hin:=zI hk;unfold lG at hin
 cases hf:s.ay.find? (λd=>d.name==t) with
 | none=>rw[hf] at hin;cases hin
 | some d=>
  obtain⟨g,s',left,h,w1,kk⟩:=xN H s ⟨d.id,d.name,d.body⟩ hw he hr (hw.d d (List.mem_of_find?_eq_some hf));exact bN (g:=g+1) (by rw[qA,hf];exact h) w1 kk
theorem LV {g g':Nat}(hg:g<=g'){s:St}{r:List Tok}{res:BG}(h:jY g s r=some res):jY g' s r=some res:=by
 induction hg with
 | refl=>exact h
 | step _ ih=>exact xD ih
theorem LW {N:Nat}(H:uC N)(s:St)(t:Tok)(hw:iZ s)(he:s.e=0)(hr:rem s<=N+1):∃g s',fV g t s=some s'/\iZ s'/\(∀t,bq s t->bq s' t)/\(s'.e=0->rem s'<=N):=by
 obtain⟨sw,sk,sr⟩:=nI hw he hr;by_cases e1:s.step.e=0
 ·obtain⟨BP,Zf⟩:=sr e1
  cases hn:bA t with
  | some n=>
   have hn2:=sw.same (s':=s.step.put n) (sw.g.put (iJ hn)) (uB _ _);exact⟨0,_,by unfold fV;rw[hn];dsimp only;rw[af (by simp[e1])],hn2.1,λt ht=>hn2.2 t (sk t ht),λ_=>by unfold rem at BP ⊢;rw[St.nA];exact BP⟩
  | none=>
   cases hp:aN.findIdx? (· == t) with
   | some k=>
    have hn2:=sw.same (s':=s.step.word k) (sw.g.word e1 k) rfl;exact⟨0,_,by unfold fV;rw[hn];dsimp only;rw[hp];dsimp only;rw[af (by simp[e1])],hn2.1,λt ht=>hn2.2 t (sk t ht),λ_=>BP⟩
   | none=>
    by_cases q1:(eB.any (· == t)||t==eH||t==fu||t==dS)=true
    ·have hn2:=hw.same (s':=s.err 4) (hw.g.err (by decide)) rfl;exact⟨0,_,by unfold fV;rw[hn];dsimp only;rw[hp];dsimp only;rw[ag q1],hn2.1,hn2.2,λh=>by cases h⟩
    by_cases q2:s.aA t=false
    ·have hn2:=hw.same (s':=s.err 3) (hw.g.err (by decide)) rfl;exact⟨0,_,by unfold fV;rw[hn];dsimp only;rw[hp];dsimp only;rw[af q1,ag q2],hn2.1,hn2.2,λh=>by cases h⟩
    ·obtain⟨g,s2,l2,hx2,w2,wj⟩:=H.call s.step t sw e1 BP (sk _ (by unfold bq;simpa using q2));exact⟨g,s2,by unfold fV;rw[hn];dsimp only;rw[hp];dsimp only;rw[af q1,af q2,af (by simp[e1]),hx2],w2,λt ht=>wj t (sk t ht),λ_=>ai (qF hx2) BP⟩
 ·cases hn:bA t with
  | some n=>exact⟨0,_,by unfold fV;rw[hn];dsimp only;rw[ag e1],sw,sk,λh=>ax h e1⟩
  | none=>
   cases hp:aN.findIdx? (· == t) with
   | some k=>exact⟨0,_,by unfold fV;rw[hn];dsimp only;rw[hp];dsimp only;rw[ag e1],sw,sk,λh=>ax h e1⟩
   | none=>
    by_cases q1:(eB.any (· == t)||t==eH||t==fu||t==dS)=true
    ·have hn2:=hw.same (s':=s.err 4) (hw.g.err (by decide)) rfl;exact⟨0,_,by unfold fV;rw[hn];dsimp only;rw[hp];dsimp only;rw[ag q1],hn2.1,hn2.2,λh=>by cases h⟩
    by_cases q2:s.aA t=false
    ·have hn2:=hw.same (s':=s.err 3) (hw.g.err (by decide)) rfl;exact⟨0,_,by unfold fV;rw[hn];dsimp only;rw[hp];dsimp only;rw[af q1,ag q2],hn2.1,hn2.2,λh=>by cases h⟩
    ·exact⟨0,_,by unfold fV;rw[hn];dsimp only;rw[hp];dsimp only;rw[af q1,af q2,ag e1],sw,sk,λh=>ax h e1⟩
theorem LX {g g':Nat}(hg:g<=g'){t:Tok}{s s':St}(h:fV g t s=some s'):fV g' t s=some s':=by
 induction hg with
 | refl=>exact h
 | step _ ih=>exact xE (λj s r h=>uk _ j s r h) ih
theorem Io {g:Nat}{s:St}{r:List Tok}{nm:Tok}{b:List It}{r1:List Tok}(h:jY g s r=some (.ok (nm,b,r1))):r1.length<=r.length:=by
 cases r with
 | nil=>cases h
 | cons t r=>
  unfold jY at h;dsimp only at h
  split at h
  ·cases h
  split at h
  ·cases h
  split at h
  ·cases h
  ·cases h
  ·rename_i b' t' r' hr
   injection h with h;injection h with h;injection h with e1 e2;injection e2 with e2 e3;subst e3;obtain⟨_,_,_,hl⟩:=eW _ _ _ _ _ _ _ hr;simp;omega
theorem Ip {N:Nat}(H:uC N)(s:St)(ts:List Tok)(hw:iZ s)(hr:s.e=0->rem s<=N+1)(hlt:ts.length<=1000):Dc (aT ts) s:=by
 by_cases he:s.e=0
 ·have hr:=hr he
  cases ts with
  | nil=>exact bN (Gy 0 s) hw (λ_ h=>h)
  | cons t r=>
   have hlr:r.length<=1000:=by simp at hlt;omega
   by_cases ht:t=dK
   ·subst ht;obtain⟨sw,sk,sr⟩:=nI hw he hr;obtain⟨g1,res,hp⟩:=BM s r
    cases res with
    | error e=>
     have hg:=hw.g;have hn:=hw.same (s':=s.err e) ⟨hg.g,hg.s0,hg.s1,λ_=>hw.st he,hg.d0,hg.d1,hg.b0,hg.b1,hg.cb⟩ rfl;exact bN (g:=g1+1) (by rw[tO _ _ _ he,hp]) hn.1 hn.2
    | ok q=>
     obtain⟨nm,b,r1⟩:=q;by_cases e1:s.step.e=0
     ·obtain⟨BP,Zf⟩:=sr e1;obtain⟨G,hG⟩:=C9 hlr hp;have hcb:=(ug hlr (by rw[<-tB];exact hp)).1;have ld:=Io hp;have w2:=sw.set (nm:=nm) (b:=b) (cm sk _ _ _ hG) hcb;obtain⟨g2,s2,l2,h2,w3,Zb⟩:=H.toks (s.step.set nm b) r1 w2 (λ_=>BP) (by omega);exact bN (g:=g1+g2+1) (by rw[tO _ _ _ he,LV (by omega) hp];dsimp only;rw[af (by simp[e1])];exact dB (by omega) h2) w3 (λt ht=>Zb t (qD (sk t ht)))
     ·exact bN (g:=g1+1) (by rw[tO _ _ _ he,hp];dsimp only;rw[ag e1]) sw sk
   ·obtain⟨g1,s1,h1,w1,tj,r1⟩:=LW H s t hw he hr;obtain⟨g2,s2,l2,h2,w2,wj⟩:=H.toks s1 r w1 r1 hlr;exact bN (g:=g1+g2+1) (by rw[zy _ _ _ _ he ht,LX (by omega) h1];exact dB (by omega) h2) w2 (λt ht=>wj t (tj t ht))
 ·exact bN (yh 0 s ts he) hw (λ_ h=>h)
theorem z8:∀N,uC N
 | 0=>uC.zero
 | N+1=>⟨λG s f lp l lo=>uD (z8 N) G s f lp l lo,λG s f lp x lo=>zT (z8 N) G (uD (z8 N) G) s f lp x lo,λG s f lp n m l=>Qk (z8 N) G s f lp n m l,λs f=>xN (z8 N) s f,λs t=>Im (z8 N) s t,λs ts=>Ip (z8 N) s ts⟩
theorem uK (s:St)(hw:iZ s)(text:List UInt8)(hlt:(Lib.fields text).length<=1000):∃g s1 left,aI g (aT (Lib.fields text)) {s with e:=0,steps:=0,depth:=0,out:=⟨#[]⟩}=some (s1,left)/\iZ (if s1.e=0 then s1 else {s1 with rs:=[]}):=by
 have hg:=hw.g;have hn:=hw.same (s':={s with e:=0,steps:=0,depth:=0,out:=⟨#[]⟩}) ⟨⟨hg.g.ins,hg.g.sP,hg.g.len,by show(0:Nat)<=300;decide⟩,by show(0:Int)<=0;decide,by show(0:Int)<=2001;decide,λ_=>by show(0:Int)<=2000;decide,by show(0:Int)<=0;decide,by show(0:Int)<=20;decide,hg.b0,hg.b1,hg.cb⟩ rfl;obtain⟨g,s1,left,h,w1,_⟩:=(z8 2001).toks _ (Lib.fields text) hn.1 (λ_=>by unfold rem;simp) hlt;refine⟨g,s1,left,h,?_⟩
 split
 ·exact w1
 ·exact(w1.same (s':={s1 with rs:=[]}) (w1.g.tail (λx hx=>by cases hx) (by simp)) rfl).1
end
section
open Go.RowKit
variable {K:Nat->Prop}
theorem lK.move {w w1:World}{S:Nat->Prop}{yb:Nat}{rs:RS}{s:St}{K':Nat->Prop}(h:lK K w yb rs s)(hk:Kp w w1 S)(hS:∀b,b<w.heap.size->S b->K b)(q1:¬S yb)(q2:∀b,own rs.nv b->¬S b)(q3:∀b,own rs.d.dv b->¬S b)(h1:∀b,K' b->K b\/w.heap.size<=b)(h2:∀b,K' b->b<w1.heap.size):lK K' w1 yb rs s:=by
 have hi:=h.inv;have hi':aR w1 yb rs s.rs.reverse:=⟨hk.blk hi.blk q1,hk.row hi.row q2,hi.len⟩;have hr:=h.rel;have hkeep:aF (nK K) (nK K') w w1:=λb _ _ hb hbl _=>⟨hk.blk hbl (λh=>hb (hS b hbl.lt h)),λhK=>by
  rcases h1 b hK with h|h
  ·exact hb h
  ·have:=hbl.lt;omega⟩
 obtain⟨xs,aJ,hx⟩:=hr.dr.ex;have U8:∀(l:List Def) (xs:List Value),gG K w l xs->gG K' w1 l xs:=by
  intro l
  induction l with
  | nil=>intro xs h;exact h
  | cons d l ih=>
   rintro xs ⟨nm,vb,vt,rest,h1,h2,h3,h4,h5⟩;exact⟨nm,vb,vt,rest,h1,h2,h3.keep hkeep,aM hkeep h4,ih rest h5⟩
 exact⟨⟨⟨_,hi',λ_=>rfl⟩,hr.e,hr.st,hr.mem,hr.out,hr.ids,hr.hot,hr.blt,hr.dp,⟨⟨xs,hk.row aJ q3,U8 _ _ hx⟩,hr.dr.len,h2⟩,hr.good⟩,hi'⟩
theorem lK.bar {w w1:World}{yb:Nat}{rs:RS}{s:St}{K':Nat->Prop}(h:lK K w yb rs s)(hk:Kp w w1 (λ_=>False))(h1:∀b,K' b->K b\/w.heap.size<=b)(h2:∀b,K' b->b<w1.heap.size):lK K' w1 yb rs s:=
 h.move hk (λ_ _ h=>h.elim) (λh=>h) (λ_ _ h=>h) (λ_ _ h=>h) h1 h2
theorem lK.less {w:World}{yb:Nat}{rs:RS}{s:St}{K':Nat->Prop}(h:lK K w yb rs s)(h1:∀b,K' b->K b):lK K' w yb rs s:=
 h.bar (Kp.refl _ _) (λb hb=>.inl (h1 b hb)) (λb hb=>h.rel.dr.old b (h1 b hb))
def wL:RS:=⟨.slice none 0 0,λ_=>0,0,0,⟨#[]⟩,⟨.slice none 0 0,0,5,1,0⟩⟩
theorem cC.first:cC st0:=
 ⟨⟨(by intro x hx;cases hx),(λi=>by show In 0;unfold In;decide),by show(0:Nat)<=32;decide,by show(0:Nat)<=300;decide⟩,by show(0:Int)<=0;decide,by show(0:Int)<=2001;decide,λ_=>by show(0:Int)<=2000;decide,by show(0:Int)<=0;decide,by show(0:Int)<=20;decide,by show(0:Int)<=1;decide,by show(1:Int)<=3;decide,(by intro d hd;cases hd)⟩
theorem lK.first (w:World)(hK:∀b,K b->b<(w.alloc (.cells wL.arr 67)).heap.size):lK K (w.alloc (.cells wL.arr 67)) w.heap.size wL st0:=by
 have hi:aR (w.alloc (.cells wL.arr 67)) w.heap.size wL []:=⟨aC.new _ _ _,World.ownsRow_nil _ _ _ _,by simp⟩;exact⟨⟨⟨[],hi,λ_=>rfl⟩,rfl,rfl,rfl,rfl,rfl,rfl,rfl,rfl,⟨⟨[],World.ownsRow_nil _ _ _ _,rfl⟩,by decide,hK⟩,cC.first⟩,hi⟩
theorem iZ.first:iZ st0:=⟨cC.first,(λd hd=>by cases hd),λ_=>by show(0:Int)<=2000;decide⟩
theorem Ql (w:World):Calls prog 29 #[] w λe w'=>e=.returned (.pointer (some ⟨w.heap.size,0,none⟩))/\w'=w.alloc (.cells wL.arr 67):=by
 go_enter func29,ntmps29;go_wp2;go_ret;exact⟨rfl,rfl⟩
end
section
open Go.RowKit
def mg (x:Tok):List Tok->List Tok
 | []=>[x]
 | b::r=>if Op.bytesLess x b=true then b::mg x r else x::b::r
def jk (l:List Tok):List Tok:=l.foldl (λrp x=>mg x rp) []
def pT (l:List Tok):List Tok:=(jk l).reverse
def xg:Nat->List Tok->List Tok
 | 0,l=>l
 | k+1,l=>match l[k+1]?,l[k]? with
  | some a,some b=>if Op.bytesLess a b=true then xg k ((l.set (k+1) b).set k a) else l
  | _,_=>l
theorem Dj (x:Tok):∀(rp post:List Tok),xg rp.length (rp.reverse++x::post)=(mg x rp).reverse++post
 | [],post=>by simp[xg,mg]
 | b::r,post=>by
  have e1:((b::r).reverse++x::post)[r.length+1]? = some x:=by
   rw[List.getElem?_append_right (by simp)];simp
  have e2:((b::r).reverse++x::post)[r.length]? = some b:=by
   rw[List.reverse_cons,List.append_assoc,List.getElem?_append_right (by simp)];simp
  have e3:((((b::r).reverse++x::post).set (r.length+1) b).set r.length x)=r.reverse++x::(b::post):=by
   rw[List.reverse_cons,List.append_assoc];rw[List.set_append_right _ _ (by simp),List.set_append_right _ _ (by simp)];simp
  show xg (r.length+1) _=_;rw[xg,e1,e2];dsimp only;rw[mg];by_cases h:Op.bytesLess x b=true
  ·rw[ag h,ag h,e3,Dj x r (b::post)];simp
  ·rw[af h,af h];simp
def jl (i:Nat)(l:List Tok):List Tok:=(jk (l.take i)).reverse++l.drop i
theorem Aa (x:Tok):∀(rp:List Tok),(mg x rp).length=rp.length+1
 | []=>rfl
 | b::r=>by unfold mg;split <;> simp[Aa x r]
theorem Ab (l:List Tok)(x:Tok):jk (l++[x])=mg x (jk l):=by unfold jk;rw[List.foldl_append];rfl
theorem oZ:∀(l:List Tok),(jk l).length=l.length:=by
 have key:∀(l rp:List Tok),(l.foldl (λrp x=>mg x rp) rp).length=rp.length+l.length:=by
  intro l
  induction l with
  | nil=>intro rp;simp
  | cons x l ih=>intro rp;rw[List.foldl_cons,ih,Aa];simp;omega
 intro l;unfold jk;rw[key];simp
theorem Ac (l:List Tok)(i:Nat)(h:i<l.length):xg i (jl i l)=jl (i+1) l:=by
 unfold jl;rw[List.drop_eq_getElem_cons h,List.take_succ_eq_append_getElem h,Ab];have:(jk (l.take i)).length=i:=by rw[oZ];simp;omega
 have h2:=Dj l[i] (jk (l.take i)) (l.drop (i+1));rw[this] at h2;exact h2
theorem BZ (l:List Tok):jl 1 l=l:=by
 unfold jl
 cases l with
 | nil=>rfl
 | cons x r=>simp[jk,mg]
def o5 (s:St):List Tok:=pT (s.ay.map Def.name)
def pU (s:St):List Tok:=pT ((s.ay.filter (λd=>d.bF)).map Def.name)
def jQ (s:St)(n:Int):Int × Int:=if n<0\/16<=n then(0,10) else(s.mem n.toNat,0)
def kC (hot built:Int):Prop:=hot<1\/1000<hot\/built<0\/3<built
def oz (s:St)(hot built:Int):St:={s with hot:=hot,built:=built,ay:=s.ay.map cP}
end
section
open Go.RowKit
variable {K:Nat->Prop}
theorem U9 (w:World)(yb:Nat)(rs:RS)(s:St)(n:Int)(h:lK K w yb rs s)(hn:In n):
  Calls prog 49 #[.pointer (some ⟨yb,0,none⟩),.int .i64 n] w λe w'=>e=.returned (.tuple #[.int .i64 (jQ s n).1,.int .i64 (jQ s n).2])/\Kp w w' (λ_=>False):=by
 by_cases h0:n<0
 ·have HP:Hid (jQ s n=(0,10)):=by unfold Hid jQ;rw[ag (.inl h0)]
  go_enter func49,ntmps49;go_wp2;go_ret2;rw[HP.out];exact⟨rfl,Kp.refl _ _⟩
 by_cases h1:16<=n
 ·have HP:Hid (jQ s n=(0,10)):=by unfold Hid jQ;rw[ag (.inr h1)]
  go_enter func49,ntmps49;go_wp2;go_ret2;rw[HP.out];exact⟨rfl,Kp.refl _ _⟩
 ·obtain⟨k,rfl⟩:∃k:Nat,n=k:=⟨n.toNat,by omega⟩;have hk:k<16:=by omega
  have HP:Hid (jQ s k=(s.mem k,0)):=by unfold Hid jQ;rw[af (by omega)];simp
  have c:w.cell? ⟨yb,1+k,none⟩=some (.int .i64 (s.mem k)):=by rw[<-h.rel.mem];exact h.inv.blk.cell (RS.at _ _ hk)
  clear h0 h1;go_enter func49,ntmps49;go_wp2;go_ret2;rw[HP.out];exact⟨rfl,Kp.refl _ _⟩
structure Iq (w wr:World)(v:Value)(n:Nat)(T:List Tok)(k:Nat):Prop where
 ex:∃L:List ByteArray,L.length=n/\wr.ownsRow 0 9 1 v n (L.map Value.string)/\xg k (aD L)=T
 kp:Kp w wr (λb=>own v b)
theorem xO (L:List ByteArray)(i:Nat)(t:ByteArray):aD (L.set i t)=(aD L).set i t.data.toList:=by unfold aD;rw[List.map_set]
theorem Ad (L:List ByteArray)(i:Nat)(h:i<L.length):(aD L)[i]? = some L[i].data.toList:=by unfold aD;simp[h]
theorem gX (L:List ByteArray):(aD L).length=L.length:=by simp[aD]
theorem Dk (w:World)(v:Value)(ws:List ByteArray)(hr:w.ownsRow 0 9 1 v ws.length (ws.map Value.string))(hl:ws.length<=100):
  Calls prog 54 #[v] w λe w'=>e=.returned v/\(∃L:List ByteArray,w'.ownsRow 0 9 1 v L.length (L.map Value.string)/\aD L=pT (aD ws))/\Kp w w' (λb=>own v b):=by
 have HO:Hid (∃L:List ByteArray,L.length=ws.length/\w.ownsRow 0 9 1 v ws.length (L.map Value.string)/\aD L=jl 1 (aD ws)):=⟨ws,rfl,hr,(BZ _).symm⟩;obtain⟨ao,cap,rfl⟩:=aB hr;clear hr;go_enter func54,ntmps54;go_wp2
 go_loopw [3] (λi wr=>∃k:Nat,1<=k/\(k<=ws.length\/k=1)/\i=.int .i64 k/\(∃L:List ByteArray,L.length=ws.length/\wr.ownsRow 0 9 1 (.slice ao ws.length cap) ws.length (L.map Value.string)/\aD L=jl k (aD ws))/\Kp w wr (λb=>own (.slice ao ws.length cap) b)) (λi _=>ws.length-(intOf i).toNat)
 case atStart=>exact⟨1,ah _,.inr rfl,rfl,HO.out,Kp.refl _ _⟩
 case round=>
  obtain⟨i,h1,h2,rfl,⟨L,hL,aJ,hT⟩,hkp⟩:=hrel;clear HO;by_cases hlt:i<ws.length
  ·have HS:Hid (Iq w wr (.slice ao ws.length cap) ws.length (jl (i+1) (aD ws)) i):=⟨⟨L,hL,aJ,by rw[hT];exact Ac _ _ (by rw[gX];exact hlt)⟩,hkp⟩;clear aJ hT hkp hL;go_wp2
   go_loopw [4] (λj wr2=>∃m:Nat,m<=i/\j=.int .i64 m/\Iq w wr2 (.slice ao ws.length cap) ws.length (jl (i+1) (aD ws)) m) (λj _=>(intOf j).toNat)
   case atStart=>exact⟨i,ah _,rfl,HS.out⟩
   case round=>
    clear HS;obtain⟨m,hm,rfl,⟨L,hL,aJ,hT⟩,hkp⟩:=hrel
    cases m with
    | zero=>
     have HN:Hid ((∃L:List ByteArray,L.length=ws.length/\wr.ownsRow 0 9 1 (.slice ao ws.length cap) ws.length (L.map Value.string)/\aD L=jl (i+1) (aD ws))/\Kp w wr (λb=>own (.slice ao ws.length cap) b)):=⟨⟨L,hL,aJ,hT⟩,hkp⟩;clear aJ hT hL hkp;go_wp2
     go_quiet (fail)
     go_wp2
     go_roundw
     case rel=>exact⟨i+1,by omega,by omega,by go_num,HN.out.1,HN.out.2.drewN _⟩
     case measure=>simp[intOf];omega
    | succ m=>
     obtain⟨g,cap',hv,hc⟩:=bE aJ (by omega);injection hv with e1 e2 e3;subst e1;clear e2 e3;have xJ:m+1<L.length:=by omega
     have c1:=hc (m+1) (.string L[m+1]) (by simp[xJ]);have c0:=hc m (.string L[m]) (by first|(simp;done)|(simp;omega))
     have BW:IntKind.i64.wrap (((m+1:Nat):Int)-1)=(m:Int):=by
      rw[show((m+1:Nat):Int)-1=(m:Int) by omega,IntKind.wrap_i64];omega
     have aen:IntKind.i64.wrap ((m:Int)+1-1)=(m:Int):=by
      rw[show(m:Int)+1-1=(m:Int) by omega,IntKind.wrap_i64];omega
     clear hc;have ZB:Hid (xg (m+1) (aD L)=if Op.bytesLess L[m+1].toList L[m].toList=true then xg m (aD ((L.set (m+1) L[m]).set m L[m+1])) else aD L):=by
      unfold Hid;rw[xg,Ad L (m+1) xJ,Ad L m (by omega),xO,xO,ByteArray.toList_eq,ByteArray.toList_eq]
     cases hb:Op.bytesLess L[m+1].toList L[m].toList with
     | false=>
      have HN:Hid ((∃L:List ByteArray,L.length=ws.length/\wr.ownsRow 0 9 1 (.slice (some ⟨g,0,none⟩) ws.length cap) ws.length (L.map Value.string)/\aD L=jl (i+1) (aD ws))/\Kp w wr (λb=>own (.slice (some ⟨g,0,none⟩) ws.length cap) b)):=⟨⟨L,hL,aJ,by rw[<-hT,ZB.out,af (by rw[hb];decide)]⟩,hkp⟩;clear aJ hT hkp ZB;go_wp2
      go_quiet (fail)
      go_wp2
      go_roundw
      case rel=>exact⟨i+1,by omega,by omega,by go_num,HN.out.1,HN.out.2.drewN _⟩
      case measure=>simp[intOf];omega
     | true=>
      have hgo:own (.slice (some ⟨g,0,none⟩) ws.length cap) g:=rfl;obtain⟨cc,hcc⟩:=aV aJ hgo;have f1:=hcc.free (m+1);have f0:=hcc.free m;have wq:=az aJ;have HT:=az hT;have mj:=az hkp;clear aJ hT hkp hcc;go_wp2
      go_quiet (fail)
      go_wp2;have hK:Kp w (((wr.drewN nq).setCell ⟨g,m+1,none⟩ (.string L[m])).setCell ⟨g,m,none⟩ (.string L[m+1])) (λb=>own (.slice (some ⟨g,0,none⟩) ws.length cap) b):=((mj.out.drewN nq).set (a:=⟨g,m+1,none⟩) (λ_=>hgo) _).set (a:=⟨g,m,none⟩) (λ_=>hgo) _;have hR:=eU (eU (EP wq.out nq) hgo (m+1) (.string L[m])) hgo m (.string L[m+1]);refine⟨⟨m,by omega,rfl,⟨⟨(L.set (m+1) L[m]).set m L[m+1],by simp;exact hL,by rw[List.map_set,List.map_set];exact hR,?_⟩,hK⟩⟩,by simp[intOf]⟩;rw[<-HT.out,ZB.out,ag hb]
  ·have HN:Hid (aD L=pT (aD ws)):=by
    unfold Hid;rw[hT];unfold jl pT;rw[List.take_of_length_le (by rw[gX];omega),List.drop_of_length_le (by rw[gX];omega)];simp
   clear hT;go_wp2;go_ret;exact⟨rfl,⟨L,by rw[hL];exact aJ,HN.out⟩,hkp⟩
end
section
open Go.RowKit
variable {K:Nat->Prop}
theorem Kp.Va {w w1 w2:World}{S:Nat->Prop}(h:Kp w w1 (λ_=>False))(hk:Kp w1 w2 S)(hb:∀b,S b->w.heap.size<=b):Kp w w2 (λ_=>False):=
 ⟨hk.os.trans h.os,hk.tape.trans h.tape,hk.output.trans h.output,ai h.size hk.size,λk hlt hn=>(hk.block k (aj hlt h.size) (λhS=>by have:=hb k hS;omega)).trans (h.block k hlt hn)⟩
structure eo (w wr:World)(v:Value)(l:List Tok):Prop where
 ex:∃L:List ByteArray,wr.ownsRow 0 9 1 v L.length (L.map Value.string)/\aD L=l
 new:∀b,own v b->w.heap.size<=b
 kp:Kp w wr (λ_=>False)
theorem eo.nil (w:World):eo w w (.slice none 0 0) []:=⟨⟨[],World.ownsRow_nil _ _ _ _,rfl⟩,λb hb=>by simp[own,Value.ownBlock] at hb,Kp.refl _ _⟩
theorem eo.more {w wr w1:World}{v v':Value}{l:List Tok}{L:List ByteArray}{t:ByteArray}{o:Obj}(hL:aD L=l)(hnew:∀b,own v b->w.heap.size<=b)(hkp:Kp w wr (λ_=>False))
  (hown:w1.ownsRow 0 9 1 v' (L.length+1) (L.map Value.string++[.string t])) (hg:(wr.alloc o).grownBy w1 v.ownBlock) (hnx:∀k,own v' k->own v k\/wr.heap.size+1<=k):eo w w1 v' (l++[t.data.toList]):=by
 refine⟨⟨L++[t],by simpa using hown,by rw[<-hL];simp[aD]⟩,λb hb=>?_,(hkp.alloc o).grown hg (λb hb e=>?_)⟩
 ·rcases hnx b hb with h|h
  ·exact hnew b h
  ·have:=hkp.size;omega
 ·have:=hnew b e;omega
theorem Qm (w:World)(yb:Nat)(rs:RS)(s:St)(h:lK K w yb rs s):
  Calls prog 34 #[.pointer (some ⟨yb,0,none⟩)] w λe w'=>∃v,e=.returned v/\eo w w' v (o5 s):=by
 have hdl:=h.rel.dr.len;have HS:=az h;obtain⟨i0,hi,hz0,hz1,hz2⟩:=info_parts Tryz.pL;clear h;go_enter func34,ntmps34;go_wp2
 go_loopw [3,4] (λv i wr=>∃k:Nat,k<=s.ay.length/\i=.int .i64 k/\eo w wr v ((s.ay.take k).map Def.name)) (λ_ i _=>s.ay.length-(intOf i).toNat)
 case atStart=>exact⟨0,Nat.zero_le _,rfl,by simpa using eo.nil w⟩
 case round=>
  obtain⟨k,hk,rfl,⟨⟨L,aJ,hL⟩,hnew,hkp⟩⟩:=hrel;have hS:=HS.out.cI hkp;have hLl:L.length<=30:=by have:=congrArg List.length hL;rw[gX] at this;simp at this;omega
  have HL:=az hL;clear hL;by_cases hlt:k<s.ay.length
  ·obtain⟨gd,fq,xs,nm,vb,vt,hD⟩:=hS.rel.dr.cells k hlt;have cy:wr.cell? ⟨yb,17,none⟩=some (.slice (some ⟨gd,0,none⟩) s.ay.length fq):=by rw[<-hD.dv];exact hS.inv.blk.cell rfl
   have k0:=hD.cell _ _ hD.x0;have KC:=hS.inv.blk.lt;have SY:=az hD.at_.nm;obtain⟨ao,cap,rfl⟩:=aB aJ;clear hD hS
   go_wp2_with (first
    | (at_builtin;refine aP _ rfl _ _ 47 rfl 9 i0 (.string ByteArray.empty) 1 16 underlying47 hi hz0 hz1 hz2 rfl (by decide) _ _ _ rfl (aJ.alloc _) ⟨wr.heap.size,0,none⟩ 1 1 [.string nm] rfl rfl ?c1 ?c2 ?c3 ?c4 ?_)
    | go_in)
   case c1=>intro j u hj;match j,hj with|0,hj=>simp at hj;subst hj;simp[Addr.add]
   case c2=>intro u hu;simp at hu;subst hu;rfl
   case c3=>unfold maxLen;omega
   case c4=>omega
   intro v1 w1 hown hgrow hnx;have Qn:=eo.more HL.out hnew hkp hown hgrow (λq hq=>(hnx q hq).imp (λh=>h) (λh=>by simpa using h));have HN:Hid (eo w w1 v1 ((s.ay.take (k+1)).map Def.name)):=by
    unfold Hid;rw[List.take_succ_eq_append_getElem hlt,List.map_append];rw[SY.out] at Qn;exact Qn
   clear Qn hown hgrow hnx aJ hnew hkp cy k0;go_wp2
   go_roundw
   case rel=>exact⟨k+1,by omega,by go_num,HN.out⟩
   case measure=>simp[intOf];omega
  ·have ZC:wr.cell? ⟨yb,17,none⟩=some rs.d.dv:=hS.inv.blk.cell rfl;obtain⟨FX,hrd,-⟩:=hS.rel.dr.ex;obtain⟨FY,fq,rU⟩:=aB hrd;rw[rU] at ZC;have SU:Hid (aD L=s.ay.map Def.name):=by have:=HL.out;rw[List.take_of_length_le (by omega)] at this;exact this
   clear hrd rU hS
   go_wp2_with fail
   refine(Dk wr _ L aJ (by omega)).mono ?_;rintro e w2 ⟨rfl,⟨L2,hrow2,hL2⟩,dR⟩;have HN:Hid (eo w w2 _ (o5 s)):=⟨⟨L2,hrow2,by rw[hL2,SU.out];rfl⟩,hnew,hkp.Va dR hnew⟩;clear hrow2 hL2 dR aJ hnew hkp;go_wp2;go_ret;exact⟨_,rfl,HN.out⟩
theorem Vb (w:World)(yb:Nat)(rs:RS)(s:St)(h:lK K w yb rs s):
  Calls prog 36 #[.pointer (some ⟨yb,0,none⟩)] w λe w'=>∃v,e=.returned v/\eo w w' v (pU s):=by
 have hdl:=h.rel.dr.len;have HS:=az h;obtain⟨i0,hi,hz0,hz1,hz2⟩:=info_parts Tryz.pL;clear h;go_enter func36,ntmps36;go_wp2
 go_loopw [3,4] (λv i wr=>∃k:Nat,k<=s.ay.length/\i=.int .i64 k/\eo w wr v (((s.ay.take k).filter (λd=>d.bF)).map Def.name)) (λ_ i _=>s.ay.length-(intOf i).toNat)
 case atStart=>exact⟨0,Nat.zero_le _,rfl,by simpa using eo.nil w⟩
 case round=>
  obtain⟨k,hk,rfl,⟨⟨L,aJ,hL⟩,hnew,hkp⟩⟩:=hrel;have hS:=HS.out.cI hkp;have hLl:L.length<=30:=by have:=congrArg List.length hL;rw[gX] at this;rw[List.length_map] at this;have h2:=List.length_filter_le (λd:Def=>d.bF) (s.ay.take k);simp at h2;omega
  have HL:=az hL;clear hL;by_cases hlt:k<s.ay.length
  ·obtain⟨gd,fq,xs,nm,vb,vt,hD⟩:=hS.rel.dr.cells k hlt;have cy:wr.cell? ⟨yb,17,none⟩=some (.slice (some ⟨gd,0,none⟩) s.ay.length fq):=by rw[<-hD.dv];exact hS.inv.blk.cell rfl
   have k0:=hD.cell _ _ hD.x0;have k4:=hD.cell _ _ hD.x4;have KC:=hS.inv.blk.lt;have SY:=az hD.at_.nm;obtain⟨ao,cap,rfl⟩:=aB aJ;clear hD hS
   cases KF:s.ay[k].bF with
   | true=>
    rw[KF] at k4;have HF:Hid ([s.ay[k]].filter (λd=>d.bF)=[s.ay[k]]):=by unfold Hid;simp[KF]
    clear KF
    go_wp2_with (first
     | (at_builtin;refine aP _ rfl _ _ 47 rfl 9 i0 (.string ByteArray.empty) 1 16 underlying47 hi hz0 hz1 hz2 rfl (by decide) _ _ _ rfl (aJ.alloc _) ⟨wr.heap.size,0,none⟩ 1 1 [.string nm] rfl rfl ?c1 ?c2 ?c3 ?c4 ?_)
     | go_in)
    case c1=>intro j u hj;match j,hj with|0,hj=>simp at hj;subst hj;simp[Addr.add]
    case c2=>intro u hu;simp at hu;subst hu;rfl
    case c3=>unfold maxLen;omega
    case c4=>omega
    intro v1 w1 hown hgrow hnx;have Qn:=eo.more HL.out hnew hkp hown hgrow (λq hq=>(hnx q hq).imp (λh=>h) (λh=>by simpa using h));have HN:Hid (eo w w1 v1 (((s.ay.take (k+1)).filter (λd=>d.bF)).map Def.name)):=by
     unfold Hid;rw[List.take_succ_eq_append_getElem hlt,List.filter_append,List.map_append,HF.out];rw[SY.out] at Qn;exact Qn
    clear Qn hown hgrow hnx aJ hnew hkp cy k0 k4;go_wp2
    go_roundw
    case rel=>exact⟨k+1,by omega,by go_num,HN.out⟩
    case measure=>simp[intOf];omega
   | false=>
    rw[KF] at k4;have HN:Hid (eo w wr (.slice ao L.length cap) (((s.ay.take (k+1)).filter (λd=>d.bF)).map Def.name)):=by
     unfold Hid;rw[List.take_succ_eq_append_getElem hlt,List.filter_append,show [s.ay[k]].filter (λd=>d.bF)=[] by simp[KF],List.append_nil];exact⟨⟨L,aJ,HL.out⟩,hnew,hkp⟩
    clear KF aJ hnew hkp k0;go_wp2
    go_roundw
    case rel=>exact⟨k+1,by omega,by go_num,HN.out⟩
    case measure=>simp[intOf];omega
  ·have ZC:wr.cell? ⟨yb,17,none⟩=some rs.d.dv:=hS.inv.blk.cell rfl;obtain⟨FX,hrd,-⟩:=hS.rel.dr.ex;obtain⟨FY,fq,rU⟩:=aB hrd;rw[rU] at ZC;have SU:Hid (aD L=(s.ay.filter (λd=>d.bF)).map Def.name):=by have:=HL.out;rw[List.take_of_length_le (by omega)] at this;exact this
   clear hrd rU hS
   go_wp2_with fail
   refine(Dk wr _ L aJ (by omega)).mono ?_;rintro e w2 ⟨rfl,⟨L2,hrow2,hL2⟩,dR⟩;have HN:Hid (eo w w2 _ (pU s)):=⟨⟨L2,hrow2,by rw[hL2,SU.out];rfl⟩,hnew,hkp.Va dR hnew⟩;clear hrow2 hL2 dR aJ hnew hkp;go_wp2;go_ret;exact⟨_,rfl,HN.out⟩
end
section
open Go.RowKit
variable {K:Nat->Prop}
def iQ (ay:List Def)(i:Nat):List Def:=(ay.take i).map cP++ay.drop i
theorem o6 (ay:List Def)(i:Nat):(iQ ay i).length=ay.length:=by simp[iQ];omega
theorem Ae (ay:List Def):iQ ay 0=ay:=by simp[iQ]
theorem ER (ay:List Def)(i:Nat)(h:i<ay.length):(iQ ay i)[i]'(by rw[o6];exact h)=ay[i]:=by
 unfold iQ;rw[List.getElem_append_right (by simp;omega)];simp[Nat.min_eq_left (Nat.le_of_lt h)]
theorem Af (ay:List Def)(i:Nat)(h:i<ay.length):iQ ay (i+1)=(iQ ay i).set i (cP ay[i]):=by
 unfold iQ;rw[List.take_succ_eq_append_getElem h,List.map_append,List.append_assoc,List.set_append_right _ _ (by simp;omega)];have:i-(List.map cP (ay.take i)).length=0:=by simp;omega
 rw[this,List.drop_eq_getElem_cons h];rfl
theorem B6 (ay:List Def):iQ ay ay.length=ay.map cP:=by simp[iQ]
theorem lK.LY {w:World}{yb:Nat}{rs:RS}{s:St}(h:lK K w yb rs s)(hot built:Int)(h0:0<=built)(h1:built<=3):
  lK K ((w.setCell ⟨yb,19,none⟩ (.int .i64 hot)).setCell ⟨yb,20,none⟩ (.int .i64 built)) yb {rs with d:={rs.d with hot:=hot,blt:=built}} {s with hot:=hot,built:=built}/\fG yb w ((w.setCell ⟨yb,19,none⟩ (.int .i64 hot)).setCell ⟨yb,20,none⟩ (.int .i64 built)) rs {rs with d:={rs.d with hot:=hot,blt:=built}}:=by
 have hi:=h.inv;have hr:=h.rel;have hk:Kp w ((w.setCell ⟨yb,19,none⟩ (.int .i64 hot)).setCell ⟨yb,20,none⟩ (.int .i64 built)) (λb=>b=yb):=((Kp.refl w (λb=>b=yb)).set (a:=⟨yb,19,none⟩) (λ_=>rfl) _).set (a:=⟨yb,20,none⟩) (λ_=>rfl) _;have hb:=hi.blk;have hg:=hr.good;have hI:aR ((w.setCell ⟨yb,19,none⟩ (.int .i64 hot)).setCell ⟨yb,20,none⟩ (.int .i64 built)) yb {rs with d:={rs.d with hot:=hot,blt:=built}} s.rs.reverse:=⟨(hb.set 19 (.int .i64 hot)).set 20 (.int .i64 built),hk.row hi.row (λb hb' e=>by subst e;exact aH hi.row hb (by decide) hb'),hi.len⟩;exact⟨⟨⟨⟨_,hI,λ_=>rfl⟩,hr.e,hr.st,hr.mem,hr.out,hr.ids,rfl,rfl,hr.dp,hr.dr.kp hk (vZ.one hb (by decide) (by decide)) (λb c e hc=>by subst e;exact ax (hc.inj hb).1 (by decide)),⟨hg.g,hg.s0,hg.s1,hg.s2,hg.d0,hg.d1,h0,h1,hg.cb⟩⟩,hI⟩,⟨hk.mono (λb _ e=>.inl e),λ_ h=>.inl h⟩⟩
theorem LZ (w:World)(yb:Nat)(rs:RS)(s:St)(k:Nat)(h:lK K w yb rs s)(hk:k<s.ay.length):
  Calls prog 55 #[.pointer (some ⟨yb,0,none⟩),.int .i64 k] w λe w'=>e=.returned (.tuple #[])/\lK K w' yb rs {s with ay:=s.ay.set k (cP s.ay[k])}/\fG yb w w' rs rs:=by
 refine(Oh w yb rs s k h.rel hk).mono ?_;rintro e w' ⟨h1,h2,h3,h4⟩;refine⟨h1,⟨h2,⟨h2.blk,h4.row h.inv.row (λb hb hd=>?_),h.inv.len⟩⟩,h3⟩;obtain⟨xs,hr,_⟩:=h.rel.dr.ex;obtain⟨c,hc⟩:=aV h.inv.row hb;exact ax (aQ hr hd hc) (by decide)
theorem ES (w:World)(yb:Nat)(hot built:Int)(hb:kC hot built):
  Calls prog 38 #[.pointer (some ⟨yb,0,none⟩),.int .i64 hot,.int .i64 built] w λe w'=>e=.returned (.int .i64 1)/\Kp w w' (λ_=>False):=by
 unfold kC at hb;by_cases h1:hot<1
 ·clear hb;go_enter func38,ntmps38;go_wp2;go_ret;exact⟨rfl,Kp.refl _ _⟩
 by_cases h2:1000<hot
 ·clear hb;go_enter func38,ntmps38;go_wp2;go_ret;exact⟨rfl,Kp.refl _ _⟩
 by_cases h3:built<0
 ·clear hb;go_enter func38,ntmps38;go_wp2;go_ret;exact⟨rfl,Kp.refl _ _⟩
 ·have h4:3<built:=by omega
  clear hb;go_enter func38,ntmps38;go_wp2;go_ret;exact⟨rfl,Kp.refl _ _⟩
structure Ca (K:Nat->Prop)(w wr:World)(yb:Nat)(rs fB:RS)(s1:St)(k:Nat):Prop where
 ses:lK K wr yb fB {s1 with ay:=iQ s1.ay k}
 tw:fG yb w wr rs fB
theorem Vc (w:World)(yb:Nat)(rs:RS)(s:St)(hot built:Int)(h:lK K w yb rs s)(h1:1<=hot)(h2:hot<=1000)(h3:0<=built)(h4:built<=3):
  Calls prog 38 #[.pointer (some ⟨yb,0,none⟩),.int .i64 hot,.int .i64 built] w λe w'=>e=.returned (.int .i64 0)/\∃rs',lK K w' yb rs' (oz s hot built)/\fG yb w w' rs rs':=by
 have c1:w.cell? ⟨yb,19,none⟩=some (.int .i64 rs.d.hot):=h.inv.blk.cell rfl;have c2:w.cell? ⟨yb,20,none⟩=some (.int .i64 rs.d.blt):=h.inv.blk.cell rfl;have f1:=h.inv.blk.free 19;have f2:=h.inv.blk.free 20;have hdl:=h.rel.dr.len;obtain⟨hS1,bt⟩:=h.LY hot built h3 h4;obtain⟨s1,hs1⟩:∃s1:St,s1={s with hot:=hot,built:=built}:=⟨_,rfl⟩;obtain⟨fB,wB⟩:∃fB:RS,fB={rs with d:={rs.d with hot:=hot,blt:=built}}:=⟨_,rfl⟩;rw[<-hs1,<-wB] at hS1;rw[<-wB] at bt;have hdef:s1.ay=s.ay:=by rw[hs1]
 have HS:Hid (oz s hot built={s1 with ay:=s1.ay.map cP}):=by unfold Hid oz;rw[hs1]
 rw[<-hdef] at hdl;have HL:Hid (Ca K w _ yb rs fB s1 0):=⟨by rw[Ae];exact hS1,bt⟩;clear hS1 bt h hs1 wB hdef;go_enter func38,ntmps38;go_wp2
 go_loopw [7] (λi wr=>∃k:Nat,k<=s1.ay.length/\i=.int .i64 k/\Ca K w wr yb rs fB s1 k) (λi _=>s1.ay.length-(intOf i).toNat)
 case atStart=>exact⟨0,Nat.zero_le _,rfl,HL.out⟩
 case round=>
  clear HL c1 c2 f1 f2;obtain⟨k,hk,rfl,ET,hto⟩:=hrel;obtain⟨FX,hrd,-⟩:=ET.rel.dr.ex;obtain⟨FY,fq,rU⟩:=aB hrd;have cy:wr.cell? ⟨yb,17,none⟩=some (.slice FY s1.ay.length fq):=by
   have:=ET.inv.blk.cell (o:=17) (v:=fB.d.dv) rfl;rw[rU] at this;rw[this];simp only[o6]
  clear hrd rU;by_cases hlt:k<s1.ay.length
  ·go_wp2_with fail
   refine(LZ _ _ _ _ k ET (by show k<(iQ s1.ay k).length;rw[o6];exact hlt)).mono ?_;rintro e w5 ⟨rfl,Ir,mF⟩;have HN:Hid (Ca K w w5 yb rs fB s1 (k+1)):=by
    refine⟨?_,hto.trans mF⟩;rw[Af _ _ hlt];simp only[ER _ _ hlt] at Ir;exact Ir
   clear ET hto Ir mF;go_wp2
   go_roundw
   case rel=>exact⟨k+1,by omega,by go_num,HN.out⟩
   case measure=>simp[intOf];omega
  ·have HN:Hid (lK K wr yb fB (oz s hot built)):=by
    unfold Hid;rw[HS.out,<-B6,show s1.ay.length=k by omega];exact ET
   clear ET;go_wp2;go_ret;exact⟨rfl,fB,HN.out,hto⟩
end
section
open Go.RowKit
def yE (s1:St):St:=if s1.e=0 then s1 else {s1 with rs:=[]}
structure PCon (B:Nat)(W0:World)(PS:World->Nat->(Nat->Prop)->St->Prop):Prop where
 lt:∀w xb V s,PS w xb V s->∀k,V k->k<w.heap.size
 frame:∀w w' S xb V s,PS w xb V s->Kp w w' S->(∀k,V k->¬S k)->(∀k,k<B->¬S k)->B<=w.heap.size->PS w' xb V s
 new:∀w,Below B W0 w->B<=w.heap.size->Calls prog 27 #[] w λe w'=>∃xb V,e=.returned (.pointer (some ⟨xb,0,none⟩))/\PS w' xb V st0/\Kp w w' (λ_=>False)/\∀k,V k->w.heap.size<=k
 L1:∀w xb V s (t:ByteArray),PS w xb V s->cz t.data.toList=false ->
  Calls prog 18 #[.pointer (some ⟨xb,0,none⟩),.string t] w λe w'=>e=.returned (.tuple #[.string ⟨#[]⟩,.int .i64 2])/\∃V',PS w' xb V' s/\To (λ_=>False) w w' V V'
 stack:∀w xb V s,PS w xb V s->cC s->Calls prog 19 #[.pointer (some ⟨xb,0,none⟩)] w λe w'=>∃v,e=.returned v/\w'.ownsRow w.heap.size 3 1 v s.rs.length (bD s.rs.reverse)/\∃V',PS w' xb V' s/\To (λ_=>False) w w' V V'/\∀k,own v k->¬V' k
 cell:∀w xb V s n,PS w xb V s->In n->Calls prog 39 #[.pointer (some ⟨xb,0,none⟩),.int .i64 n] w λe w'=>e=.returned (.tuple #[.int .i64 (jQ s n).1,.int .i64 (jQ s n).2])/\∃V',PS w' xb V' s/\To (λ_=>False) w w' V V'
 words:∀w xb V s,PS w xb V s->Calls prog 33 #[.pointer (some ⟨xb,0,none⟩)] w λe w'=>∃v,e=.returned v/\(∃L:List ByteArray,w'.ownsRow w.heap.size 9 1 v L.length (L.map Value.string)/\aD L=o5 s)/\∃V',PS w' xb V' s/\To (λ_=>False) w w' V V'/\∀k,own v k->¬V' k
structure Dl (PS Iu:World->Nat->(Nat->Prop)->St->Prop):Prop where
 mono:∀w xb V s,PS w xb V s->Iu w xb V s
 line:∀w xb V s s1 left g (t:ByteArray),PS w xb V s->iZ s->cC s->cz t.data.toList=true->aI g (aT (Lib.fields t.data.toList)) (jP s)=some (s1,left) ->
  Calls prog 18 #[.pointer (some ⟨xb,0,none⟩),.string t] w λe w'=>e=.returned (.tuple #[.string s1.out,.int .i64 s1.e])/\∃V',Iu w' xb V' (yE s1)/\To (λ_=>False) w w' V V'
structure PConF (B:Nat)(W0:World)(PS:World->Nat->(Nat->Prop)->St->Prop):Prop extends PCon B W0 PS where
 bF:∀w xb V s,PS w xb V s->Calls prog 24 #[.pointer (some ⟨xb,0,none⟩)] w λe w'=>∃v,e=.returned v/\(∃L:List ByteArray,w'.ownsRow w.heap.size 9 1 v L.length (L.map Value.string)/\aD L=pU s)/\∃V',PS w' xb V' s/\To (λ_=>False) w w' V V'/\∀k,own v k->¬V' k
 ZE:∀w xb V s hot built,PS w xb V s->¬kC hot built->Calls prog 22 #[.pointer (some ⟨xb,0,none⟩),.int .i64 hot,.int .i64 built] w λe w'=>e=.returned (.int .i64 0)/\∃V',PS w' xb V' (oz s hot built)/\To (λ_=>False) w w' V V'
 L3:∀w xb V s hot built,PS w xb V s->kC hot built->Calls prog 22 #[.pointer (some ⟨xb,0,none⟩),.int .i64 hot,.int .i64 built] w λe w'=>e=.returned (.int .i64 1)/\∃V',PS w' xb V' s/\To (λ_=>False) w w' V V'
structure EU (B:Nat)(W0:World)(PS:Int->World->Nat->(Nat->Prop)->St->Prop):Prop where
 L4:∀I,0<=I->PConF B W0 (PS I)
 line:∀I,0<=I->I<=4611686018427387904->Dl (PS I) (PS (I+2000))
def cx (i:Nat):Nat:=2*i+3
def cy (i:Nat):Nat:=2*i+4
theorem Ag (i j:Nat):cx i≠cy j:=by unfold cx cy;omega
theorem Iw {i j:Nat}(h:cx i=cx j):i=j:=by unfold cx at h;omega
theorem Qo {i j:Nat}(h:cy i=cy j):i=j:=by unfold cy at h;omega
def dJ (c:Nat->Nat)(n a:Nat):Nat->Nat:=λb=>if b<n then c b else a
def Qp (c:Nat->Nat)(w:World)(a:Nat):Nat->Prop:=λb=>b<w.heap.size/\c b≠a
structure Mv (A:Nat->Prop)(c:Nat->Nat)(w:World)(c':Nat->Nat)(w':World):Prop where
 kp:Kp w w' (λb=>A (c b))
 old:∀b,b<w.heap.size->c' b=c b
 new:∀b,w.heap.size<=b->A (c' b)
theorem Mv.trans {A:Nat->Prop}{c c1 c2:Nat->Nat}{w w1 w2:World}(h:Mv A c w c1 w1)(g:Mv A c1 w1 c2 w2):Mv A c w c2 w2:=by
 refine⟨⟨g.kp.os.trans h.kp.os,g.kp.tape.trans h.kp.tape,g.kp.output.trans h.kp.output,ai h.kp.size g.kp.size,λk hk hn=>?_⟩,λb hb=>?_,λb hb=>?_⟩
 ·refine(g.kp.block k (aj hk h.kp.size) (λe=>hn ?_)).trans (h.kp.block k hk hn);have e:A (c1 k):=e;rw[h.old k hk] at e;exact e
 ·rw[g.old b (aj hb h.kp.size),h.old b hb]
 ·by_cases hlt:b<w1.heap.size
  ·rw[g.old b hlt];exact h.new b hb
  ·exact g.new b (by omega)
theorem Mv.mono {A B:Nat->Prop}{c c1:Nat->Nat}{w w1:World}(h:Mv A c w c1 w1)(hAB:∀a,A a->B a):Mv B c w c1 w1:=
 ⟨h.kp.mono (λk _ hk=>hAB _ hk),h.old,λb hb=>hAB _ (h.new b hb)⟩
theorem Mv.dJ {c:Nat->Nat}{w w':World}{a:Nat}(hk:Kp w w' (λb=>c b=a)):Mv (λx=>x=a) c w (Go.Proofs.YteainaiebcphlaaGreatDoor.dJ c w.heap.size a) w':=
 ⟨hk,λb hb=>ag hb,λb hb=>af (by omega)⟩
structure Pr where
 pb:Nat
 xb:Nat
 yb:Nat
 V:Nat->Prop
 sx:St
 rs:RS
 s:St
structure jm (B:Nat)(PS:World->Nat->(Nat->Prop)->St->Prop)(c:Nat->Nat)(w:World)(i:Nat)(p:Pr):Prop where
 blk:aC w p.pb 61 #[.pointer (some ⟨p.xb,0,none⟩),.pointer (some ⟨p.yb,0,none⟩)]
 cp:c p.pb=0
 x:PS w p.xb p.V p.sx
 cv:∀k,p.V k->c k=cx i
 y:lK (Qp c w (cy i)) w p.yb p.rs p.s
 L5:c p.yb=cy i
 cn:∀k,own p.rs.nv k->c k=cy i
 cd:∀k,own p.rs.d.dv k->c k=cy i
 low:∀b,b<B->c b=0
 bl:B<=w.heap.size
section
variable {PS:World->Nat->(Nat->Prop)->St->Prop}{B:Nat}{W0:World}(P:PCon B W0 PS)
include P
theorem jm.other {A:Nat->Prop}{c c':Nat->Nat}{w w':World}{i:Nat}{p:Pr}(h:jm B PS c w i p)(hm:Mv A c w c' w')(h0:¬A 0)(h1:¬A (cx i))(h2:¬A (cy i)):jm B PS c' w' i p:=by
 have hlt:=hm.old;have hk:=hm.kp;have hvl:=P.lt _ _ _ _ h.x;have KC:=h.y.inv.blk.lt;have hnl:∀k,own p.rs.nv k->k<w.heap.size:=λk hk=>bw h.y.inv.row hk;have hdl:∀k,own p.rs.d.dv k->k<w.heap.size:=λk hk=>by obtain⟨xs,hr,_⟩:=h.y.rel.dr.ex;exact bw hr hk
 refine⟨hk.blk h.blk (λe=>?_),?_,P.frame _ _ _ _ _ _ h.x hk (λk hv e=>?_) (λk hk e=>h0 (by have e:A (c k):=e;rw[h.low k hk] at e;exact e)) h.bl,λk hv=>?_,?_,?_,λk hv=>?_,λk hv=>?_,λb hb=>by rw[hlt b (aj hb h.bl)];exact h.low b hb,ai h.bl hk.size⟩
 ·have e:A (c p.pb):=e;rw[h.cp] at e;exact h0 e
 ·rw[hlt _ h.blk.lt];exact h.cp
 ·have e:A (c k):=e;rw[h.cv k hv] at e;exact h1 e
 ·rw[hlt k (hvl k hv)];exact h.cv k hv
 ·refine h.y.move hk (λb hb e=>⟨hb,λe2=>?_⟩) (λe=>?_) (λb hb e=>?_) (λb hb e=>?_) (λb hb=>?_) (λb hb=>hb.1)
  ·have e:A (c b):=e;rw[e2] at e;exact h2 e
  ·have e:A (c p.yb):=e;rw[h.L5] at e;exact h2 e
  ·have e:A (c b):=e;rw[h.cn b hb] at e;exact h2 e
  ·have e:A (c b):=e;rw[h.cd b hb] at e;exact h2 e
  ·by_cases s5:b<w.heap.size
   ·left;refine⟨s5,?_⟩;have:=hb.2;rw[hlt b s5] at this;exact this
   ·right;omega
 ·rw[hlt _ KC];exact h.L5
 ·rw[hlt k (hnl k hv)];exact h.cn k hv
 ·rw[hlt k (hdl k hv)];exact h.cd k hv
theorem jm.EW {c:Nat->Nat}{w w':World}{i:Nat}{p:Pr}{V':Nat->Prop}{s':St}(h:jm B PS c w i p)(hto:To (λ_=>False) w w' p.V V')(hx:PS w' p.xb V' s'):
  jm B PS (dJ c w.heap.size (cx i)) w' i {p with V:=V',sx:=s'}/\Mv (λa=>a=cx i) c w (dJ c w.heap.size (cx i)) w':=by
 have hk:Kp w w' (λb=>c b=cx i):=hto.kp.mono (λk _ hk=>by rcases hk with e|e;exact e.elim;exact h.cv k e);have hm:=Mv.dJ hk;have hlt:=hm.old;have KC:=h.y.inv.blk.lt;have hnl:∀k,own p.rs.nv k->k<w.heap.size:=λk hk=>bw h.y.inv.row hk;have hdl:∀k,own p.rs.d.dv k->k<w.heap.size:=λk hk=>by obtain⟨xs,hr,_⟩:=h.y.rel.dr.ex;exact bw hr hk
 have hxy:cx i≠cy i:=Ag i i;refine⟨⟨hk.blk h.blk (λe=>?_),?_,hx,λk hv=>?_,?_,?_,λk hv=>?_,λk hv=>?_,λb hb=>by rw[hlt b (aj hb h.bl)];exact h.low b hb,ai h.bl hk.size⟩,hm⟩
 ·have e:c p.pb=cx i:=e;rw[h.cp] at e;unfold cx at e;omega
 ·rw[hlt _ h.blk.lt];exact h.cp
 ·rcases hto.nx k hv with h1|h1
  ·rw[hlt k (P.lt _ _ _ _ h.x k h1)];exact h.cv k h1
  ·exact hm.new k h1
 ·refine h.y.move hk (λb hb e=>⟨hb,λe2=>?_⟩) (λe=>?_) (λb hb e=>?_) (λb hb e=>?_) (λb hb=>?_) (λb hb=>hb.1)
  ·have e:c b=cx i:=e;rw[e2] at e;exact hxy e.symm
  ·have e:c p.yb=cx i:=e;rw[h.L5] at e;exact hxy e.symm
  ·have e:c b=cx i:=e;rw[h.cn b hb] at e;exact hxy e.symm
  ·have e:c b=cx i:=e;rw[h.cd b hb] at e;exact hxy e.symm
  ·by_cases s5:b<w.heap.size
   ·left;refine⟨s5,?_⟩;have:=hb.2;rw[hlt b s5] at this;exact this
   ·right;omega
 ·rw[hlt _ KC];exact h.L5
 ·rw[hlt k (hnl k hv)];exact h.cn k hv
 ·rw[hlt k (hdl k hv)];exact h.cd k hv
theorem jm.L6 {c:Nat->Nat}{w w':World}{i:Nat}{p:Pr}{rs':RS}{s':St}(h:jm B PS c w i p)(hto:fG p.yb w w' p.rs rs')(hy:lK (Qp c w (cy i)) w' p.yb rs' s'):
  jm B PS (dJ c w.heap.size (cy i)) w' i {p with rs:=rs',s:=s'}/\Mv (λa=>a=cy i) c w (dJ c w.heap.size (cy i)) w':=by
 have hk:Kp w w' (λb=>c b=cy i):=hto.kp.mono (λk _ hk=>by
  rcases hk with e|e|e
  ·rw[e];exact h.L5
  ·exact h.cn k e
  ·exact h.cd k e)
 have hm:=Mv.dJ hk;have hlt:=hm.old;have hvl:=P.lt _ _ _ _ h.x;have hxy:cx i≠cy i:=Ag i i;have key:∀k,(own rs'.nv k\/own rs'.d.dv k)->dJ c w.heap.size (cy i) k=cy i:=by
  intro k hv;rcases hto.nx k hv with h1|h1
  ·have hkl:k<w.heap.size:=by
    rcases h1 with h1|h1
    ·exact bw h.y.inv.row h1
    ·obtain⟨xs,hr,_⟩:=h.y.rel.dr.ex;exact bw hr h1
   rw[hlt k hkl];rcases h1 with h1|h1
   ·exact h.cn k h1
   ·exact h.cd k h1
  ·exact hm.new k h1
 refine⟨⟨hk.blk h.blk (λe=>?_),?_,P.frame _ _ _ _ _ _ h.x hk (λk hv e=>?_) (λk hk e=>by have e:c k=cy i:=e;rw[h.low k hk] at e;unfold cy at e;omega) h.bl,λk hv=>?_,?_,?_,λk hv=>key k (.inl hv),λk hv=>key k (.inr hv),λb hb=>by rw[hlt b (aj hb h.bl)];exact h.low b hb,ai h.bl hk.size⟩,hm⟩
 ·have e:c p.pb=cy i:=e;rw[h.cp] at e;unfold cy at e;omega
 ·rw[hlt _ h.blk.lt];exact h.cp
 ·have e:c k=cy i:=e;rw[h.cv k hv] at e;exact hxy e
 ·rw[hlt k (hvl k hv)];exact h.cv k hv
 ·refine hy.less (λb hb=>?_);by_cases s5:b<w.heap.size
  ·refine⟨s5,?_⟩;have:=hb.2;rw[hlt b s5] at this;exact this
  ·exact ax (hm.new b (by omega)) hb.2
 ·rw[hlt _ h.y.inv.blk.lt];exact h.L5
end
end
end Go.Proofs.YteainaiebcphlaaGreatDoor
