import Derived.Test.YteainaiebcphlaaGreatDoorQ4
import Derived.Test.YteainaiebcphlaaGreatDoorQ3
namespace Go.Proofs.YteainaiebcphlaaGreatDoor
set_option maxRecDepth 1000000
set_option maxHeartbeats 4000000
set_option linter.all false
open Go.Proofs.Tryz
section
open Go.RowKit
abbrev Tok:=List UInt8
structure It where
 kind:Nat
 n:Int
 name:Tok
 a:List It
 b:List It
 toks:List Tok
def FW:Tok:=[105,102]
def eY:Tok:=[101,108,115,101]
def dF:Tok:=[116,104,101,110]
def jf:Tok:=[98,101,103,105,110]
def fL:Tok:=[117,110,116,105,108]
def di:Tok:=[119,104,105,108,101]
def gj:Tok:=[114,101,112,101,97,116]
def Gr:Tok:=[100,111]
def mA:Tok:=[108,111,111,112]
def kI:Tok:=[105]
def iW:Tok:=[114,101,99,117,114,115,101]
def rL:Tok:=[101,120,105,116]
def dK:Tok:=[58]
def eH:Tok:=[59]
def fu:Tok:=[123]
def dS:Tok:=[125]
def bh:List Tok->Except Int (List Tok × List Tok)
 | []=>.error 4
 | t::r=>if t=fu then .error 4 else if t=dS then .ok ([],r) else
  match bh r with
  | .error e=>.error e
  | .ok (ts,r')=>.ok (t::ts,r')
def pO (t:Tok):Bool:=eB.any (· == t)||t==dK||t==eH||t==dS
def jg (aA:Tok->Bool)(loops:Nat)(t:Tok):Except Int It:=
 match bA t with
 | some n=>.ok ⟨110,n,[],[],[],[]⟩
 | none=>if aN.any (· == t)=true then .ok ⟨112,0,t,[],[],[]⟩
  else if t=kI/\0<loops then .ok ⟨105,0,[],[],[],[]⟩ else if t=iW then .ok ⟨114,0,[],[],[],[]⟩ else if t=rL then .ok ⟨120,0,[],[],[],[]⟩
  else if pO t=true then .error 4 else if aA t=true then .ok ⟨99,0,t,[],[],[]⟩ else .error 3
structure PJ where
 item:Bool
 loops:Nat
 ends : List Tok
 t:Tok
def aK (aA:Tok->Bool):Nat->PJ->List Tok->Option (Except Int (List It × Tok × List Tok))
 | 0,_,_=>none
 | g+1,j,r=>
  if j.item=false then
   match r with
   | []=>some (.error 4)
   | t::r1=>if j.ends.any (· == t)=true then some (.ok ([],t,r1)) else
    match aK aA g ⟨true,j.loops,[],t⟩ r1 with
    | none=>none
    | some (.error e)=>some (.error e)
    | some (.ok (xs,_,r2))=>match aK aA g j r2 with
     | none=>none
     | some (.error e)=>some (.error e)
     | some (.ok (ys,t',r3))=>some (.ok (xs++ys,t',r3))
  else if j.t=FW then
   match aK aA g ⟨false,j.loops,[eY,dF],[]⟩ r with
   | none=>none
   | some (.error e)=>some (.error e)
   | some (.ok (a,t1,r1))=>if t1=eY then
     match aK aA g ⟨false,j.loops,[dF],[]⟩ r1 with
     | none=>none
     | some (.error e)=>some (.error e)
     | some (.ok (b,_,r2))=>some (.ok ([⟨63,0,[],a,b,[]⟩],[],r2))
    else some (.ok ([⟨63,0,[],a,[],[]⟩],[],r1))
  else if j.t=jf then
   match aK aA g ⟨false,j.loops,[fL,di],[]⟩ r with
   | none=>none
   | some (.error e)=>some (.error e)
   | some (.ok (a,t1,r1))=>if t1=di then
     match aK aA g ⟨false,j.loops,[gj],[]⟩ r1 with
     | none=>none
     | some (.error e)=>some (.error e)
     | some (.ok (b,_,r2))=>some (.ok ([⟨119,0,[],a,b,[]⟩],[],r2))
    else some (.ok ([⟨117,0,[],a,[],[]⟩],[],r1))
  else if j.t=Gr then
   match aK aA g ⟨false,j.loops+1,[mA],[]⟩ r with
   | none=>none
   | some (.error e)=>some (.error e)
   | some (.ok (a,_,r1))=>some (.ok ([⟨100,0,[],a,[],[]⟩],[],r1))
  else if j.t=fu then
   match bh r with
   | .error e=>some (.error e)
   | .ok (ts,r1)=>some (.ok ([⟨123,0,[],[],[],ts⟩],[],r1))
  else match jg aA j.loops j.t with
   | .error e=>some (.error e)
   | .ok x=>some (.ok ([x],[],r))
structure Def where
 name:Tok
 id:Int
 body:List It
 count:Int
 bF:Bool
 built:List Tok
structure St where
 rs:List Int
 mem:Nat->Int
 ay:List Def
 ids:Int
 hot:Int
 built:Int
 e:Int
 steps:Int
 depth:Int
 out:ByteArray
def dX (t:Tok):Bool:=decide (1<=t.length/\t.length<=8)&&t.all (λc=>decide (97<=c.toNat/\c.toNat<=122)) && !aN.any (· == t) && !eB.any (· == t)
def St.find (s:St)(t:Tok):Option Nat:=s.ay.findIdx? (λd=>d.name==t)
def St.aA (s:St)(t:Tok):Bool:=(s.find t).isSome
def St.err (s:St)(e:Int):St:={s with e:=e}
def jY (g:Nat)(s:St):List Tok->Option (Except Int (Tok × List It × List Tok))
 | []=>some (.error 4)
 | t::r=>if dX t=false then some (.error 4) else if s.aA t=false/\30<=s.ay.length then some (.error 5) else
  match aK s.aA g ⟨false,0,[eH],[]⟩ r with
  | none=>none
  | some (.error e)=>some (.error e)
  | some (.ok (b,_,r1))=>some (.ok (t,b,r1))
def St.step (s:St):St:=if s.steps<2000 then {s with steps:=s.steps+1} else {s with e:=12,steps:=s.steps+1}
def St.put (s:St)(n:Int):St:=if s.rs.length<32 then {s with rs:=n::s.rs} else {s with e:=7}
def St.word (s:St)(k:Nat):St:={s with rs:=(jI k s.rs s.mem s.out).rs,mem:=(jI k s.rs s.mem s.out).mem,out:=(jI k s.rs s.mem s.out).out,e:=(jI k s.rs s.mem s.out).e}
def cP (d:Def):Def:={d with bF:=false,built:=[],count:=0}
def bz:Nat->List It->Option (List Tok)
 | 0,_=>none
 | _+1,[]=>some []
 | g+1,x::r=>match bz g x.a,bz g x.b,bz g r with
  | some a,some b,some c=>some ((if x.kind=99 then [x.name] else [])++a++b++c)
  | _,_,_=>none
def dx (ay:List Def)(t:Tok):Option (List It):=(ay.find? (λd=>d.name==t)).map (·.body)
def kO (f:Tok->Option (List Tok)):List Tok->Option (List Tok)
 | []=>some []
 | t::r=>match f t,kO f r with
  | some x,some y=>some (t::x++y)
  | _,_=>none
def cJ (ay:List Def)(g:Nat):Nat->List It->Option (List Tok)
 | 0,_=>some []
 | n+1,l=>match bz g l with
  | none=>none
  | some names=>kO (λt=>match dx ay t with
   | none=>none
   | some b=>cJ ay g n b) names
def St.set (s:St)(t:Tok)(b:List It):St:=
 {s with ids:=wrap64 (s.ids+1),ay:=match s.find t with
   | some k=>(s.ay.map λd=>if d.bF=true/\d.built.any (· == t)=true then cP d else d).set k ⟨t,wrap64 (s.ids+1),b,0,false,[]⟩
   | none=>(s.ay.map λd=>if d.bF=true/\d.built.any (· == t)=true then cP d else d)++[⟨t,wrap64 (s.ids+1),b,0,false,[]⟩]}
def St.count (g:Nat)(s:St)(k:Nat):Option St:=
 match s.ay[k]? with
 | none=>none
 | some d=>if d.bF=true then some s else if wrap64 (d.count+1)<s.hot then some {s with ay:=s.ay.set k {d with count:=wrap64 (d.count+1)}} else
  match cJ (s.ay.set k {d with count:=wrap64 (d.count+1),bF:=true}) g s.built.toNat d.body with
  | none=>none
  | some bs=>some {s with ay:=s.ay.set k {d with count:=wrap64 (d.count+1),bF:=true,built:=bs}}
structure Fr where
 id:Int
 name:Tok
 body:List It
def St.test (s:St):St × Bool:=
 if s.step.e=0 then match s.step.rs with
  | []=>(s.step.err 6,false)
  | a::r=>({s.step with rs:=r},decide (a≠0))
 else(s.step,false)
structure XJ where
 what:Nat
 f:Fr
 lp:List Int
 l:List It
 x:It
 n:Int
 m:Int
 ts:List Tok
def WY:It:=⟨0,0,[],[],[],[]⟩
def fr0:Fr:=⟨0,[],[]⟩
def bZ (f:Fr)(lp:List Int)(l:List It):XJ:=⟨0,f,lp,l,WY,0,0,[]⟩
def cT (f:Fr)(lp:List Int)(x:It):XJ:=⟨1,f,lp,[],x,0,0,[]⟩
def Eb (f:Fr)(lp:List Int)(n m:Int)(l:List It):XJ:=⟨2,f,lp,l,WY,n,m,[]⟩
def iM (f:Fr):XJ:=⟨3,f,[],[],WY,0,0,[]⟩
def gB (t:Tok):XJ:=⟨4,fr0,[],[],WY,0,0,[t]⟩
def aT (ts:List Tok):XJ:=⟨5,fr0,[],[],WY,0,0,ts⟩
def aI:Nat->XJ->St->Option (St × Bool)
 | 0,_,_=>none
 | g+1,j,s=>
  if j.what=0 then
   match j.l with
   | []=>some (s,false)
   | x::l=>match aI g (cT j.f j.lp x) s with
    | none=>none
    | some (s1,left)=>if left=true\/s1.e≠0 then some (s1,true) else aI g (bZ j.f j.lp l) s1
  else if j.what=1 then
   if j.x.kind=63 then
    if s.test.1.e≠0 then some (s.test.1,true) else if s.test.2=true then aI g (bZ j.f j.lp j.x.a) s.test.1 else aI g (bZ j.f j.lp j.x.b) s.test.1
   else if j.x.kind=117 then
    match aI g (bZ j.f j.lp j.x.a) s with
    | none=>none
    | some (s1,left)=>if left=true then some (s1,true) else
     if s1.test.1.e≠0 then some (s1.test.1,true) else if s1.test.2=true then some (s1.test.1,false) else aI g j s1.test.1
   else if j.x.kind=119 then
    match aI g (bZ j.f j.lp j.x.a) s with
    | none=>none
    | some (s1,left)=>if left=true then some (s1,true) else
     if s1.test.1.e≠0 then some (s1.test.1,true) else if s1.test.2=false then some (s1.test.1,false) else
      match aI g (bZ j.f j.lp j.x.b) s1.test.1 with
      | none=>none
      | some (s3,iy)=>if iy=true then some (s3,true) else aI g j s3
   else if s.step.e≠0 then some (s.step,true)
   else if j.x.kind=110 then some (s.step.put j.x.n,decide ((s.step.put j.x.n).e≠0))
   else if j.x.kind=112 then
    match aN.findIdx? (· == j.x.name) with
    | none=>none
    | some k=>some (s.step.word k,decide ((s.step.word k).e≠0))
   else if j.x.kind=105 then
    match j.lp with
    | []=>none
    | i::_=>some (s.step.put i,decide ((s.step.put i).e≠0))
   else if j.x.kind=120 then some (s.step,true)
   else if j.x.kind=114 then
    match aI g (iM j.f) s.step with
    | none=>none
    | some (s2,_)=>some (s2,decide (s2.e≠0))
   else if j.x.kind=99 then
    match aI g (gB j.x.name) s.step with
    | none=>none
    | some (s2,_)=>some (s2,decide (s2.e≠0))
   else if j.x.kind=123 then
    if 20<=s.step.depth then some (s.step.err 8,true) else
    match aI g (aT j.x.toks) {s.step with depth:=s.step.depth+1} with
    | none=>none
    | some (s2,_)=>some ({s2 with depth:=s2.depth-1},decide (s2.e≠0))
   else if j.x.kind=100 then
    match s.step.rs with
    | b::m::r=>aI g (Eb j.f j.lp b m j.x.a) {s.step with rs:=r}
    | _=>some (s.step.err 6,true)
   else none
  else if j.what=2 then
   if j.n<j.m then
    if s.step.e≠0 then some (s.step,true) else
    match aI g (bZ j.f (j.n::j.lp) j.l) s.step with
    | none=>none
    | some (s2,left)=>if left=true then some (s2,true) else aI g (Eb j.f j.lp (j.n+1) j.m j.l) s2
   else some (s,false)
  else if j.what=3 then
   if 20<=s.depth then some (s.err 8,true) else
   match (match s.find j.f.name with
    | none=>some s
    | some k=>match s.ay[k]? with
     | none=>none
     | some d=>if d.id=j.f.id then s.count g k else some s) with
   | none=>none
   | some s1=>match aI g (bZ j.f [] j.f.body) {s1 with depth:=s1.depth+1} with
    | none=>none
    | some (s2,_)=>some ({s2 with depth:=s2.depth-1},false)
  else if j.what=4 then
   match s.ay.find? (λd=>d.name==j.ts.headD []) with
   | none=>none
   | some d=>aI g (iM ⟨d.id,d.name,d.body⟩) s
  else
   match j.ts with
   | []=>some (s,false)
   | t::r=>if s.e≠0 then some (s,false) else
    if t=dK then match jY g s r with
     | none=>none
     | some (.error e)=>some (s.err e,false)
     | some (.ok (nm,b,r1))=>if s.step.e≠0 then some (s.step,false) else aI g (aT r1) (s.step.set nm b)
    else match bA t with
    | some n=>if s.step.e≠0 then aI g (aT r) s.step else aI g (aT r) (s.step.put n)
    | none=>match aN.findIdx? (· == t) with
     | some k=>if s.step.e≠0 then aI g (aT r) s.step else aI g (aT r) (s.step.word k)
     | none=>if eB.any (· == t)||t==eH||t==fu||t==dS then aI g (aT r) (s.err 4)
      else if s.aA t=false then aI g (aT r) (s.err 3)
      else if s.step.e≠0 then aI g (aT r) s.step else
      match aI g (gB t) s.step with
      | none=>none
      | some (s2,_)=>aI g (aT r) s2
def st0:St:=⟨[],λ_=>0,[],0,5,1,0,0,0,⟨#[]⟩⟩
end
section
open Go.RowKit
variable {K:Nat->Prop}
theorem az {p:Prop}(h:p):Hid p:=h
def ek (S:Nat->Prop)(w:World)(v:Value)(ts:List Tok):Prop:=
 ∃ws:List ByteArray,w.ownsRow 0 9 1 v ws.length (ws.map Value.string)/\ws.map (λt=>t.data.toList)=ts/\∀b,own v b->S b
def kq (P:Value->List It->Prop)(Q:Value->List Tok->Prop):List It->List Value->Prop
 | [],xs=>xs=[]
 | x::l,xs=>∃nm va vb vt rest,xs=.int .u8 x.kind::.int .i64 x.n::.string nm::va::vb::vt::rest/\nm.data.toList=x.name/\P va x.a/\P vb x.b/\Q vt x.toks/\(In x.n/\x.toks.length<=1000)/\kq P Q l rest
def lR (S:Nat->Prop)(w:World):Nat->Value->List It->Prop
 | 0,_,_=>False
 | g+1,v,l=>∃xs,w.ownsRow 0 227 6 v l.length xs/\(∀b,own v b->S b)/\kq (lR S w g) (ek S w) l xs
theorem ig {P P':Value->List It->Prop}{Q Q':Value->List Tok->Prop}(hp:∀v l,P v l->P' v l)(hq:∀v l,Q v l->Q' v l):∀(l:List It) (xs:List Value),kq P Q l xs->kq P' Q' l xs
 | [],_,h=>h
 | _::l,_,⟨nm,va,vb,vt,rest,h1,h2,h3,h4,h5,h6,h7⟩=>⟨nm,va,vb,vt,rest,h1,h2,hp _ _ h3,hp _ _ h4,hq _ _ h5,h6,ig hp hq l rest h7⟩
theorem x8 {P:Value->List It->Prop}{Q:Value->List Tok->Prop}:∀(l l':List It) (xs xs':List Value),kq P Q l xs->kq P Q l' xs'->kq P Q (l++l') (xs++xs')
 | [],_,_,_,h,h'=>by have h:_=_:=h;subst h;exact h'
 | _::l,l',_,xs',⟨nm,va,vb,vt,rest,h1,h2,h3,h4,h5,h6,h7⟩,h'=>⟨nm,va,vb,vt,rest++xs',by rw[h1];rfl,h2,h3,h4,h5,h6,x8 l l' rest xs' h7 h'⟩
structure pQ (P:Value->List It->Prop)(Q:Value->List Tok->Prop)(x:It)(nm:ByteArray)(va vb vt:Value):Prop where
 nm:nm.data.toList=x.name
 a:P va x.a
 b:P vb x.b
 t:Q vt x.toks
 n:In x.n/\x.toks.length<=1000
theorem tS {P:Value->List It->Prop}{Q:Value->List Tok->Prop}:∀(l:List It) (xs:List Value),kq P Q l xs->∀i (h:i<l.length),∃nm va vb vt,pQ P Q l[i] nm va vb vt /\
  xs[i*6]? = some (.int .u8 l[i].kind)/\xs[i*6+1]? = some (.int .i64 l[i].n)/\xs[i*6+2]? = some (.string nm)/\xs[i*6+3]? = some va/\xs[i*6+4]? = some vb/\xs[i*6+5]? = some vt
 | [],_,_,i,h=>ax h (by simp)
 | x::l,xs,⟨nm,va,vb,vt,rest,h1,h2,h3,h4,h5,h6,h7⟩,0,h=>by
  subst h1;exact⟨nm,va,vb,vt,⟨h2,h3,h4,h5,h6⟩,by simp,by simp,by simp,by simp,by simp,by simp⟩
 | x::l,xs,⟨nm,va,vb,vt,rest,h1,h2,h3,h4,h5,h6,h7⟩,i+1,h=>by
  subst h1;obtain⟨sV,Y4,Ek,KB,k0,k1⟩:=tS l rest h7 i (by simpa using h);refine⟨sV,Y4,Ek,KB,k0,?_⟩;have e6:∀j,(Value.int .u8 x.kind::.int .i64 x.n::.string nm::va::vb::vt::rest)[(i+1)*6+j]? = rest[i*6+j]?:=by
   intro j;rw[show(i+1)*6+j=i*6+j+1+1+1+1+1+1 by omega];rfl
  have e0:=e6 0;simp only[Nat.add_zero] at e0;rw[e0,e6,e6,e6,e6,e6];exact k1
theorem iY {w w':World}{e:TypeId}{z:Nat}{v:Value}{n:Nat}{xs:List Value}(h:w.ownsRow 0 e z v n xs)(hk:∀b c,own v b->aC w b e c->aC w' b e c):w'.ownsRow 0 e z v n xs:=by
 refine⟨h.1,?_⟩;rcases h.2 with h0|⟨g,cap,cur,rfl,hb,hgg,rest⟩
 ·exact .inl h0
 ·exact .inr ⟨g,cap,cur,rfl,hb,hk g cur rfl hgg,rest⟩
theorem aV {w:World}{e:TypeId}{z:Nat}{v:Value}{n:Nat}{xs:List Value}(h:w.ownsRow 0 e z v n xs){b:Nat}(hb:own v b):∃c,aC w b e c:=by
 rcases h.2 with⟨rfl,_⟩|⟨g,cap,cur,rfl,_,hgg,_⟩
 ·simp[own,Value.ownBlock] at hb
 ·simp[own,Value.ownBlock] at hb;subst hb;exact⟨_,hgg⟩
theorem aQ {w:World}{e t:TypeId}{z:Nat}{v:Value}{n:Nat}{xs:List Value}{c:Array Value}(h:w.ownsRow 0 e z v n xs){b:Nat}(hb:own v b)(hc:aC w b t c):t=e:=by
 obtain⟨c',hc'⟩:=aV h hb;exact(hc.inj hc').1
def aF (S S':Nat->Prop)(w w':World):Prop:=∀b t c,S b->aC w b t c->t=227\/t=9->aC w' b t c/\S' b
theorem aM {S S':Nat->Prop}{w w':World}(hk:aF S S' w w'){v:Value}{ts:List Tok}(h:ek S w v ts):ek S' w' v ts:=by
 obtain⟨ws,h1,h2,h3⟩:=h;refine⟨ws,iY h1 (λb c hb hc=>(hk b _ c (h3 b hb) hc (.inr rfl)).1),h2,λb hb=>?_⟩;obtain⟨c,hc⟩:=aV h1 hb;exact(hk b _ c (h3 b hb) hc (.inr rfl)).2
theorem sJ {S S':Nat->Prop}{w w':World}(hk:aF S S' w w'):∀(g:Nat) (v:Value) (l:List It),lR S w g v l->lR S' w' g v l
 | 0,_,_,h=>h
 | g+1,v,l,⟨xs,h1,h2,h3⟩=>by
  refine⟨xs,iY h1 (λb c hb hc=>(hk b _ c (h2 b hb) hc (.inl rfl)).1),λb hb=>?_,ig (sJ hk g) (λ_ _=>aM hk) _ _ h3⟩;obtain⟨c,hc⟩:=aV h1 hb;exact(hk b _ c (h2 b hb) hc (.inl rfl)).2
theorem sK {S:Nat->Prop}{w:World}:∀(g:Nat) (v:Value) (l:List It),lR S w g v l->lR S w (g+1) v l
 | 0,_,_,h=>h.elim
 | g+1,v,l,⟨xs,h1,h2,h3⟩=>⟨xs,h1,h2,ig (sK g) (λ_ _ h=>h) _ _ h3⟩
theorem rz {S:Nat->Prop}{w:World}{g g':Nat}(hg:g<=g'){v:Value}{l:List It}(h:lR S w g v l):lR S w g' v l:=by
 induction hg with
 | refl=>exact h
 | step _ ih=>exact sK _ _ _ ih
def fE (S:Nat->Prop)(w:World)(v:Value)(l:List It):Prop:=∃g,lR S w g v l
def nK (K:Nat->Prop)(b:Nat):Prop:=¬K b
abbrev kZ (K:Nat->Prop)(w:World)(v:Value)(l:List It):Prop:=fE (nK K) w v l
abbrev zQ (K:Nat->Prop)(w:World)(v:Value)(ts:List Tok):Prop:=ek (nK K) w v ts
theorem fE.keep {S S':Nat->Prop}{w w':World}{v:Value}{l:List It}(h:fE S w v l)(hk:aF S S' w w'):fE S' w' v l:=by
 obtain⟨g,h⟩:=h;exact⟨g,sJ hk g v l h⟩
theorem fE.nil (S:Nat->Prop)(w:World):fE S w (.slice none 0 0) []:=
 ⟨1,[],World.ownsRow_nil _ _ _ _,λb hb=>by simp[own,Value.ownBlock] at hb,rfl⟩
theorem ek.nil (S:Nat->Prop)(w:World):ek S w (.slice none 0 0) []:=
 ⟨[],World.ownsRow_nil _ _ _ _,rfl,λb hb=>by simp[own,Value.ownBlock] at hb⟩
theorem A6 {S:Nat->Prop}{w:World}:∀(l:List It) (xs:List Value),kq (fE S w) (ek S w) l xs->∃g,kq (lR S w g) (ek S w) l xs
 | [],_,h=>⟨0,h⟩
 | _::l,_,⟨nm,va,vb,vt,rest,h1,h2,⟨g1,h3⟩,⟨g2,h4⟩,h5,h6,h7⟩=>by
  obtain⟨g3,h7⟩:=A6 l rest h7;refine⟨g1+g2+g3,nm,va,vb,vt,rest,h1,h2,rz (by omega) h3,rz (by omega) h4,h5,h6,ig (λ_ _=>rz (by omega)) (λ_ _ h=>h) _ _ h7⟩
theorem fE.of {S:Nat->Prop}{w:World}{v:Value}{l:List It}{xs:List Value}(h1:w.ownsRow 0 227 6 v l.length xs)(h2:∀b,own v b->S b)(h3:kq (fE S w) (ek S w) l xs):fE S w v l:=by
 obtain⟨g,h⟩:=A6 l xs h3;exact⟨g+1,xs,h1,h2,h⟩
theorem fE.out {S:Nat->Prop}{w:World}{v:Value}{l:List It}(h:fE S w v l):∃xs,w.ownsRow 0 227 6 v l.length xs/\(∀b,own v b->S b)/\kq (fE S w) (ek S w) l xs:=by
 obtain⟨g,h⟩:=h
 cases g with
 | zero=>exact h.elim
 | succ g=>
  obtain⟨xs,h1,h2,h3⟩:=h;exact⟨xs,h1,h2,ig (λ_ _ h=>⟨g,h⟩) (λ_ _ h=>h) _ _ h3⟩
def vZ (w:World)(V:Nat->Prop):Prop:=∀b t c,V b->aC w b t c->t≠227/\t≠9
theorem aF.kp {w w':World}{V:Nat->Prop}(h:Kp w w' V)(hn:vZ w V)(S:Nat->Prop):aF S S w w':=by
 intro b t c hs hb ht;refine⟨h.blk hb (λhv=>?_),hs⟩;have:=hn b t c hv hb;rcases ht with ht|ht
 ·exact this.1 ht
 ·exact this.2 ht
theorem aF.to {F:Nat->Prop}{w w':World}{V V':Nat->Prop}(h:To F w w' V V')(hn:vZ w (λk=>F k\/V k))(S:Nat->Prop):aF S S w w':=aF.kp h.kp hn S
theorem aF.cI {w w':World}(h:Kp w w' (λ_=>False))(S:Nat->Prop):aF S S w w':=aF.kp h (λ_ _ _ h=>h.elim) S
end
section
open Go.RowKit
theorem J6 {p:Prop}(h:Hid p):p:=h
structure Q5 (B:Nat)(W:World):Prop where
 pow : Lib.TabBelow prog B W "internal/strconv.uint64pow10" .u64 Lib.pow10Tab
 asc : Lib.TabBelow prog B W "strings.asciiSpace" .u8 Lib.asciiSpaceTab
 bs:B<=W.heap.size
structure xe (B:Nat)(W w:World)(xb rb:Nat)(m:MS):Prop where
 E9:Below B W w
 bx:B<=xb
 br:B<=rb
 bv:∀k,own m.sv k\/own m.ov k->B<=k
 bs:B<=w.heap.size
theorem xe.to {B:Nat}{W w w':World}{xb rb:Nat}{m m':MS}(h:xe B W w xb rb m)(ht:gL xb rb w w' m m'):xe B W w' xb rb m':=by
 have hkp:=To.kp ht;refine⟨?_,h.bx,h.br,λk hk=>?_,ai h.bs hkp.size⟩
 ·refine h.E9.trans ⟨hkp.os,hkp.tape,hkp.output,hkp.size,λk hk=>hkp.block k (aj hk h.bs) ?_⟩;rintro ((h1|h1)|h1)
  ·have:=h.bx;omega
  ·have:=h.br;omega
  ·have:=h.bv k h1;omega
 ·rcases To.nx ht k hk with h1|h1
  ·exact h.bv k h1
  ·have:=h.bs;omega
theorem xe.kp {B:Nat}{W w w':World}{xb rb:Nat}{m:MS}(h:xe B W w xb rb m)(hk:Kp w w' (λ_=>False)):xe B W w' xb rb m:=h.to (gL.kp hk)
theorem R8 (B:Nat)(W:World)(w:World)(xb rb fb:Nat)(m:MS)(a:Int)(r:List Int)(h:aW w xb rb m (a::r).reverse)(hf:aC w fb 154 #[.func (.func 110) #[] #[]])(ho:m.out.size<=300)(h0:-9223372036854775808<=a)(h1:a<=9223372036854775807)(hS:xe B W w xb rb m)(hG:Q5 B W):
  Calls prog 152 #[.pointer (some ⟨rb,0,none⟩),.pointer (some ⟨fb,0,none⟩)] w λe w'=>e=.returned (.int .i64 (s9 m.mem m.out r (dot a)).e)/\bL w w' xb rb m (s9 m.mem m.out r (dot a)):=by
 have H0:Hid (-9223372036854775808<=a):=h0;have H1:Hid (a<=9223372036854775807):=h1;clear h0 h1;have hsz:(dot a).size<=1000:=by have:=pS a H0.out H1.out;show(dot a).data.size<=1000;simp[dot];omega
 have hps:0<(dot a).size:=by show 0<(dot a).data.size;simp[dot]
 go_enter func152,ntmps152
 go_wp2_with fail
 refine(u9 _ _ _ _ _ _ h).mono ?_;rintro e w1 ⟨v',rfl,hi1,ht1⟩;have cY:=ht1.blk hf (by rintro (h1|h1);exact ax (hf.inj (h1▸h.bJ)).1 (by decide);exact ax (hf.inj (h1▸h.cF)).1 (by decide)) (by rintro (h1|h1);exact aH h.dc hf (by decide) h1;exact aH h.dY hf (by decide) h1);have c1:w1.cell? ⟨fb,0,none⟩=some (.func (.func 110) #[] #[]):=cY.cell rfl;have hfl:=cY.lt
 go_wp2_with fail
 refine(MP _ _ H0.out H1.out (by exact(hG.pow.on ((hS.to ht1).kp ((Kp.refl _ _).alloc _)).E9).here)).mono ?_;rintro e w2 ⟨g,cap,rfl,hc,hk⟩;have hi2:=(hi1.alloc (.cells #[.int .i64 a,.int .i64 0,.int .i64 0] 195)).kp hk;have ht2:gL xb rb w w2 m {m with sv:=v'}:=ht1.trans ((gL.kp ((Kp.refl _ _).alloc _)).trans (gL.kp hk));have HC:=az hc;clear hc hk c1 cY;by_cases hl:300<m.out.size+(dot a).size
 ·go_wp2_with fail
  refine(sF _ _ _ _ _ _ _ _ hi2 ho hsz hl).mono ?_;rintro e w' ⟨rfl,hw⟩;rw[hw];clear hw;have HR:Hid (s9 m.mem m.out r (dot a)=⟨11,[],m.mem,m.out⟩):=ag hl;clear hl;go_wp2;go_ret;rw[HR.out];exact⟨rfl,bL.err ht2 hi2 rfl rfl rfl (by decide)⟩
 ·go_wp2_with fail
  refine(xU _ _ _ _ _ _ _ _ hi2 hps (by show m.out.size+_<=300;omega) (J6 HC)).mono ?_;rintro e w3 ⟨rfl,v3,oc,kg⟩;have HR:Hid (s9 m.mem m.out r (dot a)=⟨0,r,m.mem,m.out++dot a⟩):=af hl;clear hl;go_wp2;go_ret;rw[HR.out];exact⟨rfl,_,_,oc,ht2.trans kg,rfl,rfl,rfl,λ_=>rfl⟩
theorem NJ (w:World)(xb rb fb:Nat)(m:MS)(a:Int)(r:List Int)(h:aW w xb rb m (a::r).reverse)(hf:aC w fb 154 #[.func (.func 111) #[] #[]])(ho:m.out.size<=300):
  Calls prog 152 #[.pointer (some ⟨rb,0,none⟩),.pointer (some ⟨fb,0,none⟩)] w λe w'=>e=.returned (.int .i64 (s9 m.mem m.out r (BV a)).e)/\bL w w' xb rb m (s9 m.mem m.out r (BV a)):=by
 have hsz:(BV a).size<=1000:=by show(1:Nat)<=1000;omega
 have hps:0<(BV a).size:=by show(0:Nat)<1;omega
 go_enter func152,ntmps152
 go_wp2_with fail
 refine(u9 _ _ _ _ _ _ h).mono ?_;rintro e w1 ⟨v',rfl,hi1,ht1⟩;have cY:=ht1.blk hf (by rintro (h1|h1);exact ax (hf.inj (h1▸h.bJ)).1 (by decide);exact ax (hf.inj (h1▸h.cF)).1 (by decide)) (by rintro (h1|h1);exact aH h.dc hf (by decide) h1;exact aH h.dY hf (by decide) h1);have c1:w1.cell? ⟨fb,0,none⟩=some (.func (.func 111) #[] #[]):=cY.cell rfl;have hfl:=cY.lt
 go_wp2_with fail
 refine(Wk _ _).mono ?_;rintro e w2 ⟨g,cap,rfl,hc,hk⟩;have hi2:=(hi1.alloc (.cells #[.int .i64 a,.int .i64 0,.int .i64 0] 195)).kp hk;have ht2:gL xb rb w w2 m {m with sv:=v'}:=ht1.trans ((gL.kp ((Kp.refl _ _).alloc _)).trans (gL.kp hk));have HC:=az hc;clear hc hk c1 cY;by_cases hl:300<m.out.size+(BV a).size
 ·go_wp2_with fail
  refine(sF _ _ _ _ _ _ _ _ hi2 ho hsz hl).mono ?_;rintro e w' ⟨rfl,hw⟩;rw[hw];clear hw;have HR:Hid (s9 m.mem m.out r (BV a)=⟨11,[],m.mem,m.out⟩):=ag hl;clear hl;go_wp2;go_ret;rw[HR.out];exact⟨rfl,bL.err ht2 hi2 rfl rfl rfl (by decide)⟩
 ·go_wp2_with fail
  refine(xU _ _ _ _ _ _ _ _ hi2 hps (by show m.out.size+_<=300;omega) (J6 HC)).mono ?_;rintro e w3 ⟨rfl,v3,oc,kg⟩;have HR:Hid (s9 m.mem m.out r (BV a)=⟨0,r,m.mem,m.out++BV a⟩):=af hl;clear hl;go_wp2;go_ret;rw[HR.out];exact⟨rfl,_,_,oc,ht2.trans kg,rfl,rfl,rfl,λ_=>rfl⟩
def ez (ps:List Nat):List Value:=ps.map (λp:Nat=>Value.int .i64 (p:Int))
def fQ (xs:List Int)(ps:List Nat):List Int:=ps.map λp=>xs.getD p 0
theorem FH {w:World}{b e:Nat}{v:Value}{n:Nat}{xs:List Value}(h:w.ownsRow b e 1 v n xs){k:Nat}(hk:k<n):∃g cap,v=.slice (some ⟨g,0,none⟩) n cap/\∀u,xs[k]? = some u->w.cell? ⟨g,k,none⟩=some u:=by
 rcases h.2 with⟨_,h0⟩|⟨g,cap,cur,hv,_⟩
 ·omega
 ·refine⟨g,cap,hv,λu hu=>?_⟩;have:=h.cells (g:=g) (by rw[hv];rfl) k u hu;rw[qQ] at this;exact this
theorem NK {w:World}{tb:Nat}{xs:List Int}(h:aC w tb 195 #[.int .i64 (xs.getD 0 0),.int .i64 (xs.getD 1 0),.int .i64 (xs.getD 2 0)])(p:Nat)(hp:p<3):w.cell? ⟨tb,p,none⟩=some (.int .i64 (xs.getD p 0)):=by
 have:p=0\/p=1\/p=2:=by omega
 rcases this with h1|h1|h1 <;> subst h1 <;> exact h.cell rfl
theorem WZ (w:World)(xb rb cb pb:Nat)(m:MS)(r xs:List Int)(ps:List Nat)(pv:Value)(h:aW w xb rb m (r++xs))(h1:1<=xs.length)(h3:xs.length<=3)
  (hc:aC w cb 3 #[.int .i64 xs.length]) (hp:aC w pb 34 #[pv]) (hpv:w.ownsRow 0 3 1 pv ps.length (ez ps)) (hps:∀p∈ps,p<3) (hpl:ps.length<=3):
  Calls prog 151 #[.pointer (some ⟨rb,0,none⟩),.pointer (some ⟨cb,0,none⟩),.pointer (some ⟨pb,0,none⟩)] w λe w'=>
   (r.length+ps.length<=32->e=.returned (.int .i64 0)/\bL w w' xb rb m ⟨0,(r++fQ xs ps).reverse,m.mem,m.out⟩) /\
   (32<r.length+ps.length->e=.returned (.int .i64 7)/\bL w w' xb rb m ⟨7,[],m.mem,m.out⟩):=by
 have c0:w.cell? ⟨cb,0,none⟩=some (.int .i64 xs.length):=hc.cell rfl;obtain⟨i0,hi,hz0,hz1,hz2⟩:=info_parts Tryz.CS;have hlen:=h.len;simp only[List.length_append] at hlen;go_enter func151,ntmps151
 go_wp2_with fail
 refine(Gh _ _ _ _ r xs h h1 h3).mono ?_;rintro e w1 ⟨v',rfl,hi1,ht1⟩;have hp1:=ht1.blk hp (by rintro (h1|h1);exact ax (hp.inj (h1▸h.bJ)).1 (by decide);exact ax (hp.inj (h1▸h.cF)).1 (by decide)) (by rintro (h1|h1);exact aH h.dc hp (by decide) h1;exact aH h.dY hp (by decide) h1);have R9:=(To.kp ht1).row hpv (by
  rintro k hk ((h1|h1)|(h1|h1))
  ·subst h1;exact aH hpv h.bJ (by decide) hk
  ·subst h1;exact aH hpv h.cF (by decide) hk
  ·exact mZ hpv h.dc (by decide) hk h1
  ·exact mZ hpv h.dY (by decide) hk h1)
 obtain⟨po,pc,rfl⟩:=iu R9;have c1:w1.cell? ⟨pb,0,none⟩=some (.slice po ps.length pc):=hp1.cell rfl;have hpb:=hp1.lt;have HP:=az R9;have HI:=az hi1;have HQ:=az hps;clear hpv R9 hp c0 hi1 hps hp1;go_wp2;have hT:=aC.new w1 #[.int .i64 (xs.getD 0 0),.int .i64 (xs.getD 1 0),.int .i64 (xs.getD 2 0)] 195;have HT:=az hT;clear hT
 go_loopw [7,21] (λv i wr=>∃k:Nat,k<=ps.length/\i=.int .i64 k/\wr.ownsRow (w1.heap.size+1) 2 1 v k (bD ((fQ xs ps).take k))/\Kp (w1.alloc (.cells #[.int .i64 (xs.getD 0 0),.int .i64 (xs.getD 1 0),.int .i64 (xs.getD 2 0)] 195)) wr (λ_=>False)/\(k=0->v=.slice none 0 0))
  (λ_ i _=>ps.length-(intOf i).toNat)
 case atStart=>exact⟨0,Nat.zero_le _,rfl,World.ownsRow_nil _ _ _ _,Kp.refl _ _,λ_=>rfl⟩
 case round=>
  obtain⟨k,hk,rfl,hown,hkp,hnil⟩:=hrel;by_cases hlt:k<ps.length
  ·obtain⟨g,cap',hpo,hcell⟩:=FH (hkp.row ((HP.out).alloc _) (by simp)) hlt;injection hpo with hpo h2 h3;subst hpo h3;clear h2;have hpk:ps[k]<3:=HQ.out _ (List.getElem_mem hlt);have ct:=NK (hkp.blk HT.out (by simp)) ps[k] hpk;have cp:wr.cell? ⟨g,k,none⟩=some (.int .i64 (ps[k]:Int)):=hcell _ (by simp[ez,hlt]);clear hcell;obtain⟨q,hq⟩:∃q,q=ps[k]:=⟨_,rfl⟩;rw[<-hq] at ct cp hpk;obtain⟨x,hx⟩:∃x,x=xs.getD q 0:=⟨_,rfl⟩;rw[<-hx] at ct;have HX:Hid (bD ((fQ xs ps).take (k+1))=bD ((fQ xs ps).take k)++[.int .i64 x]):=by
    unfold Hid;rw[List.take_succ_eq_append_getElem (by simp[fQ];exact hlt)];simp[bD,fQ,hx,hq]
   clear hq hx;have hsz:=hkp.size;simp only[World.size_alloc] at hsz
   go_wp2_with (first
    | (at_builtin;refine wpList_append_own _ rfl _ _ 74 rfl (w1.heap.size+1) 2 i0 (.int .i64 0) 1 8 underlying74 hi hz0 hz1 hz2 rfl (by decide) _ _ _ rfl (hown.alloc _) ⟨wr.heap.size,0,none⟩ 1 1 [.int .i64 x] rfl rfl ?c1 ?c2 ?c3 ?c4 ?c5 ?_)
    | go_in)
   case c1=>intro j u hj;match j,hj with|0,hj=>simp at hj;subst hj;simp[Addr.add]
   case c2=>first|rfl|(intro u hu;simp at hu;subst hu;rfl)
   case c3=>unfold maxLen;omega
   case c4=>omega
   case c5=>first|omega|(simp;omega)
   intro v2 w2 hown2 hgrow _;have dR:Kp (w1.alloc (.cells #[.int .i64 (xs.getD 0 0),.int .i64 (xs.getD 1 0),.int .i64 (xs.getD 2 0)] 195)) w2 (λ_=>False):=(hkp.alloc _).grown hgrow (λb hb e=>by have:=(hown.lt b e).1;simp at hb;omega);rw[<-HX.out] at hown2;have HO:=az hown2;have HK:=az dR;clear hown hown2 hgrow hkp dR ct cp;go_wp2
   go_roundw
   case rel=>first|exact⟨k+1,by omega,by go_num,HO.out,HK.out,λh=>by omega⟩|((repeat apply Exists.intro);exact⟨⟨k+1,by omega,by go_num,HO.out,HK.out,λh=>by omega⟩,rfl⟩)
   case measure=>simp[intOf];omega
  ·have hkl:k=ps.length:=by omega
   subst hkl;have hys:(fQ xs ps).take ps.length=fQ xs ps:=List.take_of_length_le (by simp[fQ]);rw[hys] at hown;have KC:(fQ xs ps).length=ps.length:=by simp[fQ]
   have hiW:aW wr xb rb {m with sv:=v'} r:=(HI.out.alloc _).kp hkp;have htW:gL xb rb w wr m {m with sv:=v'}:=ht1.trans ((gL.kp ((Kp.refl _ _).alloc _)).trans (gL.kp hkp));have HW:=az hiW;clear hkp hiW hys;by_cases h0:ps.length=0
   ·have hv:=hnil h0;subst hv;have hp0:fQ xs ps=[]:=List.eq_nil_of_length_eq_zero (by omega);have HP0:=az hp0;have hpn:ps=[]:=List.eq_nil_of_length_eq_zero h0;clear hp0 hown hnil
    go_wp2_with fail
    refine(Gg _ _ _ _ _ HW.out).mono ?_;rintro e w3 ⟨rfl,oc,kg⟩;go_wp2;go_ret;refine⟨λ_=>⟨rfl,_,_,oc,htW.trans kg,rfl,rfl,rfl,λ_=>?_⟩,λh=>by have:=hlen;omega⟩;rw[HP0.out];simp
   ·obtain⟨g,cap,rfl⟩:=Joins.ownsRow_form hown (by omega);have hcells:=hown.cells (g:=g) rfl;have HC:=az hcells;clear hown hcells hnil;by_cases hbig:32<r.length+ps.length
    ·go_wp2_with fail
     refine(xh _ _ _ _ _ _ _ _ HW.out (by omega) hbig).mono ?_;rintro e w' ⟨rfl,hw⟩;rw[hw];clear hw;go_wp2;go_ret;exact⟨λh=>by omega,λ_=>⟨rfl,bL.err htW HW.out rfl rfl rfl (by decide)⟩⟩
    ·go_wp2_with fail
     rw[<-KC];refine(CU _ _ _ _ r (fQ xs ps) g cap HW.out (by omega) HC.out (by omega)).mono ?_;rintro e w3 ⟨rfl,v3,oc,kg⟩;rw[KC];go_wp2;go_ret;exact⟨λ_=>⟨rfl,_,_,oc,htW.trans kg,rfl,rfl,rfl,λ_=>by simp⟩,λh=>by omega⟩
def ij (n:Nat):Prop:=∀(a:Array Value) (w:World),(callFunc n a).run prog w=.ok (.enter n a) w
def bp (v arg:Value)(w:World)(Q:Ending->World->Prop):Prop:=
 ∃n first cap,v=.func (.func n) first cap/\ij n/\Calls prog n (first.push arg++cap) w Q
theorem bp.mono {v arg:Value}{w:World}{Q Q':Ending->World->Prop}(h:bp v arg w Q)(hq:∀e w',Q e w'->Q' e w'):bp v arg w Q':=by
 obtain⟨n,f,c,h1,h2,h3⟩:=h;exact⟨n,f,c,h1,h2,h3.mono hq⟩
theorem dm {n : Nat} {f : Func} (h : prog.funcs[n]? = some f) (h1 : (f.name == "runtime.NumGoroutine")=false) (h2 : f.body.isNone=false) : ij n := by
 intro a w
 have h1' : ¬f.name = "runtime.NumGoroutine" := by simpa using h1
 have h2':¬f.body=none:=by intro e;rw[e] at h2;cases h2
 simp[callFunc,h,h1',h2',go_sem]
theorem MB:ij 95:=dm func95 (by kernel_rfl) (by kernel_rfl)
theorem aW.setSt {w:World}{xb rb:Nat}{m:MS}{ns:List Int}(h:aW w xb rb m ns)(s:Int):
    aW (w.setCell ⟨rb,2,none⟩ (.int .i64 s)) xb rb {m with st:=s} ns/\gL xb rb w (w.setCell ⟨rb,2,none⟩ (.int .i64 s)) m {m with st:=s}:=
  ⟨⟨h.bJ.setOther h.ne _,h.cF.set 2 _,ownsRow_setCell_other h.dc (aH h.dc h.cF (by decide)) _,ownsRow_setCell_other h.dY (aH h.dY h.cF (by decide)) _,h.len⟩,
   ⟨(Kp.refl _ _).set (λ_=>.inl (.inr rfl)) _,λ_ hk=>.inl hk⟩⟩
theorem aW.kf {w:World}{xb rb:Nat}{m:MS}{ns:List Int}(h:aW w xb rb m ns)(s:Int):
    aW (w.setCell ⟨rb,3,none⟩ (.int .i64 s)) xb rb {m with dp:=s} ns/\gL xb rb w (w.setCell ⟨rb,3,none⟩ (.int .i64 s)) m {m with dp:=s}:=
  ⟨⟨h.bJ.setOther h.ne _,h.cF.set 3 _,ownsRow_setCell_other h.dc (aH h.dc h.cF (by decide)) _,ownsRow_setCell_other h.dY (aH h.dY h.cF (by decide)) _,h.len⟩,
   ⟨(Kp.refl _ _).set (λ_=>.inl (.inr rfl)) _,λ_ hk=>.inl hk⟩⟩
theorem tC (w:World)(xb rb:Nat)(m:MS)(ns:List Int)(h:aW w xb rb m ns)(h0:0<=m.st)(h1:m.st<2000):
  Calls prog 94 #[.pointer (some ⟨rb,0,none⟩)] w λe w'=>e=.returned (.int .i64 0)/\w'=w.setCell ⟨rb,2,none⟩ (.int .i64 (m.st+1)):=by
 have c1:w.cell? ⟨rb,2,none⟩=some (.int .i64 m.st):=h.cF.cell rfl;have f1:=h.cF.free 2;go_enter func94,ntmps94;go_wp2;go_ret;exact⟨rfl,rfl⟩
theorem Dt (w:World)(xb rb:Nat)(m:MS)(ns:List Int)(h:aW w xb rb m ns)(h1:¬m.st<2000):
  Calls prog 94 #[.pointer (some ⟨rb,0,none⟩)] w λe w'=>e=.returned (.int .i64 12)/\w'=w:=by
 have c1:w.cell? ⟨rb,2,none⟩=some (.int .i64 m.st):=h.cF.cell rfl;go_enter func94,ntmps94;go_wp2;go_ret;exact⟨rfl,rfl⟩
theorem Jd (w:World)(xb rb:Nat)(m:MS)(ns:List Int)(v:Value)(h:aW w xb rb m ns)(h1:¬m.st<2000):
  Calls prog 68 #[.pointer (some ⟨rb,0,none⟩),v] w λe w'=>e=.returned (.int .i64 12)/\w'=w:=by
 have HB:=az (Dt w xb rb m ns h h1);go_enter func68,ntmps68
 go_wp2_with fail
 refine HB.out.mono ?_;rintro e w' ⟨rfl,rfl⟩;go_wp2;go_ret;exact⟨rfl,rfl⟩
theorem VS (w:World)(xb rb:Nat)(m:MS)(ns:List Int)(v:Value)(Q:Int->World->Prop)(h:aW w xb rb m ns)(h0:0<=m.st)(h1:m.st<2000)
  (hc:bp v (.pointer (some ⟨rb,0,none⟩)) (w.setCell ⟨rb,2,none⟩ (.int .i64 (m.st+1))) λe w'=>∃n,e=.returned (.int .i64 n)/\Q n w'):
  Calls prog 68 #[.pointer (some ⟨rb,0,none⟩),v] w λe w'=>∃n,e=.returned (.int .i64 n)/\Q n w':=by
 have HB:=az (tC w xb rb m ns h h0 h1);obtain⟨n,first,cap,rfl,hen,hc⟩:=hc
 unfold ij at hen;have HC:=az hc;clear hc;go_enter func68,ntmps68
 go_wp2_with fail
 refine HB.out.mono ?_;rintro e w' ⟨rfl,rfl⟩
 go_wp2_with fail
 refine HC.out.mono ?_;rintro e w2 ⟨n,rfl,hp⟩;go_wp2;go_ret;exact⟨n,rfl,hp⟩
abbrev Mem:=Nat->TypeId->Array Value->Prop
def BD (D:Nat->Prop)(w:World):Mem:=λb t c=>D b/\aC w b t c
abbrev pt (b:Nat):Value:=.pointer (some ⟨b,0,none⟩)
def lg (M:Mem)(e:TypeId)(v:Value)(xs:List Value):Prop:=
 (v=.slice none 0 0/\xs=[])\/∃g cap cur,v=.slice (some ⟨g,0,none⟩) xs.length cap/\M g e cur/\xs.length<=cap/\cap<=maxLen/\cur.size=cap*1/\cur.toList.take (xs.length*1)=xs
theorem gT {M M':Mem}(h:∀b t c,M b t c->M' b t c){e:TypeId}{v:Value}{xs:List Value}(hr:lg M e v xs):lg M' e v xs:=by
 rcases hr with hr|⟨g,cap,cur,h1,h2,h3⟩
 ·exact .inl hr
 ·exact .inr ⟨g,cap,cur,h1,h _ _ _ h2,h3⟩
theorem lg.row {D:Nat->Prop}{w:World}{e:TypeId}{v:Value}{xs:List Value}(h:lg (BD D w) e v xs):w.ownsRow 0 e 1 v xs.length xs:=by
 rcases h with⟨rfl,rfl⟩|⟨g,cap,cur,rfl,h2,h3,h4,h5,h6⟩
 ·exact World.ownsRow_nil _ _ _ _
 ·exact⟨by simp,.inr ⟨g,cap,cur,rfl,Nat.zero_le _,h2.2,h3,h4,h5,h6⟩⟩
theorem lg.of {D:Nat->Prop}{w:World}{e:TypeId}{v:Value}{xs:List Value}(h:w.ownsRow 0 e 1 v xs.length xs)(hd:∀b,own v b->D b):lg (BD D w) e v xs:=by
 rcases h.2 with⟨rfl,h0⟩|⟨g,cap,cur,rfl,_,hg,h3,h4,h5,h6⟩
 ·exact .inl ⟨rfl,List.length_eq_zero_iff.1 h0⟩
 ·exact .inr ⟨g,cap,cur,rfl,⟨hd g (by simp[own,Value.ownBlock]),hg⟩,h3,h4,h5,h6⟩
def jd (M:Mem)(fn:Nat)(t:TypeId)(f:Nat)(act:Value):Prop:=∃b,act=.func (.func fn) #[] #[pt b]/\M b t #[.func (.func f) #[] #[]]
def vS (M:Mem)(n:Nat)(ps:List Nat)(act:Value):Prop:=∃cb b pv,act=.func (.func 151) #[] #[pt cb,pt b]/\M cb 3 #[.int .i64 n]/\M b 34 #[pv]/\lg M 3 pv (ez ps)
theorem gu {M M':Mem}(h:∀b t c,M b t c->M' b t c){fn:Nat}{t:TypeId}{f:Nat}{act:Value}(hr:jd M fn t f act):jd M' fn t f act:=by
 obtain⟨b,h1,h2⟩:=hr;exact⟨b,h1,h _ _ _ h2⟩
theorem jW {M M':Mem}(h:∀b t c,M b t c->M' b t c){n:Nat}{ps:List Nat}{act:Value}(hr:vS M n ps act):vS M' n ps act:=by
 obtain⟨cb,b,pv,h1,h2,h3,h4⟩:=hr;exact⟨cb,b,pv,h1,h _ _ _ h2,h _ _ _ h3,gT h h4⟩
def bB (M:Mem)(j:Nat)(act:Value):Prop:=
 match j with
 | 0=>jd M 148 150 99 act
 | 1=>jd M 148 150 100 act
 | 2=>jd M 148 150 101 act
 | 3=>jd M 150 150 103 act
 | 4=>jd M 150 150 104 act
 | 5=>jd M 148 150 105 act
 | 6=>jd M 148 150 107 act
 | 7=>vS M 1 [0,0] act
 | 8=>vS M 1 [] act
 | 9=>vS M 2 [1,0] act
 | 10=>vS M 2 [0,1,0] act
 | 11=>vS M 3 [1,2,0] act
 | 12=>jd M 152 154 110 act
 | 13=>jd M 152 154 111 act
 | 14=>act=.func (.func 112) #[] #[]
 | 15=>act=.func (.func 113) #[] #[]
 | _=>False
theorem iX {M M':Mem}(h:∀b t c,M b t c->M' b t c){j:Nat}{act:Value}(hr:bB M j act):bB M' j act:=by
 unfold bB at hr ⊢
 split at hr
 ·exact gu h hr
 ·exact gu h hr
 ·exact gu h hr
 ·exact gu h hr
 ·exact gu h hr
 ·exact gu h hr
 ·exact gu h hr
 ·exact jW h hr
 ·exact jW h hr
 ·exact jW h hr
 ·exact jW h hr
 ·exact jW h hr
 ·exact gu h hr
 ·exact gu h hr
 ·exact hr
 ·exact hr
 ·exact hr
theorem qi:ij 148:=dm func148 (by kernel_rfl) (by kernel_rfl)
theorem DI:ij 150:=dm func150 (by kernel_rfl) (by kernel_rfl)
theorem qj:ij 151:=dm func151 (by kernel_rfl) (by kernel_rfl)
theorem DJ:ij 152:=dm func152 (by kernel_rfl) (by kernel_rfl)
theorem NL:ij 112:=dm func112 (by kernel_rfl) (by kernel_rfl)
theorem NM:ij 113:=dm func113 (by kernel_rfl) (by kernel_rfl)
theorem bV (fn:Fn)(first cap:Array Value)(w:World):(Instr.makeFunc fn first cap).run prog w=.ok (.func fn first cap) w:=rfl
theorem aC.new1 (w:World)(o:Obj)(c:Array Value)(t:TypeId):aC ((w.alloc o).alloc (.cells c t)) (w.heap.size+1) t c:=by
 have:=aC.new (w.alloc o) c t;rw[World.size_alloc] at this;exact this
theorem aC.new2 (w:World)(o o':Obj)(c:Array Value)(t:TypeId):aC (((w.alloc o).alloc o').alloc (.cells c t)) (w.heap.size+1+1) t c:=by
 have:=aC.new ((w.alloc o).alloc o') c t;rw[World.size_alloc,World.size_alloc] at this;exact this
theorem iD (w:World)(xb rb cb pb:Nat)(m:MS)(ns:List Int)(n:Nat)(h:aW w xb rb m ns)(hc:aC w cb 3 #[.int .i64 n])(hl:ns.length<n)(hn:n<=3):
  Calls prog 151 #[.pointer (some ⟨rb,0,none⟩),.pointer (some ⟨cb,0,none⟩),.pointer (some ⟨pb,0,none⟩)] w λe w'=>e=.returned (.int .i64 6)/\bL w w' xb rb m ⟨6,[],m.mem,m.out⟩:=by
 have c0:w.cell? ⟨cb,0,none⟩=some (.int .i64 n):=hc.cell rfl;go_enter func151,ntmps151
 go_wp2_with fail
 refine(fU _ _ _ _ _ _ h (by omega) (by omega)).mono ?_;rintro e w1 ⟨rfl,hk⟩;go_wp2;go_ret;exact⟨rfl,bL.err (gL.kp (hk.alloc _)) (h.kp (hk.alloc _)) rfl rfl rfl (by decide)⟩
theorem Sa (w:World):Calls prog 72 #[.int .i64 2] w λe w'=>∃act,e=.returned act/\Kp w w' (λ_=>False)/\bB (BD (λk=>w.heap.size<=k) w') 0 act:=by
 have lI:=bV;go_enter func72,ntmps72;go_wp2;go_ret;exact⟨_,rfl,(Kp.refl _ _).alloc _,_,rfl,ah _,aC.new w _ _⟩
theorem Sb (w:World):Calls prog 72 #[.int .i64 3] w λe w'=>∃act,e=.returned act/\Kp w w' (λ_=>False)/\bB (BD (λk=>w.heap.size<=k) w') 1 act:=by
 have lI:=bV;go_enter func72,ntmps72;go_wp2;go_ret;exact⟨_,rfl,(Kp.refl _ _).alloc _,_,rfl,ah _,aC.new w _ _⟩
theorem Sc (w:World):Calls prog 72 #[.int .i64 4] w λe w'=>∃act,e=.returned act/\Kp w w' (λ_=>False)/\bB (BD (λk=>w.heap.size<=k) w') 2 act:=by
 have lI:=bV;go_enter func72,ntmps72;go_wp2;go_ret;exact⟨_,rfl,(Kp.refl _ _).alloc _,_,rfl,ah _,aC.new w _ _⟩
theorem Sd (w:World):Calls prog 72 #[.int .i64 5] w λe w'=>∃act,e=.returned act/\Kp w w' (λ_=>False)/\bB (BD (λk=>w.heap.size<=k) w') 3 act:=by
 have lI:=bV;go_enter func72,ntmps72;go_wp2;go_ret;exact⟨_,rfl,(Kp.refl _ _).alloc _,_,rfl,ah _,aC.new w _ _⟩
theorem Sg (w:World):Calls prog 72 #[.int .i64 6] w λe w'=>∃act,e=.returned act/\Kp w w' (λ_=>False)/\bB (BD (λk=>w.heap.size<=k) w') 4 act:=by
 have lI:=bV;go_enter func72,ntmps72;go_wp2;go_ret;exact⟨_,rfl,(Kp.refl _ _).alloc _,_,rfl,ah _,aC.new w _ _⟩
theorem XI (w:World):Calls prog 72 #[.int .i64 7] w λe w'=>∃act,e=.returned act/\Kp w w' (λ_=>False)/\bB (BD (λk=>w.heap.size<=k) w') 5 act:=by
 have lI:=bV;go_enter func72,ntmps72;go_wp2;go_ret;exact⟨_,rfl,(Kp.refl _ _).alloc _,_,rfl,ah _,aC.new w _ _⟩
theorem W4 (w:World):Calls prog 72 #[.int .i64 8] w λe w'=>∃act,e=.returned act/\Kp w w' (λ_=>False)/\bB (BD (λk=>w.heap.size<=k) w') 6 act:=by
 have lI:=bV;go_enter func72,ntmps72;go_wp2;go_ret;exact⟨_,rfl,(Kp.refl _ _).alloc _,_,rfl,ah _,aC.new w _ _⟩
theorem Sh (w:World):Calls prog 72 #[.int .i64 9] w λe w'=>∃act,e=.returned act/\Kp w w' (λ_=>False)/\bB (BD (λk=>w.heap.size<=k) w') 7 act:=by
 have lI:=bV;go_enter func72,ntmps72;go_wp2;go_ret;have cZ:aC (((w.alloc (.cells (ez [0,0]).toArray 3)).alloc (.cells #[.int .i64 ((1:Nat):Int)] 3)).alloc (.cells #[.slice (some ⟨w.heap.size,0,none⟩) 2 2] 34)) w.heap.size 3 (ez [0,0]).toArray:=((aC.new w _ _).alloc _).alloc _;exact⟨_,rfl,(((Kp.refl _ _).alloc _).alloc _).alloc _,_,_,_,rfl,⟨Nat.le_succ _,by exact(aC.new1 w _ _ _).alloc _⟩,⟨ai (Nat.le_succ _) (Nat.le_succ _),by exact aC.new2 w _ _ _ _⟩,.inr ⟨w.heap.size,2,(ez [0,0]).toArray,rfl,⟨ah _,cZ⟩,ah _,by decide,rfl,by simp[ez]⟩⟩
theorem NN (w:World):Calls prog 72 #[.int .i64 10] w λe w'=>∃act,e=.returned act/\Kp w w' (λ_=>False)/\bB (BD (λk=>w.heap.size<=k) w') 8 act:=by
 have lI:=bV;go_enter func72,ntmps72;go_wp2;go_ret;exact⟨_,rfl,((Kp.refl _ _).alloc _).alloc _,_,_,_,rfl,⟨ah _,(aC.new w _ _).alloc _⟩,⟨Nat.le_succ _,aC.new1 w _ _ _⟩,.inl ⟨rfl,rfl⟩⟩
theorem NP (w:World):Calls prog 72 #[.int .i64 11] w λe w'=>∃act,e=.returned act/\Kp w w' (λ_=>False)/\bB (BD (λk=>w.heap.size<=k) w') 9 act:=by
 have lI:=bV;go_enter func72,ntmps72;go_wp2;go_ret;have cZ:aC (((w.alloc (.cells (ez [1,0]).toArray 3)).alloc (.cells #[.int .i64 ((2:Nat):Int)] 3)).alloc (.cells #[.slice (some ⟨w.heap.size,0,none⟩) 2 2] 34)) w.heap.size 3 (ez [1,0]).toArray:=((aC.new w _ _).alloc _).alloc _;exact⟨_,rfl,(((Kp.refl _ _).alloc _).alloc _).alloc _,_,_,_,rfl,⟨Nat.le_succ _,by exact(aC.new1 w _ _ _).alloc _⟩,⟨ai (Nat.le_succ _) (Nat.le_succ _),by exact aC.new2 w _ _ _ _⟩,.inr ⟨w.heap.size,2,(ez [1,0]).toArray,rfl,⟨ah _,cZ⟩,ah _,by decide,rfl,by simp[ez]⟩⟩
theorem NQ (w:World):Calls prog 72 #[.int .i64 12] w λe w'=>∃act,e=.returned act/\Kp w w' (λ_=>False)/\bB (BD (λk=>w.heap.size<=k) w') 10 act:=by
 have lI:=bV;go_enter func72,ntmps72;go_wp2;go_ret;have cZ:aC (((w.alloc (.cells (ez [0,1,0]).toArray 3)).alloc (.cells #[.int .i64 ((2:Nat):Int)] 3)).alloc (.cells #[.slice (some ⟨w.heap.size,0,none⟩) 3 3] 34)) w.heap.size 3 (ez [0,1,0]).toArray:=((aC.new w _ _).alloc _).alloc _;exact⟨_,rfl,(((Kp.refl _ _).alloc _).alloc _).alloc _,_,_,_,rfl,⟨Nat.le_succ _,by exact(aC.new1 w _ _ _).alloc _⟩,⟨ai (Nat.le_succ _) (Nat.le_succ _),by exact aC.new2 w _ _ _ _⟩,.inr ⟨w.heap.size,3,(ez [0,1,0]).toArray,rfl,⟨ah _,cZ⟩,ah _,by decide,rfl,by simp[ez]⟩⟩
theorem Si (w:World):Calls prog 72 #[.int .i64 13] w λe w'=>∃act,e=.returned act/\Kp w w' (λ_=>False)/\bB (BD (λk=>w.heap.size<=k) w') 11 act:=by
 have lI:=bV;go_enter func72,ntmps72;go_wp2;go_ret;have cZ:aC (((w.alloc (.cells (ez [1,2,0]).toArray 3)).alloc (.cells #[.int .i64 ((3:Nat):Int)] 3)).alloc (.cells #[.slice (some ⟨w.heap.size,0,none⟩) 3 3] 34)) w.heap.size 3 (ez [1,2,0]).toArray:=((aC.new w _ _).alloc _).alloc _;exact⟨_,rfl,(((Kp.refl _ _).alloc _).alloc _).alloc _,_,_,_,rfl,⟨Nat.le_succ _,by exact(aC.new1 w _ _ _).alloc _⟩,⟨ai (Nat.le_succ _) (Nat.le_succ _),by exact aC.new2 w _ _ _ _⟩,.inr ⟨w.heap.size,3,(ez [1,2,0]).toArray,rfl,⟨ah _,cZ⟩,ah _,by decide,rfl,by simp[ez]⟩⟩
theorem Sj (w:World):Calls prog 72 #[.int .i64 14] w λe w'=>∃act,e=.returned act/\Kp w w' (λ_=>False)/\bB (BD (λk=>w.heap.size<=k) w') 12 act:=by
 have lI:=bV;go_enter func72,ntmps72;go_wp2;go_ret;exact⟨_,rfl,(Kp.refl _ _).alloc _,_,rfl,ah _,aC.new w _ _⟩
theorem NR (w:World):Calls prog 72 #[.int .i64 15] w λe w'=>∃act,e=.returned act/\Kp w w' (λ_=>False)/\bB (BD (λk=>w.heap.size<=k) w') 13 act:=by
 have lI:=bV;go_enter func72,ntmps72;go_wp2;go_ret;exact⟨_,rfl,(Kp.refl _ _).alloc _,_,rfl,ah _,aC.new w _ _⟩
theorem J7 (w:World):Calls prog 72 #[.int .i64 16] w λe w'=>∃act,e=.returned act/\Kp w w' (λ_=>False)/\bB (BD (λk=>w.heap.size<=k) w') 14 act:=by
 have lI:=bV;go_enter func72,ntmps72;go_wp2;go_ret;exact⟨_,rfl,Kp.refl _ _,rfl⟩
theorem J8 (w:World):Calls prog 72 #[.int .i64 17] w λe w'=>∃act,e=.returned act/\Kp w w' (λ_=>False)/\bB (BD (λk=>w.heap.size<=k) w') 15 act:=by
 have lI:=bV;go_enter func72,ntmps72;go_wp2;go_ret;exact⟨_,rfl,Kp.refl _ _,rfl⟩
theorem C8 (j:Nat)(hj:j<16)(K:Int)(hK:K=(j:Int)+2)(w:World):Calls prog 72 #[.int .i64 K] w λe w'=>∃act,e=.returned act/\Kp w w' (λ_=>False)/\bB (BD (λk=>w.heap.size<=k) w') j act:=by
 subst hK;have:j=0\/j=1\/j=2\/j=3\/j=4\/j=5\/j=6\/j=7\/j=8\/j=9\/j=10\/j=11\/j=12\/j=13\/j=14\/j=15:=by omega
 rcases this with rfl|rfl|rfl|rfl|rfl|rfl|rfl|rfl|rfl|rfl|rfl|rfl|rfl|rfl|rfl|rfl
 ·exact Sa w
 ·exact Sb w
 ·exact Sc w
 ·exact Sd w
 ·exact Sg w
 ·exact XI w
 ·exact W4 w
 ·exact Sh w
 ·exact NN w
 ·exact NP w
 ·exact NQ w
 ·exact Si w
 ·exact Sj w
 ·exact NR w
 ·exact J7 w
 ·exact J8 w
end
end Go.Proofs.YteainaiebcphlaaGreatDoor
