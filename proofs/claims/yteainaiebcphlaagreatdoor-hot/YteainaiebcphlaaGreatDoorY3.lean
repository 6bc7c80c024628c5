import Derived.Test.YteainaiebcphlaaGreatDoorY2
namespace Go.Proofs.YteainaiebcphlaaGreatDoor
set_option maxRecDepth 1000000
set_option maxHeartbeats 4000000
set_option linter.all false
section
open Go.RowKit
abbrev Tok:=List UInt8
structure It where
 kind:Nat
 n:Int
 name:Tok
 a:List It
 b:List It
 toks:List Tok
def kIf:Tok:=[105,102]
def kElse:Tok:=[101,108,115,101]
def kThen:Tok:=[116,104,101,110]
def kBegin:Tok:=[98,101,103,105,110]
def kUntil:Tok:=[117,110,116,105,108]
def kWhile:Tok:=[119,104,105,108,101]
def kRepeat:Tok:=[114,101,112,101,97,116]
def kDo:Tok:=[100,111]
def kLoop:Tok:=[108,111,111,112]
def kI:Tok:=[105]
def kRecurse:Tok:=[114,101,99,117,114,115,101]
def kExit:Tok:=[101,120,105,116]
def kColon:Tok:=[58]
def kSemi:Tok:=[59]
def kOpen:Tok:=[123]
def kClose:Tok:=[125]
def pBraces:List Tok->Except Int (List Tok × List Tok)
 | []=>.error 4
 | t :: r=>if t=kOpen then .error 4 else if t=kClose then .ok ([],r) else
  match pBraces r with
  | .error e=>.error e
  | .ok (ts,r')=>.ok (t :: ts,r')
def formD (t:Tok):Bool:=keptL.any (· == t) || t == kColon || t == kSemi || t == kClose
def pOne (known:Tok->Bool) (loops:Nat) (t:Tok):Except Int It:=
 match numP t with
 | some n=>.ok ⟨110,n,[],[],[],[]⟩
 | none=>if plainL.any (· == t)=true then .ok ⟨112,0,t,[],[],[]⟩
  else if t=kI/\0 < loops then .ok ⟨105,0,[],[],[],[]⟩ else if t=kRecurse then .ok ⟨114,0,[],[],[],[]⟩ else if t=kExit then .ok ⟨120,0,[],[],[],[]⟩
  else if formD t=true then .error 4 else if known t=true then .ok ⟨99,0,t,[],[],[]⟩ else .error 3
structure PJ where
 item:Bool
 loops:Nat
 ends : List Tok
 t:Tok
def pRead (known:Tok->Bool):Nat->PJ->List Tok->Option (Except Int (List It × Tok × List Tok))
 | 0,_,_=>none
 | g+1,j,r=>
  if j.item=false then
   match r with
   | []=>some (.error 4)
   | t :: r1=>if j.ends.any (· == t)=true then some (.ok ([],t,r1)) else
    match pRead known g ⟨true,j.loops,[],t⟩ r1 with
    | none=>none
    | some (.error e)=>some (.error e)
    | some (.ok (xs,_,r2))=>match pRead known g j r2 with
     | none=>none
     | some (.error e)=>some (.error e)
     | some (.ok (ys,t',r3))=>some (.ok (xs ++ ys,t',r3))
  else if j.t=kIf then
   match pRead known g ⟨false,j.loops,[kElse,kThen],[]⟩ r with
   | none=>none
   | some (.error e)=>some (.error e)
   | some (.ok (a,t1,r1))=>if t1=kElse then
     match pRead known g ⟨false,j.loops,[kThen],[]⟩ r1 with
     | none=>none
     | some (.error e)=>some (.error e)
     | some (.ok (b,_,r2))=>some (.ok ([⟨63,0,[],a,b,[]⟩],[],r2))
    else some (.ok ([⟨63,0,[],a,[],[]⟩],[],r1))
  else if j.t=kBegin then
   match pRead known g ⟨false,j.loops,[kUntil,kWhile],[]⟩ r with
   | none=>none
   | some (.error e)=>some (.error e)
   | some (.ok (a,t1,r1))=>if t1=kWhile then
     match pRead known g ⟨false,j.loops,[kRepeat],[]⟩ r1 with
     | none=>none
     | some (.error e)=>some (.error e)
     | some (.ok (b,_,r2))=>some (.ok ([⟨119,0,[],a,b,[]⟩],[],r2))
    else some (.ok ([⟨117,0,[],a,[],[]⟩],[],r1))
  else if j.t=kDo then
   match pRead known g ⟨false,j.loops+1,[kLoop],[]⟩ r with
   | none=>none
   | some (.error e)=>some (.error e)
   | some (.ok (a,_,r1))=>some (.ok ([⟨100,0,[],a,[],[]⟩],[],r1))
  else if j.t=kOpen then
   match pBraces r with
   | .error e=>some (.error e)
   | .ok (ts,r1)=>some (.ok ([⟨123,0,[],[],[],ts⟩],[],r1))
  else match pOne known j.loops j.t with
   | .error e=>some (.error e)
   | .ok x=>some (.ok ([x],[],r))
structure Def where
 name:Tok
 id:Int
 body:List It
 count:Int
 fast:Bool
 built:List Tok
structure St where
 rs:List Int
 mem:Nat->Int
 defs:List Def
 ids:Int
 hot:Int
 built:Int
 e:Int
 steps:Int
 depth:Int
 out:ByteArray
def isName (t:Tok):Bool:=decide (1<=t.length/\t.length<=8) && t.all (fun c=>decide (97<=c.toNat/\c.toNat<=122)) && !plainL.any (· == t) && !keptL.any (· == t)
def St.find (s:St) (t:Tok):Option Nat:=s.defs.findIdx? (fun d=>d.name == t)
def St.known (s:St) (t:Tok):Bool:=(s.find t).isSome
def St.err (s:St) (e:Int):St:={ s with e:=e }
def pDef (g:Nat) (s:St):List Tok->Option (Except Int (Tok × List It × List Tok))
 | []=>some (.error 4)
 | t :: r=>if isName t=false then some (.error 4) else if s.known t=false/\30<=s.defs.length then some (.error 5) else
  match pRead s.known g ⟨false,0,[kSemi],[]⟩ r with
  | none=>none
  | some (.error e)=>some (.error e)
  | some (.ok (b,_,r1))=>some (.ok (t,b,r1))
def St.step (s:St):St:=if s.steps < 2000 then { s with steps:=s.steps+1 } else { s with e:=12,steps:=s.steps+1 }
def St.put (s:St) (n:Int):St:=if s.rs.length < 32 then { s with rs:=n :: s.rs } else { s with e:=7 }
def St.word (s:St) (k:Nat):St:={ s with rs:=(plainP k s.rs s.mem s.out).rs,mem:=(plainP k s.rs s.mem s.out).mem,out:=(plainP k s.rs s.mem s.out).out,e:=(plainP k s.rs s.mem s.out).e }
def slowD (d:Def):Def:={ d with fast:=false,built:=[],count:=0 }
def callsG:Nat->List It->Option (List Tok)
 | 0,_=>none
 | _+1,[]=>some []
 | g+1,x :: r=>match callsG g x.a,callsG g x.b,callsG g r with
  | some a,some b,some c=>some ((if x.kind=99 then [x.name] else []) ++ a ++ b ++ c)
  | _,_,_=>none
def bodyOf (defs:List Def) (t:Tok):Option (List It):=(defs.find? (fun d=>d.name == t)).map (·.body)
def foldN (f:Tok->Option (List Tok)):List Tok->Option (List Tok)
 | []=>some []
 | t :: r=>match f t,foldN f r with
  | some x,some y=>some (t :: x ++ y)
  | _,_=>none
def buildsG (defs:List Def) (g:Nat):Nat->List It->Option (List Tok)
 | 0,_=>some []
 | n+1,l=>match callsG g l with
  | none=>none
  | some names=>foldN (fun t=>match bodyOf defs t with
   | none=>none
   | some b=>buildsG defs g n b) names
def St.set (s:St) (t:Tok) (b:List It):St:=
 { s with ids:=wrap64 (s.ids+1),defs:=match s.find t with
   | some k=>(s.defs.map fun d=>if d.fast=true/\d.built.any (· == t)=true then slowD d else d).set k ⟨t,wrap64 (s.ids+1),b,0,false,[]⟩
   | none=>(s.defs.map fun d=>if d.fast=true/\d.built.any (· == t)=true then slowD d else d) ++ [⟨t,wrap64 (s.ids+1),b,0,false,[]⟩] }
def St.count (g:Nat) (s:St) (k:Nat):Option St:=
 match s.defs[k]? with
 | none=>none
 | some d=>if d.fast=true then some s else if wrap64 (d.count+1) < s.hot then some { s with defs:=s.defs.set k { d with count:=wrap64 (d.count+1) } } else
  match buildsG (s.defs.set k { d with count:=wrap64 (d.count+1),fast:=true }) g s.built.toNat d.body with
  | none=>none
  | some bs=>some { s with defs:=s.defs.set k { d with count:=wrap64 (d.count+1),fast:=true,built:=bs } }
structure Fr where
 id:Int
 name:Tok
 body:List It
def St.test (s:St):St × Bool:=
 if s.step.e=0 then match s.step.rs with
  | []=>(s.step.err 6,false)
  | a :: r=>({ s.step with rs:=r },decide (a ≠ 0))
 else (s.step,false)
structure XJ where
 what:Nat
 f:Fr
 lp:List Int
 l:List It
 x:It
 n:Int
 m:Int
 ts:List Tok
def it0:It:=⟨0,0,[],[],[],[]⟩
def fr0:Fr:=⟨0,[],[]⟩
def jBody (f:Fr) (lp:List Int) (l:List It):XJ:=⟨0,f,lp,l,it0,0,0,[]⟩
def jItem (f:Fr) (lp:List Int) (x:It):XJ:=⟨1,f,lp,[],x,0,0,[]⟩
def jDo (f:Fr) (lp:List Int) (n m:Int) (l:List It):XJ:=⟨2,f,lp,l,it0,n,m,[]⟩
def jEnter (f:Fr):XJ:=⟨3,f,[],[],it0,0,0,[]⟩
def jCall (t:Tok):XJ:=⟨4,fr0,[],[],it0,0,0,[t]⟩
def jToks (ts:List Tok):XJ:=⟨5,fr0,[],[],it0,0,0,ts⟩
def xRun:Nat->XJ->St->Option (St × Bool)
 | 0,_,_=>none
 | g+1,j,s=>
  if j.what=0 then
   match j.l with
   | []=>some (s,false)
   | x :: l=>match xRun g (jItem j.f j.lp x) s with
    | none=>none
    | some (s1,left)=>if left=true\/s1.e ≠ 0 then some (s1,true) else xRun g (jBody j.f j.lp l) s1
  else if j.what=1 then
   if j.x.kind=63 then
    if s.test.1.e ≠ 0 then some (s.test.1,true) else if s.test.2=true then xRun g (jBody j.f j.lp j.x.a) s.test.1 else xRun g (jBody j.f j.lp j.x.b) s.test.1
   else if j.x.kind=117 then
    match xRun g (jBody j.f j.lp j.x.a) s with
    | none=>none
    | some (s1,left)=>if left=true then some (s1,true) else
     if s1.test.1.e ≠ 0 then some (s1.test.1,true) else if s1.test.2=true then some (s1.test.1,false) else xRun g j s1.test.1
   else if j.x.kind=119 then
    match xRun g (jBody j.f j.lp j.x.a) s with
    | none=>none
    | some (s1,left)=>if left=true then some (s1,true) else
     if s1.test.1.e ≠ 0 then some (s1.test.1,true) else if s1.test.2=false then some (s1.test.1,false) else
      match xRun g (jBody j.f j.lp j.x.b) s1.test.1 with
      | none=>none
      | some (s3,left3)=>if left3=true then some (s3,true) else xRun g j s3
   else if s.step.e ≠ 0 then some (s.step,true)
   else if j.x.kind=110 then some (s.step.put j.x.n,decide ((s.step.put j.x.n).e ≠ 0))
   else if j.x.kind=112 then
    match plainL.findIdx? (· == j.x.name) with
    | none=>none
    | some k=>some (s.step.word k,decide ((s.step.word k).e ≠ 0))
   else if j.x.kind=105 then
    match j.lp with
    | []=>none
    | i :: _=>some (s.step.put i,decide ((s.step.put i).e ≠ 0))
   else if j.x.kind=120 then some (s.step,true)
   else if j.x.kind=114 then
    match xRun g (jEnter j.f) s.step with
    | none=>none
    | some (s2,_)=>some (s2,decide (s2.e ≠ 0))
   else if j.x.kind=99 then
    match xRun g (jCall j.x.name) s.step with
    | none=>none
    | some (s2,_)=>some (s2,decide (s2.e ≠ 0))
   else if j.x.kind=123 then
    if 20<=s.step.depth then some (s.step.err 8,true) else
    match xRun g (jToks j.x.toks) { s.step with depth:=s.step.depth+1 } with
    | none=>none
    | some (s2,_)=>some ({ s2 with depth:=s2.depth - 1 },decide (s2.e ≠ 0))
   else if j.x.kind=100 then
    match s.step.rs with
    | b :: m :: r=>xRun g (jDo j.f j.lp b m j.x.a) { s.step with rs:=r }
    | _=>some (s.step.err 6,true)
   else none
  else if j.what=2 then
   if j.n < j.m then
    if s.step.e ≠ 0 then some (s.step,true) else
    match xRun g (jBody j.f (j.n :: j.lp) j.l) s.step with
    | none=>none
    | some (s2,left)=>if left=true then some (s2,true) else xRun g (jDo j.f j.lp (j.n+1) j.m j.l) s2
   else some (s,false)
  else if j.what=3 then
   if 20<=s.depth then some (s.err 8,true) else
   match (match s.find j.f.name with
    | none=>some s
    | some k=>match s.defs[k]? with
     | none=>none
     | some d=>if d.id=j.f.id then s.count g k else some s) with
   | none=>none
   | some s1=>match xRun g (jBody j.f [] j.f.body) { s1 with depth:=s1.depth+1 } with
    | none=>none
    | some (s2,_)=>some ({ s2 with depth:=s2.depth - 1 },false)
  else if j.what=4 then
   match s.defs.find? (fun d=>d.name == j.ts.headD []) with
   | none=>none
   | some d=>xRun g (jEnter ⟨d.id,d.name,d.body⟩) s
  else
   match j.ts with
   | []=>some (s,false)
   | t :: r=>if s.e ≠ 0 then some (s,false) else
    if t=kColon then match pDef g s r with
     | none=>none
     | some (.error e)=>some (s.err e,false)
     | some (.ok (nm,b,r1))=>if s.step.e ≠ 0 then some (s.step,false) else xRun g (jToks r1) (s.step.set nm b)
    else match numP t with
    | some n=>if s.step.e ≠ 0 then xRun g (jToks r) s.step else xRun g (jToks r) (s.step.put n)
    | none=>match plainL.findIdx? (· == t) with
     | some k=>if s.step.e ≠ 0 then xRun g (jToks r) s.step else xRun g (jToks r) (s.step.word k)
     | none=>if keptL.any (· == t) || t == kSemi || t == kOpen || t == kClose then xRun g (jToks r) (s.err 4)
      else if s.known t=false then xRun g (jToks r) (s.err 3)
      else if s.step.e ≠ 0 then xRun g (jToks r) s.step else
      match xRun g (jCall t) s.step with
      | none=>none
      | some (s2,_)=>xRun g (jToks r) s2
def st0:St:=⟨[],fun _=>0,[],0,5,1,0,0,0,⟨#[]⟩⟩
end
section
open Go.RowKit
variable {K:Nat->Prop}
theorem hide {p:Prop} (h:p):Hid p:=h
theorem row_blk {w:World} {e:TypeId} {z:Nat} {v:Value} {n:Nat} {xs:List Value} (h:w.ownsRow 0 e z v n xs) {b:Nat} (hb:own v b):∃ c,Blk w b e c:=by
 rcases h.2 with⟨rfl,_⟩|⟨g,cap,cur,rfl,_,hgg,_⟩
 ·simp[own,Value.ownBlock] at hb
 ·simp[own,Value.ownBlock] at hb;subst hb;exact⟨_,hgg⟩
theorem row_type {w:World} {e t:TypeId} {z:Nat} {v:Value} {n:Nat} {xs:List Value} {c:Array Value} (h:w.ownsRow 0 e z v n xs) {b:Nat} (hb:own v b) (hc:Blk w b t c):t=e:=by
 obtain⟨c',hc'⟩:=row_blk h hb;exact (hc.inj hc').1
end
section
open Go.RowKit
theorem unhide {p:Prop} (h:Hid p):p:=h
structure Glo (B:Nat) (W:World):Prop where
 pow : Lib.TabBelow Tryz.prog B W "internal/strconv.uint64pow10" .u64 Lib.pow10Tab
 asc : Lib.TabBelow Tryz.prog B W "strings.asciiSpace" .u8 Lib.asciiSpaceTab
 bs:B<=W.heap.size
structure Safe (B:Nat) (W w:World) (xb rb:Nat) (m:MS):Prop where
 bel:Below B W w
 bx:B<=xb
 br:B<=rb
 bv:∀ k,own m.sv k\/own m.ov k->B<=k
 bs:B<=w.heap.size
theorem Safe.to {B:Nat} {W w w':World} {xb rb:Nat} {m m':MS} (h:Safe B W w xb rb m) (ht:MTo xb rb w w' m m'):Safe B W w' xb rb m':=by
 have hkp:=To.kp ht;refine⟨?_,h.bx,h.br,fun k hk=>?_,Nat.le_trans h.bs hkp.size⟩
 ·refine h.bel.trans ⟨hkp.os,hkp.tape,hkp.output,hkp.size,fun k hk=>hkp.block k (Nat.lt_of_lt_of_le hk h.bs) ?_⟩;rintro ((h1|h1)|h1)
  ·have:=h.bx;omega
  ·have:=h.br;omega
  ·have:=h.bv k h1;omega
 ·rcases To.nx ht k hk with h1|h1
  ·exact h.bv k h1
  ·have:=h.bs;omega
theorem Safe.kp {B:Nat} {W w w':World} {xb rb:Nat} {m:MS} (h:Safe B W w xb rb m) (hk:Kp w w' (fun _=>False)):Safe B W w' xb rb m:=h.to (MTo.kp hk)
theorem sh_dot (B:Nat) (W:World) (w:World) (xb rb fb:Nat) (m:MS) (a:Int) (r:List Int) (h:MInv w xb rb m (a :: r).reverse) (hf:Blk w fb 154 #[.func (.func 110) #[] #[]]) (ho:m.out.size<=300) (h0:-9223372036854775808<=a) (h1:a<=9223372036854775807) (hS:Safe B W w xb rb m) (hG:Glo B W):
  Calls Tryz.prog 152 #[.pointer (some ⟨rb,0,none⟩),.pointer (some ⟨fb,0,none⟩)] w fun e w'=>e=.returned (.int .i64 (prtP m.mem m.out r (dot a)).e)/\MPost w w' xb rb m (prtP m.mem m.out r (dot a)):=by
 have H0:Hid (-9223372036854775808<=a):=h0;have H1:Hid (a<=9223372036854775807):=h1;clear h0 h1;have hsz:(dot a).size<=1000:=by have:=itoa_len a H0.out H1.out;show (dot a).data.size<=1000;simp[dot];omega
 have hps:0 < (dot a).size:=by show 0 < (dot a).data.size;simp[dot]
 go_enter Tryz.func152,Tryz.ntmps152
 go_wp2_with fail
 refine (takeM1 _ _ _ _ _ _ h).mono ?_;rintro e w1 ⟨v',rfl,hi1,ht1⟩;have hf1:=ht1.blk hf (by rintro (h1|h1);exact absurd (hf.inj (h1 ▸ h.xblk)).1 (by decide);exact absurd (hf.inj (h1 ▸ h.rblk)).1 (by decide)) (by rintro (h1|h1);exact own_ne h.srow hf (by decide) h1;exact own_ne h.orow hf (by decide) h1);have c1:w1.cell? ⟨fb,0,none⟩=some (.func (.func 110) #[] #[]):=hf1.cell rfl;have hfl:=hf1.lt
 go_wp2_with fail
 refine (digitsM _ _ H0.out H1.out (by exact (hG.pow.on ((hS.to ht1).kp ((Kp.refl _ _).alloc _)).bel).here)).mono ?_;rintro e w2 ⟨g,cap,rfl,hc,hk⟩;have hi2:=(hi1.alloc (.cells #[.int .i64 a,.int .i64 0,.int .i64 0] 195)).kp hk;have ht2:MTo xb rb w w2 m { m with sv:=v' }:=ht1.trans ((MTo.kp ((Kp.refl _ _).alloc _)).trans (MTo.kp hk));have HC:=hide hc;clear hc hk c1 hf1;by_cases hl:300 < m.out.size+(dot a).size
 ·go_wp2_with fail
  refine (printM_full _ _ _ _ _ _ _ _ hi2 ho hsz hl).mono ?_;rintro e w' ⟨rfl,hw⟩;rw[hw];clear hw;have HR:Hid (prtP m.mem m.out r (dot a)=⟨11,[],m.mem,m.out⟩):=if_pos hl;clear hl;go_wp2;go_ret;rw[HR.out];exact⟨rfl,MPost.err ht2 hi2 rfl rfl rfl (by decide)⟩
 ·go_wp2_with fail
  refine (printM_ok _ _ _ _ _ _ _ _ hi2 hps (by show m.out.size+_<=300;omega) (unhide HC)).mono ?_;rintro e w3 ⟨rfl,v3,hi3,ht3⟩;have HR:Hid (prtP m.mem m.out r (dot a)=⟨0,r,m.mem,m.out ++ dot a⟩):=if_neg hl;clear hl;go_wp2;go_ret;rw[HR.out];exact⟨rfl,_,_,hi3,ht2.trans ht3,rfl,rfl,rfl,fun _=>rfl⟩
theorem sh_emit (w:World) (xb rb fb:Nat) (m:MS) (a:Int) (r:List Int) (h:MInv w xb rb m (a :: r).reverse) (hf:Blk w fb 154 #[.func (.func 111) #[] #[]]) (ho:m.out.size<=300):
  Calls Tryz.prog 152 #[.pointer (some ⟨rb,0,none⟩),.pointer (some ⟨fb,0,none⟩)] w fun e w'=>e=.returned (.int .i64 (prtP m.mem m.out r (chR a)).e)/\MPost w w' xb rb m (prtP m.mem m.out r (chR a)):=by
 have hsz:(chR a).size<=1000:=by show (1:Nat)<=1000;omega
 have hps:0 < (chR a).size:=by show (0:Nat) < 1;omega
 go_enter Tryz.func152,Tryz.ntmps152
 go_wp2_with fail
 refine (takeM1 _ _ _ _ _ _ h).mono ?_;rintro e w1 ⟨v',rfl,hi1,ht1⟩;have hf1:=ht1.blk hf (by rintro (h1|h1);exact absurd (hf.inj (h1 ▸ h.xblk)).1 (by decide);exact absurd (hf.inj (h1 ▸ h.rblk)).1 (by decide)) (by rintro (h1|h1);exact own_ne h.srow hf (by decide) h1;exact own_ne h.orow hf (by decide) h1);have c1:w1.cell? ⟨fb,0,none⟩=some (.func (.func 111) #[] #[]):=hf1.cell rfl;have hfl:=hf1.lt
 go_wp2_with fail
 refine (charM _ _).mono ?_;rintro e w2 ⟨g,cap,rfl,hc,hk⟩;have hi2:=(hi1.alloc (.cells #[.int .i64 a,.int .i64 0,.int .i64 0] 195)).kp hk;have ht2:MTo xb rb w w2 m { m with sv:=v' }:=ht1.trans ((MTo.kp ((Kp.refl _ _).alloc _)).trans (MTo.kp hk));have HC:=hide hc;clear hc hk c1 hf1;by_cases hl:300 < m.out.size+(chR a).size
 ·go_wp2_with fail
  refine (printM_full _ _ _ _ _ _ _ _ hi2 ho hsz hl).mono ?_;rintro e w' ⟨rfl,hw⟩;rw[hw];clear hw;have HR:Hid (prtP m.mem m.out r (chR a)=⟨11,[],m.mem,m.out⟩):=if_pos hl;clear hl;go_wp2;go_ret;rw[HR.out];exact⟨rfl,MPost.err ht2 hi2 rfl rfl rfl (by decide)⟩
 ·go_wp2_with fail
  refine (printM_ok _ _ _ _ _ _ _ _ hi2 hps (by show m.out.size+_<=300;omega) (unhide HC)).mono ?_;rintro e w3 ⟨rfl,v3,hi3,ht3⟩;have HR:Hid (prtP m.mem m.out r (chR a)=⟨0,r,m.mem,m.out ++ chR a⟩):=if_neg hl;clear hl;go_wp2;go_ret;rw[HR.out];exact⟨rfl,_,_,hi3,ht2.trans ht3,rfl,rfl,rfl,fun _=>rfl⟩
end
section
open Go.RowKit
def placesV (ps:List Nat):List Value:=ps.map (fun p:Nat=>Value.int .i64 (p:Int))
def picked (xs:List Int) (ps:List Nat):List Int:=ps.map fun p=>xs.getD p 0
theorem row_cellM {w:World} {b e:Nat} {v:Value} {n:Nat} {xs:List Value} (h:w.ownsRow b e 1 v n xs) {k:Nat} (hk:k < n):∃ g cap,v=.slice (some ⟨g,0,none⟩) n cap/\∀ u,xs[k]? = some u->w.cell? ⟨g,k,none⟩=some u:=by
 rcases h.2 with⟨_,h0⟩|⟨g,cap,cur,hv,_⟩
 ·omega
 ·refine⟨g,cap,hv,fun u hu=>?_⟩;have:=h.cells (g:=g) (by rw[hv];rfl) k u hu;rw[addr_add2] at this;exact this
theorem tk_cell {w:World} {tb:Nat} {xs:List Int} (h:Blk w tb 195 #[.int .i64 (xs.getD 0 0),.int .i64 (xs.getD 1 0),.int .i64 (xs.getD 2 0)]) (p:Nat) (hp:p < 3):w.cell? ⟨tb,p,none⟩=some (.int .i64 (xs.getD p 0)):=by
 have:p=0\/p=1\/p=2:=by omega
 rcases this with h1|h1|h1 <;> subst h1 <;> exact h.cell rfl
theorem reM (w:World) (xb rb cb pb:Nat) (m:MS) (r xs:List Int) (ps:List Nat) (pv:Value) (h:MInv w xb rb m (r ++ xs)) (h1:1<=xs.length) (h3:xs.length<=3)
  (hc:Blk w cb 3 #[.int .i64 xs.length]) (hp:Blk w pb 34 #[pv]) (hpv:w.ownsRow 0 3 1 pv ps.length (placesV ps)) (hps:∀ p∈ps,p < 3) (hpl:ps.length<=3):
  Calls Tryz.prog 151 #[.pointer (some ⟨rb,0,none⟩),.pointer (some ⟨cb,0,none⟩),.pointer (some ⟨pb,0,none⟩)] w fun e w'=>
   (r.length+ps.length<=32->e=.returned (.int .i64 0)/\MPost w w' xb rb m ⟨0,(r ++ picked xs ps).reverse,m.mem,m.out⟩) /\
   (32 < r.length+ps.length->e=.returned (.int .i64 7)/\MPost w w' xb rb m ⟨7,[],m.mem,m.out⟩):=by
 have c0:w.cell? ⟨cb,0,none⟩=some (.int .i64 xs.length):=hc.cell rfl;obtain⟨i0,hi,hz0,hz1,hz2⟩:=info_parts Tryz.info2;have hlen:=h.len;simp only[List.length_append] at hlen;go_enter Tryz.func151,Tryz.ntmps151
 go_wp2_with fail
 refine (takeM _ _ _ _ r xs h h1 h3).mono ?_;rintro e w1 ⟨v',rfl,hi1,ht1⟩;have hp1:=ht1.blk hp (by rintro (h1|h1);exact absurd (hp.inj (h1 ▸ h.xblk)).1 (by decide);exact absurd (hp.inj (h1 ▸ h.rblk)).1 (by decide)) (by rintro (h1|h1);exact own_ne h.srow hp (by decide) h1;exact own_ne h.orow hp (by decide) h1);have hpv1:=(To.kp ht1).row hpv (by
  rintro k hk ((h1|h1)|(h1|h1))
  ·subst h1;exact own_ne hpv h.xblk (by decide) hk
  ·subst h1;exact own_ne hpv h.rblk (by decide) hk
  ·exact own_disj2 hpv h.srow (by decide) hk h1
  ·exact own_disj2 hpv h.orow (by decide) hk h1)
 obtain⟨po,pc,rfl⟩:=form_of hpv1;have c1:w1.cell? ⟨pb,0,none⟩=some (.slice po ps.length pc):=hp1.cell rfl;have hpb:=hp1.lt;have HP:=hide hpv1;have HI:=hide hi1;have HQ:=hide hps;clear hpv hpv1 hp c0 hi1 hps hp1;go_wp2;have hT:=Blk.new w1 #[.int .i64 (xs.getD 0 0),.int .i64 (xs.getD 1 0),.int .i64 (xs.getD 2 0)] 195;have HT:=hide hT;clear hT
 go_loopw [7,21] (fun v i wr=>∃ k:Nat,k<=ps.length/\i=.int .i64 k/\wr.ownsRow (w1.heap.size+1) 2 1 v k (ints ((picked xs ps).take k))/\Kp (w1.alloc (.cells #[.int .i64 (xs.getD 0 0),.int .i64 (xs.getD 1 0),.int .i64 (xs.getD 2 0)] 195)) wr (fun _=>False)/\(k=0->v=.slice none 0 0))
  (fun _ i _=>ps.length - (intOf i).toNat)
 case atStart=>exact⟨0,Nat.zero_le _,rfl,World.ownsRow_nil _ _ _ _,Kp.refl _ _,fun _=>rfl⟩
 case round=>
  obtain⟨k,hk,rfl,hown,hkp,hnil⟩:=hrel;by_cases hlt:k < ps.length
  ·obtain⟨g,cap',hpo,hcell⟩:=row_cellM (hkp.row ((HP.out).alloc _) (by simp)) hlt;injection hpo with hpo h2 h3;subst hpo;subst h3;clear h2;have hpk:ps[k] < 3:=HQ.out _ (List.getElem_mem hlt);have ct:=tk_cell (hkp.blk HT.out (by simp)) ps[k] hpk;have cp:wr.cell? ⟨g,k,none⟩=some (.int .i64 (ps[k]:Int)):=hcell _ (by simp[placesV,hlt]);clear hcell;obtain⟨q,hq⟩:∃ q,q=ps[k]:=⟨_,rfl⟩;rw[<-hq] at ct cp hpk;obtain⟨x,hx⟩:∃ x,x=xs.getD q 0:=⟨_,rfl⟩;rw[<-hx] at ct;have HX:Hid (ints ((picked xs ps).take (k+1))=ints ((picked xs ps).take k) ++ [.int .i64 x]):=by
    unfold Hid;rw[List.take_succ_eq_append_getElem (by simp[picked];exact hlt)];simp[ints,picked,hx,hq]
   clear hq hx;have hsz:=hkp.size;simp only[World.size_alloc] at hsz
   go_wp2_with (first
    | (at_builtin;refine wpList_append_own _ rfl _ _ 74 rfl (w1.heap.size+1) 2 i0 (.int .i64 0) 1 8 Tryz.underlying74 hi hz0 hz1 hz2 rfl (by decide) _ _ _ rfl (hown.alloc _) ⟨wr.heap.size,0,none⟩ 1 1 [.int .i64 x] rfl rfl ?c1 ?c2 ?c3 ?c4 ?c5 ?_)
    | go_in)
   case c1=>intro j u hj;match j,hj with|0,hj=>simp at hj;subst hj;simp[Addr.add]
   case c2=>first|rfl|(intro u hu;simp at hu;subst hu;rfl)
   case c3=>unfold maxLen;omega
   case c4=>omega
   case c5=>first|omega|(simp;omega)
   intro v2 w2 hown2 hgrow _;have hkp2:Kp (w1.alloc (.cells #[.int .i64 (xs.getD 0 0),.int .i64 (xs.getD 1 0),.int .i64 (xs.getD 2 0)] 195)) w2 (fun _=>False):=(hkp.alloc _).grown hgrow (fun b hb e=>by have:=(hown.lt b e).1;simp at hb;omega);rw[<-HX.out] at hown2;have HO:=hide hown2;have HK:=hide hkp2;clear hown hown2 hgrow hkp hkp2 ct cp;go_wp2
   go_roundw
   case rel=>first|exact⟨k+1,by omega,by go_num,HO.out,HK.out,fun h=>by omega⟩|((repeat apply Exists.intro);exact⟨⟨k+1,by omega,by go_num,HO.out,HK.out,fun h=>by omega⟩,rfl⟩)
   case measure=>simp[intOf];omega
  ·have hkl:k=ps.length:=by omega
   subst hkl;have hys:(picked xs ps).take ps.length=picked xs ps:=List.take_of_length_le (by simp[picked]);rw[hys] at hown;have hyl:(picked xs ps).length=ps.length:=by simp[picked]
   have hiW:MInv wr xb rb { m with sv:=v' } r:=(HI.out.alloc _).kp hkp;have htW:MTo xb rb w wr m { m with sv:=v' }:=ht1.trans ((MTo.kp ((Kp.refl _ _).alloc _)).trans (MTo.kp hkp));have HW:=hide hiW;clear hkp hiW hys;by_cases h0:ps.length=0
   ·have hv:=hnil h0;subst hv;have hp0:picked xs ps=[]:=List.eq_nil_of_length_eq_zero (by omega);have HP0:=hide hp0;have hpn:ps=[]:=List.eq_nil_of_length_eq_zero h0;clear hp0 hown hnil
    go_wp2_with fail
    refine (putM_nil _ _ _ _ _ HW.out).mono ?_;rintro e w3 ⟨rfl,hi3,ht3⟩;go_wp2;go_ret;refine⟨fun _=>⟨rfl,_,_,hi3,htW.trans ht3,rfl,rfl,rfl,fun _=>?_⟩,fun h=>by have:=hlen;omega⟩;rw[HP0.out];simp
   ·obtain⟨g,cap,rfl⟩:=Joins.ownsRow_form hown (by omega);have hcells:=hown.cells (g:=g) rfl;have HC:=hide hcells;clear hown hcells hnil;by_cases hbig:32 < r.length+ps.length
    ·go_wp2_with fail
     refine (putM_full _ _ _ _ _ _ _ _ HW.out (by omega) hbig).mono ?_;rintro e w' ⟨rfl,hw⟩;rw[hw];clear hw;go_wp2;go_ret;exact⟨fun h=>by omega,fun _=>⟨rfl,MPost.err htW HW.out rfl rfl rfl (by decide)⟩⟩
    ·go_wp2_with fail
     rw[<-hyl];refine (putM_ok _ _ _ _ r (picked xs ps) g cap HW.out (by omega) HC.out (by omega)).mono ?_;rintro e w3 ⟨rfl,v3,hi3,ht3⟩;rw[hyl];go_wp2;go_ret;exact⟨fun _=>⟨rfl,_,_,hi3,htW.trans ht3,rfl,rfl,rfl,fun _=>by simp⟩,fun h=>by omega⟩
end
section
open Go.RowKit
def Ents (n:Nat):Prop:=∀ (a:Array Value) (w:World),(callFunc n a).run Tryz.prog w=.ok (.enter n a) w
def CallsV (v arg:Value) (w:World) (Q:Ending->World->Prop):Prop:=
 ∃ n first cap,v=.func (.func n) first cap/\Ents n/\Calls Tryz.prog n (first.push arg ++ cap) w Q
theorem CallsV.mono {v arg:Value} {w:World} {Q Q':Ending->World->Prop} (h:CallsV v arg w Q) (hq:∀ e w',Q e w'->Q' e w'):CallsV v arg w Q':=by
 obtain⟨n,f,c,h1,h2,h3⟩:=h;exact⟨n,f,c,h1,h2,h3.mono hq⟩
theorem ents_of {n : Nat} {f : Func} (h : Tryz.prog.funcs[n]? = some f) (h1 : (f.name == "runtime.NumGoroutine") = false) (h2 : f.body.isNone = false) : Ents n := by
 intro a w
 have h1' : ¬ f.name = "runtime.NumGoroutine" := by simpa using h1
 have h2':¬ f.body=none:=by intro e;rw[e] at h2;cases h2
 simp[callFunc,h,h1',h2',go_sem]
theorem ent_lay:Ents 95:=ents_of Tryz.func95 (by kernel_rfl) (by kernel_rfl)
theorem MInv.setSt {w:World} {xb rb:Nat} {m:MS} {ns:List Int} (h:MInv w xb rb m ns) (s:Int):
    MInv (w.setCell ⟨rb,2,none⟩ (.int .i64 s)) xb rb { m with st:=s } ns/\MTo xb rb w (w.setCell ⟨rb,2,none⟩ (.int .i64 s)) m { m with st:=s }:=
  ⟨⟨h.xblk.setOther h.ne _,h.rblk.set 2 _,ownsRow_setCell_other h.srow (own_ne h.srow h.rblk (by decide)) _,ownsRow_setCell_other h.orow (own_ne h.orow h.rblk (by decide)) _,h.len⟩,
   ⟨(Kp.refl _ _).set (fun _=>.inl (.inr rfl)) _,fun _ hk=>.inl hk⟩⟩
theorem MInv.setDp {w:World} {xb rb:Nat} {m:MS} {ns:List Int} (h:MInv w xb rb m ns) (s:Int):
    MInv (w.setCell ⟨rb,3,none⟩ (.int .i64 s)) xb rb { m with dp:=s } ns/\MTo xb rb w (w.setCell ⟨rb,3,none⟩ (.int .i64 s)) m { m with dp:=s }:=
  ⟨⟨h.xblk.setOther h.ne _,h.rblk.set 3 _,ownsRow_setCell_other h.srow (own_ne h.srow h.rblk (by decide)) _,ownsRow_setCell_other h.orow (own_ne h.orow h.rblk (by decide)) _,h.len⟩,
   ⟨(Kp.refl _ _).set (fun _=>.inl (.inr rfl)) _,fun _ hk=>.inl hk⟩⟩
theorem burn_ok (w:World) (xb rb:Nat) (m:MS) (ns:List Int) (h:MInv w xb rb m ns) (h0:0<=m.st) (h1:m.st < 2000):
  Calls Tryz.prog 94 #[.pointer (some ⟨rb,0,none⟩)] w fun e w'=>e=.returned (.int .i64 0)/\w'=w.setCell ⟨rb,2,none⟩ (.int .i64 (m.st+1)):=by
 have c1:w.cell? ⟨rb,2,none⟩=some (.int .i64 m.st):=h.rblk.cell rfl;have f1:=h.rblk.free 2;go_enter Tryz.func94,Tryz.ntmps94;go_wp2;go_ret;exact⟨rfl,rfl⟩
theorem burn_no (w:World) (xb rb:Nat) (m:MS) (ns:List Int) (h:MInv w xb rb m ns) (h1:¬ m.st < 2000):
  Calls Tryz.prog 94 #[.pointer (some ⟨rb,0,none⟩)] w fun e w'=>e=.returned (.int .i64 12)/\w'=w:=by
 have c1:w.cell? ⟨rb,2,none⟩=some (.int .i64 m.st):=h.rblk.cell rfl;go_enter Tryz.func94,Tryz.ntmps94;go_wp2;go_ret;exact⟨rfl,rfl⟩
theorem stepV_no (w:World) (xb rb:Nat) (m:MS) (ns:List Int) (v:Value) (h:MInv w xb rb m ns) (h1:¬ m.st < 2000):
  Calls Tryz.prog 68 #[.pointer (some ⟨rb,0,none⟩),v] w fun e w'=>e=.returned (.int .i64 12)/\w'=w:=by
 have HB:=hide (burn_no w xb rb m ns h h1);go_enter Tryz.func68,Tryz.ntmps68
 go_wp2_with fail
 refine HB.out.mono ?_;rintro e w' ⟨rfl,rfl⟩;go_wp2;go_ret;exact⟨rfl,rfl⟩
theorem stepV (w:World) (xb rb:Nat) (m:MS) (ns:List Int) (v:Value) (Q:Int->World->Prop) (h:MInv w xb rb m ns) (h0:0<=m.st) (h1:m.st < 2000)
  (hc:CallsV v (.pointer (some ⟨rb,0,none⟩)) (w.setCell ⟨rb,2,none⟩ (.int .i64 (m.st+1))) fun e w'=>∃ n,e=.returned (.int .i64 n)/\Q n w'):
  Calls Tryz.prog 68 #[.pointer (some ⟨rb,0,none⟩),v] w fun e w'=>∃ n,e=.returned (.int .i64 n)/\Q n w':=by
 have HB:=hide (burn_ok w xb rb m ns h h0 h1);obtain⟨n,first,cap,rfl,hen,hc⟩:=hc
 unfold Ents at hen;have HC:=hide hc;clear hc;go_enter Tryz.func68,Tryz.ntmps68
 go_wp2_with fail
 refine HB.out.mono ?_;rintro e w' ⟨rfl,rfl⟩
 go_wp2_with fail
 refine HC.out.mono ?_;rintro e w2 ⟨n,rfl,hp⟩;go_wp2;go_ret;exact⟨n,rfl,hp⟩
end
section
open Go.RowKit
abbrev Mem:=Nat->TypeId->Array Value->Prop
def BD (D:Nat->Prop) (w:World):Mem:=fun b t c=>D b/\Blk w b t c
abbrev pt (b:Nat):Value:=.pointer (some ⟨b,0,none⟩)
def rowM (M:Mem) (e:TypeId) (v:Value) (xs:List Value):Prop:=
 (v=.slice none 0 0/\xs=[])\/∃ g cap cur,v=.slice (some ⟨g,0,none⟩) xs.length cap/\M g e cur/\xs.length<=cap/\cap<=maxLen/\cur.size=cap * 1/\cur.toList.take (xs.length * 1)=xs
theorem rowM_mono {M M':Mem} (h:∀ b t c,M b t c->M' b t c) {e:TypeId} {v:Value} {xs:List Value} (hr:rowM M e v xs):rowM M' e v xs:=by
 rcases hr with hr|⟨g,cap,cur,h1,h2,h3⟩
 ·exact .inl hr
 ·exact .inr ⟨g,cap,cur,h1,h _ _ _ h2,h3⟩
theorem rowM.row {D:Nat->Prop} {w:World} {e:TypeId} {v:Value} {xs:List Value} (h:rowM (BD D w) e v xs):w.ownsRow 0 e 1 v xs.length xs:=by
 rcases h with⟨rfl,rfl⟩|⟨g,cap,cur,rfl,h2,h3,h4,h5,h6⟩
 ·exact World.ownsRow_nil _ _ _ _
 ·exact⟨by simp,.inr ⟨g,cap,cur,rfl,Nat.zero_le _,h2.2,h3,h4,h5,h6⟩⟩
theorem rowM.of {D:Nat->Prop} {w:World} {e:TypeId} {v:Value} {xs:List Value} (h:w.ownsRow 0 e 1 v xs.length xs) (hd:∀ b,own v b->D b):rowM (BD D w) e v xs:=by
 rcases h.2 with⟨rfl,h0⟩|⟨g,cap,cur,rfl,_,hg,h3,h4,h5,h6⟩
 ·exact .inl ⟨rfl,List.length_eq_zero_iff.1 h0⟩
 ·exact .inr ⟨g,cap,cur,rfl,⟨hd g (by simp[own,Value.ownBlock]),hg⟩,h3,h4,h5,h6⟩
theorem rowM.lt {D:Nat->Prop} {w:World} {e:TypeId} {v:Value} {xs:List Value} (h:rowM (BD D w) e v xs):∀ b,own v b->b < w.heap.size:=fun _ hb=>own_lt h.row hb
def cap1 (M:Mem) (fn:Nat) (t:TypeId) (f:Nat) (act:Value):Prop:=∃ b,act=.func (.func fn) #[] #[pt b]/\M b t #[.func (.func f) #[] #[]]
def capRe (M:Mem) (n:Nat) (ps:List Nat) (act:Value):Prop:=∃ cb b pv,act=.func (.func 151) #[] #[pt cb,pt b]/\M cb 3 #[.int .i64 n]/\M b 34 #[pv]/\rowM M 3 pv (placesV ps)
theorem cap1_mono {M M':Mem} (h:∀ b t c,M b t c->M' b t c) {fn:Nat} {t:TypeId} {f:Nat} {act:Value} (hr:cap1 M fn t f act):cap1 M' fn t f act:=by
 obtain⟨b,h1,h2⟩:=hr;exact⟨b,h1,h _ _ _ h2⟩
theorem capRe_mono {M M':Mem} (h:∀ b t c,M b t c->M' b t c) {n:Nat} {ps:List Nat} {act:Value} (hr:capRe M n ps act):capRe M' n ps act:=by
 obtain⟨cb,b,pv,h1,h2,h3,h4⟩:=hr;exact⟨cb,b,pv,h1,h _ _ _ h2,h _ _ _ h3,rowM_mono h h4⟩
def plainR (M:Mem) (j:Nat) (act:Value):Prop:=
 match j with
 | 0=>cap1 M 148 150 99 act
 | 1=>cap1 M 148 150 100 act
 | 2=>cap1 M 148 150 101 act
 | 3=>cap1 M 150 150 103 act
 | 4=>cap1 M 150 150 104 act
 | 5=>cap1 M 148 150 105 act
 | 6=>cap1 M 148 150 107 act
 | 7=>capRe M 1 [0,0] act
 | 8=>capRe M 1 [] act
 | 9=>capRe M 2 [1,0] act
 | 10=>capRe M 2 [0,1,0] act
 | 11=>capRe M 3 [1,2,0] act
 | 12=>cap1 M 152 154 110 act
 | 13=>cap1 M 152 154 111 act
 | 14=>act=.func (.func 112) #[] #[]
 | 15=>act=.func (.func 113) #[] #[]
 | _=>False
theorem plainR_mono {M M':Mem} (h:∀ b t c,M b t c->M' b t c) {j:Nat} {act:Value} (hr:plainR M j act):plainR M' j act:=by
 unfold plainR at hr ⊢
 split at hr
 ·exact cap1_mono h hr
 ·exact cap1_mono h hr
 ·exact cap1_mono h hr
 ·exact cap1_mono h hr
 ·exact cap1_mono h hr
 ·exact cap1_mono h hr
 ·exact cap1_mono h hr
 ·exact capRe_mono h hr
 ·exact capRe_mono h hr
 ·exact capRe_mono h hr
 ·exact capRe_mono h hr
 ·exact capRe_mono h hr
 ·exact cap1_mono h hr
 ·exact cap1_mono h hr
 ·exact hr
 ·exact hr
 ·exact hr
theorem ent_cmp:Ents 148:=ents_of Tryz.func148 (by kernel_rfl) (by kernel_rfl)
theorem ent_dvd:Ents 150:=ents_of Tryz.func150 (by kernel_rfl) (by kernel_rfl)
theorem ent_rea:Ents 151:=ents_of Tryz.func151 (by kernel_rfl) (by kernel_rfl)
theorem ent_shw:Ents 152:=ents_of Tryz.func152 (by kernel_rfl) (by kernel_rfl)
theorem ent_fet:Ents 112:=ents_of Tryz.func112 (by kernel_rfl) (by kernel_rfl)
theorem ent_sto:Ents 113:=ents_of Tryz.func113 (by kernel_rfl) (by kernel_rfl)
theorem mkFunc (fn:Fn) (first cap:Array Value) (w:World):(Instr.makeFunc fn first cap).run Tryz.prog w=.ok (.func fn first cap) w:=rfl
theorem Blk.new1 (w:World) (o:Obj) (c:Array Value) (t:TypeId):Blk ((w.alloc o).alloc (.cells c t)) (w.heap.size+1) t c:=by
 have:=Blk.new (w.alloc o) c t;rw[World.size_alloc] at this;exact this
theorem Blk.new2 (w:World) (o o':Obj) (c:Array Value) (t:TypeId):Blk (((w.alloc o).alloc o').alloc (.cells c t)) (w.heap.size+1+1) t c:=by
 have:=Blk.new ((w.alloc o).alloc o') c t;rw[World.size_alloc,World.size_alloc] at this;exact this
theorem re_under (w:World) (xb rb cb pb:Nat) (m:MS) (ns:List Int) (n:Nat) (h:MInv w xb rb m ns) (hc:Blk w cb 3 #[.int .i64 n]) (hl:ns.length < n) (hn:n<=3):
  Calls Tryz.prog 151 #[.pointer (some ⟨rb,0,none⟩),.pointer (some ⟨cb,0,none⟩),.pointer (some ⟨pb,0,none⟩)] w fun e w'=>e=.returned (.int .i64 6)/\MPost w w' xb rb m ⟨6,[],m.mem,m.out⟩:=by
 have c0:w.cell? ⟨cb,0,none⟩=some (.int .i64 n):=hc.cell rfl;go_enter Tryz.func151,Tryz.ntmps151
 go_wp2_with fail
 refine (takeM_under _ _ _ _ _ _ h (by omega) (by omega)).mono ?_;rintro e w1 ⟨rfl,hk⟩;go_wp2;go_ret;exact⟨rfl,MPost.err (MTo.kp (hk.alloc _)) (h.kp (hk.alloc _)) rfl rfl rfl (by decide)⟩
theorem mk_add (w:World):Calls Tryz.prog 72 #[.int .i64 2] w fun e w'=>∃ act,e=.returned act/\Kp w w' (fun _=>False)/\plainR (BD (fun k=>w.heap.size<=k) w') 0 act:=by
 have hmf:=mkFunc;go_enter Tryz.func72,Tryz.ntmps72;go_wp2;go_ret;exact⟨_,rfl,(Kp.refl _ _).alloc _,_,rfl,Nat.le_refl _,Blk.new w _ _⟩
theorem mk_sub (w:World):Calls Tryz.prog 72 #[.int .i64 3] w fun e w'=>∃ act,e=.returned act/\Kp w w' (fun _=>False)/\plainR (BD (fun k=>w.heap.size<=k) w') 1 act:=by
 have hmf:=mkFunc;go_enter Tryz.func72,Tryz.ntmps72;go_wp2;go_ret;exact⟨_,rfl,(Kp.refl _ _).alloc _,_,rfl,Nat.le_refl _,Blk.new w _ _⟩
theorem mk_mul (w:World):Calls Tryz.prog 72 #[.int .i64 4] w fun e w'=>∃ act,e=.returned act/\Kp w w' (fun _=>False)/\plainR (BD (fun k=>w.heap.size<=k) w') 2 act:=by
 have hmf:=mkFunc;go_enter Tryz.func72,Tryz.ntmps72;go_wp2;go_ret;exact⟨_,rfl,(Kp.refl _ _).alloc _,_,rfl,Nat.le_refl _,Blk.new w _ _⟩
theorem mk_quo (w:World):Calls Tryz.prog 72 #[.int .i64 5] w fun e w'=>∃ act,e=.returned act/\Kp w w' (fun _=>False)/\plainR (BD (fun k=>w.heap.size<=k) w') 3 act:=by
 have hmf:=mkFunc;go_enter Tryz.func72,Tryz.ntmps72;go_wp2;go_ret;exact⟨_,rfl,(Kp.refl _ _).alloc _,_,rfl,Nat.le_refl _,Blk.new w _ _⟩
theorem mk_mod (w:World):Calls Tryz.prog 72 #[.int .i64 6] w fun e w'=>∃ act,e=.returned act/\Kp w w' (fun _=>False)/\plainR (BD (fun k=>w.heap.size<=k) w') 4 act:=by
 have hmf:=mkFunc;go_enter Tryz.func72,Tryz.ntmps72;go_wp2;go_ret;exact⟨_,rfl,(Kp.refl _ _).alloc _,_,rfl,Nat.le_refl _,Blk.new w _ _⟩
theorem mk_eq (w:World):Calls Tryz.prog 72 #[.int .i64 7] w fun e w'=>∃ act,e=.returned act/\Kp w w' (fun _=>False)/\plainR (BD (fun k=>w.heap.size<=k) w') 5 act:=by
 have hmf:=mkFunc;go_enter Tryz.func72,Tryz.ntmps72;go_wp2;go_ret;exact⟨_,rfl,(Kp.refl _ _).alloc _,_,rfl,Nat.le_refl _,Blk.new w _ _⟩
theorem mk_lt (w:World):Calls Tryz.prog 72 #[.int .i64 8] w fun e w'=>∃ act,e=.returned act/\Kp w w' (fun _=>False)/\plainR (BD (fun k=>w.heap.size<=k) w') 6 act:=by
 have hmf:=mkFunc;go_enter Tryz.func72,Tryz.ntmps72;go_wp2;go_ret;exact⟨_,rfl,(Kp.refl _ _).alloc _,_,rfl,Nat.le_refl _,Blk.new w _ _⟩
theorem mk_dup (w:World):Calls Tryz.prog 72 #[.int .i64 9] w fun e w'=>∃ act,e=.returned act/\Kp w w' (fun _=>False)/\plainR (BD (fun k=>w.heap.size<=k) w') 7 act:=by
 have hmf:=mkFunc;go_enter Tryz.func72,Tryz.ntmps72;go_wp2;go_ret;have hr0:Blk (((w.alloc (.cells (placesV [0,0]).toArray 3)).alloc (.cells #[.int .i64 ((1:Nat):Int)] 3)).alloc (.cells #[.slice (some ⟨w.heap.size,0,none⟩) 2 2] 34)) w.heap.size 3 (placesV [0,0]).toArray:=((Blk.new w _ _).alloc _).alloc _;exact⟨_,rfl,(((Kp.refl _ _).alloc _).alloc _).alloc _,_,_,_,rfl,⟨Nat.le_succ _,by exact (Blk.new1 w _ _ _).alloc _⟩,⟨Nat.le_trans (Nat.le_succ _) (Nat.le_succ _),by exact Blk.new2 w _ _ _ _⟩,.inr ⟨w.heap.size,2,(placesV [0,0]).toArray,rfl,⟨Nat.le_refl _,hr0⟩,Nat.le_refl _,by decide,rfl,by simp[placesV]⟩⟩
theorem mk_drop (w:World):Calls Tryz.prog 72 #[.int .i64 10] w fun e w'=>∃ act,e=.returned act/\Kp w w' (fun _=>False)/\plainR (BD (fun k=>w.heap.size<=k) w') 8 act:=by
 have hmf:=mkFunc;go_enter Tryz.func72,Tryz.ntmps72;go_wp2;go_ret;exact⟨_,rfl,((Kp.refl _ _).alloc _).alloc _,_,_,_,rfl,⟨Nat.le_refl _,(Blk.new w _ _).alloc _⟩,⟨Nat.le_succ _,Blk.new1 w _ _ _⟩,.inl ⟨rfl,rfl⟩⟩
theorem mk_swap (w:World):Calls Tryz.prog 72 #[.int .i64 11] w fun e w'=>∃ act,e=.returned act/\Kp w w' (fun _=>False)/\plainR (BD (fun k=>w.heap.size<=k) w') 9 act:=by
 have hmf:=mkFunc;go_enter Tryz.func72,Tryz.ntmps72;go_wp2;go_ret;have hr0:Blk (((w.alloc (.cells (placesV [1,0]).toArray 3)).alloc (.cells #[.int .i64 ((2:Nat):Int)] 3)).alloc (.cells #[.slice (some ⟨w.heap.size,0,none⟩) 2 2] 34)) w.heap.size 3 (placesV [1,0]).toArray:=((Blk.new w _ _).alloc _).alloc _;exact⟨_,rfl,(((Kp.refl _ _).alloc _).alloc _).alloc _,_,_,_,rfl,⟨Nat.le_succ _,by exact (Blk.new1 w _ _ _).alloc _⟩,⟨Nat.le_trans (Nat.le_succ _) (Nat.le_succ _),by exact Blk.new2 w _ _ _ _⟩,.inr ⟨w.heap.size,2,(placesV [1,0]).toArray,rfl,⟨Nat.le_refl _,hr0⟩,Nat.le_refl _,by decide,rfl,by simp[placesV]⟩⟩
theorem mk_over (w:World):Calls Tryz.prog 72 #[.int .i64 12] w fun e w'=>∃ act,e=.returned act/\Kp w w' (fun _=>False)/\plainR (BD (fun k=>w.heap.size<=k) w') 10 act:=by
 have hmf:=mkFunc;go_enter Tryz.func72,Tryz.ntmps72;go_wp2;go_ret;have hr0:Blk (((w.alloc (.cells (placesV [0,1,0]).toArray 3)).alloc (.cells #[.int .i64 ((2:Nat):Int)] 3)).alloc (.cells #[.slice (some ⟨w.heap.size,0,none⟩) 3 3] 34)) w.heap.size 3 (placesV [0,1,0]).toArray:=((Blk.new w _ _).alloc _).alloc _;exact⟨_,rfl,(((Kp.refl _ _).alloc _).alloc _).alloc _,_,_,_,rfl,⟨Nat.le_succ _,by exact (Blk.new1 w _ _ _).alloc _⟩,⟨Nat.le_trans (Nat.le_succ _) (Nat.le_succ _),by exact Blk.new2 w _ _ _ _⟩,.inr ⟨w.heap.size,3,(placesV [0,1,0]).toArray,rfl,⟨Nat.le_refl _,hr0⟩,Nat.le_refl _,by decide,rfl,by simp[placesV]⟩⟩
theorem mk_rot (w:World):Calls Tryz.prog 72 #[.int .i64 13] w fun e w'=>∃ act,e=.returned act/\Kp w w' (fun _=>False)/\plainR (BD (fun k=>w.heap.size<=k) w') 11 act:=by
 have hmf:=mkFunc;go_enter Tryz.func72,Tryz.ntmps72;go_wp2;go_ret;have hr0:Blk (((w.alloc (.cells (placesV [1,2,0]).toArray 3)).alloc (.cells #[.int .i64 ((3:Nat):Int)] 3)).alloc (.cells #[.slice (some ⟨w.heap.size,0,none⟩) 3 3] 34)) w.heap.size 3 (placesV [1,2,0]).toArray:=((Blk.new w _ _).alloc _).alloc _;exact⟨_,rfl,(((Kp.refl _ _).alloc _).alloc _).alloc _,_,_,_,rfl,⟨Nat.le_succ _,by exact (Blk.new1 w _ _ _).alloc _⟩,⟨Nat.le_trans (Nat.le_succ _) (Nat.le_succ _),by exact Blk.new2 w _ _ _ _⟩,.inr ⟨w.heap.size,3,(placesV [1,2,0]).toArray,rfl,⟨Nat.le_refl _,hr0⟩,Nat.le_refl _,by decide,rfl,by simp[placesV]⟩⟩
theorem mk_dot (w:World):Calls Tryz.prog 72 #[.int .i64 14] w fun e w'=>∃ act,e=.returned act/\Kp w w' (fun _=>False)/\plainR (BD (fun k=>w.heap.size<=k) w') 12 act:=by
 have hmf:=mkFunc;go_enter Tryz.func72,Tryz.ntmps72;go_wp2;go_ret;exact⟨_,rfl,(Kp.refl _ _).alloc _,_,rfl,Nat.le_refl _,Blk.new w _ _⟩
theorem mk_emit (w:World):Calls Tryz.prog 72 #[.int .i64 15] w fun e w'=>∃ act,e=.returned act/\Kp w w' (fun _=>False)/\plainR (BD (fun k=>w.heap.size<=k) w') 13 act:=by
 have hmf:=mkFunc;go_enter Tryz.func72,Tryz.ntmps72;go_wp2;go_ret;exact⟨_,rfl,(Kp.refl _ _).alloc _,_,rfl,Nat.le_refl _,Blk.new w _ _⟩
theorem mk_fetch (w:World):Calls Tryz.prog 72 #[.int .i64 16] w fun e w'=>∃ act,e=.returned act/\Kp w w' (fun _=>False)/\plainR (BD (fun k=>w.heap.size<=k) w') 14 act:=by
 have hmf:=mkFunc;go_enter Tryz.func72,Tryz.ntmps72;go_wp2;go_ret;exact⟨_,rfl,Kp.refl _ _,rfl⟩
theorem mk_store (w:World):Calls Tryz.prog 72 #[.int .i64 17] w fun e w'=>∃ act,e=.returned act/\Kp w w' (fun _=>False)/\plainR (BD (fun k=>w.heap.size<=k) w') 15 act:=by
 have hmf:=mkFunc;go_enter Tryz.func72,Tryz.ntmps72;go_wp2;go_ret;exact⟨_,rfl,Kp.refl _ _,rfl⟩
theorem mkPlain (j:Nat) (hj:j < 16) (K:Int) (hK:K=(j:Int)+2) (w:World):Calls Tryz.prog 72 #[.int .i64 K] w fun e w'=>∃ act,e=.returned act/\Kp w w' (fun _=>False)/\plainR (BD (fun k=>w.heap.size<=k) w') j act:=by
 subst hK;have:j=0\/j=1\/j=2\/j=3\/j=4\/j=5\/j=6\/j=7\/j=8\/j=9\/j=10\/j=11\/j=12\/j=13\/j=14\/j=15:=by omega
 rcases this with rfl|rfl|rfl|rfl|rfl|rfl|rfl|rfl|rfl|rfl|rfl|rfl|rfl|rfl|rfl|rfl
 ·exact mk_add w
 ·exact mk_sub w
 ·exact mk_mul w
 ·exact mk_quo w
 ·exact mk_mod w
 ·exact mk_eq w
 ·exact mk_lt w
 ·exact mk_dup w
 ·exact mk_drop w
 ·exact mk_swap w
 ·exact mk_over w
 ·exact mk_rot w
 ·exact mk_dot w
 ·exact mk_emit w
 ·exact mk_fetch w
 ·exact mk_store w
end
end Go.Proofs.YteainaiebcphlaaGreatDoor
