import Derived.Test.YteainaiebcphlaaGreatDoorQ28
import Derived.Test.YteainaiebcphlaaGreatDoorQ19
import Derived.Handy
namespace Go.Proofs.YteainaiebcphlaaGreatDoor
set_option maxRecDepth 1000000
set_option maxHeartbeats 4000000
set_option linter.all false
open Go.Proofs.Tryz
section
open Go.RowKit
def bG (s:St):St × Int × Int:=if s.step.e=0 then match s.step.rs with
 | b::m::r=>({s.step with rs:=r},m,b)
 | _=>(s.step.err 6,0,0) else(s.step,0,0)
section
variable {B:Nat}{W w:World}{xb rb mb fb:Nat}{m:MS}{D:GD}{s:St}{lv:Value}{lp:List Int}
theorem MM (h:PR B W w xb rb mb m D s)(he:s.e=0):
  Calls prog 227 #[pt rb] w λe w'=>e=.returned (.tuple #[.int .i64 (bG s).2.1,.int .i64 (bG s).2.2,.int .i64 (bG s).1.e])/\bu B W xb rb mb w m D (bG s).1 w':=by
 obtain⟨ns,hi,hns⟩:=h.inv;have hns:=hns he;subst hns;have N9:=h.good.step he;by_cases hf:m.st<2000
 ·have hst:s.steps<2000:=by rw[<-h.st he];exact hf
  have hs:=St.nH hst;have eX:s.step.e=0:=by rw[hs];exact he
  have hur:∀(q:s.rs.length<2),bG s=(s.step.err 6,0,0)->Calls prog 227 #[pt rb] w λe w'=>e=.returned (.tuple #[.int .i64 (bG s).2.1,.int .i64 (bG s).2.2,.int .i64 (bG s).1.e])/\bu B W xb rb mb w m D (bG s).1 w':=by
   intro q HT;rw[HT];have hg:=N9.err (k:=6) (by decide);refine yL w rb 0 0 0 6 _ ((uZ w xb rb m _ 2 hi h.st0 hf (by simp;omega) (by decide)).mono ?_);rintro e w' ⟨rfl,hi',ht'⟩;refine⟨rfl,λw2 hk=>bu.after ⟨_,D,h.turn ht' rfl ⟨_,hi',(λh=>by cases h)⟩ (by rw[hs];exact h.mem) (by rw[hs];exact h.out) (by have:=h.st0;show 0<=m.st+1;omega) (by show m.st+1<=2000;omega) (λh=>by cases h) (by rw[hs];exact h.dp) (by rw[hs];exact⟨rfl,rfl,rfl,rfl⟩) hg⟩ hk⟩
  cases hrs:s.rs with
  | nil=>exact hur (by rw[hrs];decide) (by unfold bG;rw[ag eX,show s.step.rs=[] by rw[hs];exact hrs])
  | cons b r1=>
   cases hr1:r1 with
   | nil=>exact hur (by rw[hrs,hr1];simp) (by unfold bG;rw[ag eX,show s.step.rs=[b] by rw[hs,<-hr1];exact hrs])
   | cons a r=>
    have MO:s.rs=b::a::r:=by rw[hrs,hr1]
    have HT:bG s=({s.step with rs:=r},a,b):=by unfold bG;rw[ag eX,show s.step.rs=b::a::r by rw[hs];exact MO]
    have hg:cC {s.step with rs:=r}:=N9.tail (λx hx=>by rw[hs];show x∈s.rs;rw[MO];simp[hx]) (by rw[hs];show r.length<=s.rs.length;rw[MO];simp;omega);rw[HT];rw[MO] at hi;rw[show({s.step with rs:=r}:St).e=0 from eX];refine yL w rb a b 0 0 _ ((VR w xb rb m b a r hi h.st0 hf).mono ?_);rintro e w' ⟨v',rfl,hi',ht'⟩;refine⟨rfl,λw2 hk=>bu.after ⟨_,D,h.turn ht' rfl ⟨_,hi',λ_=>rfl⟩ (by rw[hs];exact h.mem) (by rw[hs];exact h.out) (by have:=h.st0;show 0<=m.st+1;omega) (by show m.st+1<=2000;omega) (λ_=>by rw[hs];show m.st+1=s.steps+1;rw[h.st he]) (by rw[hs];exact h.dp) (by rw[hs];exact⟨rfl,rfl,rfl,rfl⟩) hg⟩ hk⟩
 ·obtain⟨h1,h2⟩:=h.fuel he hf;have HT:bG s=(s.step,0,0):=by unfold bG;rw[af (by rw[h2];decide)]
  rw[HT,h2];refine yL w rb 0 0 0 12 _ ((Ds w xb rb m _ 2 hi hf).mono ?_);rintro e w' ⟨rfl,hk'⟩;exact⟨rfl,λw2 hk=>bu.after ⟨m,D,(h1.kp hk').1,(h1.kp hk').2⟩ hk⟩
theorem Js {w2 w3:World}{g5 jo:Nat}{bo:Option Addr}{oa:Nat}(h:PR B W w2 xb rb mb m D s)(hf:lY B w2 fb rb m D (.slice bo lp.length oa) 0 lp){n:Int}(hk:Kp w2 w3 (λk=>own (.slice bo lp.length oa) k))(hown:w3.ownsRow 0 2 1 (.slice (some ⟨g5,0,none⟩) (lp.length+1) jo) (lp.length+1) (bD lp.reverse++[.int .i64 n]))(hkeep:w3.ownsRow 0 2 1 (.slice bo lp.length oa) lp.length (bD lp.reverse))
  (hnx:∀k,own (.slice (some ⟨g5,0,none⟩) (lp.length+1) jo) k->own (.slice bo lp.length oa) k\/w2.heap.size+1<=k) (n':Int) (hn':In n') (e:n'=n:=by rfl):
  PR B W (w3.setCell ⟨fb,1,none⟩ (.slice (some ⟨g5,0,none⟩) (lp.length+1) jo)) xb rb mb m D s/\lY B (w3.setCell ⟨fb,1,none⟩ (.slice (some ⟨g5,0,none⟩) (lp.length+1) jo)) fb rb m D (.slice (some ⟨g5,0,none⟩) (lp.length+1) jo) 0 (n::lp) /\
   Kp w2 (w3.setCell ⟨fb,1,none⟩ (.slice (some ⟨g5,0,none⟩) (lp.length+1) jo)) (λk=>own (.slice bo lp.length oa) k\/k=fb)/\(w3.setCell ⟨fb,1,none⟩ (.slice (some ⟨g5,0,none⟩) (lp.length+1) jo)).ownsRow 0 2 1 (.slice bo lp.length oa) lp.length (bD lp.reverse):=by
 subst e;obtain⟨n1,n2,n3,n4,n5,n6,n7⟩:=hf.ne h;have Jt:aC w3 fb 247 #[pt rb,.slice bo lp.length oa,.int .i64 0]:=hk.blk hf.blk n7;have hfl:=hf.blk.lt;have hk4:Kp w2 (w3.setCell ⟨fb,1,none⟩ (.slice (some ⟨g5,0,none⟩) (lp.length+1) jo)) (λk=>own (.slice bo lp.length oa) k\/k=fb):=(hk.mono (λ_ _ e=>.inl e)).set (a:=⟨fb,1,none⟩) (λ_=>.inr rfl) _;have nv:¬own (.slice (some ⟨g5,0,none⟩) (lp.length+1) jo) fb:=λe=>by
  rcases hnx _ e with e|e
  ·exact n7 e
  ·omega
 have hbs:=h.safe.bs;have hr4:=h.other hk4 (by rintro (e|e);exact(hf.Ga h e).1 rfl;exact n1 e.symm) (by rintro (e|e);exact(hf.Ga h e).2.1 rfl;exact n2 e.symm) (by rintro (e|e);exact(hf.Ga h e).2.2.1 rfl;exact n3 e.symm) (by rintro (e|e);exact(hf.Ga h e).2.2.2.1 rfl;exact n4 e.symm)
  (λk hk=>by rintro (e|e);exact(hf.Ga h e).2.2.2.2.1 hk;exact n5 (e▸hk)) (λk hk=>by rintro (e|e);exact(hf.Ga h e).2.2.2.2.2 hk;exact n6 (e▸hk)) (λk hk=>by rintro (e|e);exact hf.nl k e hk;exact hf.nd (e▸hk)) (λk hk=>by rintro (e|e);exact hf.KS k e hk;exact hf.nu (e▸hk)) (λk hk=>by rintro (e|e);have:=hf.bl k e;omega;have:=hf.bf;omega)
 refine⟨hr4,⟨Jt.set 1 _,?_,?_,λk hk2=>?_,hf.nd,λk hk2 hd=>?_,hf.nu,λk hk2 hd=>?_,hf.bf,λk hk2=>?_⟩,hk4,ownsRow_setCell_other (a:=⟨fb,1,none⟩) hkeep (λe=>n7 e) _⟩
 ·have:=ownsRow_setCell_other (a:=⟨fb,1,none⟩) hown nv (.slice (some ⟨g5,0,none⟩) (lp.length+1) jo)
  simpa [bD] using this
 ·intro x hx;rcases List.mem_cons.1 hx with e|e
  ·rw[e];exact hn'
  ·exact hf.ins x e
 ·rcases hnx k hk2 with e|e
  ·exact(hf.Ga h e).2.2.2.2.1
  ·intro e2;obtain⟨ns,hi,_⟩:=h.inv;have:=bw hi.dc e2;omega
 ·rcases hnx k hk2 with e|e
  ·exact hf.nl k e hd
  ·have:=(h.sep k hd).1;omega
 ·rcases hnx k hk2 with e|e
  ·exact hf.KS k e hd
  ·have:=h.ult hd;omega
 ·rcases hnx k hk2 with e|e
  ·exact hf.bl k e
  ·omega
theorem Kw {w2 w4 w5:World}{m1 m5:MS}{D1 D5:GD}{s1 s':St}{g5 jo:Nat}{bo:Option Addr}{oa:Nat}{n:Int}(h2:PR B W w2 xb rb mb m1 D1 s1)(hf2:lY B w2 fb rb m1 D1 (.slice bo lp.length oa) 0 lp)(ht2:FT xb rb mb fb w w2 m m1 D D1 (.slice bo lp.length oa) (.slice bo lp.length oa))
  (_h4:PR B W w4 xb rb mb m1 D1 s1) (wG:lY B w4 fb rb m1 D1 (.slice (some ⟨g5,0,none⟩) (lp.length+1) jo) 0 (n::lp)) (hk:Kp w2 w4 (λk=>own (.slice bo lp.length oa) k\/k=fb)) (aJ:w4.ownsRow 0 2 1 (.slice bo lp.length oa) lp.length (bD lp.reverse))
  (hnx:∀k,own (.slice (some ⟨g5,0,none⟩) (lp.length+1) jo) k->own (.slice bo lp.length oa) k\/w2.heap.size+1<=k)
  (h5:PR B W w5 xb rb mb m5 D5 s') (yA:lY B w5 fb rb m5 D5 (.slice (some ⟨g5,0,none⟩) (lp.length+1) jo) s'.e (n::lp)) (sU:FT xb rb mb fb w4 w5 m1 m5 D1 D5 (.slice (some ⟨g5,0,none⟩) (lp.length+1) jo) (.slice (some ⟨g5,0,none⟩) (lp.length+1) jo)):
  kJ B W xb rb mb fb w m D (.slice bo lp.length oa) lp s' (w5.setCell ⟨fb,1,none⟩ (.slice bo lp.length oa)):=by
 obtain⟨n1,n2,n3,n4,n5,n6,n7⟩:=yA.ne h5;obtain⟨_,_,_,_,_,_,n72⟩:=hf2.ne h2;have ae8:=hk.size;have Wd:=sU.wt.kp.size;have LK:∀k,own (.slice bo lp.length oa) k->k<w2.heap.size:=λk e=>bw hf2.row e;have xA:w5.ownsRow 0 2 1 (.slice bo lp.length oa) lp.length (bD lp.reverse):=by
  rcases aJ.2 with⟨hv,h0⟩|⟨g,cap,cur,hv,hb,hg,q1,q2,q3,q4⟩
  ·exact⟨aJ.1,.inl ⟨hv,h0⟩⟩
  ·have hog:own (.slice bo lp.length oa) g:=by rw[hv];simp[own,Value.ownBlock]
   by_cases Oe:g=g5
   ·subst Oe;rcases wG.row.2 with⟨hv4,_⟩|⟨g',cap',cur',hv4,_,hg4,_,_,q34,_⟩
    ·cases hv4
    ·injection hv4 with a1 _ a3;injection a1 with a1;injection a1 with a1;subst a1 a3;have hcc:jo=cap:=by
      have:cur=cur':=(aC.inj (show aC w4 g 2 cur from hg) (show aC w4 g 2 cur' from hg4)).2;rw[this,q34] at q3;omega
     rcases yA.row.2 with⟨rI,_⟩|⟨g'',acH,Ju,rI,_,aas,_,_,q35,q45⟩
     ·cases rI
     ·injection rI with b1 _ b3;injection b1 with b1;injection b1 with b1;subst b1 b3;refine⟨aJ.1,.inr ⟨g,cap,Ju,hv,Nat.zero_le _,aas,q1,q2,by rw[q35,hcc],?_⟩⟩;have hcut:Ju.toList.take (lp.length*1)=(Ju.toList.take ((n::lp).length*1)).take (lp.length*1):=by rw[List.take_take];congr 1;simp
      rw[hcut,q45];simp[bD]
   ·have XQ:¬own (.slice (some ⟨g5,0,none⟩) (lp.length+1) jo) g:=by simp[own,Value.ownBlock];exact λe=>Oe e.symm
    obtain⟨l1,l2,l3,l4,l5,l6⟩:=hf2.Ga h2 hog;have Gi:aC w5 g 2 cur:=sU.wt.kp.blk (show aC w4 g 2 cur from hg) (by
     rintro ((((e|e)|e)|e)|(((e|e)|e)|e))
     ·exact l1 e
     ·exact l2 e
     ·exact l3 e
     ·subst e;exact n72 hog
     ·exact l5 e
     ·exact l6 e
     ·exact hf2.KS g hog e
     ·exact XQ e)
    exact⟨aJ.1,.inr ⟨g,cap,cur,hv,hb,Gi,q1,q2,q3,q4⟩⟩
 have VZ:=Kp.one w5 fb 1 (.slice bo lp.length oa);have hr6:=h5.other VZ n1.symm n2.symm n3.symm n4.symm (λk hk e=>n5 (e▸hk)) (λk hk e=>n6 (e▸hk)) (λk hk e=>yA.nd (e▸hk)) (λk hk e=>yA.nu (e▸hk)) (λk hk e=>by have:=yA.bf;omega);have l2n:∀k,own (.slice bo lp.length oa) k->¬own m5.sv k/\¬D5.d k/\¬D5.u k:=by
  intro k e;have hlt:=LK k e;obtain⟨l1,l2,l3,l4,l5,l6⟩:=hf2.Ga h2 e;refine⟨?_,?_,?_⟩
  ·intro e5;rcases sU.wt.nx k (.inl (.inl (.inl e5))) with (((c|c)|c)|c)|c
   ·exact l5 c
   ·exact l6 c
   ·exact hf2.KS k e c
   ·exact yA.sep k c e5
   ·omega
  ·intro e5;rcases sU.nw k e5 with c|c
   ·exact hf2.nl k e c
   ·omega
  ·intro e5;rcases sU.wt.nx k (.inl (.inr e5)) with (((c|c)|c)|c)|c
   ·exact l5 c
   ·exact l6 c
   ·exact hf2.KS k e c
   ·exact yA.KS k c e5
   ·omega
 refine⟨m5,D5,.slice bo lp.length oa,hr6,⟨yA.blk.set 1 _,ownsRow_setCell_other (a:=⟨fb,1,none⟩) xA n72 _,hf2.ins,λk e=>(l2n k e).1,yA.nd,λk e=>(l2n k e).2.1,yA.nu,λk e=>(l2n k e).2.2,yA.bf,hf2.bl⟩,ht2.trans ⟨⟨?_,λk e=>?_⟩,sU.up,λk e=>?_,sU.rg,sU.bk,rfl,sU.jj⟩⟩
 ·have k1:Kp w2 w4 (λk=>(((k=xb\/k=rb)\/k=mb)\/k=fb)\/(((own m1.sv k\/own m1.ov k)\/D1.u k)\/own (.slice bo lp.length oa) k)):=hk.mono (λk _ e=>by rcases e with e|e;exact .inr (.inr e);exact .inl (.inr e));refine⟨sU.wt.kp.os.trans k1.os,sU.wt.kp.tape.trans k1.tape,sU.wt.kp.output.trans k1.output,by have:=VZ.size;omega,λk hlt hnn=>?_⟩;have a1:=k1.block k hlt hnn;have a2:=sU.wt.kp.block k (by omega) (λe=>hnn (by
   rcases e with e|(e|e)
   ·exact .inl e
   ·exact .inr (.inl e)
   ·rcases hnx k e with c|c
    ·exact .inr (.inr c)
    ·omega))
  have a3:=VZ.block k (by omega) (λe=>hnn (.inl (.inr e)));exact a3.trans (a2.trans a1)
 ·rcases e with e|e
  ·rcases sU.wt.nx k (.inl e) with (c|c)|c
   ·exact .inl (.inl c)
   ·rcases hnx k c with c|c
    ·exact .inl (.inr c)
    ·exact .inr (by omega)
   ·exact .inr (by omega)
  ·exact .inl (.inr e)
 ·rcases sU.nw k e with c|c
  ·exact .inl c
  ·exact .inr (by omega)
theorem Rn (g:Nat)(lp lq:List Int)(hpq:PQ lp lq)(hB:QB B W g)(h:PR B W w xb rb mb m D s)(he:s.e=0)(hf:lY B w fb rb m D lv 0 lq)(hlp:(lq.length:Int)<=s.steps)(f:Fr)(ob:Nat)(va:Value)(la:List It)(n:Int)(hn:In n)(hok:KU (n::lp) la)(ha:cQ (BD D.d w) D.r m.bk ob va la)(hW:D.r ob f)(s':St)(left:Bool)
  (hx:(if s.step.e≠0 then some (s.step,true) else aI g (bZ f (n::lp) la) s.step)=some (s',left)):
  Calls prog 228 #[pt fb,.int .i64 n,va] w λe w'=>e=.returned (.int .i64 (sig left))/\kJ B W xb rb mb fb w m D lv lq s' w':=by
 have lI:=bV;obtain⟨ao,MK,rfl⟩:=ha.form;have c0:w.cell? ⟨fb,0,none⟩=some (pt rb):=hf.blk.cell rfl;have HS:Hid (∀w0,Kp w w0 (λ_=>False)->Calls prog 68 #[pt rb,.func (.func 231) #[] #[]] w0 λe w'=>e=.returned (.int .i64 s.step.e)/\bu B W xb rb mb w m D s.step w'):=by
  intro w0 hk;obtain⟨h0,t0⟩:=h.kp hk;refine(ve h0 he (.func (.func 231) #[] #[]) s.step s.step (by split <;> rfl) (λe w1 m1 p1 t1=>Az p1 e)).mono ?_
  rintro e w' ⟨rfl,hp⟩;exact⟨rfl,hp.step t0⟩
 have HF:Hid (∀w1,bu B W xb rb mb w m D s.step w1->kJ B W xb rb mb fb w m D lv lq s.step (w1.setCell ⟨fb,2,none⟩ (.int .i64 s.step.e))/\(∃y,aC w1 fb 247 #[pt rb,lv,.int .i64 y])):=λw1 hp=>kJ.Cr h hf hp;go_enter func228,ntmps228
 go_wp2_with fail
 refine(HS.out _ (Kp.refl _ _)).mono ?_;rintro e w1 ⟨rfl,hp⟩;obtain⟨h1,⟨y,h2⟩⟩:=HF.out w1 hp;have H1:=az h1;clear h1 hp
 go_wp2_with fail
 refine(sB _ fb s.step.e _ _ _ h2).mono ?_;rintro e w2 ⟨rfl,hw2⟩;have hF:=H1.out;rw[<-hw2] at hF;clear hw2 H1 h2 HS HF;obtain⟨m1,D1,gi,hr1,cY,ht1⟩:=hF;have hlv:=ht1.KT;subst hlv;by_cases eX:s.step.e=0
 ·rw[eX,lM];rw[af (by simpa using eX)] at hx;rw[eX] at cY;have kd:=hf.fD h ht1;have Oq:cQ (BD D1.d w2) D1.r m1.bk ob (.slice ao la.length MK) la:=by rw[ht1.bk];exact ha.mono kd ht1.rg
  have hW1:D1.r ob f:=ht1.rg _ _ hW;obtain⟨bo,oa,hvl⟩:=aB cY.row;have d1:w2.cell? ⟨fb,1,none⟩=some gi:=cY.blk.cell rfl;have e1:=cY.blk.free 1;have O2:=az cY;have Ex:=az hr1;have OM:=az ht1;have HX:=az hx;have Lt:=az Oq;have CY:=az hW1;have HB:=az hB;have aau:=az cY.row;have s5:=cY.blk.lt;have hll:(lq.length:Int)<=2000:=by have:=h.good.s2 he;omega
  clear cY hr1 ht1 hx Oq hW1 kd h hf c0 ha hW hB y;subst hvl;obtain⟨i0,hi,hz0,hz1,hz2⟩:=info_parts Tryz.CS;have hrow2:=aau.out
  go_wp2_with (first
   | (at_builtin;refine cW _ rfl _ _ 74 rfl 2 i0 (.int .i64 0) 1 8 underlying74 hi hz0 hz1 hz2 rfl (by decide) _ _ _ rfl (hrow2.alloc _) ⟨w2.heap.size,0,none⟩ 1 1 [.int .i64 n] rfl rfl ?c1 ?c2 ?c3 ?c4 ?_)
   | go_in)
  case c1=>intro j u hj;match j,hj with|0,hj=>simp at hj;subst hj;simp[Addr.add]
  case c2=>intro u hu;simp at hu;subst hu;rfl
  case c3=>unfold maxLen;omega
  case c4=>omega
  intro v' w3 hown' hgrow hnx hkeep hcells;clear hcells;have E6:Kp w2 w3 (λk=>own (.slice bo lq.length oa) k):=((Kp.refl w2 (λk=>own (.slice bo lq.length oa) k)).alloc _).grown hgrow (λb _ e=>e);obtain⟨g5,jo,rfl⟩:∃g5 jo,v'=.slice (some ⟨g5,0,none⟩) (lq.length+1) jo:=by
   rcases hown'.2 with⟨_,h0⟩|⟨g5,jo,_,hv,_⟩
   ·omega
   ·exact⟨g5,jo,hv⟩
  have hRn:=Js Ex.out O2.out E6 hown' hkeep hnx n hn;obtain⟨hr4,wG,Cj,hrow4⟩:=hRn;have Jt:aC w3 fb 247 #[pt rb,.slice bo lq.length oa,.int .i64 0]:=E6.blk O2.out.blk (λe=>ax (aQ O2.out.row e O2.out.blk) (by decide));have d3:w3.cell? ⟨fb,1,none⟩=some (.slice bo lq.length oa):=Jt.cell rfl;have e3:=Jt.free 1;have S9:∀b t c,BD D1.d w2 b t c->BD D1.d (w3.setCell ⟨fb,1,none⟩ (.slice (some ⟨g5,0,none⟩) (lq.length+1) jo)) b t c:=bU Cj (λb _ hb=>⟨hb,λe=>by
   rcases e with e|e
   ·exact O2.out.nl b e hb
   ·exact O2.out.nd (e▸hb)⟩)
  have UK:((n::lq).length:Int)<=s.step.steps:=by rw[s.aO];simp;omega
  have HC:=az (HB.out _ xb rb mb fb m1 D1 s.step s' f (n::lp) (n::lq) _ ob _ la left (hpq.push n) hr4 eX wG UK hok (Lt.out.mono S9 (λ_ _ h=>h)) CY.out HX.out);have We:=az Cj;have Dh:=az hr4;have X3:=az wG;have O3:=az hrow4;have HNX:=az hnx;clear hown' hgrow hkeep E6 hr4 wG Cj hrow4 S9 Jt hrow2 hnx
  go_wp2_with fail
  refine HC.out.mono ?_;rintro e w5 ⟨rfl,m5,D5,lv5,js,yA,sU⟩;have SZ:=sU.KT;subst SZ;have hfin:=Kw Ex.out O2.out OM.out Dh.out X3.out We.out O3.out HNX.out js yA sU;have aav:=az hfin;have d5:w5.cell? ⟨fb,1,none⟩=some (.slice (some ⟨g5,0,none⟩) (lq.length+1) jo):=yA.blk.cell rfl;have e5:=yA.blk.free 1;clear hfin js yA sU HC We Dh X3 O3 HNX Lt CY HX OM Ex O2;go_wp2;go_ret;exact⟨rfl,aav.out⟩
 ·rw[dA (.inr eX)];rw[ag eX] at hx;injection hx with hx;injection hx with q1 q2;have yN:=az q1;have wP:=az q2;have HR:=az hr1;have HF:=az cY;have HT:=az ht1;clear hr1 cY ht1 q1 q2 eX h hf ha hW hB c0;go_wp2;go_ret;rw[<-wP.out,<-yN.out];exact⟨rfl,m1,D1,_,HR.out,HF.out,HT.out⟩
end
structure DAt (B:Nat)(W:World)(g xb rb mb fb:Nat)(w wr:World)(m:MS)(D:GD)(s':St)(f:Fr)(lp lq:List Int)(lv:Value)(la:List It)(left:Bool)(k en:Int):Prop where
 ex:∃g' m1 D1 gi s1,g'<=g/\PR B W wr xb rb mb m1 D1 s1/\s1.e=0/\lY B wr fb rb m1 D1 gi 0 lq/\(lq.length:Int)<=s1.steps/\FT xb rb mb fb w wr m m1 D D1 lv gi/\aI g' (Eb f lp k en la) s1=some (s',left)/\(∀b t c,BD D.d w b t c->BD D1.d wr b t c)
def xDo (g:Nat)(f:Fr)(lp:List Int)(la:List It)(s:St):Option (St × Bool):=if (bG s).1.e≠0 then some ((bG s).1,true) else aI g (Eb f lp (bG s).2.2 (bG s).2.1 la) (bG s).1
theorem Ct {s:St}{b m:Int}{r:List Int}(he:s.step.e=0)(h:s.step.rs=b::m::r):bG s=({s.step with rs:=r},m,b):=by
 unfold bG;rw[ag he,h]
theorem Fj {s:St}(he:s.step.e=0)(h:∀b m r,s.step.rs≠b::m::r):bG s=(s.step.err 6,0,0):=by
 unfold bG;rw[ag he]
 split
 ·rename_i b m r hrs;exact ax hrs (h b m r)
 ·rfl
theorem AB {s:St}(he:¬s.step.e=0):bG s=(s.step,0,0):=by unfold bG;rw[af he]
theorem Ro {g:Nat}{f:Fr}{lp:List Int}{x:It}{s s':St}{left:Bool}(hk:x.kind=100)(h:aI (g+1) (cT f lp x) s=some (s',left)):xDo g f lp x.a s=some (s',left):=by
 rw[j5 _ _ _ _ _ (by omega) (by omega) (by omega)] at h;unfold xDo;by_cases he:s.step.e=0
 ·rw[af (by simpa using he)] at h;unfold eN at h;rw[af (by omega),af (by omega),af (by omega),af (by omega),af (by omega),af (by omega),af (by omega),ag hk] at h
  split at h
  ·rename_i b m r hrs
   rw[Ct he hrs,af (by simpa using he)];exact h
  ·rename_i hno
   rw[Fj he hno,ag (by show(6:Int)≠0;decide)];exact h
 ·rw[ag he] at h;rw[AB he,ag he];exact h
theorem Fk {s:St}(h:cC s.step):In (bG s).2.1/\In (bG s).2.2:=by
 unfold bG
 split
 ·split
  ·rename_i b m r hrs
   exact⟨h.g.ins m (by rw[hrs];simp),h.g.ins b (by rw[hrs];simp)⟩
  ·exact⟨Cu,Cu⟩
 ·exact⟨Cu,Cu⟩
section
variable {B:Nat}{W w:World}{xb rb mb fb:Nat}{m:MS}{D:GD}{s:St}{lv:Value}{lp lq:List Int}
theorem yO (s:St)(n:Int)(h:n<=s.steps):n<=(bG s).1.steps:=by
 unfold bG
 split
 ·split
  ·show n<=s.step.steps;rw[s.aO];omega
  ·show n<=s.step.steps;rw[s.aO];omega
 ·show n<=s.step.steps;rw[s.aO];omega
theorem SG (g:Nat)(hpq:PQ lp lq)(hB:∀g',g'<g->QB B W g')(h:PR B W w xb rb mb m D s)(he:s.e=0)(hf:lY B w fb rb m D lv 0 lq)(hlp:(lq.length:Int)<=s.steps)(f:Fr)(ob b1:Nat)(va:Value)(la:List It)(hok:∀n,KU (n::lp) la)(h1:BD D.d w b1 109 #[va])(ha:cQ (BD D.d w) D.r m.bk ob va la)(hW:D.r ob f)(s':St)(left:Bool)
  (hx:xDo g f lp la s=some (s',left)):
  bp (.func (.func 226) #[] #[pt b1]) (pt fb) w λe w'=>e=.returned (.int .i64 (sA left s'.e))/\kJ B W xb rb mb fb w m D lv lq s' w':=by
 refine⟨_,_,_,rfl,Fg,?_⟩;show Calls prog 226 #[pt fb,pt b1] w _;have c0:w.cell? ⟨fb,0,none⟩=some (pt rb):=hf.blk.cell rfl;have HS:=az (MM h he);have HF:Hid (∀w1,bu B W xb rb mb w m D (bG s).1 w1->kJ B W xb rb mb fb w m D lv lq (bG s).1 (w1.setCell ⟨fb,2,none⟩ (.int .i64 (bG s).1.e))/\(∃y,aC w1 fb 247 #[pt rb,lv,.int .i64 y])):=λw1 hp=>kJ.Cr h hf hp;have Co:Hid (∀w' m' D' jt,FT xb rb mb fb w w' m m' D D' lv jt->(∀b t c,BD D.d w b t c->BD D'.d w' b t c)):=λw' m' D' jt ht=>hf.fD h ht;obtain⟨Wf,Wh⟩:=Fk (h.good.step he);have hst:=yO s _ hlp;have HB:=az hB;have Ha:=az ha;have HW:=az hW;have H1:=az h1;have HX:=az hx;obtain⟨ao,MK,rfl⟩:=ha.form;obtain⟨en,hen⟩:∃en,en=(bG s).2.1:=⟨_,rfl⟩;obtain⟨fr,hfr⟩:∃fr,fr=(bG s).2.2:=⟨_,rfl⟩;rw[<-hen,<-hfr] at HS;rw[<-hen] at Wf;rw[<-hfr] at Wh;have uy:Hid ((if (bG s).1.e≠0 then some ((bG s).1,true) else aI g (Eb f lp fr en la) (bG s).1)=some (s',left)):=by unfold Hid;rw[hen,hfr];exact HX.out
 clear hB h he hf hlp ha hW h1 hx HX hen hfr;go_enter func226,ntmps226
 go_wp2_with fail
 refine HS.out.mono ?_;rintro e w1 ⟨rfl,hp⟩;obtain⟨h1,⟨y,h2⟩⟩:=HF.out w1 hp;have H3:=az h1;clear h1 hp
 go_wp2_with fail
 refine(sB _ fb _ _ _ _ h2).mono ?_;rintro e w2 ⟨rfl,hw2⟩;have hF:=H3.out;rw[<-hw2] at hF;clear hw2 H3 h2 HS HF;obtain⟨m1,D1,gi,hr1,cY,ht1⟩:=hF;have hlv:=ht1.KT;subst hlv;have kd:=Co.out _ _ _ _ ht1;have h0:Hid (((sA false (bG s).1.e=0/\DAt B W g xb rb mb fb w w2 m D s' f lp lq gi la left fr en)\/(sA false (bG s).1.e=1/\left=true/\kJ B W xb rb mb fb w m D gi lq s' w2))):=by
  have hx:=uy.out;by_cases hte:(bG s).1.e=0
  ·rw[af (by simpa using hte)] at hx;rw[hte] at cY;exact .inl ⟨by rw[hte];rfl,⟨⟨g,m1,D1,gi,(bG s).1,ah _,hr1,hte,cY,hst,ht1,hx,kd⟩⟩⟩
  ·rw[ag hte] at hx;injection hx with hx;injection hx with q1 q2;subst q1;exact .inr ⟨dA (.inr hte),q2.symm,m1,D1,gi,hr1,cY,ht1⟩
 generalize sA false (bG s).1.e=sg at h0 ⊢;clear hr1 cY ht1 kd uy hst Co;obtain⟨e1,e2⟩:=Wf;obtain⟨f1,f2⟩:=Wh;go_wp2
 go_loopw [7,8] (λa i wr=>∃(sg k:Int),a=.int .i64 sg/\i=.int .i64 k/\-9223372036854775808<=k/\k<=9223372036854775807/\((sg=0/\DAt B W g xb rb mb fb w wr m D s' f lp lq gi la left k en)\/(sg=1/\left=true/\kJ B W xb rb mb fb w m D gi lq s' wr))) (λa i _=>if intOf a=0 then(en-intOf i).toNat+1 else 0)
 case atStart=>exact⟨sg,fr,rfl,rfl,f1,f2,h0.out⟩
 case round=>
  obtain⟨sg,k,rfl,rfl,k1,k2,hst⟩:=hrel;rcases hst with⟨rfl,⟨g',m2,D2,r8,s1,hg,hr,he,hf,hlp,hto,hx,kd⟩⟩|⟨rfl,hl,hp⟩
  ·have hlv:=hto.KT;subst hlv
   cases g' with
   | zero=>cases hx
   | succ g'=>
    rw[Ec] at hx;by_cases hlt:k<en
    ·rw[ag hlt] at hx;have c1:wr.cell? ⟨b1,0,none⟩=some (.slice ao la.length MK):=(kd _ _ _ H1.out).2.cell rfl;have hrd:∃s2 bH,(if s1.step.e≠0 then some (s1.step,true) else aI g' (bZ f (k::lp) la) s1.step)=some (s2,bH)/\((bH=true/\s'=s2/\left=true)\/(bH=false/\s2.e=0/\s1.steps<=s2.steps/\aI g' (Eb f lp (k+1) en la) s2=some (s',left))):=by
      by_cases eX:s1.step.e=0
      ·rw[af (by simpa using eX)] at hx ⊢
       cases hb:aI g' (bZ f (k::lp) la) s1.step with
       | none=>rw[hb] at hx;cases hx
       | some p=>
        obtain⟨s2,bH⟩:=p;rw[hb] at hx;dsimp only at hx
        cases bH with
        | true=>
         rw[ag rfl] at hx;injection hx with hx;injection hx with q1 q2;exact⟨s2,true,rfl,.inl ⟨rfl,q1.symm,q2.symm⟩⟩
        | false=>
         rw[af (by decide)] at hx;have:=(cH _ _ _ _ _ hb).2;rw[s1.aO] at this;exact⟨s2,false,rfl,.inr ⟨rfl,kX _ _ _ _ _ _ eX hb,by omega,hx⟩⟩
      ·rw[ag eX] at hx ⊢;injection hx with hx;injection hx with q1 q2;exact⟨s1.step,true,rfl,.inl ⟨rfl,q1.symm,q2.symm⟩⟩
     obtain⟨s2,bH,hrx,hnext⟩:=hrd;have HC:=az (Rn g' lp lq hpq (HB.out g' (by omega)) hr he hf hlp f ob _ la k ⟨k1,k2⟩ (hok k) (by rw[hto.bk];exact Ha.out.mono kd hto.rg) (hto.rg _ _ HW.out) s2 bH hrx);have Co:Hid (∀w' m' D' jt,FT xb rb mb fb wr w' m2 m' D2 D' r8 jt->(∀b t c,BD D2.d wr b t c->BD D'.d w' b t c)):=λw' m' D' jt ht=>hf.fD hr ht;have HN:=az hnext;have Jr:=az hto;have S8:=az kd;clear hr he hf hto kd hx hrx hnext
     go_wp2_with fail
     refine HC.out.mono ?_;rintro e w3 ⟨rfl,m3,D3,BR,hr3,hf3,kg⟩;have hN:((sig bH=0/\DAt B W g xb rb mb fb w w3 m D s' f lp lq r8 la left (k+1) en)\/(sig bH=1/\left=true/\kJ B W xb rb mb fb w m D r8 lq s' w3)):=by
      have LM:=kg.KT;subst LM;rcases HN.out with⟨q1,q2,q3⟩|⟨q1,q2,q3,q4⟩
      ·subst q1 q2;exact .inr ⟨rfl,q3,m3,D3,_,hr3,hf3,Jr.out.trans kg⟩
      ·subst q1;rw[q2] at hf3;exact .inl ⟨rfl,⟨⟨g',m3,D3,_,s2,by omega,hr3,q2,hf3,by omega,Jr.out.trans kg,q4,λb t c hh=>Co.out _ _ _ _ kg b t c (S8.out b t c hh)⟩⟩⟩
     have G9:=az hN;have hsg:sig bH=0\/sig bH=1:=by cases bH;exact .inl rfl;exact .inr rfl
     generalize sig bH=sg2 at G9 hsg ⊢;clear hN hr3 hf3 kg HC Co HN Jr S8;go_wp2
     go_roundw
     case rel=>exact⟨sg2,k+1,rfl,by go_num,by omega,by omega,G9.out⟩
     case measure=>
      rcases hsg with q|q
      ·subst q;simp[intOf];omega
      ·subst q;simp[intOf]
    ·rw[af hlt] at hx;injection hx with hx;injection hx with q1 q2;have yN:=az q1;have wP:=az q2;have HE:=az he;have HP:Hid (kJ B W xb rb mb fb w m D r8 lq s1 wr):=⟨m2,D2,r8,hr,by rw[he];exact hf,hto⟩;have hge:en<=k:=by omega
     clear hr he hf hto kd q1 q2 hlt;go_wp2;go_ret;rw[<-wP.out,<-yN.out,HE.out,lM];exact⟨rfl,HP.out⟩
  ·have HL:=az hl;have HP:=az hp;clear hl hp;go_wp2;go_ret;rw[HL.out,dA (.inl rfl)];exact⟨rfl,HP.out⟩
end
theorem Dy {e:Int}(h:e≠0)(l:Bool):sA l e=sA false e:=by rw[dA (.inr h),dA (.inr h)]
theorem gZ {g:Nat}{f:Fr}{lp:List Int}{x:It}{s s':St}{left:Bool}(h1:¬x.kind=63)(h2:¬x.kind=117)(h3:¬x.kind=119)(h:aI (g+1) (cT f lp x) s=some (s',left)):
  (¬s.step.e=0/\s'=s.step/\left=true)\/(s.step.e=0/\eN g f lp x s.step=some (s',left)):=by
 rw[j5 _ _ _ _ _ h1 h2 h3] at h;by_cases he:s.step.e=0
 ·rw[af (by simpa using he)] at h;exact .inr ⟨he,h⟩
 ·rw[ag he] at h;injection h with h;injection h with q1 q2;exact .inl ⟨he,q1.symm,q2.symm⟩
section
variable {B:Nat}{W:World}{w:World}{xb rb mb fb:Nat}{m:MS}{D:GD}{s:St}{lv:Value}{lp lq:List Int}
theorem pZ (h:PR B W w xb rb mb m D s)(he:s.e=0)(hf:lY B w fb rb m D lv 0 lq)(ab n:Nat)(ff fc:Array Value)(hb:BD D.d w ab 125 #[.func (.func n) ff fc])(s':St)(left:Bool)
  (hx:(¬s.step.e=0/\s'=s.step/\left=true)\/(s.step.e=0/\left=decide (s'.e≠0)/\∀w1 m1,PR B W w1 xb rb mb m1 D s.step->mN xb rb mb w w1 m m1 D D->bp (.func (.func n) ff fc) (pt rb) w1 λe w'=>e=.returned (.int .i64 s'.e)/\bu B W xb rb mb w1 m1 D s' w')):
  bp (lW ab) (pt fb) w λe w'=>e=.returned (.int .i64 (sA left s'.e))/\kJ B W xb rb mb fb w m D lv lq s' w':=by
 rcases hx with⟨h1,h2,h3⟩|⟨h1,h2,h3⟩
 ·subst h2;rw[Dy h1 left];exact Au h he hf ab n ff fc hb s.step s.step (by split <;> rfl) (λe=>ax e h1)
 ·rw[h2,yM];exact Au h he hf ab n ff fc hb s' s' (by rw[ag h1]) (λ_=>h3)
theorem xS (g:Nat)(hW:∀g',g'<g->QW B W g')(h:PR B W w xb rb mb m D s)(he:s.e=0)(hf:lY B w fb rb m D lv 0 lq)(f:Fr)(x:It)(k:x.kind=99)(c:Value)(hc:xp (BD D.d w) m.bk x.name c)(s':St)(left:Bool)(hx:aI (g+1) (cT f lp x) s=some (s',left)):
  bp c (pt fb) w λe w'=>e=.returned (.int .i64 (sA left s'.e))/\kJ B W xb rb mb fb w m D lv lq s' w':=by
 obtain⟨ab,db,bb,nb,nm,rfl,h1,h2,h3,h4,h5,h6⟩:=hc;refine pZ h he hf ab _ _ _ h1 s' left ?_;rcases gZ (by omega) (by omega) (by omega) hx with q|⟨q1,q2⟩
 ·exact .inl q
 ·unfold eN at q2;rw[af (by omega),af (by omega),af (by omega),af (by omega),af (by omega),ag k] at q2
  cases hc:aI g (gB x.name) s.step with
  | none=>rw[hc] at q2;cases q2
  | some p=>
   obtain⟨s2,l2⟩:=p;rw[hc] at q2;injection q2 with q2;injection q2 with q3 q4;subst q3
   match g,hW,hx,hc with
   | 0,_,_,hc=>cases hc
   | 1,_,_,hc=>
    rw[qA] at hc
    split at hc
    ·cases hc
    ·cases hc
   | g' + 1+1,hW,_,hc=>
    refine .inr ⟨q1,q4.symm,λw1 m1 p1 t1=>?_⟩;have kd:=h.fD t1;exact O1 g' (hW g' (by omega)) p1 q1 db bb nb nm h6 (kd _ _ _ h2) (by rw[t1.bk];exact kd _ _ _ h3) (kd _ _ _ h4) s2 l2 (by rw[h5];exact hc)
theorem Cv (g:Nat)(f:Fr)(x:It)(k:x.kind=99)(d:Def)(hd:s.ay.find? (λd=>d.name==x.name)=some d)(s':St)(left:Bool)(hx:aI (g+1) (cT f lp x) s=some (s',left)):
  (¬s.step.e=0/\s'=s.step/\left=true)\/(s.step.e=0/\left=decide (s'.e≠0)/\((20<=s.step.depth/\s'=s.step.err 8)\/(¬20<=s.step.depth/\∃(g':Nat) (s1 s2:St) (bH:Bool),g'<g/\s1={s.step with ay:=s1.ay}/\eA g' (o8 d) s.step=some s1/\aI g' (bZ (o8 d) [] d.body) {s1 with depth:=s1.depth+1}=some (s2,bH)/\s'={s2 with depth:=s2.depth-1}/\s2.depth=s.step.depth+1))):=by
 rcases gZ (by omega) (by omega) (by omega) hx with q|⟨q1,q2⟩
 ·exact .inl q
 ·unfold eN at q2;rw[af (by omega),af (by omega),af (by omega),af (by omega),af (by omega),ag k] at q2;have hds:s.step.ay=s.ay:=by unfold St.step;split <;> rfl
  cases hc:aI g (gB x.name) s.step with
  | none=>rw[hc] at q2;cases q2
  | some p=>
   obtain⟨s2,l2⟩:=p;rw[hc] at q2;injection q2 with q2;injection q2 with q3 q4;subst q3;refine .inr ⟨q1,q4.symm,?_⟩
   cases g with
   | zero=>cases hc
   | succ g=>
    rw[qA,hds,hd] at hc;dsimp only at hc
    cases g with
    | zero=>cases hc
    | succ g=>
     by_cases h20:20<=s.step.depth
     ·rw[lC,ag h20] at hc;injection hc with hc;injection hc with hc _;exact .inl ⟨h20,hc.symm⟩
     ·obtain⟨s1,s3,bH,a1,a2,a3,a4,a5⟩:=mO hc h20;exact .inr ⟨h20,g,s1,s3,bH,by omega,a1,a2,a3,a4,a5⟩
theorem Jv (h:PR B W w xb rb mb m D s)(he:s.e=0):bp (.func (.func 158) #[] #[]) (pt rb) w λe w'=>e=.returned (.int .i64 (if 20<=s.depth then s.err 8 else {s with depth:=s.depth+1}).e)/\bu B W xb rb mb w m D (if 20<=s.depth then s.err 8 else {s with depth:=s.depth+1}) w':=by
 refine⟨_,_,_,rfl,Ji,?_⟩;show Calls prog 158 #[pt rb] w _;refine(OY h).mono ?_;rintro e w' (⟨h20,rfl,rfl⟩|⟨h20,rfl,rfl⟩)
 ·rw[ag h20];exact⟨rfl,m,D,h.OX 8 (by decide),mN.refl _ _ _ _ _ _⟩
 ·rw[af h20];have hd0:=h.good.d0;obtain⟨h1,t1⟩:=h.kf (s.depth+1) (by omega) (by omega);exact⟨by rw[show({s with depth:=s.depth+1}:St).e=0 from he],_,D,h1,t1⟩
end
section
variable {B:Nat}{W:World}{w:World}{xb rb mb fb:Nat}{m:MS}{D:GD}{s:St}{lv:Value}{lp lq:List Int}
theorem Jw (pb cb bb ab o2:Nat)(cv:Value)(ca:Array Value)(h1:aC w pb 107 #[pt o2])(h2:aC w cb 243 #[cv])(h6:aC w o2 111 ca)(hg:ca[6]? = some (.bool true))(Q:Ending->World->Prop)(hc:bp cv (pt fb) w λe w'=>∃n,e=.returned (.int .i64 n)/\Q e w'):
  Calls prog 247 #[pt fb,pt pb,pt cb,pt bb,pt ab] w Q:=by
 obtain⟨n,first,cap,rfl,hen,hc⟩:=hc
 unfold ij at hen;have c1:w.cell? ⟨pb,0,none⟩=some (pt o2):=h1.cell rfl;have c2:w.cell? ⟨cb,0,none⟩=some (.func (.func n) first cap):=h2.cell rfl
 have c6:w.cell? ⟨o2,6,none⟩=some (.bool true):=h6.cell hg;have HC:=az hc;clear hc h1 h2 h6 hg;go_enter func247,ntmps247
 go_wp2_with fail
 refine HC.out.mono ?_;rintro e w1 ⟨n,rfl,hq⟩;have HQ:=az hq;clear hq;go_wp2;exact HQ.out
theorem Jx (pb cb bb ab o2 bk:Nat)(va:Value)(a9:Option Addr)(m9 p9:Nat)(Tw:va=.slice a9 m9 p9)(ca:Array Value)(h1:aC w pb 107 #[pt o2])(h3:aC w bb 78 #[pt bk])(h4:aC w ab 109 #[va])(h6:aC w o2 111 ca)(hg:ca[6]? = some (.bool false))(Y6:w.cell? ⟨fb,0,none⟩=some (pt rb))(Q:Int->World->Prop)(y1:Int)(I1 I2 I3:World->Prop)
  (H1:∀w0,Kp w w0 (λ_=>False)->Calls prog 68 #[pt rb,.func (.func 158) #[] #[]] w0 λe w'=>e=.returned (.int .i64 y1)/\I1 w')
  (H2:∀w',I1 w'->(∃y,aC w' fb 247 #[pt rb,lv,.int .i64 y])/\(y1=0->I2 (w'.setCell ⟨fb,2,none⟩ (.int .i64 y1))/\(w'.setCell ⟨fb,2,none⟩ (.int .i64 y1)).cell? ⟨pb,0,none⟩=some (pt o2)/\(w'.setCell ⟨fb,2,none⟩ (.int .i64 y1)).cell? ⟨bb,0,none⟩=some (pt bk))/\(y1≠0->Q 1 (w'.setCell ⟨fb,2,none⟩ (.int .i64 y1))))
  (H3:∀w',I2 w'->Calls prog 160 #[pt bk,pt o2] w' λe w2=>e=.returned (.tuple #[])/\I3 w2/\w2.cell? ⟨ab,0,none⟩=some va)
  (I4 I5:World->Prop) (H4:∀w',I3 w'->Calls prog 185 #[pt fb,va] w' λe w2=>∃y,e=.returned (.int .i64 y)/\I4 w2/\w2.cell? ⟨fb,0,none⟩=some (pt rb))
  (y5:Int) (H5:∀w',I4 w'->Calls prog 159 #[pt rb] w' λe w2=>e=.returned (.tuple #[])/\I5 w2/\aC w2 fb 247 #[pt rb,lv,.int .i64 y5])
  (H6:∀w',I5 w'->Q (sA false y5) (w'.setCell ⟨fb,2,none⟩ (.int .i64 y5))):
  Calls prog 247 #[pt fb,pt pb,pt cb,pt bb,pt ab] w λe w'=>∃n,e=.returned (.int .i64 n)/\Q n w':=by
 subst Tw;have c1:w.cell? ⟨pb,0,none⟩=some (pt o2):=h1.cell rfl;have c6:w.cell? ⟨o2,6,none⟩=some (.bool false):=h6.cell hg;have lI:=bV;have H1:=az H1;have H2:=az H2;have H3:=az H3;have H4:=az H4;have H5:=az H5;have H6:=az H6;clear h1 h3 h4 h6 hg;go_enter func247,ntmps247
 go_wp2_with fail
 refine(H1.out _ (Kp.refl _ _)).mono ?_;rintro e w1 ⟨rfl,hi1⟩;obtain⟨⟨y,hb1⟩,hz,hnz⟩:=H2.out w1 hi1;have HZ:=az hz;have Yg:=az hnz;clear hz hnz hi1
 go_wp2_with fail
 refine(sB _ fb y1 _ _ _ hb1).mono ?_;rintro e w2 ⟨rfl,hw2⟩;rw[<-hw2] at HZ Yg;clear hw2 hb1;by_cases hy:y1=0
 ·obtain⟨hi2,d1,d2⟩:=HZ.out hy;have Ye:=az (H3.out w2 hi2);subst hy;rw[lM];clear hi2 HZ Yg H1 H2 H3
  go_wp2_with fail
  refine Ye.out.mono ?_;rintro e w3 ⟨rfl,oc,d3⟩;have HC4:=az (H4.out w3 oc);clear oc Ye H4
  go_wp2_with fail
  refine HC4.out.mono ?_;rintro e w4 ⟨y4,rfl,hi4,d4⟩;have Yh:=az (H5.out w4 hi4);clear hi4 HC4 H5
  go_wp2_with fail
  refine Yh.out.mono ?_;rintro e w5 ⟨rfl,hi5,Gi⟩;have d5:w5.cell? ⟨fb,2,none⟩=some (.int .i64 y5):=Gi.cell rfl;have HQ:=az (H6.out w5 hi5);clear hi5 Yh H6
  go_wp2_with fail
  refine(sB _ fb y5 _ _ _ Gi).mono ?_;rintro e w6 ⟨rfl,rfl⟩;go_wp2;go_ret;exact⟨_,rfl,HQ.out⟩
 ·have HQ:=az (Yg.out hy);rw[dA (.inr hy)];clear HZ Yg H1 H2 H3 H4 H5 H6 hy;go_wp2;go_ret;exact⟨_,rfl,HQ.out⟩
end
section
variable {B:Nat}{W:World}{w:World}{xb rb mb fb:Nat}{m:MS}{D:GD}{s:St}{lv:Value}{lp lq:List Int}
theorem Jy (g:Nat)(hB:∀g',g'<g->QB B W g')(hW:∀g',g'<g->QW B W g')(h:PR B W w xb rb mb m D s)(he:s.e=0)(hf:lY B w fb rb m D lv 0 lq)(hlp:(lq.length:Int)<=s.steps)(f:Fr)(x:It)(k:x.kind=99)(c:Value)(hc:Ob (BD D.d w) D.r m.bk (cQ (BD D.d w) D.r m.bk) x.name c)(s':St)(left:Bool)(hx:aI (g+1) (cT f lp x) s=some (s',left)):
  bp c (pt fb) w λe w'=>e=.returned (.int .i64 (sA left s'.e))/\kJ B W xb rb mb fb w m D lv lq s' w':=by
 obtain⟨pb,cb,bb,ab,o2,f2,va,cv,rfl,h1,h2,h3,h4,h5,h6,h7,h8⟩:=hc;refine⟨_,_,_,rfl,Fb,?_⟩;show Calls prog 247 #[pt fb,pt pb,pt cb,pt bb,pt ab] w _;obtain⟨obs,DD,hwr⟩:=h.words;obtain⟨_,⟨i,hi,hfi,Dr,SK⟩|⟨ca,hca,Dv,_⟩⟩:=hwr.VP o2 f2 h6
 ·obtain⟨cZ,⟨ca,hca,Dv⟩,_⟩:=hwr.cur i hi;rw[Dr] at hca;have hd:s.ay.find? (λd=>d.name==x.name)=some s.ay[i]:=by
   rw[h7] at hfi;rw[List.find?_eq_some_iff_getElem];obtain⟨a1,a2,a3⟩:=List.findIdx?_eq_some_iff_getElem.1 hfi;exact⟨a2,i,a1,rfl,λj hj=>by simpa using a3 j hj⟩
  have hcp:=Cv g f x k _ hd s' left hx;obtain⟨a9,p9,Tw⟩:=h8.form;obtain⟨sD,Fl⟩:∃sD,sD=(if s.step.e=0 then(if 20<=s.step.depth then s.step.err 8 else {s.step with depth:=s.step.depth+1}) else s.step):=⟨_,rfl⟩;have kG:=λw' m' D' jt (ht:FT xb rb mb fb w w' m m' D D' lv jt)=>hf.fD h ht;refine(Jx (lv:=lv) pb cb bb ab o2 m.bk va a9 _ p9 Tw ca.arr h1.2 h4.2 h5.2 hca.blk (by rw[show ca.arr[6]? = some (.bool ca.gn) from rfl,Dv]) (hf.blk.cell rfl) (λn w'=>n=sA left s'.e/\kJ B W xb rb mb fb w m D lv lq s' w') sD.e (λw'=>bu B W xb rb mb w m D sD w') (λw'=>sD.e=0/\kJ B W xb rb mb fb w m D lv lq sD w') (λw'=>∃(g':Nat) (s1 s2:St) (bH:Bool),g'<g/\s1={s.step with ay:=s1.ay}/\aI g' (bZ (o8 s.ay[i]) [] s.ay[i].body) {s1 with depth:=s1.depth+1}=some (s2,bH)/\s'={s2 with depth:=s2.depth-1}/\s2.depth=s.step.depth+1/\s.step.e=0/\¬20<=s.step.depth/\left=decide (s'.e≠0)/\kJ B W xb rb mb fb w m D lv lq {s1 with depth:=s1.depth+1} w')
   (λw0 hk=>?_) (λw' hp=>?_) (λw' hp=>?_) (λw'=>∃s2,s'={s2 with depth:=s2.depth-1}/\s2.depth=s.step.depth+1/\¬20<=s.step.depth/\left=decide (s'.e≠0)/\kJ B W xb rb mb fb w m D lv lq s2 w') (λw'=>left=decide (s'.e≠0)/\kJ B W xb rb mb fb w m D lv lq s' w') (λw' hp=>?_) s'.e (λw' hp=>?_) (λw' hp=>?_)).mono ?_
  ·obtain⟨h0,t0⟩:=h.kp hk;refine(ve h0 he _ (if 20<=s.step.depth then s.step.err 8 else {s.step with depth:=s.step.depth+1}) sD Fl (λe w1 m1 p1 t1=>Jv p1 e)).mono ?_;rintro e w' ⟨rfl,hp⟩;exact⟨rfl,hp.step t0⟩
  ·obtain⟨q1,q2⟩:=kJ.Cr h hf hp;refine⟨q2,λhz=>?_,λhnz=>?_⟩
   ·obtain⟨m1,D1,gi,a1,a2,a3⟩:=q1;have kd:=kG _ _ _ _ a3;exact⟨⟨hz,m1,D1,gi,a1,a2,a3⟩,(kd _ _ _ h1).2.cell rfl,(kd _ _ _ h4).2.cell rfl⟩
   ·rcases hcp with⟨b1,b2,b3⟩|⟨b1,b2,⟨b3,b4⟩|⟨b3,_⟩⟩
    ·rw[af b1] at Fl;rw[Fl,<-b2] at q1 ⊢;exact⟨by rw[b2,dA (.inr b1)],q1⟩
    ·rw[ag b1,ag b3] at Fl;rw[Fl,<-b4] at q1 ⊢;exact⟨by rw[b4,dA (.inr (by show(8:Int)≠0;decide))],q1⟩
    ·rw[ag b1,af b3] at Fl;exact ax (by rw[Fl];exact b1) hnz
  ·obtain⟨hz,m1,D1,gi,a1,a2,a3⟩:=hp;have hlv:=a3.KT;subst hlv;rw[<-a3.bk];rcases hcp with⟨b1,b2,b3⟩|⟨b1,b2,⟨b3,b4⟩|⟨b3,g',s1,s2,bH,c1,c2,c3,c4,c5,c6⟩⟩
   ·rw[af b1] at Fl;rw[Fl] at hz;exact ax hz b1
   ·rw[ag b1,ag b3] at Fl;rw[Fl] at hz;cases hz
   ·rw[ag b1,af b3] at Fl;subst Fl;have hdp:s1.depth=s.step.depth:=by rw[c2]
    refine(OZ a1 o2 f2 (a3.rg _ _ h6) g' {s1 with depth:=s1.depth+1} (by rw[SK,hdp];exact qP _ c3)).mono ?_;rintro e w2 ⟨rfl,m2,D2,p1,t1⟩;obtain⟨a4,a5⟩:=a2.iF a1 t1;have a6:=a3.trans a5;have fA:({s1 with depth:=s1.depth+1}:St).e=({s.step with depth:=s.step.depth+1}:St).e:=by show s1.e=s.step.e;rw[c2]
    exact⟨rfl,⟨g',s1,s2,bH,c1,c2,c4,c5,c6,b1,b3,b2,m2,D2,_,p1,by rw[fA];exact a4,a6⟩,(kG _ _ _ _ a6 _ _ _ h5).2.cell rfl⟩
  ·obtain⟨g',s1,s2,bH,c1,c2,c4,c5,c6,b1,b3,b2,m1,D1,gi,a1,a2,a3⟩:=hp;have hlv:=a3.KT;subst hlv;have fA:({s1 with depth:=s1.depth+1}:St).e=0:=by show s1.e=0;rw[c2];exact b1
   have hst:(lq.length:Int)<=({s1 with depth:=s1.depth+1}:St).steps:=by show(lq.length:Int)<=s1.steps;rw[c2,s.aO];omega
   have hfr:lY B w' fb rb m1 D1 gi 0 lq:=by have:=a2;rw[fA] at this;exact this
   have kd:=kG _ _ _ _ a3;refine(hB g' c1 w' xb rb mb fb m1 D1 _ s2 (o8 s.ay[i]) [] lq gi o2 va s.ay[i].body bH (PQ.nil _) a1 fA hfr hst (by
    obtain⟨cc,hcc⟩:=a1.words.yI.ok _ _ (a3.rg _ _ h6);obtain⟨G,hG⟩:=hcc.wf;rw[SK] at hG;exact⟨G,false,hG,λh=>by cases h⟩) (by rw[a3.bk];have:=h8.mono kd a3.rg;rw[SK] at this;exact this) (by have:=a3.rg _ _ h6;rw[SK] at this;exact this) c4).mono ?_
   rintro e w2 ⟨rfl,m2,D2,r8,p1,p2,p3⟩;exact⟨_,rfl,⟨s2,c5,c6,b3,b2,m2,D2,r8,p1,p2,a3.trans p3⟩,p2.blk.cell rfl⟩
  ·obtain⟨s2,c5,c6,b3,b2,m1,D1,gi,a1,a2,a3⟩:=hp;have hlv:=a3.KT;subst hlv;have hd0:=h.good.d0;have hdd:s.step.depth=s.depth:=by unfold St.step;split <;> rfl
   refine(upP a1 s.step.depth (by omega) (by omega) c6).mono ?_;rintro e w2 ⟨rfl,m2,D2,p1,t1⟩;obtain⟨a4,a5⟩:=a2.iF a1 t1;rw[<-c5] at p1;have pF:s2.e=s'.e:=by rw[c5]
   rw[pF] at a4;exact⟨rfl,⟨b2,m2,D2,_,p1,a4,a3.trans a5⟩,a4.blk⟩
  ·obtain⟨b2,m1,D1,gi,a1,a2,a3⟩:=hp;obtain⟨a4,a5,a6⟩:=a2.Je a1 s'.e;exact⟨by rw[b2,yM],m1,D1,gi,a4,a5,a3.trans a6⟩
  ·rintro e w' ⟨n,rfl,rfl,hq⟩;exact⟨rfl,hq⟩
 ·refine Jw pb cb bb ab o2 cv ca.arr h1.2 h2.2 hca.blk (by rw[show ca.arr[6]? = some (.bool ca.gn) from rfl,Dv]) _ ((xS g hW h he hf f x k cv h3 s' left hx).mono ?_);rintro e w' ⟨rfl,hp⟩;exact⟨_,rfl,rfl,hp⟩
end
theorem Wi {B:Nat}{W:World}(hE:Env B W)(G:Nat)(hB:∀g,g<G->QB B W g)(hW:∀g,g<G->QW B W g)(hT:∀g,g<G->QT B W g):QI B W G:=by
 intro w xb rb mb fb m D s s' f lp lq lv ob c x left hpq h he hf hlp hok hact KZ hx
 cases G with
 | zero=>cases hx
 | succ g=>
 unfold gN at hact;rcases hact with⟨k,hin,ab,nb,rfl,h1,h2⟩|⟨k,ab,act,j,rfl,h1,h2,h3⟩|⟨k,hcr⟩|⟨k,b1,b2,va,vb,rfl,h1,h2,h3,h4⟩|⟨k,b1,va,rfl,h1,h2⟩|⟨k,b1,b2,va,vb,rfl,h1,h2,h3,h4⟩|⟨k,b1,va,rfl,h1,h2⟩|⟨k,rfl⟩|⟨k,ab,db,bb,wb,rfl,h1,h2,h3,h4⟩|⟨k,rfl⟩|⟨k,ab,db,sb,tb,tv,ws,rfl,h1,h2,h3,h4,h5,h6,h7,h8⟩
 ·refine pZ h he hf ab _ _ _ h1 s' left ?_;rcases gZ (by omega) (by omega) (by omega) hx with q|⟨q1,q2⟩
  ·exact .inl q
  ·unfold eN at q2;rw[ag k] at q2;injection q2 with q2;injection q2 with q3 q4;subst q3;exact .inr ⟨q1,q4.symm,λw1 m1 p1 t1=>Q4 p1 q1 x.n hin nb (h.fD t1 _ _ _ h2).2⟩
 ·obtain⟨fn,ff,fc,rfl⟩:=j6 h2;refine pZ h he hf ab _ _ _ h1 s' left ?_;rcases gZ (by omega) (by omega) (by omega) hx with q|⟨q1,q2⟩
  ·exact .inl q
  ·unfold eN at q2;rw[af (by omega),ag k,h3] at q2;injection q2 with q2;injection q2 with q3 q4;subst q3;exact .inr ⟨q1,q4.symm,λw1 m1 p1 t1=>Du hE.glo p1 q1 j _ (iX (h.fD t1) h2)⟩
 ·rcases hcr with hcs|hcb
  ·exact xS g (λg' hg=>hW g' (by omega)) h he hf f x k c hcs s' left hx
  ·exact Jy g (λg' hg=>hB g' (by omega)) (λg' hg=>hW g' (by omega)) h he hf hlp f x k c hcb s' left hx
 ·rw[Gx _ _ _ _ _ k] at hx;exact ifP g x.a x.b hpq (hB g (by omega)) h he hf hlp f ob b1 b2 (hok.ab (by omega)).1 (hok.ab (by omega)).2 va vb h1 h2 h3 h4 KZ s' left hx
 ·exact Rg (g+1) hpq hB h he hf hlp f ob b1 va x hok k h1 h2 KZ s' left hx
 ·exact Rm (g+1) hpq hB h he hf hlp f ob b1 b2 va vb x hok k h1 h2 h3 h4 KZ s' left hx
 ·exact SG g hpq (λg' hg=>hB g' (by omega)) h he hf hlp f ob b1 va x.a (λn=>hok.body k n) h1 h2 KZ s' left (Ro k hx)
 ·rcases gZ (by omega) (by omega) (by omega) hx with⟨q1,q2,q3⟩|⟨q1,q2⟩
  ·cases lp with
   | nil=>
    exact ax rfl (hok.idx k)
   | cons i MJ=>
    subst q2;rw[Dy q1];obtain⟨lo,hlo⟩:=hpq;exact Wc h he i (MJ++lo) hlo (by have:=h.good.s1;omega) hf s.step (by rw[af q1])
  ·unfold eN at q2;rw[af (by omega),af (by omega),ag k] at q2
   cases lp with
   | nil=>cases q2
   | cons i MJ=>
    injection q2 with q2;injection q2 with q3 q4;subst q3;rw[<-q4,yM];obtain⟨lo,hlo⟩:=hpq;exact Wc h he i (MJ++lo) hlo (by have:=h.good.s1;omega) hf _ (by rw[ag q1])
 ·refine pZ h he hf ab _ _ _ h1 s' left ?_;rcases gZ (by omega) (by omega) (by omega) hx with q|⟨q1,q2⟩
  ·exact .inl q
  ·unfold eN at q2;rw[af (by omega),af (by omega),af (by omega),af (by omega),ag k] at q2
   cases hc:aI g (iM f) s.step with
   | none=>rw[hc] at q2;cases q2
   | some p=>
    obtain⟨s2,l2⟩:=p;rw[hc] at q2;injection q2 with q2;injection q2 with q3 q4;subst q3
    cases g with
    | zero=>cases hc
    | succ g'=>
     refine .inr ⟨q1,q4.symm,λw1 m1 p1 t1=>?_⟩;have kd:=h.fD t1;exact aaj g' (hW g' (by omega)) p1 q1 f ob db bb wb (kd _ _ _ h2) (by rw[t1.bk];exact kd _ _ _ h3) (kd _ _ _ h4) (t1.rg _ _ KZ) s2 l2 hc
 ·have hs:s'=s.step/\left=true:=by
   rcases gZ (by omega) (by omega) (by omega) hx with⟨q1,q2,q3⟩|⟨q1,q2⟩
   ·exact⟨q2,q3⟩
   ·unfold eN at q2;rw[af (by omega),af (by omega),af (by omega),ag k] at q2;injection q2 with q2;injection q2 with q3 q4;exact⟨q3.symm,q4.symm⟩
  obtain⟨rfl,rfl⟩:=hs;rw[dA (.inl rfl)];exact Wb h he hf
 ·refine pZ h he hf ab _ _ _ h1 s' left ?_;rcases gZ (by omega) (by omega) (by omega) hx with q|⟨q1,q2⟩
  ·exact .inl q
  ·unfold eN at q2;rw[af (by omega),af (by omega),af (by omega),af (by omega),af (by omega),af (by omega),ag k] at q2
   right
   by_cases h20:20<=s.step.depth
   ·rw[ag h20] at q2;injection q2 with q2;injection q2 with q3 q4;have hd:gh s.step s.step=s.step.err 8:=ag h20;subst q3;refine⟨q1,by rw[<-q4];rfl,λw1 m1 p1 t1=>?_⟩;have kd:=h.fD t1;have:=Dx g (hT g (by omega)) p1 q1 db sb tb tv ws (kd _ _ _ h2) (by rw[t1.bk];exact kd _ _ _ h3) (kd _ _ _ h4) (gT kd h5) h7 h8 s.step false (λhn=>ax h20 hn);rw[hd] at this;exact this
   ·rw[af h20] at q2
    cases hc:aI g (aT x.toks) {s.step with depth:=s.step.depth+1} with
    | none=>rw[hc] at q2;cases q2
    | some p=>
     obtain⟨s2,l2⟩:=p;rw[hc] at q2;injection q2 with q2;injection q2 with q3 q4;have hd:gh s.step s2=s':=by unfold gh;rw[af h20];exact q3
     refine⟨q1,by rw[<-q4,<-q3],λw1 m1 p1 t1=>?_⟩;have kd:=h.fD t1;have:=Dx g (hT g (by omega)) p1 q1 db sb tb tv ws (kd _ _ _ h2) (by rw[t1.bk];exact kd _ _ _ h3) (kd _ _ _ h4) (gT kd h5) h7 h8 s2 l2 (λ_=>by rw[h6];exact hc);rw[hd] at this;exact this
theorem Cw {l:List UInt8}{n:Int}(h:bA l=some n):dX l=false:=by
 cases l with
 | nil=>simp[bA] at h
 | cons c r=>
  have hc:¬(97<=c.toNat/\c.toNat<=122):=by
   simp only[bA] at h
   split at h
   ·rename_i e;subst e;decide
   ·split at h
    ·rename_i hd
     simp only[cE,Bool.and_eq_true,List.all_cons] at hd;have:=of_decide_eq_true hd.2.1;omega
    ·cases h
  unfold dX;have:(c::r).all (λc=>decide (97<=c.toNat/\c.toNat<=122))=false:=by
   rw[List.all_cons,decide_eq_false hc];rfl
  rw[this];simp
theorem AE {l:List UInt8}(h:¬fF l=0):dX l=false:=by
 cases hn:bA l with
 | some n=>exact Cw hn
 | none=>
  have hk:fF l=(cL l:Int):=by unfold fF;rw[hn];rfl
  have h0:cL l≠0:=by intro e;rw[hk,e] at h;exact h rfl
  have hs:=kK rfl h0;have hm:l∈cG:=List.mem_of_getElem? hs;simp only[cG,List.mem_append] at hm;rcases hm with hm|hm|hm|hm
  ·simp at hm;subst hm;decide
  ·have:aN.any (· == l)=true:=List.any_eq_true.2 ⟨l,hm,by simp⟩;unfold dX;rw[this];simp
  ·simp at hm;rcases hm with rfl|rfl|rfl|rfl <;> decide
  ·have:eB.any (· == l)=true:=List.any_eq_true.2 ⟨l,hm,by simp⟩;unfold dX;rw[this];simp
theorem AG {l:List UInt8}(hl:l≠[])(h:fF l=0):(!aN.any (· == l) && !eB.any (· == l))=true:=by
 have hn:bA l=none:=by
  cases hn:bA l with
  | none=>rfl
  | some n=>unfold fF at h;rw[hn] at h;simp at h
 have hk:cL l=0:=by unfold fF at h;rw[hn] at h;simp at h;exact h
 have hs:=tL hl hk;have h1:aN.any (· == l)=false:=by rw[List.any_eq_false];intro x hx;rw[hs x (by simp[cG,hx])];decide
 have h2:eB.any (· == l)=false:=by rw[List.any_eq_false];intro x hx;rw[hs x (by simp[cG,hx])];decide
 rw[h1,h2];rfl
theorem Jz (t:ByteArray)(w:World)(hsp:tG w):Calls prog 114 #[.string t] w λe w'=>e=.returned (.bool (dX t.data.toList))/\w'=w:=by
 by_cases hs:t.size<1\/(1<=t.size/\8<t.size)
 ·have H:=az (vz hs);rcases hs with h1|⟨h1,h2⟩
  all_goals
   go_enter func114,ntmps114;go_wp2;go_ret;exact⟨by rw[H.out];rfl,rfl⟩
 ·have h1:1<=t.size:=by omega
  have h8:t.size<=8:=by omega
  have hne:t.data.toList≠[]:=by
   intro e;have:t.data.toList.length=0:=by rw[e];rfl
   have h2:t.data.toList.length=t.size:=rfl;omega
  have hok:okW t:=⟨by rw[ByteArray.toList_eq];exact hne,by omega⟩;clear hs;by_cases hk:fF t.data.toList=0
  ·have HA:Hid (∀(ha:(t.data.toList.take t.size).all (λc=>decide (97<=c.toNat/\c.toNat<=122))=true),dX t.data.toList=true):=by
    intro ha;rw[vA h1 h8 ha];have:=AG hne hk;rw[ByteArray.toList_eq];exact this
   have HB:Hid (∀k (hk:k<t.size),¬(97<=t[k].toNat/\t[k].toNat<=122)->dX t.data.toList=false):=λk hk h=>vB hk h;have HK:=az (zn t w hok hsp);rw[hk] at HK;clear hk;go_enter func114,ntmps114
   go_wp2_with fail
   refine HK.out.mono ?_;rintro e w1 ⟨rfl,rfl⟩;clear HK;go_wp2
   go_loop [19] (λi=>∃k:Nat,k<=t.size/\i=.int .i64 k/\(t.data.toList.take k).all (λc=>decide (97<=c.toNat/\c.toNat<=122))=true) (λi=>t.size-(intOf i).toNat)
   case atStart=>exact⟨0,Nat.zero_le _,rfl,rfl⟩
   case round=>
    obtain⟨k,hk,rfl,hall⟩:=hrel;have HL:=az hall;clear hall;by_cases hlt:k<t.size
    ·by_cases hd:97<=t[k].toNat/\t[k].toNat<=122
     ·obtain⟨hd1,hd2⟩:=hd;go_wp2
      go_round
      case rel=>
       refine⟨k+1,by omega,by go_num,?_⟩;rw[ie t k hlt,List.all_append,HL.out];simp[hd1,hd2]
      case measure=>simp[intOf];omega
     ·have H:=az (HB.out k hlt hd);rcases (show t[k].toNat<97\/(97<=t[k].toNat/\122<t[k].toNat) by omega) with q1|⟨q1,q2⟩
      all_goals
       clear hd;go_wp2;go_ret;exact⟨by rw[H.out];rfl,rfl⟩
    ·have hks:k=t.size:=by omega
     have H:=az (HA.out (by have:=HL.out;rwa [hks] at this));clear hks;go_wp2;go_ret;exact⟨by rw[H.out];rfl,rfl⟩
  ·have H:=az (AE hk);have HK:=az (zn t w hok hsp);have hk2:(fF t.data.toList != 0)=true:=by simpa using hk
   generalize fF t.data.toList=K at HK hk2;clear hk;go_enter func114,ntmps114
   go_wp2_with fail
   refine HK.out.mono ?_;rintro e w1 ⟨rfl,rfl⟩;go_wp2;go_ret;exact⟨by rw[H.out];rfl,rfl⟩
theorem Rp (R:Nat->Fr->Prop)(w:World)(D:Nat->Prop)(bk:Nat)(nm:ByteArray)(v:Value)(l:List It)(hI:cV (BD D w) v l)(hwb:∃G,wb (λ_=>True) G false l):
  Calls prog 118 #[pt bk,.string nm,v] w λe w'=>∃ob hb sv,e=.returned (pt ob)/\Kp w w' (λ_=>False)/\w.heap.size<=ob/\w.heap.size<=hb/\ob≠hb/\aC w' ob 111 (WC.arr ⟨nm,v,sv,sv,false,0,false,none,some hb⟩)/\w'.ownsMap prog 9 bQ hb 0 (.map [])/\cQ (BD (λk=>D k\/(w.heap.size<=k/\k≠ob)) w') R bk ob sv l:=by
 obtain⟨g,hI⟩:=hI;have hf:∃a m p,v=.slice a m p:=by
  cases g with
  | zero=>exact hI.elim
  | succ g=>obtain⟨_,hq,_⟩:=hI;obtain⟨a,p,hv⟩:=hq.form;exact⟨a,_,p,hv⟩
 obtain⟨a9,m9,p9,rfl⟩:=hf;have hmm:=@run_makeMap prog;have lI:=bV;obtain⟨W2,hW2⟩:∃W2,W2=(w.alloc (.map #[] 0)).alloc (.cells #[.string nm,.slice a9 m9 p9,.slice none 0 0,.slice none 0 0,.bool false,.int .i64 0,.bool false,.map none,.map (some w.heap.size)] 111):=⟨_,rfl⟩;have hk2:Kp w W2 (λ_=>False):=by rw[hW2];exact((Kp.refl _ _).alloc _).alloc _
 have hs2:W2.heap.size=w.heap.size+1+1:=by rw[hW2];simp
 have yj:aC W2 (w.heap.size+1) 111 #[.string nm,.slice a9 m9 p9,.slice none 0 0,.slice none 0 0,.bool false,.int .i64 0,.bool false,.map none,.map (some w.heap.size)]:=by rw[hW2];exact aC.new1 w _ _ _
 have hmp:W2.ownsMap prog 9 bQ w.heap.size 0 (.map []):=by rw[hW2];exact(World.ownsMap_made w prog 9 bQ).alloc _
 have yq:=eT (M':=BD (λk=>(D k/\k<w.heap.size)\/W2.heap.size<=k) W2) (λb t c h=>⟨.inl ⟨h.1,h.2.lt⟩,hk2.blk h.2 (by simp)⟩) _ _ _ hI;have HC:=az (yt (JC0 R (λ_=>True) (λ_=>none) bk) g (λk=>(D k/\k<w.heap.size)\/W2.heap.size<=k) (λ_=>False) W2 (w.heap.size+1) (.slice a9 m9 p9) l trivial (λk hk=>.inr hk) yq (by obtain⟨G,hG⟩:=hwb;exact⟨G,false,hG⟩));have HB:=az yj;have HM:=az hmp;have HK:=az hk2;have wz:=az hW2;clear hI yq hwb yj hmp hk2 hW2;go_enter func118,ntmps118
 go_wp2_with fail
 rw[<-wz.out];refine HC.out.mono ?_;rintro e w3 ⟨ao,cap,rfl,hk3,hA,-⟩;have hk3:=hk3.Y7;have hb3:=hk3.blk HB.out (by simp);have zj:=aL HM.out (hk3.block _ HM.out.lt (by simp));have c2:w3.cell? ⟨w.heap.size+1,2,none⟩=some (.slice none 0 0):=hb3.cell rfl;have c3:w3.cell? ⟨w.heap.size+1,3,none⟩=some (.slice none 0 0):=hb3.cell rfl;have g2:=hb3.free 2;have g3:=hb3.free 3;have HA:=az hA;have Z9:=az hk3;have EJ:=az hb3;have HM3:=az zj;clear hA hk3 hb3 zj HC;go_wp2;go_ret;have hks:Kp w3 ((w3.setCell ⟨w.heap.size+1,2,none⟩ (.slice ao l.length cap)).setCell ⟨w.heap.size+1,3,none⟩ (.slice ao l.length cap)) (λk=>k=w.heap.size+1):=((Kp.refl w3 (λk=>k=w.heap.size+1)).set (a:=⟨w.heap.size+1,2,none⟩) (λ_=>rfl) _).set (a:=⟨w.heap.size+1,3,none⟩) (λ_=>rfl) _;refine⟨w.heap.size+1,w.heap.size,.slice ao l.length cap,rfl,?_,Nat.le_succ _,ah _,by omega,(EJ.out.set 2 _).set 3 _,aL HM3.out (hks.block _ HM3.out.lt (by show ¬w.heap.size=w.heap.size+1;omega)),HA.out.mono (λb t c h=>?_) (λ_ _ h=>h)⟩
 ·refine(((HK.out.trans Z9.out).mono (T:=λk=>k=w.heap.size+1) (λ_ _ e=>e.elim)).trans hks).mono (λk hk e=>?_);have e:k=w.heap.size+1:=e;omega
 ·have hne:¬b=w.heap.size+1:=λe=>by
   rcases h.1 with q|q
   ·have:=q.2;omega
   ·omega
  refine⟨?_,hks.blk h.2 hne⟩;rcases h.1 with q|q
  ·exact .inl q.1
  ·exact .inr ⟨by omega,hne⟩
end
end Go.Proofs.YteainaiebcphlaaGreatDoor
