import Derived.Test.YteainaiebcphlaaGreatDoorY22
import Derived.Test.YteainaiebcphlaaGreatDoorY2
import Derived.Laws.BytesArg
import Derived.Test.YteainaiebcphlaaGreatDoorY12
import Derived.Test.YteainaiebcphlaaGreatDoorY13
import Derived.Test.YteainaiebcphlaaGreatDoorYIter
import Derived.Handy
namespace Go.Proofs.YteainaiebcphlaaGreatDoor
set_option maxRecDepth 1000000
set_option maxHeartbeats 4000000
set_option linter.all false
section
open Go.RowKit
abbrev keptQ (t:Tok):Bool:=keptL.any (· == t) || t == kSemi || t == kOpen || t == kClose
theorem tok_cases {l:Tok} (hl:l ≠ []) (hc:¬ l=kColon):
  (∃ n,numP l=some n/\kdOf l=1)\/(numP l=none/\∃ j,plainL.findIdx? (· == l)=some j/\kdOf l=(j:Int)+2/\j < 16)\/(numP l=none/\plainL.findIdx? (· == l)=none/\keptQ l=true/\19<=kdOf l)\/(numP l=none/\plainL.findIdx? (· == l)=none/\keptQ l=false/\kdOf l=0):=by
 cases hn:numP l with
 | some n=>exact .inl ⟨n,rfl,by unfold kdOf;rw[hn];rfl⟩
 | none=>
  right
  have hk:kdOf l=(kindN l:Int):=by unfold kdOf;rw[hn];rfl
  cases hp:plainL.findIdx? (· == l) with
  | some j=>
   obtain⟨h1,h2⟩:=kind_plainN hl hp;exact .inl ⟨rfl,j,rfl,by rw[hk,h1];simp,h2⟩
  | none=>
   right
   rw[hk];by_cases h0:kindN l=0
   ·have hs:=in_spell hl h0;refine .inr ⟨rfl,rfl,?_,by rw[h0];rfl⟩;have h2:keptL.any (· == l)=false:=by rw[List.any_eq_false];intro x hx;rw[hs x (by simp[spellL,hx])];decide
    have h3:∀ k,k∈spellL->(l == k)=false:=fun k hk=>by
     have:=hs k hk;rw[beq_eq_false_iff_ne] at this ⊢;exact fun e=>this e.symm
    unfold keptQ;rw[h2,h3 kSemi (by decide),h3 kOpen (by decide),h3 kClose (by decide)];rfl
   ·left
    have hs:=kindN_at rfl h0;have hlt:kindN l < 34:=by
     rcases Nat.lt_or_ge (kindN l) 34 with h|h
     ·exact h
     ·rw[List.getElem?_eq_none (by exact h)] at hs;cases hs
    clear hk;generalize kindN l=i at hs h0 hlt ⊢;have:i=1\/i=2\/i=3\/i=4\/i=5\/i=6\/i=7\/i=8\/i=9\/i=10\/i=11\/i=12\/i=13\/i=14\/i=15\/i=16\/i=17\/i=18\/i=19\/i=20\/i=21\/i=22\/i=23\/i=24\/i=25\/i=26\/i=27\/i=28\/i=29\/i=30\/i=31\/i=32\/i=33:=by omega
    rcases this with rfl|rfl|rfl|rfl|rfl|rfl|rfl|rfl|rfl|rfl|rfl|rfl|rfl|rfl|rfl|rfl|rfl|rfl|rfl|rfl|rfl|rfl|rfl|rfl|rfl|rfl|rfl|rfl|rfl|rfl|rfl|rfl|rfl
    all_goals
     injection hs with hs;subst hs
     first
      | (exact absurd rfl hl)
      | (exact absurd rfl hc)
      | (exact absurd hp (by decide))
      | (exact⟨rfl,rfl,by decide,by decide⟩)
theorem xTok_more {g:Nat} {t:Tok} {s s2:St} (h:xTok g t s=some s2) (h2:s2.e=0):s.steps+1<=s2.steps:=by
 unfold xTok at h
 repeat' split at h
 all_goals first
  | (injection h with h;subst h;first|(exact absurd (show (4:Int)=0 from h2) (by decide))|(exact absurd (show (3:Int)=0 from h2) (by decide))|(simp only[St.step_steps,St.put_steps,St.word_steps];omega))
  | (have k:=xRun_keep _ _ _ _ _ ‹xRun g _ _=some _›;injection h with h;subst h;simp only[Kee,St.step_steps] at k;omega)
  | cases h
section
variable {B:Nat} {W w w':World} {xb rb mb:Nat} {m m':MS} {D D':GD} {s:St}
def QRf (B:Nat) (W w:World) (xb rb mb:Nat) (m:MS) (D:GD) (g:Nat) (st0:Int) (s':St) (left:Bool) (rv:Value) (k:Int) (w':World):Prop:=
 ∃ s1 ws1 a n p,rv=.slice a n p/\k=s1.e/\PPost B W xb rb mb w m D s1 w'/\(s1.e=0->st0+1<=s1.steps)/\(s1.e ≠ 0->s'=s1)/\(s1.e=0->TokAt (Blk w') rv ws1/\(∀ t∈ws1,okW t)/\ws1.length<=1000/\xRun g (jToks (texts ws1)) s1=some (s',left))
theorem stepGrow (h:PR B W w xb rb mb m D s) (he:s.e=0) (hk:Kp w w' (fun _=>False)) (v:Value) (s2 s':St) (hs':s'=if s.step.e=0 then s2 else s.step)
  (hact:s.step.e=0->∀ w1 m1,PR B W w1 xb rb mb m1 (moreG D w.heap.size w'.heap.size) s.step->PTo xb rb mb w' w1 m m1 (moreG D w.heap.size w'.heap.size) (moreG D w.heap.size w'.heap.size)->(∀ b t c,BD (moreG D w.heap.size w'.heap.size).d w' b t c->BD (moreG D w.heap.size w'.heap.size).d w1 b t c)->CallsV v (pt rb) w1 fun e w2=>e=.returned (.int .i64 s2.e)/\PPost B W xb rb mb w1 m1 (moreG D w.heap.size w'.heap.size) s2 w2):
  Calls Tryz.prog 68 #[pt rb,v] w' fun e w2=>∃ k,e=.returned (.int .i64 k)/\k=s'.e/\PPost B W xb rb mb w m D s' w2/\∀ b c,Blk w b 9 c->Blk w2 b 9 c:=by
 obtain⟨h1,t1⟩:=h.grow hk;refine (stepP h1 he v s2 s' hs' (fun q w1 m1 p1 q1=>hact q w1 m1 p1 q1 (h1.keepD q1))).mono ?_;rintro e w2 ⟨rfl,hp⟩;refine⟨_,rfl,rfl,hp.step t1,fun b c hb=>?_⟩;obtain⟨m2,D2,h2,t2⟩:=hp;exact h1.blk9 t2 (hk.blk hb (by simp))
theorem tkR_form (g off cap n:Nat):∃ a k p,tkR g off cap n=.slice a k p:=by
 unfold tkR;split <;> exact⟨_,_,_,rfl⟩
theorem rfX (hE:Env B W) (g:Nat) (hW:∀ g',g' < g->QW B W g') (h:PR B W w xb rb mb m D s) (he:s.e=0) (t:ByteArray) (ws:List ByteArray) (v:Value) (ht:TokAt (Blk w) v (t :: ws)) (ho:∀ t'∈t :: ws,okW t') (hl:(t :: ws).length<=1000) (s':St) (left:Bool) (hx:xRun (g+1) (jToks (texts (t :: ws))) s=some (s',left)):
  Calls Tryz.prog 57 #[pt m.bk,pt rb,v] w fun e w'=>∃ rv k,e=.returned (.tuple #[rv,.int .i64 k])/\QRf B W w xb rb mb m D g s.steps s' left rv k w':=by
 have hsp:=hE.at h;have hot:=ho t (by simp);have hbook:=h.words.known h.book;obtain⟨gb,off,cap,rfl,⟨cur,hB,h0⟩,hcap,hT⟩:=ht.head;have hcap2:off+cap<=maxLen:=by
  rcases ht with⟨q,_⟩|⟨g1,off1,cap1,cur1,e1,q1,q2,q3,q4⟩
  ·cases q
  ·injection e1 with e1 e2 e3;injection e1 with e1;injection e1 with e1 e4;subst e3;subst e4;exact q3
 have c1:w.cell? ⟨gb,off,none⟩=some (.string t):=hB.cell h0;have HK:KdT w t (kdOf t.data.toList):=fun w0 hk=>kindQ t w0 hot (hsp.kp hk (by simp));have HH:∀ w0,Kp w w0 (fun _=>False)->Calls Tryz.prog 74 #[pt m.bk,.string t] w0 fun e w'=>e=.returned (.bool (s.known t.data.toList))/\w'=w0:=fun w0 hk=>hasM _ _ _ _ (hbook.kp hk (by simp) (by simp)) t (Nat.le_trans hot.2 (by decide));have hwl:ws.length<=1000:=by simp only[List.length_cons] at hl;omega
 have how:∀ t'∈ws,okW t':=fun t' h'=>ho t' (by simp[h']);have hne:t.data.toList ≠ []:=by have:=hot.1;rw[ByteArray.toList_eq] at this;exact this
 have hxx:xRun (g+1) (jToks (t.data.toList :: texts ws)) s=some (s',left):=hx;by_cases hc:t.data.toList=kColon
 ·have hkd:kdOf t.data.toList=18:=by rw[hc];decide
  rw[hc,x_def _ _ _ he] at hxx
  cases hp:pDef g s (texts ws) with
  | none=>rw[hp] at hxx;cases hxx
  | some res=>
   rw[hp] at hxx;refine rf_colon m.bk rb gb off cap ws.length t w _ hkd _ ?_ hcap hcap2 c1 HK;intro w0 hk0;obtain⟨h0,t0⟩:=h.kp hk0;refine (defineX hE h0 he ws _ (TokAt_mono (fun b c hb=>hk0.blk hb (by simp)) hT) how hwl g res hp).mono ?_;intro e w1 hq;rcases res with er|⟨nm,b,r1⟩
   ·obtain⟨q1,rfl,q2⟩:=hq;injection hxx with hxx;injection hxx with e1 e2;subst e1;exact⟨_,_,rfl,s.err er,[],none,0,0,rfl,rfl,q2.step t0,fun e=>absurd e q1,fun _=>rfl,fun e=>absurd e q1⟩
   ·obtain⟨a,n,p,ws',rfl,q1,q2,q3,q4,q5⟩:=hq;refine⟨_,_,rfl,stD s nm b,ws',a,n,p,rfl,rfl,q1.step t0,fun _=>?_,fun e=>?_,fun e=>⟨q2,q4,q5,?_⟩⟩
    ·unfold stD;split <;> simp only[St.set_steps,St.step_steps] <;> omega
    ·unfold stD at e ⊢;by_cases hs:s.step.e=0
     ·rw[if_pos hs] at e;exact absurd (show (s.step.set nm b).e=0 from hs) e
     ·have hxx:(if s.step.e ≠ 0 then some (s.step,false) else xRun g (jToks r1) (s.step.set nm b))=some (s',left):=hxx;rw[if_pos hs] at hxx;injection hxx with hxx;injection hxx with e1 e2;rw[if_neg hs];exact e1.symm
    ·unfold stD at e ⊢;by_cases hs:s.step.e=0
     ·have hxx:(if s.step.e ≠ 0 then some (s.step,false) else xRun g (jToks r1) (s.step.set nm b))=some (s',left):=hxx;rw[if_neg (by simpa using hs)] at hxx;rw[if_pos hs,q3];exact hxx
     ·rw[if_neg hs] at e;exact absurd e hs
 ·rw[x_tok _ _ _ _ he hc] at hxx
  cases hq:xTok g t.data.toList s with
  | none=>rw[hq] at hxx;cases hxx
  | some s2=>
   rw[hq] at hxx;have hxx:xRun g (jToks (texts ws)) s2=some (s',left):=hxx;have hend:s2.e ≠ 0->s'=s2:=fun e=>by
    cases g with
    | zero=>cases hxx
    | succ g=>rw[x_terr _ _ _ e] at hxx;injection hxx with hxx;injection hxx with e1 e2;exact e1.symm
   obtain⟨ra,rn,rp,hrf⟩:=tkR_form gb off cap ws.length;have done:∀ rv k w1,(rv=tkR gb off cap ws.length/\k=s2.e/\PPost B W xb rb mb w m D s2 w1/\∀ b c,Blk w b 9 c->Blk w1 b 9 c)->QRf B W w xb rb mb m D g s.steps s' left rv k w1:=by
    rintro rv k w1 ⟨rfl,rfl,hp,hb⟩;exact⟨s2,ws,ra,rn,rp,hrf,rfl,hp,fun e=>xTok_more hq e,hend,fun _=>⟨TokAt_mono (fun b c h=>hb b c h) hT,how,hwl,hxx⟩⟩
   have bad:∀ (er:Int) rv k w1,er ≠ 0->s2=s.err er->(rv=.slice none 0 0/\k=er/\Kp w w1 (fun _=>False))->QRf B W w xb rb mb m D g s.steps s' left rv k w1:=by
    rintro er rv k w1 her rfl ⟨rfl,rfl,hk⟩;exact⟨s.err k,[],none,0,0,rfl,rfl,h.erK her hk,fun e=>absurd e her,hend,fun e=>absurd e her⟩
   unfold xTok at hq;rcases tok_cases hne hc with⟨n,h1,hkd⟩|⟨h1,j,h2,hkd,hj⟩|⟨h1,h2,h3,hkd⟩|⟨h1,h2,h3,hkd⟩
   ·rw[h1] at hq;have hs2:s2=if s.step.e=0 then s.step.put n else s.step:=by
     by_cases hs:s.step.e=0
     ·rw[if_pos hs];have hq:(if s.step.e ≠ 0 then some s.step else some (s.step.put n))=some s2:=hq;rw[if_neg (by simpa using hs)] at hq;injection hq with hq;exact hq.symm
     ·rw[if_neg hs];have hq:(if s.step.e ≠ 0 then some s.step else some (s.step.put n))=some s2:=hq;rw[if_pos hs] at hq;injection hq with hq;exact hq.symm
    refine (rf_num m.bk rb gb off cap ws.length t w _ hkd n (fun k w1=>k=s2.e/\PPost B W xb rb mb w m D s2 w1/\∀ b c,Blk w b 9 c->Blk w1 b 9 c) (fun w=>valueM t n w (by rw[ByteArray.toList_eq];exact h1) hot.2) ?_ hcap hcap2 c1 HK).mono ?_
    ·intro w0 hk0;refine stepGrow h he (hk0.alloc _) _ (s.step.put n) s2 hs2 ?_;intro hse w1 m1 p1 t1 kd;exact layP p1 hse n (numP_range h1) w0.heap.size (kd _ _ _ ⟨Or.inr ⟨hk0.size,by rw[World.size_alloc];exact Nat.lt_succ_self _⟩,Blk.new _ _ _⟩).2
    ·rintro e w1 ⟨rv,k,rfl,hqq⟩;exact⟨rv,k,rfl,done rv k w1 hqq⟩
   ·rw[h1,h2] at hq;have hs2:s2=if s.step.e=0 then s.step.word j else s.step:=by
     by_cases hs:s.step.e=0
     ·rw[if_pos hs];have hq:(if s.step.e ≠ 0 then some s.step else some (s.step.word j))=some s2:=hq;rw[if_neg (by simpa using hs)] at hq;injection hq with hq;exact hq.symm
     ·rw[if_neg hs];have hq:(if s.step.e ≠ 0 then some s.step else some (s.step.word j))=some s2:=hq;rw[if_pos hs] at hq;injection hq with hq;exact hq.symm
    refine (rf_plain m.bk rb gb off cap ws.length t w _ j hj hkd (fun k w1=>k=s2.e/\PPost B W xb rb mb w m D s2 w1/\∀ b c,Blk w b 9 c->Blk w1 b 9 c) ?_ hcap hcap2 c1 HK).mono ?_
    ·intro w0 w1 fn ff fc hk0 hk1 hp;refine stepGrow h he (hk0.trans hk1) _ (s.step.word j) s2 hs2 ?_;intro hse w2 m1 p1 t1 kd;exact plainPX hE.glo p1 hse j _ (plainR_mono (fun b t c hb=>kd b t c ⟨Or.inr ⟨Nat.le_trans hk0.size hb.1,hb.2.lt⟩,hb.2⟩) hp)
    ·rintro e w1 ⟨rv,k,rfl,hqq⟩;exact⟨rv,k,rfl,done rv k w1 hqq⟩
   ·rw[h1,h2] at hq
    have hq:(if keptQ t.data.toList=true then some (s.err 4) else if s.known t.data.toList=false then some (s.err 3) else if s.step.e ≠ 0 then some s.step else match xRun g (jCall t.data.toList) s.step with
     | none=>none
     | some (s2,_)=>some s2)=some s2:=hq
    rw[if_pos h3] at hq;injection hq with hq;refine (rf_form m.bk rb gb off cap ws.length t w _ hkd hcap hcap2 c1 HK).mono ?_;rintro e w1 ⟨rv,k,rfl,hqq⟩;exact⟨rv,k,rfl,bad 4 rv k w1 (by decide) hq.symm hqq⟩
   ·rw[h1,h2] at hq
    have hq:(if keptQ t.data.toList=true then some (s.err 4) else if s.known t.data.toList=false then some (s.err 3) else if s.step.e ≠ 0 then some s.step else match xRun g (jCall t.data.toList) s.step with
     | none=>none
     | some (s2,_)=>some s2)=some s2:=hq
    rw[if_neg (by rw[h3];decide)] at hq
    cases hkn:s.known t.data.toList with
    | false=>
     rw[hkn] at HH;rw[if_pos hkn] at hq;injection hq with hq;refine (rf_word m.bk rb gb off cap ws.length t w HH _ hkd hcap hcap2 c1 HK).mono ?_;rintro e w1 ⟨rv,k,rfl,hqq⟩;exact⟨rv,k,rfl,bad 3 rv k w1 (by decide) hq.symm hqq⟩
    | true=>
     rw[hkn] at HH;rw[if_neg (by rw[hkn];decide)] at hq;refine (rf_call m.bk rb gb off cap ws.length t w HH _ hkd (fun k w1=>k=s2.e/\PPost B W xb rb mb w m D s2 w1/\∀ b c,Blk w b 9 c->Blk w1 b 9 c) ?_ hcap hcap2 c1 HK).mono ?_
     ·intro w0 w1 db bb nb hk0 hk1 b1 b2 b3;have key:∃ s3,s2=(if s.step.e=0 then s3 else s.step)/\(s.step.e=0->∃ left,xRun g (jCall t.data.toList) s.step=some (s3,left)):=by
       by_cases hs:s.step.e=0
       ·rw[if_neg (by simpa using hs)] at hq
        cases hc:xRun g (jCall t.data.toList) s.step with
        | none=>rw[hc] at hq;cases hq
        | some p=>
         obtain⟨s3,l3⟩:=p;rw[hc] at hq;injection hq with hq;exact⟨s3,by rw[if_pos hs];exact hq.symm,fun _=>⟨l3,rfl⟩⟩
       ·rw[if_pos hs] at hq;injection hq with hq;exact⟨s,by rw[if_neg hs];exact hq.symm,fun e=>absurd e hs⟩
      obtain⟨s3,hs3,hcall⟩:=key;refine stepGrow h he (hk0.trans hk1) _ s3 s2 hs3 ?_;intro hse w2 m1 p1 t1 kd;obtain⟨l3,hcc⟩:=hcall hse;have kd':∀ b t c,BD (New w0) w1 b t c->BD (moreG D w.heap.size w1.heap.size).d w2 b t c:=fun b t c hb=>kd b t c ⟨Or.inr ⟨Nat.le_trans hk0.size hb.1,hb.2.lt⟩,hb.2⟩
      match g,hcc,hW with
      | 0,hcc,_=>cases hcc
      | 1,hcc,_=>
       rw[x_call] at hcc
       split at hcc
       ·cases hcc
       ·cases hcc
      | g' + 1+1,hcc,hW=>
       exact callP g' (hW g' (by omega)) p1 hse db bb nb t hot.2 (kd' _ _ _ b1) (by rw[t1.bk];exact kd' _ _ _ b2) (kd' _ _ _ b3) s3 l3 hcc
     ·rintro e w1 ⟨rv,k,rfl,hqq⟩;exact⟨rv,k,rfl,done rv k w1 hqq⟩
end
end
section
open Go.RowKit
structure TAt (B:Nat) (W:World) (g xb rb mb:Nat) (w wr:World) (m:MS) (D:GD) (s':St) (left:Bool) (v:Value) (k:Int) (g':Nat):Prop where
 ex:∃ m1 D1 s1 ws1 a n p,v=.slice a n p/\k=s1.e/\g'<=g/\PR B W wr xb rb mb m1 D1 s1/\PTo xb rb mb w wr m m1 D D1/\(s1.e ≠ 0->s'=s1)/\(s1.e=0->n=ws1.length/\TokAt (Blk wr) v ws1/\(∀ t∈ws1,okW t)/\ws1.length<=1000/\xRun g' (jToks (texts ws1)) s1=some (s',left))
theorem runX {B:Nat} {W:World} (hE:Env B W) (g:Nat) (hW:∀ g',g' < g->QW B W g'):QT B W g:=by
 intro w xb rb mb m D s s' v ws left hr he ht ho hl hx;obtain⟨ao,cap,rfl⟩:=ht.form;have h0:Hid (TAt B W g xb rb mb w w m D s' left (.slice ao ws.length cap) 0 g):=⟨⟨m,D,s,ws,ao,ws.length,cap,rfl,he.symm,Nat.le_refl _,hr,PTo.refl _ _ _ _ _ _,fun e=>absurd he e,fun _=>⟨rfl,ht,ho,hl,hx⟩⟩⟩;have HW:=hide hW;have HE:=hide hE;clear hr he ht ho hx hW hE;go_enter Tryz.func42,Tryz.ntmps42;go_wp2
 go_loopw [2,7] (fun v k wr=>∃ kk g',k=.int .i64 kk/\TAt B W g xb rb mb w wr m D s' left v kk g') (fun _ k wr=>if intOf k=0 then 1+(2002 - stOf wr rb).toNat else 0)
 case atStart=>exact⟨0,g,rfl,h0.out⟩
 case round=>
  obtain⟨kk,g',rfl,⟨m1,D1,s1,ws1,a,n,p,rfl,rfl,hg,hr,hto,hbad,hgo⟩⟩:=hrel;by_cases he:s1.e=0
  ·obtain⟨rfl,hT,hok,hlen,hx⟩:=hgo he;have hso:=hr.stOf he;have hs2:=hr.good.s2 he
   cases ws1 with
   | nil=>
    have hss:s'=s1:=by
     cases g' with
     | zero=>cases hx
     | succ g'=>injection hx with hx;injection hx with e1 e2;exact e1.symm
    subst hss;have HR:=hide hr;have HT:=hide hto;clear hr hto hx hbad hgo hso;rw[he];go_wp2;go_ret;exact⟨by rw[he];rfl,m1,D1,HR.out,HT.out⟩
   | cons t ws1=>
    cases g' with
    | zero=>cases hx
    | succ g'=>
     have hbk:=hto.bk;have HC:=hide (rfX HE.out g' (fun g2 h2=>HW.out g2 (by omega)) hr he t ws1 _ hT hok hlen s' left hx);rw[hbk] at HC;have HTo:=hide hto;have H1:=hide hso;have H2:=hide hs2;have HE1:=hide he;have hll:(0:Int) < ((t :: ws1).length:Int):=by simp
     rw[he];generalize (t :: ws1).length=nn at *;clear hr hto hx hbad hgo hso hs2 hT he hbk
     go_wp2_with fail
     refine HC.out.mono ?_;rintro e w1 ⟨rv,k,rfl,s2,ws2,a2,n2,p2,rfl,rfl,hp,hst,hb2,hg2⟩;obtain⟨m2,D2,hr2,ht2⟩:=hp;have HR2:=hide hr2;have HT2:=hide (HTo.out.trans ht2);have HST:=hide hst;have HB2:=hide hb2;have HG2:=hide hg2;clear hr2 ht2 hst hb2 hg2;go_wp2;refine⟨⟨s2.e,g',rfl,⟨m2,D2,s2,ws2,a2,n2,p2,rfl,rfl,by omega,HR2.out,HT2.out,HB2.out,fun e=>?_⟩⟩,?_⟩
     ·obtain⟨q1,q2,q3,q4⟩:=HG2.out e;obtain⟨ao,cp,he3⟩:=q1.form;injection he3 with e1 e2 e3;exact⟨e2,q1,q2,q3,q4⟩
     ·rw[if_pos (show intOf (.int .i64 0)=0 from rfl),H1.out];by_cases e:s2.e=0
      ·rw[if_pos (show intOf (.int .i64 s2.e)=0 from e),HR2.out.stOf e];have q1:=HST.out e;have q2:=H2.out;omega
      ·rw[if_neg (show ¬ intOf (.int .i64 s2.e)=0 from e)];omega
  ·have hss:=hbad he;subst hss;have HR:=hide hr;have HT:=hide hto;have h1:(s'.e == 0)=false:=by simpa using he
   clear hr hto hbad hgo he;go_wp2;go_ret;exact⟨rfl,m1,D1,HR.out,HT.out⟩
end
section
open Go.RowKit
theorem allX {B:Nat} {W:World} (hE:Env B W):∀ g,QB B W g/\QI B W g/\QW B W g/\QT B W g:=by
 intro g
 induction g using Nat.strongRecOn with
 | ind g ih=>
  have hI:QI B W g:=itemX hE g (fun g' h=>(ih g' h).1) (fun g' h=>(ih g' h).2.2.1) (fun g' h=>(ih g' h).2.2.2);have hB:QB B W g:=runAllX g (fun g' h=>(ih g' h).2.1);exact⟨hB,hI,wordRunX g hB,runX hE g (fun g' h=>(ih g' h).2.2.1)⟩
end
section
open Go.RowKit
structure PSn (B:Nat) (W:World) (I:Int) (w:World) (xb bk mb:Nat) (sv:Value) (D:GD) (V:Nat->Prop) (s:St):Prop where
 xblk:Blk w xb 80 (marr bk sv s.mem)
 srow:w.ownsRow 0 2 1 sv s.rs.reverse.length (ints s.rs.reverse)
 len:s.rs.length<=32
 bel:Below B W w
 bx:B<=xb
 bv:∀ k,own sv k->B<=k
 bs:B<=w.heap.size
 bmb:B<=mb
 book:Blk w bk 106 #[.map (some mb),.int .i64 s.hot,.int .i64 s.built]
 words:WordsR D w bk mb s.defs
 sep:∀ k,D.d k->k < w.heap.size/\k ≠ xb/\¬ own sv k
 us:∀ k,D.u k->B<=k/\k ≠ mb/\KindU w k
 nb:¬ D.d bk
 bbk:B<=bk
 vs:∀ k,V k<->k=xb\/k=bk\/k=mb\/own sv k\/D.d k\/D.u k
 ids:0<=s.ids/\s.ids<=I
 idr:∀ o f,D.r o f->f.id<=s.ids
def PSes (B:Nat) (W:World) (I:Int) (w:World) (xb:Nat) (V:Nat->Prop) (s:St):Prop:=∃ bk mb sv D,PSn B W I w xb bk mb sv D V s
section
variable {B:Nat} {I:Int} {W w w':World} {xb bk mb:Nat} {sv:Value} {D:GD} {V:Nat->Prop} {s:St}
theorem PSn.lt (h:PSn B W I w xb bk mb sv D V s):∀ k,V k->k < w.heap.size:=by
 intro k hk;rcases (h.vs k).1 hk with rfl|rfl|rfl|e|e|e
 ·exact h.xblk.lt
 ·exact h.book.lt
 ·exact h.words.ltm
 ·exact own_lt h.srow e
 ·exact (h.sep k e).1
 ·exact h.words.wds.lt k e
theorem PSn.frame {S:Nat->Prop} (h:PSn B W I w xb bk mb sv D V s) (hk:Kp w w' S) (hV:∀ k,V k->¬ S k) (hB:∀ k,k < B->¬ S k):PSn B W I w' xb bk mb sv D V s:=by
 have hv:∀ k,(k=xb\/k=bk\/k=mb\/own sv k\/D.d k\/D.u k)->¬ S k:=fun k e=>hV k ((h.vs k).2 e);have hu:∀ k,D.u k->¬ S k:=fun k e=>hv k (.inr (.inr (.inr (.inr (.inr e)))));have hd:∀ k,D.d k->¬ S k:=fun k e=>hv k (.inr (.inr (.inr (.inr (.inl e)))));obtain⟨hpr,hwd⟩:=h.words.wds.out hk hu hd;refine⟨hk.blk h.xblk (hv _ (.inl rfl)),hk.row h.srow (fun k e=>hv k (.inr (.inr (.inr (.inl e))))),h.len,h.bel.trans (hk.below h.bs hB),h.bx,h.bv,Nat.le_trans h.bs hk.size,h.bmb,hk.blk h.book (hv _ (.inr (.inl rfl))),h.words.pres hpr (fun _ _ h=>h) (fun _ _ h=>h) hwd (hk.block mb h.words.ltm (hv _ (.inr (.inr (.inl rfl))))) (fun _ _ _ _ q=>q.out hk hu hd),fun k e=>?_,fun k e=>?_,h.nb,h.bbk,h.vs,h.ids,h.idr⟩
 ·obtain⟨e0,e1⟩:=h.sep k e;exact⟨Nat.lt_of_lt_of_le e0 hk.size,e1⟩
 ·obtain⟨e0,e1,e2⟩:=h.us k e;refine⟨e0,e1,?_⟩;rcases e2 with⟨c,hc⟩|⟨n,DD,hm⟩
  ·exact .inl ⟨c,hk.blk hc (hu k e)⟩
  ·exact .inr ⟨n,DD,ownsMap_same hm (hk.block k hm.lt (hu k e))⟩
theorem PSn.kp (h:PSn B W I w xb bk mb sv D V s) (hk:Kp w w' (fun _=>False)):PSn B W I w' xb bk mb sv D V s:=h.frame hk (fun _ _ e=>e) (fun _ _ e=>e)
theorem PSn.to (h:PSn B W I w xb bk mb sv D V s) (hk:Kp w w' (fun _=>False)):∃ V',PSes B W I w' xb V' s/\To (fun _=>False) w w' V V':=
 ⟨V,⟨bk,mb,sv,D,h.kp hk⟩,⟨hk.mono (fun _ _ e=>e.elim),fun _ e=>.inl e⟩⟩
theorem cellM (w:World) (xb bk:Nat) (sv:Value) (mem:Nat->Int) (h:Blk w xb 80 (marr bk sv mem)) (n:Int):
  Calls Tryz.prog 56 #[pt xb,.int .i64 n] w fun e w'=>e=.returned (.tuple #[.int .i64 (if n < 0\/16<=n then ((0:Int),(10:Int)) else (mem n.toNat,0)).1,.int .i64 (if n < 0\/16<=n then ((0:Int),(10:Int)) else (mem n.toNat,0)).2])/\Kp w w' (fun _=>False):=by
 by_cases hc:n < 0\/16<=n
 ·rw[if_pos hc];have HI:=hide (isCellM n w);rw[decide_eq_false (by omega)] at HI;clear hc;go_enter Tryz.func56,Tryz.ntmps56
  go_wp2_with fail
  refine HI.out.mono ?_;rintro e w1 ⟨rfl,rfl⟩;go_wp2;go_ret2;exact⟨rfl,Kp.refl _ _⟩
 ·rw[if_neg hc];have HI:=hide (isCellM n w);rw[decide_eq_true (by omega)] at HI;have c1:w.cell? ⟨xb,1+n.toNat,none⟩=some (.int .i64 (mem n.toNat)):=h.cell (marr_at _ _ _ _ (by omega));have h0:0<=n:=by omega
  have h1:n < 16:=by omega
  clear hc;go_enter Tryz.func56,Tryz.ntmps56
  go_wp2_with fail
  refine HI.out.mono ?_;rintro e w1 ⟨rfl,rfl⟩;go_wp2;go_ret2;exact⟨rfl,Kp.refl _ _⟩
end
end
section
open Go.RowKit
theorem fields_ne:∀ (l cur:List UInt8),∀ x∈Lib.fieldsGo cur l,x ≠ []
 | [],cur,x,hx=>by
  unfold Lib.fieldsGo at hx
  split at hx
  ·simp at hx
  ·rename_i h;simp at hx;subst hx;simpa using h
 | b :: l,cur,x,hx=>by
  unfold Lib.fieldsGo at hx
  split at hx
  ·split at hx
   ·exact fields_ne l [] x hx
   ·rename_i h
    rcases List.mem_cons.1 hx with h1|h1
    ·subst h1;simpa using h
    ·exact fields_ne l [] x h1
  ·exact fields_ne l _ x hx
theorem fields_size:∀ (l cur:List UInt8),∀ x∈Lib.fieldsGo cur l,x.length<=cur.length+l.length
 | [],cur,x,hx=>by
  unfold Lib.fieldsGo at hx
  split at hx
  ·simp at hx
  ·simp at hx;subst hx;omega
 | b :: l,cur,x,hx=>by
  unfold Lib.fieldsGo at hx
  split at hx
  ·split at hx
   ·have:=fields_size l [] x hx;simp at this ⊢;omega
   ·rcases List.mem_cons.1 hx with h1|h1
    ·subst h1;omega
    ·have:=fields_size l [] x h1;simp at this ⊢;omega
  ·have:=fields_size l _ x hx;simp at this ⊢;omega
theorem validM (s:ByteArray) (w:World):
  Calls Tryz.prog 40 #[.string s] w fun e w'=>e=.returned (.bool (validB s.data.toList))/\w'=w:=by
 by_cases hs:s.size<=400
 ·go_enter Tryz.func40,Tryz.ntmps40;go_wp2
  go_loop [9] (fun i=>∃ k:Nat,k<=s.size/\i=.int .i64 k/\(s.data.toList.take k).all okB=true) (fun i=>s.size - (intOf i).toNat)
  case atStart=>exact⟨0,Nat.zero_le _,rfl,rfl⟩
  case round=>
   obtain⟨k,hk,rfl,hall⟩:=hrel;have HA:=hide hall;clear hall;by_cases hlt:k < s.size
   ·by_cases hok:32<=s[k].toNat/\s[k].toNat<=126
    ·obtain⟨ho1,ho2⟩:=hok;go_wp2
     go_round
     case rel=>exact⟨k+1,by omega,by go_num,all_snoc hlt HA.out ⟨ho1,ho2⟩⟩
     case measure=>simp[intOf];omega
    ·have HB:=hide (validB_bad hlt hok);rcases (show s[k].toNat < 32\/(32<=s[k].toNat/\126 < s[k].toNat) by omega) with h1|⟨h1,h2⟩
     all_goals
      clear hok;go_wp2;go_ret;exact⟨by rw[HB.out];rfl,rfl⟩
   ·have HB:Hid (validB s.data.toList=true):=by
     have h1:=HA.out;have:k=s.size:=by omega
     rw[this] at h1;exact validB_of hs h1
    go_wp2;go_ret;exact⟨by rw[HB.out];rfl,rfl⟩
 ·have HB:Hid (validB s.data.toList=false):=by
   unfold Hid validB;have:s.data.toList.length=s.size:=rfl;rw[this,decide_eq_false hs];rfl
  go_enter Tryz.func40,Tryz.ntmps40;go_wp2;go_ret;exact⟨by rw[HB.out];rfl,rfl⟩
theorem str_of (out:ByteArray):strOfNums (out.data.toList.map fun b=>(b.toNat:Int))=out:=by
 unfold strOfNums
 apply ByteArray.ext
 simp only[List.map_map];have:((fun n:Int=>UInt8.ofNat n.toNat) ∘ fun b:UInt8=>(b.toNat:Int))=id:=by
  funext b;simp
 rw[this];simp
theorem conv_out {w:World} {v:Value} {out:ByteArray} (h:w.ownsRow 0 5 1 v out.size (Lib.byteCells out.data.toList)):(convert 85 9 v).run Tryz.prog w=.ok (.string out) w:=by
 rcases h.2 with⟨rfl,h0⟩|⟨g,cap,cur,rfl,_,hg,hnc,_,hcs,htake⟩
 ·rw[run_convert_bytes_nil w 85 5 Tryz.underlying85 Tryz.underlying5 0 0 9 Tryz.underlying9];have:out=ByteArray.empty:=by
   apply ByteArray.ext
   have:out.data.size=0:=h0;exact Array.eq_empty_of_size_eq_zero this
  rw[this]
 ·have:=run_convert_bytes_arg w 85 5 Tryz.underlying85 Tryz.underlying5 g 0 out.size cap (out.data.toList.map fun b=>(b.toNat:Int)) (by rw[List.length_map];rfl) ?_ 9 Tryz.underlying9
  ·rw[this,str_of]
  ·intro i hi;have hl:i < out.data.toList.length:=hi;have e:out.data.toList[i]? = some out.data.toList[i]:=List.getElem?_eq_getElem hl;have:=h.cells (g:=g) rfl i (.int .u8 ((out.data.toList[i]).toNat:Int)) (by rw[Lib.byteCells,List.getElem?_map,e];rfl);rw[addr_add2] at this;rw[Nat.zero_add,this,List.getD_eq_getElem?_getD,List.getElem?_map,e];rfl
theorem printedM (w:World) (xb rb:Nat) (m:MS) (ns:List Int) (h:MInv w xb rb m ns):
  Calls Tryz.prog 45 #[.pointer (some ⟨rb,0,none⟩)] w fun e w'=>e=.returned (.string m.out)/\w'=w:=by
 have k1:w.cell? ⟨rb,1,none⟩=some m.ov:=h.rblk.cell rfl;have hc:=conv_out h.orow;obtain⟨ao,cap,hv⟩:=form_of h.orow;rw[hv] at k1 hc;clear hv;go_enter Tryz.func45,Tryz.ntmps45;go_wp2;go_ret;exact⟨rfl,rfl⟩
theorem ascii_of {l:List UInt8} (h:validB l=true):∀ (j:Nat) b,l[j]? = some b->b.toNat < 128:=by
 intro j b hb;unfold validB at h;rw[Bool.and_eq_true,List.all_eq_true] at h;have:=of_decide_eq_true (h.2 b (List.mem_of_getElem? hb));omega
end
section
open Go.RowKit
section
variable {B:Nat} {W w w':World}
theorem splitM (hG:Glo B W) (t:ByteArray) (hv:validB t.data.toList=true) (w:World) (hb:Below B W w) (hs:B<=w.heap.size):
  Calls Tryz.prog 43 #[.string t] w fun e w'=>∃ n v ws,e=.returned (.slice (some v) n n)/\Kp w w' (fun _=>False)/\TokAt (Blk w') (.slice (some v) n n) ws/\texts ws=Lib.fields t.data.toList/\(∀ x∈ws,okW x)/\ws.length<=1000:=by
 have hsz:t.size<=400:=by unfold validB at hv;rw[Bool.and_eq_true] at hv;exact of_decide_eq_true hv.1
 have HCl:=hide (Tryz.stringslite_Clone t);have HC:=hide (Tryz.strings_Fields t);have HG:=hide hG;have HV:=hide hv;clear hG hv;go_enter Tryz.func43,Tryz.ntmps43
 go_wp2_with (first
  | (go_at_call 59;go_in)
  | (go_at_call 78;refine (HCl.out _ (by omega)).mono ?_;rintro e w1 ⟨rfl,hk1⟩;have HK1:=hide hk1;clear hk1)
  | (go_at_call 58;refine (HC.out _ (by omega) (ascii_of HV.out) (by exact (HG.out.asc.on (hb.trans (HK1.out.mono hs))).here)).mono ?_;rintro e w2 ⟨rfl,rfl⟩))
 go_ret;have hlen:(Lib.fields t.data.toList).length<=401:=by
  have h1:=fields_len t.data.toList [];have h3:t.data.toList.length=t.size:=rfl;have:(Lib.fields t.data.toList).length<=t.data.toList.length+1:=h1;omega
 refine⟨_,_,(Lib.fields t.data.toList).map fun l=>⟨l.toArray⟩,rfl,(Kp.ofBelow HK1.out).alloc _,.inr ⟨_,0,_,_,by rw[List.length_map],Blk.new _ _ _,by rw[List.length_map];exact Nat.le_refl _,by unfold maxLen;omega,by simp,fun i hi=>?_⟩,?_,fun x hx=>?_,by rw[List.length_map];omega⟩
 ·simp at hi;simp[hi]
 ·unfold texts;rw[List.map_map];exact List.map_id _
 ·obtain⟨l,hl,rfl⟩:=List.mem_map.1 hx;have h1:=fields_ne _ _ _ hl;have h2:=fields_size _ _ _ hl;have h3:t.data.toList.length=t.size:=rfl;refine⟨by rw[ByteArray.toList_eq];exact h1,?_⟩;show l.toArray.size<=1000;simp at h2 h3 ⊢;omega
theorem lineM_bad (w:World) (xb:Nat) (t:ByteArray) (hv:validB t.data.toList=false):
  Calls Tryz.prog 18 #[pt xb,.string t] w fun e w'=>e=.returned (.tuple #[.string ⟨#[]⟩,.int .i64 2])/\w'=w:=by
 go_enter Tryz.func18,Tryz.ntmps18
 go_wp2_with fail
 refine (validM _ _).mono ?_;rintro e w' ⟨rfl,hw⟩;rw[hw,hv];clear hw;go_wp2;go_ret2;exact⟨rfl,rfl⟩
abbrev runCells (xb:Nat):Array Value:=#[pt xb,.slice none 0 0,.int .i64 0,.int .i64 0]
theorem lineW (hG:Glo B W) (w:World) (xb bk:Nat) (sv:Value) (mem:Nat->Int) (t:ByteArray) (hv:validB t.data.toList=true) (hb:Below B W w) (hs:B<=w.heap.size) (hX:Blk w xb 80 (marr bk sv mem)) (e0:Int) (R:MS->World->Prop)
  (hrun:∀ w1 n v ws,Kp w w1 (fun _=>False)->Blk w1 w.heap.size 100 (runCells xb)->TokAt (Blk w1) (.slice (some v) n n) ws->texts ws=Lib.fields t.data.toList->(∀ x∈ws,okW x)->ws.length<=1000->Calls Tryz.prog 42 #[pt bk,pt w.heap.size,.slice (some v) n n] w1 fun e w'=>∃ m' ns,e=.returned (.int .i64 e0)/\m'.bk=bk/\MInv w' xb w.heap.size m' ns/\R m' w'):
  Calls Tryz.prog 18 #[pt xb,.string t] w fun e w'=>∃ m' w3,R m' w3/\e=.returned (.tuple #[.string m'.out,.int .i64 e0])/\w'=if e0=0 then w3 else w3.setCell ⟨xb,0,none⟩ (.slice none 0 0):=by
 have HR:=hide hrun;have c17:w.cell? ⟨xb,17,none⟩=some (pt bk):=hX.cell rfl;have hxl:=hX.lt;have hk0:=(Kp.refl w (fun _=>False)).alloc (.cells (runCells xb) 100);have HB0:=hide (Blk.new w (runCells xb) 100);have hX0:=hk0.blk hX (by simp);have HX0:=hide hX0;have HSP:=hide (fun w0 hk=>splitM hG t hv w0 (hb.trans (Kp.below (S:=fun _=>False) hk hs (fun _ _ e=>e))) (Nat.le_trans hs (Kp.size (S:=fun _=>False) hk)));have c18:(w.alloc (.cells (runCells xb) 100)).cell? ⟨xb,17,none⟩=some (pt bk):=hX0.cell rfl;clear hrun hG;go_enter Tryz.func18,Tryz.ntmps18
 go_wp2_with fail
 refine (validM _ _).mono ?_;rintro e w' ⟨rfl,hw⟩;rw[hw,hv];clear hw
 go_wp2_with (go_at_call 41;go_in)
 generalize w.alloc (.cells (runCells xb) 100)=w0 at *
 go_region_held3 (fun w'=>w'.cell? ⟨xb,17,none⟩=some (pt bk)) (go_keep) (first
  | (go_at_call 43;refine (HSP.out _ hk0.drew).mono ?_;rintro e w1 ⟨n,v,ws,rfl,hk1,q1,q2,q3,q4⟩;have HK1:=hide hk1;have HQ1:=hide q1;have HQ2:=hide q2;have HQ3:=hide q3;have HQ4:=hide q4;have u0:w1.cell? ⟨xb,17,none⟩=some (pt bk):=(hk1.blk HX0.out.drew (by simp)).cell rfl;clear hk1 q1 q2 q3 q4)
  | (go_at_call 42;refine (HR.out w1 n v ws (hk0.drew.trans HK1.out) (HK1.out.blk HB0.out.drew (by simp)) HQ1.out HQ2.out HQ3.out HQ4.out).mono ?_;rintro e w3 ⟨m',ns,rfl,hbk,hi3,hr3⟩;have HR3:=hide hr3;have HI3:=hide hi3;have u1:w3.cell? ⟨xb,17,none⟩=some (.pointer (some ⟨m'.bk,0,none⟩)):=hi3.xblk.cell rfl;rw[hbk] at u1;clear hr3 hi3 hbk))
 by_cases he:e0=0
 ·have he':(e0 != 0)=false:=by simp[he]
  have HE:=hide he;clear he
  go_wp2_with fail
  refine (printedM _ _ _ _ _ HI3.out).mono ?_;rintro e w' ⟨rfl,hw⟩;rw[hw];clear hw;go_wp2;go_ret2
  first
   | exact⟨m',w3,HR3.out,rfl,by rw[if_pos HE.out]⟩
   | exact⟨m',HR3.out,rfl⟩
 ·have he':(e0 != 0)=true:=by simp[he]
  have HE:=hide he;have hi3:=HI3.out;have k0:w3.cell? ⟨xb,0,none⟩=some m'.sv:=hi3.xblk.cell rfl;have f0:=hi3.xblk.free 0;obtain⟨ao,cap,hvv⟩:=form_of hi3.srow;rw[hvv] at k0;have hi5:MInv (w3.setCell ⟨xb,0,none⟩ (.slice none 0 0)) xb w.heap.size { m' with sv:=.slice none 0 0 } []:=
   ⟨hi3.xblk.set 0 _,hi3.rblk.setOther hi3.ne.symm _,World.ownsRow_nil _ _ _ _,ownsRow_setCell_other hi3.orow (own_ne hi3.orow hi3.xblk (by decide)) _,by simp⟩
  have H5:=hide hi5;clear he hvv hi5 hi3
  go_wp2_with (go_at_call 44;go_in)
  refine (printedM _ _ _ _ _ H5.out).mono ?_;rintro e w' ⟨rfl,hw⟩;rw[hw];clear hw;go_wp2;go_ret2
  first
   | exact⟨m',w3,HR3.out,rfl,by rw[if_neg HE.out]⟩
   | exact⟨m',w3,HR3.out,rfl,rfl⟩
end
end
section
open Go.RowKit
section
variable {B:Nat} {I:Int} {W w w':World} {xb bk mb:Nat} {sv:Value} {D:GD} {V:Nat->Prop} {s:St}
theorem good_fresh (h:SGood s):SGood (freshL s):=
 ⟨⟨h.g.ins,h.g.mems,h.g.len,by show (0:Nat)<=300;decide⟩,by show (0:Int)<=0;decide,by show (0:Int)<=2001;decide,fun _=>by show (0:Int)<=2000;decide,by show (0:Int)<=0;decide,by show (0:Int)<=20;decide,h.b0,h.b1,h.cb⟩
theorem WordsR.setJ (h:WordsR D w bk mb s.defs) (j:Int):WordsR { D with J:=j } w bk mb s.defs:=by
 have hgl:GLe D { D with J:=j } w:=⟨fun _ h=>h,fun _ _ h=>h,fun _ _=>rfl⟩;have hp:Pres D { D with J:=j } w w bk:=fun o f c hr hc=>⟨c,rfl,rfl,rfl,rfl,rfl,hc.frame (Kp.refl w (fun _=>False)) hgl (fun _ _ _ q=>q) (by simp) (by simp) (by simp)⟩;have hW:=h.wds;refine h.pres hp (fun _ _ h=>h) (fun _ _ h=>h) ⟨fun o f hr=>?_,hW.fn,hW.ud,hW.lt,hW.dl⟩ rfl (fun _ _ _ _ q=>q.frame (Kp.refl w (fun _=>False)) hgl (fun _ _ _ q=>q) (fun _ _ e=>e));obtain⟨c,hc⟩:=hW.ok o f hr;obtain⟨c',_,_,_,_,_,h'⟩:=hp o f c hr hc;exact⟨c',h'⟩
theorem PSn.start (h:PSn B W I w xb bk mb sv D V s) (hg:SGood s) (hI:I<=4611686018427387904) (hk:Kp w w' (fun _=>False)) (hr:Blk w' w.heap.size 100 (runCells xb)):
  PR B W w' xb w.heap.size mb ⟨sv,s.mem,.slice none 0 0,0,⟨#[]⟩,0,bk⟩ { D with J:=s.ids } (freshL s):=by
 have h1:=h.kp hk;have nov:∀ k,¬ own (.slice none 0 0) k:=fun k e=>by simp[own,Value.ownBlock] at e
 refine⟨⟨s.rs.reverse,⟨h1.xblk,hr,h1.srow,World.ownsRow_nil _ _ _ _,by rw[List.length_reverse];exact h.len⟩,fun _=>rfl⟩,rfl,rfl,by show (0:Int)<=0;decide,by show (0:Int)<=2000;decide,fun _=>rfl,rfl,⟨h1.bel,h.bx,h.bs,fun k e=>e.elim (h.bv k) (fun q=>absurd q (nov k)),h1.bs⟩,h.bmb,h1.book,h1.words.setJ s.ids,fun k e=>?_,h1.us,good_fresh hg,⟨h.ids.1,by show s.ids<=s.ids+0;omega,by have:=h.ids.2;show s.ids<=_;omega⟩,h.idr⟩;obtain⟨e0,e1,e2⟩:=h.sep k e;exact⟨Nat.lt_of_lt_of_le e0 hk.size,e1,by show k ≠ w.heap.size;omega,e2,nov k⟩
theorem lineOk (hE:Env B W) (h:PSn B W I w xb bk mb sv D V s) (hI:I<=4611686018427387904) (hg:SGood s) (t:ByteArray) (hv:validB t.data.toList=true) (g:Nat) (s1:St) (left:Bool) (hx:xRun g (jToks (Lib.fields t.data.toList)) (freshL s)=some (s1,left)):
  Calls Tryz.prog 18 #[pt xb,.string t] w fun e w'=>e=.returned (.tuple #[.string s1.out,.int .i64 s1.e])/\∃ V',PSes B W (I+2000) w' xb V' (endL s1)/\To (fun _=>False) w w' V V':=by
 refine (lineW hE.glo w xb bk sv s.mem t hv h.bel h.bs h.xblk s1.e (fun m' w3=>∃ D',PR B W w3 xb w.heap.size mb m' D' s1/\Kp w w3 V/\m'.bk=bk/\(∀ k,own m'.sv k->(own sv k\/D.u k)\/w.heap.size<=k)/\(∀ k,D'.d k->D.d k\/w.heap.size<=k)/\(∀ k,D'.u k->(own sv k\/D.u k)\/w.heap.size<=k)/\D'.J=s.ids) ?_).mono ?_
 ·intro w1 n v ws hk hb hT htx hok hl;have h1:=h.start hg hI hk hb;refine ((allX hE g).2.2.2 w1 xb w.heap.size mb _ { D with J:=s.ids } (freshL s) s1 _ ws left h1 rfl hT hok hl (by rw[htx];exact hx)).mono ?_;rintro e w' ⟨rfl,m',D',hr,ht⟩;obtain⟨ns,hi,_⟩:=hr.inv;refine⟨m',ns,rfl,ht.bk,hi,D',hr,?_,ht.bk,fun k e=>?_,fun k e=>?_,fun k e=>?_,ht.jj⟩
  ·have hkp:=ht.wt.kp;refine⟨hkp.os.trans hk.os,hkp.tape.trans hk.tape,hkp.output.trans hk.output,Nat.le_trans hk.size hkp.size,fun k hlt hn=>?_⟩;refine (hkp.block k (Nat.lt_of_lt_of_le hlt hk.size) ?_).trans (hk.block k hlt (by simp));rintro (((e|e)|e)|((e|e)|e))
   ·exact hn ((h.vs k).2 (.inl e))
   ·omega
   ·exact hn ((h.vs k).2 (.inr (.inr (.inl e))))
   ·exact hn ((h.vs k).2 (.inr (.inr (.inr (.inl e)))))
   ·simp[own,Value.ownBlock] at e
   ·exact hn ((h.vs k).2 (.inr (.inr (.inr (.inr (.inr e))))))
  ·rcases ht.wt.nx k (.inl (.inl e)) with ((q|q)|q)|q
   ·exact .inl (.inl q)
   ·simp[own,Value.ownBlock] at q
   ·exact .inl (.inr q)
   ·exact .inr (Nat.le_trans hk.size q)
  ·rcases ht.nw k e with q|q
   ·exact .inl q
   ·exact .inr (Nat.le_trans hk.size q)
  ·rcases ht.wt.nx k (.inr e) with ((q|q)|q)|q
   ·exact .inl (.inl q)
   ·simp[own,Value.ownBlock] at q
   ·exact .inl (.inr q)
   ·exact .inr (Nat.le_trans hk.size q)
 ·rintro e w' ⟨m',w3,⟨D',hr,hkp,hbk,hsv,hD',hU',hJ⟩,rfl,hw⟩;refine⟨by rw[hr.out],?_⟩;obtain⟨ns,hi,hns⟩:=hr.inv;have hVn:∀ (sv':Value),(∀ k,own sv' k->own m'.sv k)->∀ k,(k=xb\/k=bk\/k=mb\/own sv' k\/D'.d k\/D'.u k)->V k\/w.heap.size<=k:=by
   rintro sv' hs' k (e|e|e|e|e|e)
   ·exact .inl ((h.vs k).2 (.inl e))
   ·exact .inl ((h.vs k).2 (.inr (.inl e)))
   ·exact .inl ((h.vs k).2 (.inr (.inr (.inl e))))
   ·rcases hsv k (hs' k e) with (q|q)|q
    ·exact .inl ((h.vs k).2 (.inr (.inr (.inr (.inl q)))))
    ·exact .inl ((h.vs k).2 (.inr (.inr (.inr (.inr (.inr q))))))
    ·exact .inr q
   ·rcases hD' k e with q|q
    ·exact .inl ((h.vs k).2 (.inr (.inr (.inr (.inr (.inl q))))))
    ·exact .inr q
   ·rcases hU' k e with (q|q)|q
    ·exact .inl ((h.vs k).2 (.inr (.inr (.inr (.inl q)))))
    ·exact .inl ((h.vs k).2 (.inr (.inr (.inr (.inr (.inr q))))))
    ·exact .inr q
  have hbook:Blk w3 bk 106 #[.map (some mb),.int .i64 s1.hot,.int .i64 s1.built]:=by have:=hr.book;rw[hbk] at this;exact this
  have hwords:WordsR D' w3 bk mb s1.defs:=by have:=hr.words;rw[hbk] at this;exact this
  have hxb:Blk w3 xb 80 (marr bk m'.sv s1.mem):=by have:=hi.xblk;rw[hbk,hr.mem] at this;exact this
  have hids:0<=s1.ids/\s1.ids<=I+2000:=by have h1:=hr.ids;have h2:=hr.st1;have h3:=h.ids.2;rw[hJ] at h1;omega
  have hnb:¬ D'.d bk:=fun e=>(hD' bk e).elim h.nb (fun q=>by have:=h.book.lt;omega);by_cases he:s1.e=0
  ·rw[if_pos he] at hw;subst hw;have hee:endL s1=s1:=by unfold endL;rw[if_pos he]
   rw[hee];refine⟨fun k=>k=xb\/k=bk\/k=mb\/own m'.sv k\/D'.d k\/D'.u k,⟨bk,mb,m'.sv,D',⟨hxb,?_,?_,hr.safe.bel,hr.safe.bx,fun k e=>hr.safe.bv k (.inl e),hr.safe.bs,hr.bmb,hbook,hwords,fun k e=>?_,hr.us,hnb,h.bbk,fun k=>Iff.rfl,hids,hr.idr⟩⟩,⟨hkp.mono (fun k _ e=>.inr e),hVn m'.sv (fun _ e=>e)⟩⟩
   ·rw[<-hns he];exact hi.srow
   ·have:=hi.len;rw[hns he,List.length_reverse] at this;exact this
   ·obtain⟨q0,q1,q2,q3,q4⟩:=hr.sep k e;exact⟨q0,q1,q3⟩
  ·rw[if_neg he] at hw;subst hw;have hee:endL s1={ s1 with rs:=[] }:=by unfold endL;rw[if_neg he]
   rw[hee];have hk5:Kp w3 (w3.setCell ⟨xb,0,none⟩ (.slice none 0 0)) (fun k=>k=xb):=Kp.one _ _ _ _;have nov:∀ k,¬ own (.slice none 0 0) k:=fun k e=>by simp[own,Value.ownBlock] at e
   have hux:∀ k,D'.u k->¬ k=xb:=fun k e=>(hr.ux e).1;obtain⟨hpr,hwd⟩:=hwords.wds.out hk5 hux (fun k e=>(hr.sep k e).2.1);refine⟨fun k=>k=xb\/k=bk\/k=mb\/own (.slice none 0 0) k\/D'.d k\/D'.u k,⟨bk,mb,.slice none 0 0,D',⟨hxb.set 0 _,World.ownsRow_nil _ _ _ _,by show (0:Nat)<=32;decide,hr.safe.bel.trans (hk5.below hr.safe.bs (fun k hk e=>by have:=hr.safe.bx;omega)),hr.safe.bx,fun k e=>absurd e (nov k),Nat.le_trans hr.safe.bs hk5.size,hr.bmb,hk5.blk hbook (fun e=>by subst e;exact absurd (hbook.inj hi.xblk).1 (by decide)),hwords.pres hpr (fun _ _ h=>h) (fun _ _ h=>h) hwd (hk5.block mb hwords.ltm (fun e=>hwords.ne hi.xblk e)) (fun _ _ _ _ q=>q.out hk5 hux (fun k e=>(hr.sep k e).2.1)),fun k e=>?_,fun k e=>?_,hnb,h.bbk,fun k=>Iff.rfl,hids,hr.idr⟩⟩,⟨?_,hVn (.slice none 0 0) (fun k e=>absurd e (nov k))⟩⟩
   ·obtain⟨q0,q1,q2,q3,q4⟩:=hr.sep k e;exact⟨Nat.lt_of_lt_of_le q0 hk5.size,q1,nov k⟩
   ·obtain⟨q0,q1,q2⟩:=hr.us k e;refine⟨q0,q1,?_⟩;rcases q2 with⟨c,hc⟩|⟨n,DD,hm⟩
    ·exact .inl ⟨c,hk5.blk hc (hux k e)⟩
    ·exact .inr ⟨n,DD,ownsMap_same hm (hk5.block k hm.lt (hux k e))⟩
   ·refine⟨hk5.os.trans hkp.os,hk5.tape.trans hkp.tape,hk5.output.trans hkp.output,Nat.le_trans hkp.size hk5.size,fun k hlt hn=>?_⟩;exact (hk5.block k (Nat.lt_of_lt_of_le hlt hkp.size) (fun e=>hn (.inr ((h.vs k).2 (.inl e))))).trans (hkp.block k hlt (fun e=>hn (.inr e)))
end
end
section
open Go.RowKit
theorem perm_nodup:∀ (a b:List Tok),a.Nodup->(∀ x∈a,x∈b)->b.length<=a.length->a.Perm b
 | [],b,_,_,h=>by
  have:b=[]:=List.length_eq_zero_iff.1 (by simpa using h);subst this;exact List.Perm.refl _
 | x :: a,b,hn,hs,hl=>by
  rw[List.nodup_cons] at hn;have hx:x∈b:=hs x (by simp);have hp:=List.perm_cons_erase hx;have hle:=hp.length_eq;simp only[List.length_cons] at hle hl;refine ((perm_nodup a (b.erase x) hn.2 (fun y hy=>?_) (by omega)).cons x).trans hp.symm;have hne:y ≠ x:=by rintro rfl;exact hn.1 hy
  exact (List.mem_erase_of_ne hne).2 (hs y (by simp[hy]))
theorem insN_perm (x:Tok):∀ (l:List Tok),(insN x l).Perm (x :: l)
 | []=>List.Perm.refl _
 | b :: r=>by
  unfold insN
  split
  ·exact ((insN_perm x r).cons b).trans (List.Perm.swap x b r)
  ·exact List.Perm.refl _
theorem insN_sorted (x:Tok):∀ (l:List Tok),l.Pairwise (fun a b=>leB b a=true)->(insN x l).Pairwise (fun a b=>leB b a=true)
 | [],_=>by simp[insN]
 | b :: r,h=>by
  rw[List.pairwise_cons] at h;unfold insN;by_cases hx:Op.bytesLess x b=true
  ·rw[if_pos hx,List.pairwise_cons];refine⟨fun y hy=>?_,insN_sorted x r h.2⟩;rcases List.mem_cons.1 ((insN_perm x r).mem_iff.1 hy) with e|e
   ·subst e;rw[bytesLess_eq] at hx;simp only[leB,decide_eq_true_eq] at hx ⊢;exact List.le_of_lt hx
   ·exact h.1 y e
  ·rw[if_neg hx,List.pairwise_cons,List.pairwise_cons];have hbx:leB b x=true:=by
    rw[bytesLess_eq] at hx;simp only[leB,decide_eq_true_eq] at hx ⊢;exact List.not_lt.1 hx
   refine⟨fun y hy=>?_,h⟩;rcases List.mem_cons.1 hy with e|e
   ·subst e;exact hbx
   ·have:=h.1 y e;simp only[leB,decide_eq_true_eq] at this hbx ⊢;exact List.le_trans this hbx
theorem rsortN_ok (l:List Tok):(rsortN l).Perm l/\(rsortN l).Pairwise (fun a b=>leB b a=true):=by
 have key:∀ (l rp:List Tok),rp.Pairwise (fun a b=>leB b a=true)->(l.foldl (fun rp x=>insN x rp) rp).Perm (l ++ rp)/\(l.foldl (fun rp x=>insN x rp) rp).Pairwise (fun a b=>leB b a=true):=by
  intro l
  induction l with
  | nil=>intro rp h;exact⟨List.Perm.refl _,h⟩
  | cons x l ih=>
   intro rp h;obtain⟨h1,h2⟩:=ih (insN x rp) (insN_sorted x rp h);refine⟨h1.trans (((insN_perm x rp).append_left l).trans ?_),h2⟩;exact List.perm_middle
 have:=key l [] List.Pairwise.nil;rw[List.append_nil] at this;exact this
theorem sortN_eq (l ss:List Tok) (h:ss.Perm l):ss.mergeSort leB=sortN l:=by
 obtain⟨h1,h2⟩:=rsortN_ok l;have tr:∀ a b c:List UInt8,leB a b=true->leB b c=true->leB a c=true:=fun a b c h1 h2=>by simp only[leB,decide_eq_true_eq] at *;exact List.le_trans h1 h2
 have tot:∀ a b:List UInt8,(leB a b || leB b a)=true:=fun a b=>by simp only[leB,Bool.or_eq_true,decide_eq_true_eq];exact List.le_total a b
 refine List.Perm.eq_of_pairwise (le:=fun a b=>leB a b=true) (fun a b _ _ h1 h2=>?_) (List.pairwise_mergeSort tr tot ss) ?_ (((List.mergeSort_perm ss leB).trans h).trans ?_)
 ·simp only[leB,decide_eq_true_eq] at h1 h2;exact List.le_antisymm h1 h2
 ·unfold sortN;exact List.pairwise_reverse.2 h2
 ·exact h1.symm.trans (List.reverse_perm _).symm
theorem WordsR.keys {D:GD} {w:World} {bk mb:Nat} {defs:List Def} (h:WordsR D w bk mb defs):∃ DD,w.ownsMap Tryz.prog 9 heldR mb defs.length DD/\Maps.size DD=defs.length/\defs.length<=30/\(strKeys DD).Perm (defs.map Def.name):=by
 obtain⟨obs,DD,hwr⟩:=h;have hown:=hwr.mp;have hsz:=hwr.sz;have hhas:=hwr.hs;refine⟨DD,hown,hsz,hwr.l30,?_⟩;have hle:=strKeys_le hown Tryz.underlying9;obtain⟨es,hD,hpw,_⟩:=hown.entries (Maps.string_keyed Tryz.underlying9);obtain⟨es',hD',hko⟩:=hown.keysOf;obtain rfl:es=es':=by rw[hD] at hD';simpa using hD'
 subst hD;have hk:∀ p∈es,∃ x,p.1=.string x:=fun p hp=>by obtain⟨v,hv⟩:=hko p hp;obtain⟨x,_,hx,_⟩:=Maps.keyOf_str Tryz.underlying9 hv;exact⟨x,hx⟩
 refine perm_nodup _ _ ?_ (fun x hx=>?_) ?_
 ·show (es.map fun p=>strOf p.1).Nodup;refine List.pairwise_map.2 (hpw.imp_of_mem fun {p q} hp' hq' hne e=>hne ?_);obtain⟨a,ha⟩:=hk p hp';obtain⟨b,hb⟩:=hk q hq';rw[ha,hb] at e ⊢;exact congrArg _ e
 ·have hl:=hle x hx;have:=hhas x hl;have hin:Maps.has (.map es) (.string x)=true:=by
   obtain⟨p,hp,rfl⟩:=List.mem_map.1 hx;obtain⟨a,ha⟩:=hk p hp;rw[Maps.has_eq,List.any_eq_true];exact⟨p,hp,by rw[ha];simp[Lit.sameKey,strOf]⟩
  rw[hin] at this;obtain⟨i,hi⟩:=Option.isSome_iff_exists.1 this.symm;obtain⟨hlt,hp,_⟩:=List.findIdx?_eq_some_iff_getElem.1 hi;exact List.mem_map.2 ⟨defs[i],List.getElem_mem hlt,beq_iff_eq.1 hp⟩
 ·show (defs.map Def.name).length<=(es.map fun p=>strOf p.1).length;have hsz:es.length=defs.length:=hsz;rw[List.length_map,List.length_map,hsz];exact Nat.le_refl _
section
variable {B:Nat} {I:Int} {W w w':World} {xb bk mb:Nat} {sv:Value} {D:GD} {V:Nat->Prop} {s:St}
theorem namesM (w:World) (bk mb n:Nat) (DD:DataW Value) {hh bl:Value} (hb:Blk w bk 106 #[.map (some mb),hh,bl]) (hown:w.ownsMap Tryz.prog 9 heldR mb n DD) (h30:Maps.size DD<=30):
  Calls Tryz.prog 53 #[pt bk] w fun e w'=>∃ (v:Value) (ss:List (List UInt8)),e=.returned v/\ss.Perm (strKeys DD)/\w'.ownsRow w.heap.size 9 1 v ss.length ((ss.mergeSort leB).map encStr)/\Below w.heap.size w w':=by
 have HK:=hide (fun w=>callsIn_wide.1 (Tryz.maps_Keys_65 (some mb) w));have HS:=hide (callsIn_wide.1 (Tryz.slices_Sorted_keys_64_65 mb n DD heldR w hown (by unfold maxLen;omega) (by omega)));have c0:w.cell? ⟨bk,0,none⟩=some (.map (some mb)):=hb.cell rfl;clear hown;go_enter Tryz.func53,Tryz.ntmps53
 go_wp2_with fail
 refine (HK.out _).mono ?_;rintro e w1 ⟨rfl,rfl⟩
 go_wp2_with fail
 refine HS.out.mono ?_;rintro e w1 ⟨v,ss,rfl,hp,hrow,hnil,hbl⟩;have HR:=hide hrow;have HB:=hide hbl;have HP:=hide hp;clear hrow hbl hnil hp;go_wp2;go_ret;exact⟨v,ss,rfl,HP.out,ownsRow_base_a HR.out (by simp),((Below.refl _ w).alloc (Nat.le_refl _) _).trans (HB.out.mono (by simp))⟩
theorem wordsM (h:PSn B W I w xb bk mb sv D V s):
  Calls Tryz.prog 33 #[pt xb] w fun e w'=>∃ v,e=.returned v/\(∃ L:List ByteArray,w'.ownsRow w.heap.size 9 1 v L.length (L.map Value.string)/\texts L=wordsP s)/\∃ V',PSes B W I w' xb V' s/\To (fun _=>False) w w' V V'/\∀ k,own v k->¬ V' k:=by
 obtain⟨DD,hown,hsz,h30,hperm⟩:=h.words.keys;have HN:=hide (namesM w bk mb _ DD h.book hown (by omega));have c17:w.cell? ⟨xb,17,none⟩=some (pt bk):=h.xblk.cell rfl;have H:=hide h;have HP:=hide hperm;clear h hown hperm;go_enter Tryz.func33,Tryz.ntmps33
 go_wp2_with fail
 refine HN.out.mono ?_;rintro e w1 ⟨v,ss,rfl,hp,hrow,hbl⟩;have HR:=hide hrow;have HB:=hide hbl;have HQ:=hide hp;clear hrow hbl hp;go_wp2;go_ret;refine⟨v,rfl,⟨(ss.mergeSort leB).map fun l=>⟨l.toArray⟩,?_,?_⟩,V,⟨bk,mb,sv,D,H.out.kp (Kp.ofBelow HB.out)⟩,⟨(Kp.ofBelow HB.out).mono (fun _ _ e=>e),fun k e=>.inl e⟩,fun k e hv=>?_⟩
 ·have:=HR.out;rw[List.map_map,List.length_map,(List.mergeSort_perm ss leB).length_eq];exact this
 ·unfold texts wordsP;rw[List.map_map,<-sortN_eq _ ss (HQ.out.trans HP.out)];exact List.map_id _
 ·have h1:=(HR.out.lt k e).1;have h2:=H.out.lt k hv;omega
end
end
end Go.Proofs.YteainaiebcphlaaGreatDoor
