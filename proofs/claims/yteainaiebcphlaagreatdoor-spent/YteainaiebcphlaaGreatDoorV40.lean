import Derived.Test.YteainaiebcphlaaGreatDoorV6
import Derived.Test.YteainaiebcphlaaGreatDoorV5
import Derived.Test.YteainaiebcphlaaGreatDoorV16
namespace Go.Proofs.YteainaiebcphlaaGreatDoor
set_option maxRecDepth 1000000
set_option maxHeartbeats 4000000
set_option linter.all false
section
open Go.RowKit
theorem dig_of (i:Nat) (h:i < 10):digB (UInt8.ofNat (48+i))=true/\(UInt8.ofNat (48+i)).toNat=48+i:=by
 have key:∀ i:Fin 10,digB (UInt8.ofNat (48+i.val))=true/\(UInt8.ofNat (48+i.val)).toNat=48+i.val:=by decide +kernel
 exact key ⟨i,h⟩
theorem dec_ok (u:Nat):(Lib.decDigits u).all digB=true/\valD (Lib.decDigits u)=u:=by
 induction u using Nat.strongRecOn with
 | _ u ih=>
  by_cases h:u < 10
  ·rw[Lib.decDigits_one h];have:=dig_of u h;refine⟨by rw[List.all_cons,this.1];rfl,?_⟩;simp only[valD,List.foldl_cons,List.foldl_nil];omega
  ·rw[Lib.decDigits,dif_neg h];have h1:=ih (u / 10) (by omega);have h2:=dig_of (u % 10) (by omega);refine⟨by rw[List.all_append,h1.1,List.all_cons,h2.1];rfl,?_⟩;rw[valD_snoc,h1.2,h2.2];omega
theorem dec_len (u:Nat) (h:u < 10000000):1<=(Lib.decDigits u).length/\(Lib.decDigits u).length<=7:=by
 rw[Lib.decDigits_length];refine⟨Lib.nDigits_pos u,?_⟩;have key:∀ k u:Nat,u < 10 ^ (k+1)->Lib.nDigits u<=k+1:=by
  intro k
  induction k with
  | zero=>intro u hu;rw[Lib.nDigits_small (by simpa using hu)];omega
  | succ k ih=>
   intro u hu;by_cases h:u < 10
   ·rw[Lib.nDigits_small h];omega
   ·rw[Lib.nDigits_big h];have:=ih (u / 10) (by rw[Nat.pow_succ] at hu;omega);omega
 exact key 6 u (by simpa using h)
theorem dec_head (u:Nat) (h:u < 10000000):∃ c r,Lib.decDigits u=c :: r/\¬ c=45:=by
 have h1:=(dec_len u h).1;have h2:=(dec_ok u).1
 cases hd:Lib.decDigits u with
 | nil=>rw[hd] at h1;simp at h1
 | cons c r=>
  refine⟨c,r,rfl,fun e=>?_⟩;rw[hd,e] at h2;simp[digB] at h2
theorem dec_digits (u:Nat) (h:u < 10000000):digitsB (Lib.decDigits u)=true:=by
 have:=dec_len u h;unfold digitsB;rw[(dec_ok u).1];simp;omega
theorem numP_itoa (n:Int) (h0:-10000000 < n) (h1:n < 10000000):numP (Lib.itoa n)=some n:=by
 unfold Lib.itoa
 split
 ·rename_i hn
  rw[numP_minus,if_pos (dec_digits _ (by omega)),(dec_ok _).2];exact congrArg some (by omega)
 ·rename_i hn
  obtain⟨c,r,e,hc⟩:=dec_head n.toNat (by omega);have h2:=dec_digits n.toNat (by omega);have h3:=(dec_ok n.toNat).2;rw[e] at h2 h3 ⊢;rw[numP_other c r hc,if_pos h2,h3];exact congrArg some (by omega)
theorem numLen (n:Int) (h0:-10000000 < n) (h1:n < 10000000):1<=(Lib.itoa n).length/\(Lib.itoa n).length<=8:=by
 unfold Lib.itoa
 split
 ·have:=dec_len n.natAbs (by omega);simp only[List.length_cons];omega
 ·have:=dec_len n.toNat (by omega);omega
def tokB (c:UInt8):Bool:=decide (33<=c.toNat/\c.toNat<=126)
theorem dig_tok {c:UInt8} (h:digB c=true):tokB c=true:=by
 have:=of_decide_eq_true h;exact decide_eq_true (by omega)
theorem itoa_tok (n:Int):(Lib.itoa n).all tokB=true:=by
 have key:∀ u,(Lib.decDigits u).all tokB=true:=fun u=>List.all_eq_true.2 fun c hc=>dig_tok (List.all_eq_true.1 (dec_ok u).1 c hc);unfold Lib.itoa
 split
 ·rw[List.all_cons,key];decide
 ·exact key _
theorem tok_sp {c:UInt8} (h:tokB c=true):Lib.isSp c=false:=by
 have h:=of_decide_eq_true h;rw[isSp_ok (by omega)];exact decide_eq_false (by omega)
theorem tok_okB {c:UInt8} (h:tokB c=true):okB c=true:=by
 have:=of_decide_eq_true h;exact decide_eq_true (by omega)
theorem fieldsGo_tok:∀ (t cur l:List UInt8),t.all tokB=true->Lib.fieldsGo cur (t ++ l)=Lib.fieldsGo (cur ++ t) l
 | [],cur,l,_=>by simp
 | c :: t,cur,l,h=>by
  rw[List.all_cons,Bool.and_eq_true] at h;rw[List.cons_append,Lib.fieldsGo,tok_sp h.1];simp only[Bool.false_eq_true,if_false];rw[fieldsGo_tok t _ _ h.2];simp
theorem fields_tok (t l:List UInt8) (h:t.all tokB=true) (hn:t ≠ []):Lib.fields (t ++ 32 :: l)=t :: Lib.fields l:=by
 unfold Lib.fields;rw[fieldsGo_tok t [] _ h,Lib.fieldsGo]
 cases t with
 | nil=>exact absurd rfl hn
 | cons c r=>rfl
theorem fields_end (t:List UInt8) (h:t.all tokB=true) (hn:t ≠ []):Lib.fields t=[t]:=by
 have:=fieldsGo_tok t [] [] h;rw[List.append_nil] at this;unfold Lib.fields;rw[this]
 cases t with
 | nil=>exact absurd rfl hn
 | cons c r=>rfl
theorem fields_sp (l:List UInt8):Lib.fields (32 :: l)=Lib.fields l:=rfl
theorem itoa_ne (n:Int) (h0:-10000000 < n) (h1:n < 10000000):Lib.itoa n ≠ []:=fun e=>by
 have h:=(numLen n h0 h1).1;rw[e] at h;exact absurd h (by decide)
def textOf (ts:List Tok):List UInt8:=ts.flatMap (fun t=>t ++ [32])
theorem fields_texts:∀ (ts:List Tok) (l:List UInt8),(∀ t∈ts,t.all tokB=true/\t ≠ [])->Lib.fields (textOf ts ++ l)=ts ++ Lib.fields l
 | [],l,_=>rfl
 | t :: r,l,h=>by
  have h1:=h t (by simp);have e:textOf (t :: r) ++ l=t ++ 32 :: (textOf r ++ l):=by simp[textOf]
  rw[e,fields_tok t _ h1.1 h1.2,fields_texts r l (fun x hx=>h x (by simp[hx]))];rfl
theorem texts_okB (ts:List Tok) (h:∀ t∈ts,t.all tokB=true/\t ≠ []):(textOf ts).all okB=true:=by
 rw[List.all_eq_true];intro c hc;rw[textOf,List.mem_flatMap] at hc;obtain⟨t,ht,hc⟩:=hc;rw[List.mem_append] at hc;rcases hc with hc|hc
 ·exact tok_okB (List.all_eq_true.1 (h t ht).1 c hc)
 ·simp at hc;subst hc;decide
end
section
open Go.RowKit
def XR (j:XJ) (s s':St):Prop:=∃ g,xRun g j s=some (s',false)
def St.up (s:St):St:={ s with steps:=s.steps+1 }
theorem step_up {s:St} (h:s.steps < 2000):s.step=s.up:=by unfold St.step;rw[if_pos h];rfl
theorem put_up {s:St} (n:Int) (h:s.rs.length < 32):s.put n={ s with rs:=n :: s.rs }:=by unfold St.put;rw[if_pos h]
section
variable {f:Fr} {lp:List Int} {s s1 s2:St}
theorem XR.nil:XR (jBody f lp []) s s:=⟨1,rfl⟩
theorem XR.cons {x:It} {l:List It} (h1:XR (jItem f lp x) s s1) (he:s1.e=0) (h2:XR (jBody f lp l) s1 s2):XR (jBody f lp (x :: l)) s s2:=by
 obtain⟨g1,h1⟩:=h1;obtain⟨g2,h2⟩:=h2;refine⟨g1+g2+1,?_⟩;rw[x_cons,xRun_mono (g':=g1+g2) (by omega) h1];dsimp only;rw[if_neg (by simp[he]),xRun_mono (g':=g1+g2) (by omega) h2]
theorem XR.num (n:Int) (he:s.e=0) (hs:s.steps < 2000) (hl:s.rs.length < 32):XR (jItem f lp ⟨110,n,[],[],[],[]⟩) s { s.up with rs:=n :: s.rs }:=by
 refine⟨1,?_⟩;rw[x_one 0 f lp s _ (by decide:¬ (110:Nat)=63) (by decide:¬ (110:Nat)=117) (by decide:¬ (110:Nat)=119),step_up hs,if_neg (by show ¬ s.e ≠ 0;simp[he])];show some (s.up.put n,decide ((s.up.put n).e ≠ 0))=_;rw[put_up n (show s.up.rs.length < 32 from hl)];show some (_,decide (s.e ≠ 0))=_;rw[he];rfl
theorem XR.word {t:Tok} {k:Nat} (hk:plainL.findIdx? (· == t)=some k) (he:s.e=0) (hs:s.steps < 2000) (hw:(s.up.word k).e=0):XR (jItem f lp ⟨112,0,t,[],[],[]⟩) s (s.up.word k):=by
 refine⟨1,?_⟩;rw[x_one 0 f lp s _ (by decide:¬ (112:Nat)=63) (by decide:¬ (112:Nat)=117) (by decide:¬ (112:Nat)=119),step_up hs,if_neg (by show ¬ s.e ≠ 0;simp[he])]
 show (match plainL.findIdx? (· == t) with
  | none=>none
  | some k=>some (s.up.word k,decide ((s.up.word k).e ≠ 0)))=_
 rw[hk];dsimp only;rw[hw];rfl
theorem XR.i {n:Int} (he:s.e=0) (hs:s.steps < 2000) (hl:s.rs.length < 32):XR (jItem f (n :: lp) ⟨105,0,[],[],[],[]⟩) s { s.up with rs:=n :: s.rs }:=by
 refine⟨1,?_⟩;rw[x_one 0 f (n :: lp) s _ (by decide:¬ (105:Nat)=63) (by decide:¬ (105:Nat)=117) (by decide:¬ (105:Nat)=119),step_up hs,if_neg (by show ¬ s.e ≠ 0;simp[he])];show some (s.up.put n,decide ((s.up.put n).e ≠ 0))=_;rw[put_up n (show s.up.rs.length < 32 from hl)];show some (_,decide (s.e ≠ 0))=_;rw[he];rfl
theorem XR.doo {l:List It} {b m:Int} {r:List Int} (he:s.e=0) (hs:s.steps < 2000) (hr:s.rs=b :: m :: r) (h:XR (jDo f lp b m l) { s.up with rs:=r } s2):XR (jItem f lp ⟨100,0,[],l,[],[]⟩) s s2:=by
 obtain⟨g,h⟩:=h;refine⟨g+1,?_⟩;rw[x_one g f lp s _ (by decide:¬ (100:Nat)=63) (by decide:¬ (100:Nat)=117) (by decide:¬ (100:Nat)=119),step_up hs,if_neg (by show ¬ s.e ≠ 0;simp[he])]
 show (match s.up.rs with
  | b :: m :: r=>xRun g (jDo f lp b m l) { s.up with rs:=r }
  | _=>some (s.up.err 6,true))=_
 rw[show s.up.rs=b :: m :: r from hr];exact h
theorem XR.doEnd {l:List It} {n m:Int} (h:¬ n < m):XR (jDo f lp n m l) s s:=⟨1,by rw[x_do,if_neg h]⟩
theorem XR.doGo {l:List It} {n m:Int} (h:n < m) (he:s.e=0) (hs:s.steps < 2000) (h1:XR (jBody f (n :: lp) l) s.up s1) (h2:XR (jDo f lp (n+1) m l) s1 s2):XR (jDo f lp n m l) s s2:=by
 obtain⟨g1,h1⟩:=h1;obtain⟨g2,h2⟩:=h2;refine⟨g1+g2+1,?_⟩;rw[x_do,if_pos h,step_up hs,if_neg (by show ¬ s.e ≠ 0;simp[he]),xRun_mono (g':=g1+g2) (by omega) h1];dsimp only;rw[if_neg (by simp),xRun_mono (g':=g1+g2) (by omega) h2]
theorem XR.enter {g0:Nat} (hd:s.depth < 20) (hc:xCome g0 f s=some s1) (h:XR (jBody f [] f.body) { s1 with depth:=s1.depth+1 } s2):XR (jEnter f) s { s2 with depth:=s2.depth - 1 }:=by
 obtain⟨g,h⟩:=h;refine⟨g0+g+1,?_⟩;have hc':xCome (g0+g) f s=some s1:=by
  clear h
  induction g with
  | zero=>exact hc
  | succ g ih=>exact xCome_mono ih
 rw[x_enter,if_neg (by omega),hc'];dsimp only;rw[xRun_mono (g':=g0+g) (by omega) h]
theorem XR.tnil:XR (jToks []) s s:=⟨1,rfl⟩
theorem num_colon {t:Tok} {n:Int} (h:numP t=some n):¬ t=kColon:=fun e=>by
 have q:numP kColon=none:=by decide
 rw[e,q] at h;cases h
theorem XR.tnum {t:Tok} {r:List Tok} {n:Int} (hn:numP t=some n) (he:s.e=0) (hs:s.steps < 2000) (hl:s.rs.length < 32) (h:XR (jToks r) { s.up with rs:=n :: s.rs } s2):XR (jToks (t :: r)) s s2:=by
 obtain⟨g,h⟩:=h;refine⟨g+1,?_⟩;rw[x_tok g s t r he (num_colon hn)];unfold xTok;rw[hn];dsimp only;rw[step_up hs,if_neg (by show ¬ s.e ≠ 0;simp[he]),put_up n (show s.up.rs.length < 32 from hl)];exact h
theorem plain_colon {t:Tok} {k:Nat} (h:plainL.findIdx? (· == t)=some k):¬ t=kColon:=fun e=>by
 have q:plainL.findIdx? (· == kColon)=none:=by decide
 rw[e,q] at h;cases h
theorem plain_num {t:Tok} {k:Nat} (h:plainL.findIdx? (· == t)=some k):numP t=none:=by
 have h1:plainL.any (· == t)=true:=by
  rw[List.any_eq_true];obtain⟨x,hx⟩:=List.findIdx?_eq_some_iff_getElem.1 h;exact⟨plainL[k],List.getElem_mem _,hx.1⟩
 rw[List.any_eq_true] at h1;obtain⟨x,hx,e⟩:=h1;have e2:=LawfulBEq.eq_of_beq e;have q:∀ x∈plainL,numP x=none:=by decide
 rw[<-e2];exact q x hx
theorem XR.tword {t:Tok} {r:List Tok} {k:Nat} (hk:plainL.findIdx? (· == t)=some k) (he:s.e=0) (hs:s.steps < 2000) (h:XR (jToks r) (s.up.word k) s2):XR (jToks (t :: r)) s s2:=by
 obtain⟨g,h⟩:=h;refine⟨g+1,?_⟩;rw[x_tok g s t r he (plain_colon hk)];unfold xTok;rw[plain_num hk,hk];dsimp only;rw[step_up hs,if_neg (by show ¬ s.e ≠ 0;simp[he])];exact h
structure IsCall (t:Tok):Prop where
 c:¬ t=kColon
 n:numP t=none
 p:plainL.findIdx? (· == t)=none
 k:(keptL.any (· == t) || t == kSemi || t == kOpen || t == kClose)=false
theorem XR.tcall {t:Tok} {r:List Tok} {d:Def} (ht:IsCall t) (hk:s.known t=true) (hd:s.defs.find? (fun d=>d.name == t)=some d) (he:s.e=0) (hs:s.steps < 2000) (h1:XR (jEnter ⟨d.id,d.name,d.body⟩) s.up s1) (h:XR (jToks r) s1 s2):XR (jToks (t :: r)) s s2:=by
 obtain⟨g1,h1⟩:=h1;obtain⟨g2,h⟩:=h;refine⟨g1+g2+1+1,?_⟩;rw[x_tok _ s t r he ht.c];unfold xTok;rw[ht.n,ht.p];dsimp only;rw[ht.k,if_neg (by simp),if_neg (by simp[hk]),step_up hs,if_neg (by show ¬ s.e ≠ 0;simp[he]),x_call,show s.up.defs.find? (fun d=>d.name == t)=some d from hd];dsimp only;rw[xRun_mono (g':=g1+g2) (by omega) h1];dsimp only;rw[xRun_mono (g':=g1+g2+1) (by omega) h]
theorem XR.tdef {r:List Tok} {nm:Tok} {b:List It} {r1:List Tok} {g0:Nat} (he:s.e=0) (hs:s.steps < 2000) (hp:pDef g0 s r=some (.ok (nm,b,r1))) (h:XR (jToks r1) (s.up.set nm b) s2):XR (jToks (kColon :: r)) s s2:=by
 obtain⟨g,h⟩:=h;refine⟨g0+g+1,?_⟩;have hp':pDef (g0+g) s r=some (.ok (nm,b,r1)):=by
  clear h
  induction g with
  | zero=>exact hp
  | succ g ih=>exact pDef_mono ih
 rw[x_def _ s r he,hp'];dsimp only;rw[step_up hs,if_neg (by show ¬ s.e ≠ 0;simp[he]),xRun_mono (g':=g0+g) (by omega) h]
end
end
end Go.Proofs.YteainaiebcphlaaGreatDoor
