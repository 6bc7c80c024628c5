import Derived.Test.YteainaiebcphlaaGreatDoorX3
import Derived.Test.YteainaiebcphlaaGreatDoorX2
import Derived.Test.YteainaiebcphlaaGreatDoorX8
import Derived.Test.YteainaiebcphlaaGreatDoorX7
namespace Go.Proofs.YteainaiebcphlaaGreatDoor
set_option maxRecDepth 1000000
set_option maxHeartbeats 4000000
set_option linter.all false
section
open Go.RowKit
theorem dig_of (i:Nat) (h:i < 10):digB (UInt8.ofNat (48+i))=true/\(UInt8.ofNat (48+i)).toNat=48+i:=by
 have key:∀ i:Fin 10,digB (UInt8.ofNat (48+i.val))=true/\(UInt8.ofNat (48+i.val)).toNat=48+i.val:=by decide +kernel
 exact key ⟨i,h⟩
theorem dec_ok (u:Nat):(Lib.decDigits u).all digB=true/\valD (Lib.decDigits u)=u:=by
 induction u using Nat.strongRecOn with
 | _ u ih=>
  by_cases h:u < 10
  ·rw[Lib.decDigits_one h];have:=dig_of u h;refine⟨by rw[List.all_cons,this.1];rfl,?_⟩;simp only[valD,List.foldl_cons,List.foldl_nil];omega
  ·rw[Lib.decDigits,dif_neg h];have h1:=ih (u / 10) (by omega);have h2:=dig_of (u % 10) (by omega);refine⟨by rw[List.all_append,h1.1,List.all_cons,h2.1];rfl,?_⟩;rw[valD_snoc,h1.2,h2.2];omega
theorem dec_len (u:Nat) (h:u < 10000000):1<=(Lib.decDigits u).length/\(Lib.decDigits u).length<=7:=by
 rw[Lib.decDigits_length];refine⟨Lib.nDigits_pos u,?_⟩;have key:∀ k u:Nat,u < 10 ^ (k+1)->Lib.nDigits u<=k+1:=by
  intro k
  induction k with
  | zero=>intro u hu;rw[Lib.nDigits_small (by simpa using hu)];omega
  | succ k ih=>
   intro u hu;by_cases h:u < 10
   ·rw[Lib.nDigits_small h];omega
   ·rw[Lib.nDigits_big h];have:=ih (u / 10) (by rw[Nat.pow_succ] at hu;omega);omega
 exact key 6 u (by simpa using h)
theorem dec_head (u:Nat) (h:u < 10000000):∃ c r,Lib.decDigits u=c :: r/\¬ c=45:=by
 have h1:=(dec_len u h).1;have h2:=(dec_ok u).1
 cases hd:Lib.decDigits u with
 | nil=>rw[hd] at h1;simp at h1
 | cons c r=>
  refine⟨c,r,rfl,fun e=>?_⟩;rw[hd,e] at h2;simp[digB] at h2
theorem dec_digits (u:Nat) (h:u < 10000000):digitsB (Lib.decDigits u)=true:=by
 have:=dec_len u h;unfold digitsB;rw[(dec_ok u).1];simp;omega
theorem numP_itoa (n:Int) (h0:-10000000 < n) (h1:n < 10000000):numP (Lib.itoa n)=some n:=by
 unfold Lib.itoa
 split
 ·rename_i hn
  rw[numP_minus,if_pos (dec_digits _ (by omega)),(dec_ok _).2];exact congrArg some (by omega)
 ·rename_i hn
  obtain⟨c,r,e,hc⟩:=dec_head n.toNat (by omega);have h2:=dec_digits n.toNat (by omega);have h3:=(dec_ok n.toNat).2;rw[e] at h2 h3 ⊢;rw[numP_other c r hc,if_pos h2,h3];exact congrArg some (by omega)
theorem numLen (n:Int) (h0:-10000000 < n) (h1:n < 10000000):1<=(Lib.itoa n).length/\(Lib.itoa n).length<=8:=by
 unfold Lib.itoa
 split
 ·have:=dec_len n.natAbs (by omega);simp only[List.length_cons];omega
 ·have:=dec_len n.toNat (by omega);omega
def tokB (c:UInt8):Bool:=decide (33<=c.toNat/\c.toNat<=126)
theorem dig_tok {c:UInt8} (h:digB c=true):tokB c=true:=by
 have:=of_decide_eq_true h;exact decide_eq_true (by omega)
theorem itoa_tok (n:Int):(Lib.itoa n).all tokB=true:=by
 have key:∀ u,(Lib.decDigits u).all tokB=true:=fun u=>List.all_eq_true.2 fun c hc=>dig_tok (List.all_eq_true.1 (dec_ok u).1 c hc);unfold Lib.itoa
 split
 ·rw[List.all_cons,key];decide
 ·exact key _
theorem tok_sp {c:UInt8} (h:tokB c=true):Lib.isSp c=false:=by
 have h:=of_decide_eq_true h;rw[isSp_ok (by omega)];exact decide_eq_false (by omega)
theorem tok_okB {c:UInt8} (h:tokB c=true):okB c=true:=by
 have:=of_decide_eq_true h;exact decide_eq_true (by omega)
theorem fieldsGo_tok:∀ (t cur l:List UInt8),t.all tokB=true->Lib.fieldsGo cur (t ++ l)=Lib.fieldsGo (cur ++ t) l
 | [],cur,l,_=>by simp
 | c :: t,cur,l,h=>by
  rw[List.all_cons,Bool.and_eq_true] at h;rw[List.cons_append,Lib.fieldsGo,tok_sp h.1];simp only[Bool.false_eq_true,if_false];rw[fieldsGo_tok t _ _ h.2];simp
theorem fields_tok (t l:List UInt8) (h:t.all tokB=true) (hn:t ≠ []):Lib.fields (t ++ 32 :: l)=t :: Lib.fields l:=by
 unfold Lib.fields;rw[fieldsGo_tok t [] _ h,Lib.fieldsGo]
 cases t with
 | nil=>exact absurd rfl hn
 | cons c r=>rfl
theorem fields_end (t:List UInt8) (h:t.all tokB=true) (hn:t ≠ []):Lib.fields t=[t]:=by
 have:=fieldsGo_tok t [] [] h;rw[List.append_nil] at this;unfold Lib.fields;rw[this]
 cases t with
 | nil=>exact absurd rfl hn
 | cons c r=>rfl
theorem itoa_ne (n:Int) (h0:-10000000 < n) (h1:n < 10000000):Lib.itoa n ≠ []:=fun e=>by
 have h:=(numLen n h0 h1).1;rw[e] at h;exact absurd h (by decide)
def textOf (ts:List Tok):List UInt8:=ts.flatMap (fun t=>t ++ [32])
theorem fields_texts:∀ (ts:List Tok) (l:List UInt8),(∀ t∈ts,t.all tokB=true/\t ≠ [])->Lib.fields (textOf ts ++ l)=ts ++ Lib.fields l
 | [],l,_=>rfl
 | t :: r,l,h=>by
  have h1:=h t (by simp);have e:textOf (t :: r) ++ l=t ++ 32 :: (textOf r ++ l):=by simp[textOf]
  rw[e,fields_tok t _ h1.1 h1.2,fields_texts r l (fun x hx=>h x (by simp[hx]))];rfl
theorem texts_okB (ts:List Tok) (h:∀ t∈ts,t.all tokB=true/\t ≠ []):(textOf ts).all okB=true:=by
 rw[List.all_eq_true];intro c hc;rw[textOf,List.mem_flatMap] at hc;obtain⟨t,ht,hc⟩:=hc;rw[List.mem_append] at hc;rcases hc with hc|hc
 ·exact tok_okB (List.all_eq_true.1 (h t ht).1 c hc)
 ·simp at hc;subst hc;decide
end
section
open Go.RowKit
def XR (j:XJ) (s s':St):Prop:=∃ g,xRun g j s=some (s',false)
def St.up (s:St):St:={ s with steps:=s.steps+1 }
theorem step_up {s:St} (h:s.steps < 2000):s.step=s.up:=by unfold St.step;rw[if_pos h];rfl
theorem put_up {s:St} (n:Int) (h:s.rs.length < 32):s.put n={ s with rs:=n :: s.rs }:=by unfold St.put;rw[if_pos h]
section
variable {f:Fr} {lp:List Int} {s s1 s2:St}
theorem XR.nil:XR (jBody f lp []) s s:=⟨1,rfl⟩
theorem XR.cons {x:It} {l:List It} (h1:XR (jItem f lp x) s s1) (he:s1.e=0) (h2:XR (jBody f lp l) s1 s2):XR (jBody f lp (x :: l)) s s2:=by
 obtain⟨g1,h1⟩:=h1;obtain⟨g2,h2⟩:=h2;refine⟨g1+g2+1,?_⟩;rw[x_cons,xRun_mono (g':=g1+g2) (by omega) h1];dsimp only;rw[if_neg (by simp[he]),xRun_mono (g':=g1+g2) (by omega) h2]
theorem XR.num (n:Int) (he:s.e=0) (hs:s.steps < 2000) (hl:s.rs.length < 32):XR (jItem f lp ⟨110,n,[],[],[],[]⟩) s { s.up with rs:=n :: s.rs }:=by
 refine⟨1,?_⟩;rw[x_one 0 f lp s _ (by decide:¬ (110:Nat)=63) (by decide:¬ (110:Nat)=117) (by decide:¬ (110:Nat)=119),step_up hs,if_neg (by show ¬ s.e ≠ 0;simp[he])];show some (s.up.put n,decide ((s.up.put n).e ≠ 0))=_;rw[put_up n (show s.up.rs.length < 32 from hl)];show some (_,decide (s.e ≠ 0))=_;rw[he];rfl
theorem XR.word {t:Tok} {k:Nat} (hk:plainL.findIdx? (· == t)=some k) (he:s.e=0) (hs:s.steps < 2000) (hw:(s.up.word k).e=0):XR (jItem f lp ⟨112,0,t,[],[],[]⟩) s (s.up.word k):=by
 refine⟨1,?_⟩;rw[x_one 0 f lp s _ (by decide:¬ (112:Nat)=63) (by decide:¬ (112:Nat)=117) (by decide:¬ (112:Nat)=119),step_up hs,if_neg (by show ¬ s.e ≠ 0;simp[he])]
 show (match plainL.findIdx? (· == t) with
  | none=>none
  | some k=>some (s.up.word k,decide ((s.up.word k).e ≠ 0)))=_
 rw[hk];dsimp only;rw[hw];rfl
theorem XR.enter {g0:Nat} (hd:s.depth < 20) (hc:xCome g0 f s=some s1) (h:XR (jBody f [] f.body) { s1 with depth:=s1.depth+1 } s2):XR (jEnter f) s { s2 with depth:=s2.depth - 1 }:=by
 obtain⟨g,h⟩:=h;refine⟨g0+g+1,?_⟩;have hc':xCome (g0+g) f s=some s1:=by
  clear h
  induction g with
  | zero=>exact hc
  | succ g ih=>exact xCome_mono ih
 rw[x_enter,if_neg (by omega),hc'];dsimp only;rw[xRun_mono (g':=g0+g) (by omega) h]
theorem XR.tnil:XR (jToks []) s s:=⟨1,rfl⟩
theorem plain_colon {t:Tok} {k:Nat} (h:plainL.findIdx? (· == t)=some k):¬ t=kColon:=fun e=>by
 have q:plainL.findIdx? (· == kColon)=none:=by decide
 rw[e,q] at h;cases h
theorem plain_num {t:Tok} {k:Nat} (h:plainL.findIdx? (· == t)=some k):numP t=none:=by
 have h1:plainL.any (· == t)=true:=by
  rw[List.any_eq_true];obtain⟨x,hx⟩:=List.findIdx?_eq_some_iff_getElem.1 h;exact⟨plainL[k],List.getElem_mem _,hx.1⟩
 rw[List.any_eq_true] at h1;obtain⟨x,hx,e⟩:=h1;have e2:=LawfulBEq.eq_of_beq e;have q:∀ x∈plainL,numP x=none:=by decide
 rw[<-e2];exact q x hx
theorem XR.tword {t:Tok} {r:List Tok} {k:Nat} (hk:plainL.findIdx? (· == t)=some k) (he:s.e=0) (hs:s.steps < 2000) (h:XR (jToks r) (s.up.word k) s2):XR (jToks (t :: r)) s s2:=by
 obtain⟨g,h⟩:=h;refine⟨g+1,?_⟩;rw[x_tok g s t r he (plain_colon hk)];unfold xTok;rw[plain_num hk,hk];dsimp only;rw[step_up hs,if_neg (by show ¬ s.e ≠ 0;simp[he])];exact h
structure IsCall (t:Tok):Prop where
 c:¬ t=kColon
 n:numP t=none
 p:plainL.findIdx? (· == t)=none
 k:(keptL.any (· == t) || t == kSemi || t == kOpen || t == kClose)=false
theorem XR.tcall {t:Tok} {r:List Tok} {d:Def} (ht:IsCall t) (hk:s.known t=true) (hd:s.defs.find? (fun d=>d.name == t)=some d) (he:s.e=0) (hs:s.steps < 2000) (h1:XR (jEnter ⟨d.id,d.name,d.body⟩) s.up s1) (h:XR (jToks r) s1 s2):XR (jToks (t :: r)) s s2:=by
 obtain⟨g1,h1⟩:=h1;obtain⟨g2,h⟩:=h;refine⟨g1+g2+1+1,?_⟩;rw[x_tok _ s t r he ht.c];unfold xTok;rw[ht.n,ht.p];dsimp only;rw[ht.k,if_neg (by simp),if_neg (by simp[hk]),step_up hs,if_neg (by show ¬ s.e ≠ 0;simp[he]),x_call,show s.up.defs.find? (fun d=>d.name == t)=some d from hd];dsimp only;rw[xRun_mono (g':=g1+g2) (by omega) h1];dsimp only;rw[xRun_mono (g':=g1+g2+1) (by omega) h]
theorem XR.tdef {r:List Tok} {nm:Tok} {b:List It} {r1:List Tok} {g0:Nat} (he:s.e=0) (hs:s.steps < 2000) (hp:pDef g0 s r=some (.ok (nm,b,r1))) (h:XR (jToks r1) (s.up.set nm b) s2):XR (jToks (kColon :: r)) s s2:=by
 obtain⟨g,h⟩:=h;refine⟨g0+g+1,?_⟩;have hp':pDef (g0+g) s r=some (.ok (nm,b,r1)):=by
  clear h
  induction g with
  | zero=>exact hp
  | succ g ih=>exact pDef_mono ih
 rw[x_def _ s r he,hp'];dsimp only;rw[step_up hs,if_neg (by show ¬ s.e ≠ 0;simp[he]),xRun_mono (g':=g0+g) (by omega) h]
end
end
section
open Go.RowKit
def strip (d:Def):Def:=⟨d.name,d.id,d.body,0,false,[]⟩
structure Sim (s s':St):Prop where
 rs:s.rs=s'.rs
 mem:s.mem=s'.mem
 defs:s.defs.map strip=s'.defs.map strip
 ids:s.ids=s'.ids
 e:s.e=s'.e
 steps:s.steps=s'.steps
 depth:s.depth=s'.depth
 out:s.out=s'.out
theorem Sim.refl (s:St):Sim s s:=⟨rfl,rfl,rfl,rfl,rfl,rfl,rfl,rfl⟩
theorem Sim.symm {s s':St} (h:Sim s s'):Sim s' s:=⟨h.rs.symm,h.mem.symm,h.defs.symm,h.ids.symm,h.e.symm,h.steps.symm,h.depth.symm,h.out.symm⟩
theorem Sim.trans {s s' s'':St} (h:Sim s s') (g:Sim s' s''):Sim s s'':=⟨h.rs.trans g.rs,h.mem.trans g.mem,h.defs.trans g.defs,h.ids.trans g.ids,h.e.trans g.e,h.steps.trans g.steps,h.depth.trans g.depth,h.out.trans g.out⟩
theorem findIdx_map {α β:Type} (f:α->β) (p:β->Bool) (l:List α):(l.map f).findIdx? p=l.findIdx? (fun a=>p (f a)):=by rw[List.findIdx?_map];rfl
section
variable {s s':St} (h:Sim s s')
include h
theorem Sim.find (t:Tok):s.find t=s'.find t:=by
 have h1:=findIdx_map strip (fun d=>d.name == t) s.defs;have h2:=findIdx_map strip (fun d=>d.name == t) s'.defs;rw[h.defs,h2] at h1;exact h1.symm
theorem Sim.known:s.known=s'.known:=by funext t;unfold St.known;rw[h.find]
theorem Sim.len:s.defs.length=s'.defs.length:=by have:=congrArg List.length h.defs;simpa using this
theorem Sim.pDef (g:Nat) (r:List Tok):pDef g s r=pDef g s' r:=by
 cases r with
 | nil=>rfl
 | cons t r=>simp only[Go.Proofs.YteainaiebcphlaaGreatDoor.pDef];rw[h.known,h.len]
theorem Sim.step:Sim s.step s'.step:=by
 unfold St.step;rw[h.steps]
 split
 ·exact⟨h.rs,h.mem,h.defs,h.ids,h.e,by show s'.steps+1=_;rfl,h.depth,h.out⟩
 ·exact⟨h.rs,h.mem,h.defs,h.ids,rfl,rfl,h.depth,h.out⟩
theorem Sim.put (n:Int):Sim (s.put n) (s'.put n):=by
 unfold St.put;rw[h.rs]
 split
 ·exact⟨rfl,h.mem,h.defs,h.ids,h.e,h.steps,h.depth,h.out⟩
 ·exact⟨rfl,h.mem,h.defs,h.ids,rfl,h.steps,h.depth,h.out⟩
theorem Sim.word (k:Nat):Sim (s.word k) (s'.word k):=by
 unfold St.word;rw[h.rs,h.mem,h.out];exact⟨rfl,rfl,h.defs,h.ids,rfl,h.steps,h.depth,rfl⟩
theorem Sim.err (e:Int):Sim (s.err e) (s'.err e):=⟨h.rs,h.mem,h.defs,h.ids,rfl,h.steps,h.depth,h.out⟩
theorem Sim.setRs (r:List Int):Sim { s with rs:=r } { s' with rs:=r }:=⟨rfl,h.mem,h.defs,h.ids,h.e,h.steps,h.depth,h.out⟩
theorem Sim.deep (k:Int):Sim { s with depth:=s.depth+k } { s' with depth:=s'.depth+k }:=⟨h.rs,h.mem,h.defs,h.ids,h.e,h.steps,by show s.depth+k=s'.depth+k;rw[h.depth],h.out⟩
theorem Sim.up1:Sim { s with depth:=s.depth - 1 } { s' with depth:=s'.depth - 1 }:=⟨h.rs,h.mem,h.defs,h.ids,h.e,h.steps,by show s.depth - 1=s'.depth - 1;rw[h.depth],h.out⟩
theorem Sim.test:Sim s.test.1 s'.test.1/\s.test.2=s'.test.2:=by
 have hs:=h.step;unfold St.test;rw[hs.e,hs.rs]
 split
 ·split
  ·exact⟨hs.err 6,rfl⟩
  ·exact⟨hs.setRs _,rfl⟩
 ·exact⟨hs,rfl⟩
end
theorem strip_map (t:Tok) (l:List Def):(l.map fun d=>if d.fast=true/\d.built.any (· == t)=true then slowD d else d).map strip=l.map strip:=by
 rw[List.map_map]
 apply List.map_congr_left
 intro d _;show strip (if d.fast=true/\d.built.any (· == t)=true then slowD d else d)=strip d
 split
 ·rfl
 ·rfl
theorem Sim.set {s s':St} (h:Sim s s') (t:Tok) (b:List It):Sim (s.set t b) (s'.set t b):=by
 have hf:=h.find t;refine⟨h.rs,h.mem,?_,by show wrap64 (s.ids+1)=wrap64 (s'.ids+1);rw[h.ids],h.e,h.steps,h.depth,h.out⟩;unfold St.set;simp only;rw[hf,h.ids]
 cases s'.find t with
 | none=>simp only[List.map_append,strip_map,h.defs]
 | some k=>simp only[List.map_set,strip_map,h.defs]
theorem count_sim {g:Nat} {s s1:St} {k:Nat} (h:s.count g k=some s1):Sim s1 s:=by
 unfold St.count at h
 split at h
 ·cases h
 ·rename_i d hd
  have key:∀ d':Def,strip d'=strip d->(s.defs.set k d').map strip=s.defs.map strip:=by
   intro d' e;rw[List.map_set,e]
   apply List.ext_getElem?
   intro i;rw[List.getElem?_set]
   split
   ·rename_i hi
    subst hi
    split
    ·rw[List.getElem?_map,hd];rfl
    ·rename_i hl
     exfalso
     have hk:=(List.getElem?_eq_some_iff.1 hd).1;rw[List.length_map] at hl;omega
   ·rfl
  split at h
  ·injection h with h;subst h;exact Sim.refl _
  ·split at h
   ·injection h with h;subst h;exact⟨rfl,rfl,key _ rfl,rfl,rfl,rfl,rfl,rfl⟩
   ·split at h
    ·cases h
    ·injection h with h;subst h;exact⟨rfl,rfl,key _ rfl,rfl,rfl,rfl,rfl,rfl⟩
theorem come_sim {g:Nat} {f:Fr} {s s1:St} (h:xCome g f s=some s1):Sim s1 s:=by
 unfold xCome at h
 split at h
 ·injection h with h;subst h;exact Sim.refl _
 ·split at h
  ·cases h
  ·split at h
   ·exact count_sim h
   ·injection h with h;subst h;exact Sim.refl _
theorem find_sim {s s':St} (h:Sim s s') (t:Tok) {d:Def} (hd:s.defs.find? (fun d=>d.name == t)=some d):∃ d',s'.defs.find? (fun d=>d.name == t)=some d'/\d'.id=d.id/\d'.name=d.name/\d'.body=d.body:=by
 have e:∀ l:List Def,(l.map strip).find? (fun d=>d.name == t)=(l.find? (fun d=>d.name == t)).map strip:=by
  intro l;rw[List.find?_map];rfl
 have h1:=e s.defs;have h2:=e s'.defs;rw[h.defs,h2,hd] at h1
 cases hx:s'.defs.find? (fun d=>d.name == t) with
 | none=>rw[hx] at h1;cases h1
 | some d'=>
  rw[hx] at h1;simp only[Option.map_some,Option.some.injEq,strip,Def.mk.injEq] at h1;exact⟨d',rfl,h1.2.1,h1.1,h1.2.2.1⟩
def SimR (g:Nat):Prop:=∀ (j:XJ) (s s' s1 s1':St) (l l':Bool),Sim s s'->xRun g j s=some (s1,l)->xRun g j s'=some (s1',l')->Sim s1 s1'/\l=l'
theorem sim_one {g:Nat} (ih:SimR g) {f:Fr} {lp:List Int} {x:It} {s s' s1 s1':St} {l l':Bool} (hs:Sim s s') (h:xOne g f lp x s=some (s1,l)) (h':xOne g f lp x s'=some (s1',l')):Sim s1 s1'/\l=l':=by
 unfold xOne at h h';by_cases k1:x.kind=110
 ·rw[if_pos k1] at h h';injection h with h;injection h with h1 h2;subst h1 h2;injection h' with h';injection h' with h1 h2;subst h1 h2;exact⟨hs.put _,by rw[(hs.put x.n).e]⟩
 rw[if_neg k1] at h h';by_cases k2:x.kind=112
 ·rw[if_pos k2] at h h'
  split at h
  ·cases h
  ·rename_i k hk
   rw[hk] at h';injection h with h;injection h with h1 h2;subst h1 h2;injection h' with h';injection h' with h1 h2;subst h1 h2;exact⟨hs.word _,by rw[(hs.word k).e]⟩
 rw[if_neg k2] at h h';by_cases k3:x.kind=105
 ·rw[if_pos k3] at h h'
  split at h
  ·cases h
  ·injection h with h;injection h with h1 h2;subst h1 h2;injection h' with h';injection h' with h1 h2;subst h1 h2
   rename_i i _
   exact⟨hs.put _,by rw[(hs.put i).e]⟩
 rw[if_neg k3] at h h';by_cases k4:x.kind=120
 ·rw[if_pos k4] at h h';injection h with h;injection h with h1 h2;subst h1 h2;injection h' with h';injection h' with h1 h2;subst h1 h2;exact⟨hs,rfl⟩
 rw[if_neg k4] at h h';by_cases k5:x.kind=114
 ·rw[if_pos k5] at h h'
  split at h
  ·cases h
  ·rename_i s2 l2 hx
   split at h'
   ·cases h'
   ·rename_i s2' l2' hx'
    have q:=ih _ _ _ _ _ _ _ hs hx hx';injection h with h;injection h with h1 h2;subst h1 h2;injection h' with h';injection h' with h1 h2;subst h1 h2;exact⟨q.1,by rw[q.1.e]⟩
 rw[if_neg k5] at h h';by_cases k6:x.kind=99
 ·rw[if_pos k6] at h h'
  split at h
  ·cases h
  ·rename_i s2 l2 hx
   split at h'
   ·cases h'
   ·rename_i s2' l2' hx'
    have q:=ih _ _ _ _ _ _ _ hs hx hx';injection h with h;injection h with h1 h2;subst h1 h2;injection h' with h';injection h' with h1 h2;subst h1 h2;exact⟨q.1,by rw[q.1.e]⟩
 rw[if_neg k6] at h h';by_cases k7:x.kind=123
 ·rw[if_pos k7] at h h';rw[hs.depth] at h;by_cases hd:20<=s'.depth
  ·rw[if_pos hd] at h h';injection h with h;injection h with h1 h2;subst h1 h2;injection h' with h';injection h' with h1 h2;subst h1 h2;exact⟨hs.err _,rfl⟩
  ·rw[if_neg hd] at h h'
   split at h
   ·cases h
   ·rename_i s2 l2 hx
    split at h'
    ·cases h'
    ·rename_i s2' l2' hx'
     rw[<-hs.depth] at hx;have q:=ih _ _ _ _ _ _ _ (hs.deep 1) hx hx';injection h with h;injection h with h1 h2;subst h1 h2;injection h' with h';injection h' with h1 h2;subst h1 h2;exact⟨q.1.up1,by rw[q.1.e]⟩
 rw[if_neg k7] at h h';by_cases k8:x.kind=100
 ·rw[if_pos k8] at h h';rw[hs.rs] at h
  split at h
  ·rename_i b m r hr
   rw[hr] at h';exact ih _ _ _ _ _ _ _ (hs.setRs r) h h'
  ·rename_i hr
   split at h'
   ·rename_i b m r hr'
    exact absurd hr' (hr b m r)
   ·injection h with h;injection h with h1 h2;subst h1 h2;injection h' with h';injection h' with h1 h2;subst h1 h2;exact⟨hs.err _,rfl⟩
 rw[if_neg k8] at h
 cases h
theorem sim_tok {g:Nat} (ih:SimR g) {t:Tok} {s s' s1 s1':St} (hs:Sim s s') (h:xTok g t s=some s1) (h':xTok g t s'=some s1'):Sim s1 s1':=by
 unfold xTok at h h';have hst:=hs.step
 cases hn:numP t with
 | some n=>
  rw[hn] at h h';dsimp only at h h';rw[hst.e] at h
  split at h
  ·rename_i he
   rw[if_pos he] at h';injection h with h;subst h;injection h' with h';subst h';exact hst
  ·rename_i he
   rw[if_neg he] at h';injection h with h;subst h;injection h' with h';subst h';exact hst.put n
 | none=>
  rw[hn] at h h';dsimp only at h h'
  cases hk:plainL.findIdx? (· == t) with
  | some k=>
   rw[hk] at h h';dsimp only at h h';rw[hst.e] at h
   split at h
   ·rename_i he
    rw[if_pos he] at h';injection h with h;subst h;injection h' with h';subst h';exact hst
   ·rename_i he
    rw[if_neg he] at h';injection h with h;subst h;injection h' with h';subst h';exact hst.word k
  | none=>
   rw[hk] at h h';dsimp only at h h';by_cases c1:(keptL.any (· == t) || t == kSemi || t == kOpen || t == kClose)=true
   ·rw[if_pos c1] at h h';injection h with h;subst h;injection h' with h';subst h';exact hs.err 4
   rw[if_neg c1] at h h';rw[hs.known] at h;by_cases c2:s'.known t=false
   ·rw[if_pos c2] at h h';injection h with h;subst h;injection h' with h';subst h';exact hs.err 3
   rw[if_neg c2] at h h';rw[hst.e] at h
   split at h
   ·rename_i he
    rw[if_pos he] at h';injection h with h;subst h;injection h' with h';subst h';exact hst
   ·rename_i he
    rw[if_neg he] at h'
    split at h
    ·cases h
    ·rename_i s2 l2 hx
     split at h'
     ·cases h'
     ·rename_i s2' l2' hx'
      have q:=ih _ _ _ _ _ _ _ hst hx hx';injection h with h;subst h;injection h' with h';subst h';exact q.1
theorem ptoks {g:Nat} {j:XJ} (s:St) (h0:¬ j.what=0) (h1:¬ j.what=1) (h2:¬ j.what=2) (h3:¬ j.what=3) (h4:¬ j.what=4):xRun (g+1) j s=xRun (g+1) (jToks j.ts) s:=by
 conv=>lhs;unfold xRun
 conv=>rhs;unfold xRun
 rw[if_neg h0,if_neg h1,if_neg h2,if_neg h3,if_neg h4];rfl
theorem sim_run:∀ g,SimR g:=by
 intro g
 induction g with
 | zero=>intro j s s' s1 s1' l l' _ h _;cases h
 | succ g ih=>
  intro j s s' s1 s1' l l' hs h h';by_cases h5:j.what=0\/j.what=1\/j.what=2\/j.what=3\/j.what=4
  case neg=>
   rw[ptoks s (by omega) (by omega) (by omega) (by omega) (by omega)] at h;rw[ptoks s' (by omega) (by omega) (by omega) (by omega) (by omega)] at h';generalize j.ts=ts at h h';clear h5
   cases ts with
   | nil=>
    rw[x_tnil] at h h';injection h with h;injection h with e1 e2;subst e1 e2;injection h' with h';injection h' with e1 e2;subst e1 e2;exact⟨hs,rfl⟩
   | cons t r=>
    by_cases he:s.e=0
    case neg=>
     rw[x_terr _ _ _ he] at h;rw[x_terr _ _ _ (by rw[<-hs.e];exact he)] at h';injection h with h;injection h with e1 e2;subst e1 e2;injection h' with h';injection h' with e1 e2;subst e1 e2;exact⟨hs,rfl⟩
    have he':s'.e=0:=by rw[<-hs.e];exact he
    by_cases hc:t=kColon
    ·subst hc;rw[x_def _ _ _ he] at h;rw[x_def _ _ _ he',<-hs.pDef] at h'
     split at h
     ·cases h
     ·rename_i e hp
      rw[hp] at h';injection h with h;injection h with e1 e2;subst e1 e2;injection h' with h';injection h' with e1 e2;subst e1 e2;exact⟨hs.err _,rfl⟩
     ·rename_i nm b r1 hp
      rw[hp] at h';dsimp only at h';rw[hs.step.e] at h
      split at h
      ·rename_i c
       rw[if_pos c] at h';injection h with h;injection h with e1 e2;subst e1 e2;injection h' with h';injection h' with e1 e2;subst e1 e2;exact⟨hs.step,rfl⟩
      ·rename_i c
       rw[if_neg c] at h';exact ih _ _ _ _ _ _ _ (hs.step.set nm b) h h'
    ·rw[x_tok _ _ _ _ he hc] at h;rw[x_tok _ _ _ _ he' hc] at h'
     split at h
     ·cases h
     ·rename_i s2 hx
      split at h'
      ·cases h'
      ·rename_i s2' hx'
       exact ih _ _ _ _ _ _ _ (sim_tok ih hs hx hx') h h'
  unfold xRun at h h';by_cases h0:j.what=0
  ·rw[if_pos h0] at h h'
   cases hl:j.l with
   | nil=>
    rw[hl] at h h';injection h with h;injection h with e1 e2;subst e1 e2;injection h' with h';injection h' with e1 e2;subst e1 e2;exact⟨hs,rfl⟩
   | cons x l0=>
    rw[hl] at h h';dsimp only at h h'
    split at h
    ·cases h
    ·rename_i a b hx
     split at h'
     ·cases h'
     ·rename_i a' b' hx'
      obtain⟨q1,rfl⟩:=ih _ _ _ _ _ _ _ hs hx hx';rw[q1.e] at h;by_cases c:b=true\/a'.e ≠ 0
      ·rw[if_pos c] at h h';injection h with h;injection h with e1 e2;subst e1 e2;injection h' with h';injection h' with e1 e2;subst e1 e2;exact⟨q1,rfl⟩
      ·rw[if_neg c] at h h';exact ih _ _ _ _ _ _ _ q1 h h'
  rw[if_neg h0] at h h';by_cases h1:j.what=1
  ·rw[if_pos h1] at h h';have ht:=hs.test;by_cases q1:j.x.kind=63
   ·rw[if_pos q1] at h h';rw[ht.1.e,ht.2] at h;by_cases c1:s'.test.1.e ≠ 0
    ·rw[if_pos c1] at h h';injection h with h;injection h with e1 e2;subst e1 e2;injection h' with h';injection h' with e1 e2;subst e1 e2;exact⟨ht.1,rfl⟩
    rw[if_neg c1] at h h';by_cases c2:s'.test.2=true
    ·rw[if_pos c2] at h h';exact ih _ _ _ _ _ _ _ ht.1 h h'
    ·rw[if_neg c2] at h h';exact ih _ _ _ _ _ _ _ ht.1 h h'
   rw[if_neg q1] at h h';by_cases q2:j.x.kind=117
   ·rw[if_pos q2] at h h'
    split at h
    ·cases h
    ·rename_i a b hx
     split at h'
     ·cases h'
     ·rename_i a' b' hx'
      obtain⟨q,rfl⟩:=ih _ _ _ _ _ _ _ hs hx hx';have ta:=q.test;by_cases cb:b=true
      ·rw[if_pos cb] at h h';injection h with h;injection h with e1 e2;subst e1 e2;injection h' with h';injection h' with e1 e2;subst e1 e2;exact⟨q,rfl⟩
      rw[if_neg cb] at h h';rw[ta.1.e,ta.2] at h;by_cases c1:a'.test.1.e ≠ 0
      ·rw[if_pos c1] at h h';injection h with h;injection h with e1 e2;subst e1 e2;injection h' with h';injection h' with e1 e2;subst e1 e2;exact⟨ta.1,rfl⟩
      rw[if_neg c1] at h h';by_cases c2:a'.test.2=true
      ·rw[if_pos c2] at h h';injection h with h;injection h with e1 e2;subst e1 e2;injection h' with h';injection h' with e1 e2;subst e1 e2;exact⟨ta.1,rfl⟩
      ·rw[if_neg c2] at h h';exact ih _ _ _ _ _ _ _ ta.1 h h'
   rw[if_neg q2] at h h';by_cases q3:j.x.kind=119
   ·rw[if_pos q3] at h h'
    split at h
    ·cases h
    ·rename_i a b hx
     split at h'
     ·cases h'
     ·rename_i a' b' hx'
      obtain⟨q,rfl⟩:=ih _ _ _ _ _ _ _ hs hx hx';have ta:=q.test;by_cases cb:b=true
      ·rw[if_pos cb] at h h';injection h with h;injection h with e1 e2;subst e1 e2;injection h' with h';injection h' with e1 e2;subst e1 e2;exact⟨q,rfl⟩
      rw[if_neg cb] at h h';rw[ta.1.e,ta.2] at h;by_cases c1:a'.test.1.e ≠ 0
      ·rw[if_pos c1] at h h';injection h with h;injection h with e1 e2;subst e1 e2;injection h' with h';injection h' with e1 e2;subst e1 e2;exact⟨ta.1,rfl⟩
      rw[if_neg c1] at h h';by_cases c2:a'.test.2=false
      ·rw[if_pos c2] at h h';injection h with h;injection h with e1 e2;subst e1 e2;injection h' with h';injection h' with e1 e2;subst e1 e2;exact⟨ta.1,rfl⟩
      rw[if_neg c2] at h h'
      split at h
      ·cases h
      ·rename_i a3 b3 hx3
       split at h'
       ·cases h'
       ·rename_i a3' b3' hx3'
        obtain⟨q3,rfl⟩:=ih _ _ _ _ _ _ _ ta.1 hx3 hx3';by_cases cc:b3=true
        ·rw[if_pos cc] at h h';injection h with h;injection h with e1 e2;subst e1 e2;injection h' with h';injection h' with e1 e2;subst e1 e2;exact⟨q3,rfl⟩
        ·rw[if_neg cc] at h h';exact ih _ _ _ _ _ _ _ q3 h h'
   rw[if_neg q3] at h h';have hst:=hs.step;rw[hst.e] at h;by_cases c:s'.step.e ≠ 0
   ·rw[if_pos c] at h h';injection h with h;injection h with e1 e2;subst e1 e2;injection h' with h';injection h' with e1 e2;subst e1 e2;exact⟨hst,rfl⟩
   ·rw[if_neg c] at h h';exact sim_one ih (f:=j.f) (lp:=j.lp) (x:=j.x) hst h h'
  rw[if_neg h1] at h h';by_cases h2:j.what=2
  ·rw[if_pos h2] at h h';by_cases c0:j.n < j.m
   ·rw[if_pos c0] at h h';have hst:=hs.step;rw[hst.e] at h;by_cases c:s'.step.e ≠ 0
    ·rw[if_pos c] at h h';injection h with h;injection h with e1 e2;subst e1 e2;injection h' with h';injection h' with e1 e2;subst e1 e2;exact⟨hst,rfl⟩
    rw[if_neg c] at h h'
    split at h
    ·cases h
    ·rename_i a b hx
     split at h'
     ·cases h'
     ·rename_i a' b' hx'
      obtain⟨q,rfl⟩:=ih _ _ _ _ _ _ _ hst hx hx';by_cases cb:b=true
      ·rw[if_pos cb] at h h';injection h with h;injection h with e1 e2;subst e1 e2;injection h' with h';injection h' with e1 e2;subst e1 e2;exact⟨q,rfl⟩
      ·rw[if_neg cb] at h h';exact ih _ _ _ _ _ _ _ q h h'
   ·rw[if_neg c0] at h h';injection h with h;injection h with e1 e2;subst e1 e2;injection h' with h';injection h' with e1 e2;subst e1 e2;exact⟨hs,rfl⟩
  rw[if_neg h2] at h h';by_cases h3:j.what=3
  ·rw[if_pos h3] at h h';rw[hs.depth] at h;by_cases c0:20<=s'.depth
   ·rw[if_pos c0] at h h';injection h with h;injection h with e1 e2;subst e1 e2;injection h' with h';injection h' with e1 e2;subst e1 e2;exact⟨hs.err _,rfl⟩
   rw[if_neg c0] at h h'
   have h:(match xCome g j.f s with
    | none=>none
    | some s1=>match xRun g (jBody j.f [] j.f.body) { s1 with depth:=s1.depth+1 } with
     | none=>none
     | some (s2,_)=>some ({ s2 with depth:=s2.depth - 1 },false))=some (s1,l):=h
   have h':(match xCome g j.f s' with
    | none=>none
    | some s1=>match xRun g (jBody j.f [] j.f.body) { s1 with depth:=s1.depth+1 } with
     | none=>none
     | some (s2,_)=>some ({ s2 with depth:=s2.depth - 1 },false))=some (s1',l'):=h'
   split at h
   ·cases h
   ·rename_i a ha
    split at h'
    ·cases h'
    ·rename_i a' ha'
     have qa:=(come_sim ha).trans (hs.trans (come_sim ha').symm)
     split at h
     ·cases h
     ·rename_i b lb hx
      split at h'
      ·cases h'
      ·rename_i b' lb' hx'
       have q:=ih _ _ _ _ _ _ _ (qa.deep 1) hx hx';injection h with h;injection h with e1 e2;subst e1 e2;injection h' with h';injection h' with e1 e2;subst e1 e2;exact⟨q.1.up1,rfl⟩
  rw[if_neg h3] at h h';have h4:j.what=4:=by omega
  rw[if_pos h4] at h h'
  split at h
  ·cases h
  ·rename_i d hd
   obtain⟨d',hd',e1,e2,e3⟩:=find_sim hs _ hd;rw[hd'] at h';dsimp only at h';rw[e1,e2,e3] at h';exact ih _ _ _ _ _ _ _ hs h h'
theorem sim_runs (hm:∀ {g g':Nat},g<=g'->∀ {j:XJ} {s:St} {r:St × Bool},xRun g j s=some r->xRun g' j s=some r) {g g':Nat} {j:XJ} {s s' s1 s1':St} {l l':Bool} (hs:Sim s s') (h:xRun g j s=some (s1,l)) (h':xRun g' j s'=some (s1',l')):Sim s1 s1'/\l=l':=
 sim_run (g+g') j s s' s1 s1' l l' hs (hm (by omega) h) (hm (by omega) h')
end
end Go.Proofs.YteainaiebcphlaaGreatDoor
