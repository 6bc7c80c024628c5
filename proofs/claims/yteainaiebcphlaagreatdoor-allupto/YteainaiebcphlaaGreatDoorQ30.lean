import Derived.Test.YteainaiebcphlaaGreatDoorQ29
import Derived.Test.YteainaiebcphlaaGreatDoorQ26
import Derived.Handy
namespace Go.Proofs.YteainaiebcphlaaGreatDoor
set_option maxRecDepth 1000000
set_option maxHeartbeats 4000000
set_option linter.all false
open Go.Proofs.Tryz
section
open Go.RowKit
def AH (bb ib nb bk mb:Nat)(nm:ByteArray)(iv:Value)(w:World):Prop:=w.cell? ⟨bb,0,none⟩=some (pt bk)/\w.cell? ⟨ib,0,none⟩=some iv/\w.cell? ⟨nb,0,none⟩=some (.string nm)/\w.cell? ⟨bk,0,none⟩=some (.map (some mb))
def Ry (bb ib nb bk mb:Nat)(nm:ByteArray)(a:Option Addr)(n p:Nat)(w:World)(Q:World->Prop):Prop:=Calls prog 118 #[pt bk,.string nm,.slice a n p] w λe w'=>∃ob w2,e=.returned (pt ob)/\AH bb ib nb bk mb nm (.slice a n p) w'/\AH bb ib nb bk mb nm (.slice a n p) w2/\(Instr.mapUpdate 104 (.map (some mb)) (.string nm) (pt ob)).run prog w'=.ok () w2/\Q w2
theorem JH (w:World)(rb bb ib nb bk mb:Nat)(nm:ByteArray)(a:Option Addr)(n p:Nat)(Q:World->Prop)(hS:AH bb ib nb bk mb nm (.slice a n p) w)
  (hl:∀w0,Kp w w0 (λ_=>False)->(Instr.lookup 104 (.map (some mb)) (.string nm) false).run prog w0=.ok (.pointer none) w0)
  (fM:∀w0,Kp w w0 (λ_=>False)->AH bb ib nb bk mb nm (.slice a n p) w0)
  (hc:∀w0,Kp w w0 (λ_=>False)->Ry bb ib nb bk mb nm a n p w0 Q):
  Calls prog 116 #[pt rb,pt bb,pt nb,pt ib] w λe w'=>e=.returned (.int .i64 0)/\Q w':=by
 obtain⟨c1,c2,c3,c4⟩:=hS;have HC:=az hc;have cZ:=hl w (Kp.refl _ _);have hr1:=hl w.drew (Kp.refl _ _).drew;clear hc hl fM;go_enter func116,ntmps116;go_wp2
 go_region_held3 (λw'=>w'.cell? ⟨bb,0,none⟩=some (pt bk)/\w'.cell? ⟨ib,0,none⟩=some (.slice a n p)/\w'.cell? ⟨nb,0,none⟩=some (.string nm)/\w'.cell? ⟨bk,0,none⟩=some (.map (some mb))) (go_keep) (fail)
 go_wp2
 go_region_held3 (λw'=>w'.cell? ⟨bb,0,none⟩=some (pt bk)/\w'.cell? ⟨ib,0,none⟩=some (.slice a n p)/\w'.cell? ⟨nb,0,none⟩=some (.string nm)/\w'.cell? ⟨bk,0,none⟩=some (.map (some mb))) (go_keep) (first
  | (go_at_call 118;refine(HC.out _ ?_).mono ?_;(first|exact(Kp.refl _ _).drew.drew|exact(Kp.refl _ _).drew);rintro e w1 ⟨ob,w2,rfl,⟨d1,d2,d3,d4⟩,⟨e1,e2,e3,e4⟩,hrun,hq⟩;have HQ:=az hq;clear hq))
 go_wp2;go_ret;exact⟨rfl,HQ.out⟩
theorem JI (w:World)(rb bb ib nb bk mb oo:Nat)(nm:ByteArray)(a:Option Addr)(n p:Nat)(Q I:World->Prop)(hS:AH bb ib nb bk mb nm (.slice a n p) w)
  (hl:∀w0,Kp w w0 (λ_=>False)->(Instr.lookup 104 (.map (some mb)) (.string nm) false).run prog w0=.ok (pt oo) w0)
  (hR:∀w0,Kp w w0 (λ_=>False)->Calls prog 117 #[pt oo] w0 λe w'=>e=.returned (.tuple #[])/\AH bb ib nb bk mb nm (.slice a n p) w'/\I w')
  (hc:∀w1,I w1->∀w0,Kp w1 w0 (λ_=>False)->Ry bb ib nb bk mb nm a n p w0 Q):
  Calls prog 116 #[pt rb,pt bb,pt nb,pt ib] w λe w'=>e=.returned (.int .i64 0)/\Q w':=by
 obtain⟨c1,c2,c3,c4⟩:=hS;have HC:=az hc;have HR:=az hR;have cZ:=hl w (Kp.refl _ _);have hr1:=hl w.drew (Kp.refl _ _).drew;clear hc hl hR;go_enter func116,ntmps116;go_wp2
 go_region_held3 (λw'=>w'.cell? ⟨bb,0,none⟩=some (pt bk)/\w'.cell? ⟨ib,0,none⟩=some (.slice a n p)/\w'.cell? ⟨nb,0,none⟩=some (.string nm)/\w'.cell? ⟨bk,0,none⟩=some (.map (some mb))) (go_keep) (fail)
 go_wp2_with fail
 refine(HR.out _ ?_).mono ?_
 ·exact(Kp.refl _ _).drew
 rintro e w5 ⟨rfl,⟨x1,x2,x3,x4⟩,hi⟩;have Yh:=az (HC.out w5 hi);clear hi HC HR;go_wp2
 go_region_held3 (λw'=>w'.cell? ⟨bb,0,none⟩=some (pt bk)/\w'.cell? ⟨ib,0,none⟩=some (.slice a n p)/\w'.cell? ⟨nb,0,none⟩=some (.string nm)/\w'.cell? ⟨bk,0,none⟩=some (.map (some mb))) (go_keep) (first
  | (go_at_call 118;refine(Yh.out _ ?_).mono ?_;(first|exact(Kp.refl _ _).drew.drew|exact(Kp.refl _ _).drew);rintro e w1 ⟨ob,w2,rfl,⟨d1,d2,d3,d4⟩,⟨e1,e2,e3,e4⟩,hrun,hq⟩;have HQ:=az hq;clear hq))
 go_wp2;go_ret;exact⟨rfl,HQ.out⟩
abbrev wk (d:Def):Tok × List It:=(d.name,d.body)
def l7 (l:List (Tok × List It))(t:Tok)(b:List It):List (Tok × List It):=match l.findIdx? (λp=>p.1==t) with
 | some k=>l.set k (t,b)
 | none=>l++[(t,b)]
theorem iC (ay:List Def)(t:Tok):ay.findIdx? (λd=>d.name==t)=(ay.map wk).findIdx? (λp=>p.1==t):=by
 rw[List.findIdx?_map];rfl
theorem yT (s:St)(t:Tok)(b:List It):(s.set t b).ay.map wk=l7 (s.ay.map wk) t b:=by
 have hmap:(s.ay.map λd=>if d.bF=true/\d.built.any (· == t)=true then cP d else d).map wk=s.ay.map wk:=by
  rw[List.map_map]
  apply List.map_congr_left
  intro d _;show wk (if _ then _ else _)=wk d
  split <;> rfl
 unfold l7;rw[<-iC];unfold St.set St.find
 cases s.ay.findIdx? (λd=>d.name==t) with
 | none=>
  show((s.ay.map _)++[_]).map wk=_;rw[List.map_append,hmap];rfl
 | some k=>
  show((s.ay.map _).set k _).map wk=_;rw[List.map_set,hmap]
theorem pg (l:List (Tok × List It))(t t':Tok)(b:List It)(hne:¬t'=t):(l7 l t b).findIdx? (λp=>p.1==t')=l.findIdx? (λp=>p.1==t'):=by
 have hb:((t,b).1==t')=false:=by rw[beq_eq_false_iff_ne];exact λe=>hne e.symm
 unfold l7
 cases hf:l.findIdx? (λp=>p.1==t) with
 | none=>
  show(l++[(t,b)]).findIdx? _=_;rw[List.findIdx?_append];have:[(t,b)].findIdx? (λp=>p.1==t')=none:=by rw[List.findIdx?_eq_none_iff];intro x hx;rw[List.mem_singleton.1 hx];exact hb
  rw[this];simp
 | some k=>
  show(l.set k (t,b)).findIdx? _=_;obtain⟨hk,hp,_⟩:=List.findIdx?_eq_some_iff_getElem.1 hf;have hkk:(l[k].1==t')=false:=by
   rw[beq_iff_eq.1 hp];exact hb
  apply Option.ext
  intro i;rw[List.findIdx?_eq_some_iff_getElem,List.findIdx?_eq_some_iff_getElem]
  constructor
  ·rintro⟨hi,h1,h2⟩;have hi':i<l.length:=by simpa using hi
   have hik:¬k=i:=by rintro rfl;rw[List.getElem_set_self,hb] at h1;cases h1
   refine⟨hi',by rw[List.getElem_set_ne hik] at h1;exact h1,λj hj=>?_⟩;by_cases hjk:k=j
   ·subst hjk;rw[hkk];decide
   ·have:=h2 j hj;rw[List.getElem_set_ne hjk] at this;exact this
  ·rintro⟨hi,h1,h2⟩;have hik:¬k=i:=by rintro rfl;rw[hkk] at h1;cases h1
   refine⟨by simpa using hi,by rw[List.getElem_set_ne hik];exact h1,λj hj=>?_⟩;by_cases hjk:k=j
   ·subst hjk;rw[List.getElem_set_self,hb];decide
   ·rw[List.getElem_set_ne hjk];exact h2 j hj
def fZ (l:List (Tok × List It))(obs:List Nat)(t:Tok)(ob:Nat):List Nat:=match l.findIdx? (λp=>p.1==t) with
 | some k=>obs.set k ob
 | none=>obs++[ob]
theorem pq (l:List (Tok × List It))(obs:List Nat)(t:Tok)(b:List It)(ob:Nat)(hl:obs.length=l.length):∃k,(l7 l t b).findIdx? (λp=>p.1==t)=some k/\(fZ l obs t ob).getD k 0=ob:=by
 unfold l7 fZ
 cases hf:l.findIdx? (λp=>p.1==t) with
 | none=>
  refine⟨l.length,?_,?_⟩
  ·show(l++[(t,b)]).findIdx? _=_;rw[List.findIdx?_append,hf];simp[List.findIdx?_cons]
  ·show(obs++[ob]).getD l.length 0=ob;rw[<-hl];simp
 | some k=>
  obtain⟨hk,hp,hn⟩:=List.findIdx?_eq_some_iff_getElem.1 hf;refine⟨k,?_,?_⟩
  ·show(l.set k (t,b)).findIdx? _=_;rw[List.findIdx?_eq_some_iff_getElem];refine⟨by simpa using hk,by rw[List.getElem_set_self];simp,λj hj=>?_⟩;rw[List.getElem_set_ne (by omega)];exact hn j hj
  ·show(obs.set k ob).getD k 0=ob;simp[List.getD,hl,hk]
theorem xV (l:List (Tok × List It))(t:Tok)(b:List It):(l7 l t b).length=if (l.findIdx? (λp=>p.1==t)).isSome=true then l.length else l.length+1:=by
 unfold l7
 cases l.findIdx? (λp=>p.1==t) <;> simp
theorem Cx (l:List (Tok × List It))(obs:List Nat)(t:Tok)(b:List It)(ob:Nat)(hl:obs.length=l.length):(fZ l obs t ob).length=(l7 l t b).length:=by
 unfold l7 fZ
 cases l.findIdx? (λp=>p.1==t) <;> simp[hl]
structure MN (w:World)(mb:Nat)(l:List (Tok × List It))(obs:List Nat)(DD:DataW Value):Prop where
 ol:obs.length=l.length
 mp:w.ownsMap prog 9 bQ mb l.length DD
 sz:Maps.size DD=l.length
 hs:∀t:Tok,t.length<=maxLen->Maps.has DD (.string t)=(l.findIdx? (λp=>p.1==t)).isSome
 KQ:l.length<=30
 lk:∀t:Tok,t.length<=maxLen->DD.atKey (.string t) (.held (.pointer none))=.held (.pointer ((l.findIdx? (λp=>p.1==t)).map (λk=>(⟨obs.getD k 0,0,none⟩:Addr))))
theorem WR.mn {D:GD}{w:World}{bk mb:Nat}{ay:List Def}{obs:List Nat}{DD:DataW Value}(h:WR D w bk mb ay obs DD):MN w mb (ay.map wk) obs DD:=
 ⟨by simpa using h.ol,by simpa using h.mp,by simpa using h.sz,λt ht=>by rw[<-iC];exact h.hs t ht,by simpa using h.KQ,λt ht=>by rw[<-iC];exact h.lk t ht⟩
theorem MN.same {w w':World}{mb:Nat}{l:List (Tok × List It)}{obs:List Nat}{DD:DataW Value}(h:MN w mb l obs DD)(e:w'.heap[mb]? = w.heap[mb]?):MN w' mb l obs DD:=⟨h.ol,aL h.mp e,h.sz,h.hs,h.KQ,h.lk⟩
theorem Fq {w:World}{b n:Nat}{DD:DataW Value}(h:w.ownsMap prog 9 bQ b n DD):w.ownsMap prog 9 bQ b (Maps.size DD) DD:=lH h
theorem MN.put {w:World}{mb:Nat}{l:List (Tok × List It)}{obs:List Nat}{DD:DataW Value}(h:MN w mb l obs DD)(t:ByteArray)(ht:t.size<=1000)(b:List It)(ob:Nat)(mD:(l.findIdx? (λp=>p.1==t.data.toList)).isSome=true\/l.length<30):
  ∃w2 DD2,(Instr.mapUpdate 104 (.map (some mb)) (.string t) (pt ob)).run prog w=.ok () w2/\w.grownBy w2 (some mb)/\MN w2 mb (l7 l t.data.toList b) (fZ l obs t.data.toList ob) DD2:=by
 obtain⟨h1,h2,h3a,h3b,Et,h4⟩:=h;have hsz:t.size<=maxLen:=ai ht (by decide);obtain⟨w2,hrun,hm2,hg⟩:=h2.update (Maps.string_keyed underlying9) underlying104 (Nat.lt_of_le_of_lt Et (by decide)) (key:=.string t) (val:=pt ob) (kl:=.string t.data.toList) (d:=.held (pt ob)) (ps:=[]) (DW t hsz) rfl;have hkl:WideAt.IsKeyLit (.string t.data.toList):=trivial;have htd:=h2.tidy (Maps.string_keyed underlying9);have hhas:=h3b t.data.toList hsz;have hlen:Maps.size (DD.put (.string t.data.toList) (.held (pt ob)))=(l7 l t.data.toList b).length:=by
  rw[Maps.size_put htd,hhas,xV,h3a]
 obtain⟨k0,bC,ho0⟩:=pq l obs t.data.toList b ob h1;refine⟨w2,_,hrun,hg,Cx l obs _ b ob h1,by rw[<-hlen];exact Fq hm2,hlen,λt' ht'=>?_,?_,λt' ht'=>?_⟩
 ·by_cases he:t'=t.data.toList
  ·subst he;rw[Maps.has_put_same htd.isMap hkl,bC];rfl
  ·rw[Maps.has_put_other (λe=>he (by injection e)),pg _ _ _ _ he];exact h3b t' ht'
 ·rw[xV]
  split
  ·exact Et
  ·rename_i hn
   rcases mD with h|h
   ·exact ax h hn
   ·omega
 ·by_cases he:t'=t.data.toList
  ·subst he;rw[Maps.atKey_put_same htd.isMap hkl,bC];show _=DataW.held (Value.pointer (some ⟨(fZ l obs t.data.toList ob).getD k0 0,0,none⟩));rw[ho0]
  ·rw[Maps.atKey_put_other (λe=>he (by injection e)),pg _ _ _ _ he,h4 t' ht']
   cases hf:l.findIdx? (λp=>p.1==t') with
   | none=>rfl
   | some k=>
    obtain⟨Ai,hp,_⟩:=List.findIdx?_eq_some_iff_getElem.1 hf;have aay:(fZ l obs t.data.toList ob).getD k 0=obs.getD k 0:=by
     unfold fZ
     cases hf2:l.findIdx? (λp=>p.1==t.data.toList) with
     | none=>
      have hko:k<obs.length:=by omega
      simp[List.getD,List.getElem?_append,hko]
     | some k2=>
      obtain⟨hk2,hp2,_⟩:=List.findIdx?_eq_some_iff_getElem.1 hf2;have hne:¬k2=k:=by rintro rfl;exact he ((beq_iff_eq.1 hp).symm.trans (beq_iff_eq.1 hp2))
      simp[List.getD,List.getElem?_set_ne hne]
    show DataW.held (Value.pointer (some ⟨obs.getD k 0,0,none⟩))=DataW.held (Value.pointer (some ⟨(fZ l obs t.data.toList ob).getD k 0,0,none⟩));rw[aay]
theorem M3:ij 116:=dm func116 (by kernel_rfl) (by kernel_rfl)
def jU (s:St)(t:Tok)(b:List It):Def:=⟨t,wrap64 (s.ids+1),b,0,false,[]⟩
def ki (t:Tok)(d:Def):Def:=if d.bF=true/\d.built.any (· == t)=true then cP d else d
theorem AJ (t:Tok)(d:Def):o8 (ki t d)=o8 d:=by unfold ki;split <;> rfl
theorem vE (t:Tok)(d:Def):(ki t d).name=d.name:=by unfold ki;split <;> rfl
theorem AK {s:St}{t:Tok}{b:List It}{k:Nat}(h:s.ay.findIdx? (λd=>d.name==t)=some k):(s.set t b).ay=(s.ay.map (ki t)).set k (jU s t b):=by
 unfold St.set St.find;rw[h];rfl
theorem AL {s:St}{t:Tok}{b:List It}(h:s.ay.findIdx? (λd=>d.name==t)=none):(s.set t b).ay=s.ay.map (ki t)++[jU s t b]:=by
 unfold St.set St.find;rw[h];rfl
theorem xW (ay:List Def)(obs:List Nat)(t:Tok)(ob:Nat):fZ (ay.map wk) obs t ob=match ay.findIdx? (λd=>d.name==t) with|some k=>obs.set k ob|none=>obs++[ob]:=by
 unfold fZ;rw[<-iC];try (cases ay.findIdx? (λd=>d.name==t) <;> rfl)
theorem Cy {s:St}{t:Tok}{b:List It}{obs:List Nat}{ob:Nat}(hl:obs.length=s.ay.length)(nd:∀i j (hi:i<s.ay.length) (hj:j<s.ay.length),s.ay[i].name=s.ay[j].name->i=j):
  ∀i (h:i<(s.set t b).ay.length),((s.set t b).ay[i]=jU s t b/\(fZ (s.ay.map wk) obs t ob).getD i 0=ob/\(s.set t b).ay.findIdx? (λd=>d.name==t)=some i/\∀h':i<s.ay.length,s.ay[i].name=t)\/∃h':i<s.ay.length,o8 (s.set t b).ay[i]=o8 s.ay[i]/\(fZ (s.ay.map wk) obs t ob).getD i 0=obs.getD i 0/\¬s.ay[i].name=t/\(s.set t b).ay[i]=ki t s.ay[i]:=by
 intro i h;have hnew:((jU s t b).name==t)=true:=by show(t==t)=true;simp
 cases hf:s.ay.findIdx? (λd=>d.name==t) with
 | some k=>
  have hs:=AK (b:=b) hf;obtain⟨hk,hp,kB⟩:=List.findIdx?_eq_some_iff_getElem.1 hf;have hp:s.ay[k].name=t:=beq_iff_eq.1 hp;have hi:i<s.ay.length:=by rw[hs] at h;simpa using h
  have hat:(s.set t b).ay[i]=((s.ay.map (ki t)).set k (jU s t b))[i]'(by simpa using hi):=by simp only[hs]
  rw[hat,xW,hf];by_cases hik:k=i
  ·subst hik;refine .inl ⟨by simp,by simp[List.getD,hl,hk],?_,λ_=>hp⟩;rw[hs,List.findIdx?_eq_some_iff_getElem];refine⟨by simpa using hk,by simp[jU],λj hj=>?_⟩;have hjl:j<s.ay.length:=by omega
   rw[List.getElem_set_ne (by omega)];simp only[List.getElem_map,vE];exact kB j hj
  ·refine .inr ⟨hi,by rw[List.getElem_set_ne hik];simp[AJ],by simp[List.getD,List.getElem?_set_ne hik],λe=>hik (nd k i hk hi (hp.trans e.symm)),by rw[List.getElem_set_ne hik];simp⟩
 | none=>
  have hs:=AL (b:=b) hf;rw[List.findIdx?_eq_none_iff] at hf;have hlen:(s.set t b).ay.length=s.ay.length+1:=by rw[hs];simp
  have hat:(s.set t b).ay[i]=(s.ay.map (ki t)++[jU s t b])[i]'(by simp;omega):=by simp only[hs]
  have iO:s.ay.findIdx? (λd=>d.name==t)=none:=by rw[List.findIdx?_eq_none_iff];exact hf
  rw[hat,xW,iO];by_cases hi:i<s.ay.length
  ·refine .inr ⟨hi,by rw[List.getElem_append_left (by simpa using hi)];simp[AJ],by simp[List.getD,List.getElem?_append,hl,hi],λe=>?_,by rw[List.getElem_append_left (by simpa using hi)];simp⟩;have:=hf _ (List.getElem_mem hi);rw[e] at this;simp at this
  ·have QF:i=s.ay.length:=by omega
   subst QF;refine .inl ⟨by rw[List.getElem_append_right (by simp)];simp,by rw[<-hl];simp,?_,λh'=>ax h' (Nat.lt_irrefl _)⟩;rw[hs,List.findIdx?_append];have h1:(s.ay.map (ki t)).findIdx? (λd=>d.name==t)=none:=by
    rw[List.findIdx?_eq_none_iff];intro d hd;obtain⟨d0,hd0,rfl⟩:=List.mem_map.1 hd;rw[vE];exact hf d0 hd0
   rw[h1,List.findIdx?_cons,hnew];simp
theorem DB {s:St}{t:Tok}{b:List It}:s.ay.length<=(s.set t b).ay.length:=by
 cases hf:s.ay.findIdx? (λd=>d.name==t) with
 | some k=>rw[AK hf];simp
 | none=>rw[AL hf];simp
theorem vF {s:St}{t t':Tok}{b:List It}(h:¬t'=t):(s.set t b).ay.findIdx? (λd=>d.name==t')=s.ay.findIdx? (λd=>d.name==t'):=by
 rw[iC,yT,pg _ _ _ _ h,<-iC]
theorem qc {s:St}{t t':Tok}{b:List It}(h:fY s.ay t'):fY (s.set t b).ay t':=by
 unfold fY at h ⊢;by_cases e:t'=t
 ·subst e;rw[iC,yT];obtain⟨k,hk,_⟩:=pq (s.ay.map wk) (List.replicate (s.ay.map wk).length 0) t' b 0 (by simp);rw[hk];rfl
 ·rw[vF e];exact h
theorem M4 {s:St}{t:Tok}{b:List It}:fY (s.set t b).ay t:=by
 unfold fY;rw[iC,yT];obtain⟨k,hk,_⟩:=pq (s.ay.map wk) (List.replicate (s.ay.map wk).length 0) t b 0 (by simp);rw[hk];rfl
theorem JJ {s:St}{t:Tok}{b:List It}(nd:∀i j (hi:i<s.ay.length) (hj:j<s.ay.length),s.ay[i].name=s.ay[j].name->i=j):∀i j (hi:i<(s.set t b).ay.length) (hj:j<(s.set t b).ay.length),(s.set t b).ay[i].name=(s.set t b).ay[j].name->i=j:=by
 intro i j hi hj e;have ri:=Cy (t:=t) (b:=b) (obs:=List.replicate s.ay.length 0) (ob:=0) (by simp) nd i hi;have rj:=Cy (t:=t) (b:=b) (obs:=List.replicate s.ay.length 0) (ob:=0) (by simp) nd j hj;have nm:∀k (hk:k<(s.set t b).ay.length),(s.set t b).ay[k]=jU s t b->(s.set t b).ay[k].name=t:=λk hk q=>by rw[q];rfl
 rcases ri with⟨a1,a2,a3,-⟩|⟨h1,a1,a2,a3,-⟩
 ·rcases rj with⟨b1,b2,b3,-⟩|⟨h2,b1,b2,b3,-⟩
  ·rw[a3] at b3;injection b3
  ·have:=congrArg Fr.name b1;exact ax (this.symm.trans (e.symm.trans (nm i hi a1))) b3
 ·rcases rj with⟨b1,b2,b3,-⟩|⟨h2,b1,b2,b3,-⟩
  ·have:=congrArg Fr.name a1;exact ax (this.symm.trans (e.trans (nm j hj b1))) a3
  ·exact nd i j h1 h2 ((congrArg Fr.name a1).symm.trans (e.trans (congrArg Fr.name b1)))
theorem pz {t:Tok}{d:Def}(hb:d.bF=false->d.built=[]):(t∈d.built->ki t d=cP d)/\(¬t∈d.built->ki t d=d):=by
 unfold ki;refine⟨λh=>?_,λh=>af (λq=>h ?_)⟩
 ·have hf:d.bF=true:=by
   cases e:d.bF with
   | true=>rfl
   | false=>rw[hb e] at h;cases h
  rw[ag ⟨hf,List.any_eq_true.2 ⟨t,h,by simp⟩⟩]
 ·obtain⟨x,hx,e⟩:=List.any_eq_true.1 q.2;rw[<-beq_iff_eq.1 e];exact hx
def vG (D:GD)(n1 n2 ob hb:Nat)(f:Fr):GD:=⟨λk=>D.d k\/(n1<=k/\k<n2/\k≠ob/\k≠hb),λk=>D.u k\/(k=ob\/k=hb),λo g=>D.r o g\/(o=ob/\g=f),λk=>if k=hb then(ob,0) else D.tag k,D.J⟩
section
variable {D:GD}{w:World}{bk mb:Nat}{s:St}{obs:List Nat}{DD:DataW Value}
theorem WR.defined (h:WR D w bk mb s.ay obs DD){w1 w2 w3:World}(nm:ByteArray)(K0:¬D.u mb)(old:Nat)(hold:∀k (hk:k<s.ay.length),s.ay[k].name=nm.data.toList->obs.getD k 0=old)(zC:∀k (hk:k<s.ay.length),¬s.ay[k].name=nm.data.toList->¬obs.getD k 0=old)(hk1:Kp w w1 D.u)(hP:lX D w w1 bk old)(hk2:Kp w1 w2 (λ_=>False))(hk3:Kp w2 w3 (λk=>k=mb))(ob hb:Nat)(Dr:w1.heap.size<=ob)(hhb:w1.heap.size<=hb)(hne:ob≠hb)(hns:nm.size<=1000)(iv sv:Value)(l:List It)
  (QZ:∀o f,D.r o f->f.id<=s.ids) (uY:0<=s.ids/\s.ids<=4611686018427389904) (Jc:UB l) (A q:Nat->Prop) (M5:∀i (h:i<s.ay.length),A i<->nm.data.toList∈s.ay[i].built\/s.ay[i].name=nm.data.toList) (hq:∀i (h:i<s.ay.length),q i->s.ay[i].name=nm.data.toList) (hX:EX D w1 bk s.ay.length (iR s.ay) (λk=>obs.getD k 0) (qN (XD s.ay) A) q)
  (hblk:aC w2 ob 111 (WC.arr ⟨nm,iv,sv,sv,false,0,false,none,some hb⟩)) (hmap:w2.ownsMap prog 9 bQ hb 0 (.map [])) (hI:cV (BD D.d w) iv l) (hA:cQ (BD (λk=>D.d k\/(w1.heap.size<=k/\k≠ob)) w2) (λ_ _=>False) bk ob sv l) (hwb:∃G,wb (fY s.ay) G false l) (VC:DataW Value) (hmn:MN w3 mb ((s.set nm.data.toList l).ay.map wk) (fZ (s.ay.map wk) obs nm.data.toList ob) VC):
  WR (vG D w1.heap.size w2.heap.size ob hb (o8 (jU s nm.data.toList l))) w3 bk mb (s.set nm.data.toList l).ay (fZ (s.ay.map wk) obs nm.data.toList ob) VC:=by
 have hml:=h.mp.lt;have hs1:=hk1.size;have hs2:=hk2.size;have hs3:=hk3.size;have hlo:=hblk.lt;have Yi:=hmap.lt;have Rz:w1.ownsMap prog 9 bQ mb _ DD:=aL h.mp (hk1.block mb hml K0);have RF:w2.ownsMap prog 9 bQ mb _ DD:=aL Rz (hk2.block mb (by omega) (by simp));have RG:Kp w1 w3 (λk=>k=mb):=(hk2.mono (λ_ _ e=>e.elim)).trans hk3;have Wt:∀k t c,BD D.d w1 k t c->BD (vG D w1.heap.size w2.heap.size ob hb (o8 (jU s nm.data.toList l))).d w3 k t c:=λk t c q=>⟨.inl q.1,RG.blk q.2 (λe=>dh Rz q.2 (show k=mb from e).symm)⟩;have hbd:∀k t c,BD D.d w k t c->BD (vG D w1.heap.size w2.heap.size ob hb (o8 (jU s nm.data.toList l))).d w3 k t c:=λk t c q=>Wt k t c ⟨q.1,hk1.blk q.2 (λe=>h.wd.ud k e q.1)⟩;have hgl:wD D (vG D w1.heap.size w2.heap.size ob hb (o8 (jU s nm.data.toList l))) w1:=⟨λ_ q=>.inl q,λ_ _ q=>.inl q,λk hk=>by show(if k=hb then _ else _)=_;rw[af (by omega)]⟩;have hfr:∀o f c,dH D w1 bk o f c->dH (vG D w1.heap.size w2.heap.size ob hb (o8 (jU s nm.data.toList l))) w3 bk o f c:=λo f c hc=>hc.frame RG hgl Wt (λe=>dh Rz hc.blk (show o=mb from e).symm) (λb hb e=>K0 ((show b=mb from e)▸(hc.pm b hb).1)) (λb hb e=>K0 ((show b=mb from e)▸(hc.wm b hb).1));have hnew:dH (vG D w1.heap.size w2.heap.size ob hb (o8 (jU s nm.data.toList l))) w3 bk ob (o8 (jU s nm.data.toList l)) ⟨nm,iv,sv,sv,false,0,false,none,some hb⟩:=by
  have hAA:=hA.mono (M':=BD (vG D w1.heap.size w2.heap.size ob hb (o8 (jU s nm.data.toList l))).d w3) (R':=(vG D w1.heap.size w2.heap.size ob hb (o8 (jU s nm.data.toList l))).r) (λk t c q=>by
   refine⟨q.1.imp id (λr=>⟨r.1,q.2.lt,r.2,λe=>dh hmap q.2 e.symm⟩),hk3.blk q.2 (λe=>dh RF q.2 (show k=mb from e).symm)⟩) (λ_ _ q=>q.elim)
  refine⟨hk3.blk hblk (λe=>by have e:ob=mb:=e;omega),rfl,hns,hI.mono hbd,hAA,hAA,(λb e=>by cases e),λb e=>?_,λ_=>rfl,.inr (.inl rfl),?_⟩
  ·injection e with e;subst e;exact⟨.inr (.inr rfl),by show(if hb=hb then _ else _)=_;rw[ag rfl],.map [],⟨0,aL hmap (hk3.block hb Yi (λe=>by have e:hb=mb:=e;omega))⟩,λkl hkl=>by cases hkl⟩
  ·obtain⟨G,hG⟩:=hwb;exact⟨G,cm (λ_ _=>trivial) _ _ _ hG⟩
 have Wu:∀o f,D.r o f->o<w.heap.size:=λo f hr=>by obtain⟨c,hc⟩:=h.wd.ok o f hr;exact hc.blk.lt
 have hwd:kQ (vG D w1.heap.size w2.heap.size ob hb (o8 (jU s nm.data.toList l))) w3 bk:=by
  refine⟨λo f hr=>?_,λo f f' hr hr'=>?_,λk hu hd=>?_,λk hu=>?_,λk hd=>?_⟩
  ·rcases hr with hr|⟨rfl,rfl⟩
   ·obtain⟨c,hc⟩:=h.wd.ok o f hr;obtain⟨c',_,_,hc'⟩:=hP o f c hr hc;exact⟨c',hfr o f c' hc'⟩
   ·exact⟨_,hnew⟩
  ·rcases hr with hr|⟨e1,e2⟩
   ·rcases hr' with hr' | ⟨e1,e2⟩
    ·exact h.wd.fn o f f' hr hr'
    ·have:=Wu o f hr;omega
   ·rcases hr' with hr' | ⟨e3,e4⟩
    ·have:=Wu o f' hr';omega
    ·rw[e2,e4]
  ·rcases hu with hu|hu
   ·rcases hd with hd|hd
    ·exact h.wd.ud k hu hd
    ·have:=h.wd.lt k hu;omega
   ·rcases hd with hd|hd
    ·have:=h.wd.dl k hd;omega
    ·rcases hu with hu|hu
     ·exact hd.2.2.1 hu
     ·exact hd.2.2.2 hu
  ·rcases hu with hu|hu|hu
   ·have:=h.wd.lt k hu;omega
   ·omega
   ·omega
  ·rcases hd with hd|hd
   ·have:=h.wd.dl k hd;omega
   ·omega
 have hat:=Cy (s:=s) (t:=nm.data.toList) (b:=l) (obs:=obs) (ob:=ob) h.ol h.nd;have M6:(jU s nm.data.toList l).id=s.ids+1:=by show wrap64 (s.ids+1)=_;unfold wrap64;omega
 have hnl:s.ay.length<=(s.set nm.data.toList l).ay.length:=DB;have hex:EX (vG D w1.heap.size w2.heap.size ob hb (o8 (jU s nm.data.toList l))) w3 bk (s.set nm.data.toList l).ay.length (iR (s.set nm.data.toList l).ay) (λk=>(fZ (s.ay.map wk) obs nm.data.toList ob).getD k 0) (XD (s.set nm.data.toList l).ay) (λ_=>False):=by
  have gl:∀j (hj:j<(s.set nm.data.toList l).ay.length),(s.set nm.data.toList l).ay.getD j gY=(s.set nm.data.toList l).ay[j]:=λj hj=>cN hj;have hnd:∀i j,i<(s.set nm.data.toList l).ay.length->j<(s.set nm.data.toList l).ay.length->(iR (s.set nm.data.toList l).ay i).name=(iR (s.set nm.data.toList l).ay j).name->i=j:=λi j hi hj e=>by
   unfold iR at e;rw[gl i hi,gl j hj] at e;exact JJ h.nd i j hi hj e
  have heap:∀b,D.u b->w3.heap[b]? = w1.heap[b]?:=λb hu=>RG.block b (aj (h.wd.lt b hu) hs1) (λe=>K0 ((show b=mb from e)▸hu))
  -- what is built into which,told by the new list
  have hin:∀i j (hi:i<(s.set nm.data.toList l).ay.length) (hj:j<(s.set nm.data.toList l).ay.length),(XD (s.set nm.data.toList l).ay).P i j<->(i<s.ay.length/\j<s.ay.length/\(qN (XD s.ay) A).P i j):=λi j hi hj=>by
   show((s.set nm.data.toList l).ay.getD j gY).name∈((s.set nm.data.toList l).ay.getD i gY).built<->(_/\_/\¬A i/\(s.ay.getD j gY).name∈(s.ay.getD i gY).built);rw[gl i hi,gl j hj];rcases hat i hi with⟨q1,-,-,q4⟩|⟨hi',-,-,q3,q5⟩
   ·rw[q1];refine⟨λq=>(by cases q),λ⟨a1,_,a3,_⟩=>ax ((M5 i a1).2 (.inr (q4 a1))) a3⟩
   ·obtain⟨f1,f2⟩:=pz (t:=nm.data.toList) (h.bn _ (List.getElem_mem hi')).1;rw[q5,cN hi'];have RH:A i<->nm.data.toList∈s.ay[i].built:=(M5 i hi').trans ⟨λq=>q.resolve_right q3,.inl⟩;by_cases ht:nm.data.toList∈s.ay[i].built
    ·rw[f1 ht];exact⟨λq=>(by cases q),λ⟨_,_,a3,_⟩=>ax (RH.2 ht) a3⟩
    ·rw[f2 ht];rcases hat j hj with⟨r1,-,-,r4⟩|⟨hj',r1,-,-,-⟩
     ·rw[r1];refine⟨λq=>ax q ht,λ⟨_,a2,_,a4⟩=>?_⟩;rw[cN a2,r4 a2] at a4;exact ax a4 ht
     ·have hnj:(s.set nm.data.toList l).ay[j].name=s.ay[j].name:=congrArg Fr.name r1;rw[hnj,cN hj'];exact⟨λq=>⟨hi',hj',λe=>ht (RH.1 e),q⟩,λq=>q.2.2.2⟩
  have hold':∀i j,i<s.ay.length->j<s.ay.length->(qN (XD s.ay) A).P i j->(iR (s.set nm.data.toList l).ay j).name=(iR s.ay j).name/\(fZ (s.ay.map wk) obs nm.data.toList ob).getD j 0=obs.getD j 0:=λi j hi hj hp=>by
   have hj':j<(s.set nm.data.toList l).ay.length:=aj hj hnl;have hne:¬s.ay[j].name=nm.data.toList:=λe=>by
    have h2:(s.ay.getD j gY).name∈(s.ay.getD i gY).built:=hp.2;rw[cN hj,cN hi,e] at h2;exact hp.1 ((M5 i hi).2 (.inl h2))
   rcases hat j hj' with⟨-,-,-,q4⟩|⟨_,q1,q2,-,-⟩
   ·exact ax (q4 hj) hne
   ·unfold iR;rw[gl j hj',cN hj];exact⟨congrArg Fr.name q1,q2⟩
  refine⟨λi hi=>?_,hnd,λi hi=>?_⟩
  ·unfold iR;rw[gl i hi];rcases hat i hi with⟨q1,q2,-,-⟩|⟨hi',q1,q2,-,-⟩
   ·show D.r _ _\/_;rw[q1,q2];exact .inr ⟨rfl,rfl⟩
   ·show D.r _ _\/_;rw[q1,q2];exact .inl (h.cur i hi').1
  ·rcases hat i hi with⟨q1,q2,-,q4⟩|⟨hi',q1,q2,q3,q5⟩
   ·have RI:iR (s.set nm.data.toList l).ay i=o8 (jU s nm.data.toList l):=by unfold iR;rw[gl i hi,q1]
    rw[RI,q2];have Wv:(s.set nm.data.toList l).ay.getD i gY=jU s nm.data.toList l:=by rw[gl i hi,q1]
    refine⟨_,hnew,by show false=((s.set nm.data.toList l).ay.getD i gY).bF;rw[Wv];rfl,by show(0:Int)=((s.set nm.data.toList l).ay.getD i gY).count;rw[Wv];rfl,.inl ⟨rfl,λj hj e=>?_⟩,λ_=>.inr ⟨hb,.map [],rfl,⟨0,aL hmap (hk3.block hb Yi (λe=>by have e:hb=mb:=e;omega))⟩,λj hj=>⟨λe=>(by cases e),λe=>?_⟩,λkl e=>(by cases e)⟩,λe=>e.elim⟩
    ·obtain⟨a1,_,a3,_⟩:=(hin i j hi hj).1 e;exact a3 ((M5 i a1).2 (.inr (q4 a1)))
    ·have e:(XD (s.set nm.data.toList l).ay).P j i:=e;obtain⟨a1,a2,a3,a4⟩:=(hin j i hj hi).1 e;have a4:(s.ay.getD i gY).name∈(s.ay.getD j gY).built:=a4;rw[cN a2,q4 a2,cN a1] at a4;exact ax ((M5 j a1).2 (.inl a4)) a3
   ·obtain⟨c,hc,x1,x2,x3,x4,-⟩:=hX.wc i hi';have RI:iR (s.set nm.data.toList l).ay i=iR s.ay i:=by unfold iR;rw[gl i hi,q1,cN hi']
    have Wv:(s.set nm.data.toList l).ay.getD i gY=ki nm.data.toList s.ay[i]:=by rw[gl i hi,q5]
    have RH:A i<->nm.data.toList∈s.ay[i].built:=(M5 i hi').trans ⟨λq=>q.resolve_right q3,.inl⟩;obtain⟨f1,f2⟩:=pz (t:=nm.data.toList) (h.bn _ (List.getElem_mem hi')).1;rw[RI,q2];refine⟨c,hfr _ _ _ hc,?_,?_,((x3.same (λb hb=>heap b (hc.pm b hb).1)).re hnl (λj hj hp=>hold' i j hi' hj hp) (λj hj=>(hin i j hi hj).trans ⟨λq=>q.2,λq=>⟨hi',q⟩⟩) hnd),λ_=>((x4 (λe=>q3 (hq i hi' e))).same (λb hb=>heap b (hc.wm b hb).1)).re hnl (λj hj hp=>?_) (λj hj=>(hin j i hj hi).trans ⟨λq=>⟨q.1,q.2.2⟩,λq=>⟨q.1,hi',q.2⟩⟩) hnd,λe=>e.elim⟩
    ·rw[x1];show _=((s.set nm.data.toList l).ay.getD i gY).bF;rw[Wv];by_cases ht:nm.data.toList∈s.ay[i].built
     ·rw[f1 ht];exact ag (RH.2 ht)
     ·rw[f2 ht,show(qN (XD s.ay) A).fa i=(s.ay.getD i gY).bF from af (λe=>ht (RH.1 e)),cN hi']
    ·rw[x2];show _=((s.set nm.data.toList l).ay.getD i gY).count;rw[Wv];by_cases ht:nm.data.toList∈s.ay[i].built
     ·rw[f1 ht];exact ag (RH.2 ht)
     ·rw[f2 ht,show(qN (XD s.ay) A).ct i=(s.ay.getD i gY).count from af (λe=>ht (RH.1 e)),cN hi']
    ·have hj':j<(s.set nm.data.toList l).ay.length:=aj hj hnl;rcases hat j hj' with⟨-,-,-,r4⟩|⟨_,r1,r2,-,-⟩
     ·exact ax ((M5 j hj).2 (.inr (r4 hj))) hp.1
     ·unfold iR;rw[gl j hj',cN hj];exact⟨congrArg Fr.name r1,r2⟩
 refine⟨by have:=hmn.ol;simpa using this,by have:=hmn.mp;simpa using this,by have:=hmn.sz;simpa using this,λt ht=>by rw[iC];exact hmn.hs t ht,by have:=hmn.KQ;simpa using this,λt ht=>by rw[iC];exact hmn.lk t ht,JJ h.nd,hwd,λi hi=>?_,λo f hr=>?_,hex,λd hd=>?_,λd hd=>?_⟩
 ·rcases hat i hi with⟨q1,q2,q3,-⟩|⟨hi',q1,q2,q3,-⟩
  ·rw[q1,q2];obtain⟨G,hG⟩:=hwb;exact⟨.inr ⟨rfl,rfl⟩,⟨_,hnew,rfl⟩,G,cm (λt ht=>qc ht) _ _ _ hG⟩
  ·obtain⟨r1,⟨c,r2,r3⟩,G,r4⟩:=h.cur i hi';obtain⟨c',a1,_,hc'⟩:=hP _ _ c r1 r2;have KN:(s.set nm.data.toList l).ay[i].body=s.ay[i].body:=congrArg Fr.body q1;rw[q1,q2,KN];exact⟨.inl r1,⟨c',hfr _ _ _ hc',(a1 (zC i hi' q3)).trans r3⟩,G,cm (λt ht=>qc ht) _ _ _ r4⟩
 ·rcases hr with hr|⟨rfl,rfl⟩
  ·obtain⟨hkn,hq⟩:=h.VP o f hr;refine⟨qc hkn,?_⟩;have Ww:∀k (h:k<(s.set nm.data.toList l).ay.length),f.name=nm.data.toList->(s.set nm.data.toList l).ay.findIdx? (λd=>d.name==f.name)=some k->f.id<(s.set nm.data.toList l).ay[k].id:=λk hk hfn hfi=>by
    obtain⟨_,hp,_⟩:=List.findIdx?_eq_some_iff_getElem.1 hfi;have hp:=beq_iff_eq.1 hp;rcases hat k hk with⟨q1,-⟩|⟨_,q1,-,q3,-⟩
    ·rw[q1,M6];have:=QZ o f hr;omega
    ·exact ax ((congrArg Fr.name q1).symm.trans (hp.trans hfn)) q3
   rcases hq with⟨k,hk,hfi,ho,hf⟩|⟨c,hc,Dv,aaz⟩
   ·by_cases hnt:s.ay[k].name=nm.data.toList
    ·obtain⟨c,hc⟩:=h.wd.ok o f hr;obtain⟨c',_,a2,hc'⟩:=hP o f c hr hc;exact .inr ⟨c',hfr _ _ _ hc',a2 (by rw[<-ho];exact hold k hk hnt),λk' hk' e=>Ww k' hk' (by rw[hf];exact hnt) e⟩
    ·have hk':k<(s.set nm.data.toList l).ay.length:=aj hk DB;rcases hat k hk' with⟨_,_,_,q4⟩|⟨_,q1,q2,q3,-⟩
     ·exact ax (q4 hk) hnt
     ·have hfn:f.name=s.ay[k].name:=by rw[hf]
      exact .inl ⟨k,hk',by rw[vF (by rw[hfn];exact hnt)];exact hfi,by rw[q2];exact ho,by rw[q1];exact hf⟩
   ·obtain⟨c',a1,a2,hc'⟩:=hP o f c hr hc;refine .inr ⟨c',hfr _ _ _ hc',?_,λk hk e=>?_⟩
    ·by_cases e:o=old
     ·exact a2 e
     ·exact(a1 e).trans Dv
    ·by_cases hfn:f.name=nm.data.toList
     ·exact Ww k hk hfn e
     ·rw[vF hfn] at e;obtain⟨bC,hp,_⟩:=List.findIdx?_eq_some_iff_getElem.1 e;rcases hat k hk with⟨_,_,_,q4⟩|⟨_,q1,-,-,-⟩
      ·exact ax ((beq_iff_eq.1 hp).symm.trans (q4 bC)) hfn
      ·have:(s.set nm.data.toList l).ay[k].id=s.ay[k].id:=congrArg Fr.id q1;rw[this];exact aaz k bC e
  ·have hkn:fY (s.set nm.data.toList l).ay nm.data.toList:=M4;refine⟨hkn,.inl ?_⟩;unfold fY at hkn
   cases hfi:(s.set nm.data.toList l).ay.findIdx? (λd=>d.name==nm.data.toList) with
   | none=>rw[hfi] at hkn;cases hkn
   | some i=>
    obtain⟨hi,hp,_⟩:=List.findIdx?_eq_some_iff_getElem.1 hfi;rcases hat i hi with⟨q1,q2,_,_⟩|⟨hi',q1,q2,q3,-⟩
    ·exact⟨i,hi,hfi,q2,by rw[q1]⟩
    ·exact ax ((congrArg Fr.name q1).symm.trans (beq_iff_eq.1 hp)) q3
 ·obtain⟨i,hi,rfl⟩:=List.getElem_of_mem hd;rcases hat i hi with⟨q1,-⟩|⟨hi',-,-,-,q5⟩
  ·rw[q1];exact⟨λ_=>rfl,λt ht=>by cases ht⟩
  ·rw[q5];obtain⟨b1,b2⟩:=h.bn _ (List.getElem_mem hi');obtain⟨f1,f2⟩:=pz (t:=nm.data.toList) b1;by_cases ht:nm.data.toList∈s.ay[i].built
   ·rw[f1 ht];exact⟨λ_=>rfl,λt ht=>by cases ht⟩
   ·rw[f2 ht];exact⟨b1,λt ht=>qc (b2 t ht)⟩
 ·obtain⟨i,hi,rfl⟩:=List.getElem_of_mem hd;rcases hat i hi with⟨q1,-⟩|⟨hi',q1,-,-,-⟩
  ·rw[q1];exact Jc
  ·rw[show(s.set nm.data.toList l).ay[i].body=s.ay[i].body from congrArg Fr.body q1];exact h.ub _ (List.getElem_mem hi')
end
section
variable {D:GD}{w:World}{bk ob:Nat}{f:Fr}{n k:Nat}{fr:Nat->Fr}{oo:Nat->Nat}{X:XV}
theorem M7 (hW:kQ D w bk)(hX:EX D w bk n fr oo X (λ_=>False))(hk:k<n)(ho:oo k=ob)(hf:fr k=f)(QM:∀i j,i<n->j<n->X.H i j->X.P i j)(Dv:∀c,dH D w bk ob f c->c.gn=false):
  Calls prog 117 #[pt ob] w λe w'=>e=.returned (.tuple #[])/\Kp w w' D.u/\lX D w w' bk ob/\(∀k,D.u k->jS w k->jS w' k)/\EX D w' bk n fr oo (qN X (λi=>X.H i k\/i=k)) (λi=>i=k):=by
 have hr:D.r ob f:=by rw[<-ho,<-hf];exact hX.r k hk
 obtain⟨c,hc,a1,a2,a3,a4,a5⟩:=hX.wc k hk;rw[ho,hf] at hc;have Dv:=Dv c hc;obtain⟨Yj,hkg,Q7⟩:=VD hW hr hc;obtain⟨W1,hW1⟩:∃W1,W1=(w.setCell ⟨ob,6,none⟩ (.bool true)).setCell ⟨ob,8,none⟩ (.map none):=⟨_,rfl⟩;rw[<-hW1] at Yj hkg Q7;have KZ:=Yj.yI hW hkg.size;have hXg:=hX.gone hW hk ho hf hc hkg Q7;have hsz1:W1.heap.size=w.heap.size:=by rw[hW1];simp
 obtain⟨hb,BW⟩:∃hb,c.wm=some hb:=Option.isSome_iff_exists.1 (hc.wn Dv);obtain⟨O5,jC,_⟩:=hc.wm hb BW;have hmx:=a4 (λe=>e);rw[BW] at hmx;obtain⟨DD,⟨m,hown⟩,hhas,hE⟩:∃DD,(∃m,w.ownsMap prog 9 bQ hb m DD)/\(∀j,j<n->(Maps.has DD (.string (fr j).name)=true<->X.H j k))/\∀kl,Maps.has DD kl=true->∃j,j<n/\kl=.string (fr j).name/\∀zd,DD.atKey kl zd=.held (pt (oo j)):=by
  rcases hmx with⟨e,_⟩|⟨b,DD,e,h⟩
  ·cases e
  ·injection e with e;subst e;exact⟨DD,h⟩
 have hne:=dh hown hc.blk;have hown1:W1.ownsMap prog 9 bQ hb m DD:=aL hown (hkg.block hb hown.lt hne);have hnf:¬FU D W1 bk hb:=by
  rintro (⟨g,h⟩|⟨o,g,c2,h,hc2,hm⟩)
  ·obtain⟨c2,hc2⟩:=KZ.ok hb g h;exact dh hown1 hc2.blk rfl
  ·obtain⟨_,q,_⟩:=hc2.wm hb hm;rw[jC] at q;injection q with q;subst q;have:=KZ.fn ob g f h hr;subst this;have:=hc2.inj Q7;subst this
   cases hm
 have c6:w.cell? ⟨ob,6,none⟩=some (.bool c.gn):=hc.blk.cell rfl;have c8:w.cell? ⟨ob,8,none⟩=some (.map (some hb)):=by rw[<-BW];exact hc.blk.cell rfl
 have g6:=hc.blk.free 6;have g8:=hc.blk.free 8;have HKU:Hid (∀k,D.u k->jS w k->jS W1 k):=λk hu hq=>by
  by_cases e:k=ob
  ·rw[e];exact .inl ⟨_,Q7.blk⟩
  ·rcases hq with⟨c,hc⟩|⟨n,DD,hm⟩
   ·exact .inl ⟨c,hkg.blk hc e⟩
   ·exact .inr ⟨n,DD,aL hm (hkg.block k hm.lt e)⟩
 have HW:=az hW;have vH:=az KZ;have HPG:=az Yj;have HKG:=az hkg;have HE:=az hE;have HU:Hid (∀k,k=ob->D.u k):=λk e=>by rw[e];exact hc.u
 have HNF:=az hnf;have DV:Hid (EX D W1 bk n fr oo (qN X (λi=>X.H i k/\Maps.has DD (.string (fr i).name)=false)) (λi=>i=k)):=hXg.Z6 (λi hi h=>by have:=(hhas i hi).2 h.1;rw[h.2] at this;cases this);have aaA:=az hhas;have HHP:=az QM;have wN:=az hX.nd;clear hW KZ Yj hkg hE hc Q7 Dv BW hnf hX hXg hhas QM hmx a1 a2 a3 a4 a5;go_enter func117,ntmps117
 go_wp2_with (first
  | (at_range;(rw[<-hW1]);refine wpList_range_own _ rfl _ 104 rfl 9 107 (Maps.string_keyed underlying9) underlying104 _ hb m _ rfl hown1 ?_;intro w0 hrg0 hg0 hs0)
  | go_in)
 go_frame
 rw[hsz1] at hrg0 hs0 ⊢
 go_loopw [4] (λ_ wr=>∃left cnt,OS D bk n fr oo X k hb w.heap.size m DD W1 wr left cnt) (λ_ wr=>wr.rangeLeft hb w.heap.size)
 case atStart=>
  have bC:Kp W1 w0 (λ_=>False):=(Kp.refl W1 _).grown hg0 (λk _ e=>by cases e);exact⟨_,_,⟨hrg0,λ_ h=>h,bC.mono (λ_ _ e=>e.elim),(vH.out.kp bC).1,DV.out.kp bC⟩⟩
 case round=>
  clear DV;obtain⟨left,cnt,bK⟩:=hrel;have xR:=vH.out.next bK.kp.size bK.pr;have hrg:=bK.rg
  go_wp2_with (first
   | (at_next;refine wpList_next_ranges _ rfl _ rfl 9 (Maps.string_keyed underlying9) bQ Value.string (λv:Value=>v) (λkey kl h=>(jR h).imp (λ_ q=>q.1)) (λv _ _=>⟨v,rfl⟩) hb w.heap.size m _ _ _ rfl hrg ?_ ?_)
   | go_in)
  ·intro hc0 hl0;have HL:=az hl0;have HC:=az (IX (w:=wr) xR bK.ex hk ho hf (λj hj h=>⟨h.1,HHP.out k j hk hj h.2⟩));have CX:=az bK;have HWr:=az xR;clear bK xR hrg hc0 hl0 hg0 hs0 hrg0 hown hown1
   go_wp2_with fail
   refine HC.out.mono ?_;rintro e w5 ⟨rfl,fS,hp5,GL⟩;have HX5:Hid (EX D w5 bk n fr oo (qN X (λi=>X.H i k\/i=k)) (λi=>i=k)):=GL.Z7 (λi hi=>⟨λh=>h.imp (λh=>⟨h,HL.out _⟩) id,λh=>h.imp (λh=>h.1) id⟩);have HP:Hid (lX D w w5 bk ob):=HPG.out.then (CX.out.pr.trans (λ_ _ h=>h) hp5);have HK:Hid (Kp w w5 D.u):=by
    have h1:Kp W1 w5 D.u:=(CX.out.kp.mono (λk _ e=>e.u vH.out)).trans (fS.mono (λk _ e=>e.u HWr.out));exact(HKG.out.mono (λk _ e=>HU.out k e)).trans h1
   have Qs:Hid (∀k,D.u k->jS w k->jS w5 k):=λk hu hq=>I8 vH.out (CX.out.kp.trans (fS.mono (λk _ e=>e.back vH.out CX.out.pr))) (CX.out.pr.trans (λ_ _ h=>h) hp5) hu (HKU.out k hu hq);clear fS hp5 GL HC CX HWr HL ho hf hk;go_wp2;refine bodyPost_end (results_none rfl _ _ _) rfl ?_;exact⟨rfl,HK.out,HP.out,Qs.out,HX5.out⟩
  ·intro x v kl yd yp w1 cnt1 hkey hlk hv hat hrg1 hlt hg1 hs1 hen;have QX:=bK.sub kl hlk;obtain⟨j,hj,rfl,kW⟩:=HE.out kl QX;have hjk:=(aaA.out j hj).1 QX;obtain⟨o2,og⟩:∃o2,oo j=o2:=⟨_,rfl⟩;rw[og] at kW;have hvv:v=pt o2:=by
    have h1:=hat (.held (.pointer none));rw[kW] at h1;have h2:some (DataW.held v,[])=some (yd,yp):=hv;have h3:DataW.held v=yd:=congrArg Prod.fst (Option.some.inj h2);have h4:DataW.held (pt o2)=yd:=h1;rw[<-h3] at h4;exact(DataW.held.inj h4).symm
   subst hvv;have X8:w.heap.size<wr.heap.size:=hrg.lt;have hk1:Kp wr w1 (λk=>k=w.heap.size):=(Kp.refl wr _).grown hg1 (λk _ e=>(Option.some.inj e).symm);have uU:∀k,D.u k->¬k=w.heap.size:=λk hk e=>by have:=vH.out.lt k hk;omega
   obtain⟨hp1,yK⟩:=xR.out hk1 uU (λk hd e=>by have:=vH.out.dl k hd;omega);have hX1:=bK.ex.out hk1 uU (λk hd e=>by have:=vH.out.dl k hd;omega);have hpa:=bK.pr.trans (λ_ _ h=>h) hp1;have hka:Kp W1 w1 (FU D W1 bk):=((bK.kp.mono (T:=λk=>FU D W1 bk k\/k=w.heap.size) (λ_ _ e=>.inl e)).trans (hk1.mono (λ_ _ e=>.inr e))).mono (λk hk e=>e.elim id (λe=>by omega));have HC:=az (IX (w:=w1) yK hX1 hj og rfl (λi hi h=>⟨h.1,HHP.out j i hj hi h.2⟩));have HN:Hid (∀w2,Kp w1 w2 (FU D w1 bk)->fT D D w1 w2 bk->EX D w2 bk n fr oo (mL (qN X (λi=>X.H i k/\left (.string (fr i).name)=false)) j) (λi=>i=k)->OS D bk n fr oo X k hb w.heap.size m DD W1 w2 (λz=>left z && !z.sameKey (.string (fr j).name)) cnt1):=by
    intro w2 hk2 hp2 hx2;have qR:=hk2.mono (λk _ e=>FU.back vH.out hpa e);have hbl:=vH.out.lt hb O5;have hs2:=hk1.size;refine⟨fJ hrg1 (qR.block hb (by omega) HNF.out) (qR.block w.heap.size (by omega) (λe=>by have:=vH.out.lt _ (e.u vH.out);omega)),λk hk=>bK.sub k (by simp at hk;exact hk.1),hka.trans qR,hpa.trans (λ_ _ h=>h) hp2,hx2.Z7 (λi hi=>?_)⟩;have hl:=gM (left:=left) wN.out hi hj
    constructor
    ·rintro⟨h1,h2⟩;by_cases e:i=j
     ·exact .inr e
     ·refine .inl ⟨h1,?_⟩
      cases hq:left (.string (fr i).name) with
      | false=>rfl
      | true=>have:=hl.2 ⟨hq,e⟩;rw[this] at h2;cases h2
    ·rintro (⟨h1,h2⟩|e)
     ·exact⟨h1,by rw[h2];rfl⟩
     ·refine⟨by rw[e];exact hjk,?_⟩
      cases hq:(left (.string (fr i).name) && !(Lit.string (fr i).name).sameKey (.string (fr j).name)) with
      | false=>rfl
      | true=>exact ax e (hl.1 hq).2
   have wO:=hrg.left_eq;clear bK xR hrg hrg1 hg1 hs1 hat kW hv hkey hlk hk1 uU hp1 yK hpa hka hX1 QX hjk og
   go_wp2_with fail
   refine HC.out.mono ?_;rintro e w2 ⟨rfl,hk2,hp2,hx2⟩;have hN:=HN.out w2 hk2 hp2 hx2;have G9:=az hN;have uW:=hN.rg.left_eq;clear hN hk2 hp2 hx2 HN HC;go_wp2
   go_roundw
   case rel=>exact⟨_,_,G9.out⟩
   case measure=>rw[uW,wO];exact hlt
end
section
variable {B:Nat}{W w:World}{xb rb mb:Nat}{m:MS}{D:GD}{s:St}
theorem JK (h:PR B W w xb rb mb m D s){obs:List Nat}{DD:DataW Value}(hwr:WR D w m.bk mb s.ay obs DD)(bb ib nb:Nat)(nm:ByteArray)(hnm:nm.size<=1000)(a:Option Addr)(p:Nat)(l:List It)(h1:aC w bb 78 #[pt m.bk])(h2:aC w ib 108 #[.slice a l.length p])(h3:aC w nb 9 #[.string nm])(hI:cV (BD D.d w) (.slice a l.length p) l)(hwb:∃G,wb (fY s.ay) G false l)
  (mD:s.aA nm.data.toList=true\/s.ay.length<30) (hg:cC (s.set nm.data.toList l)) (old:Nat) (hold:∀k (hk:k<s.ay.length),s.ay[k].name=nm.data.toList->obs.getD k 0=old) (zC:∀k (hk:k<s.ay.length),¬s.ay[k].name=nm.data.toList->¬obs.getD k 0=old)
  (w1:World) (hk1:Kp w w1 D.u) (hP:lX D w w1 m.bk old) (aaC:∀k,D.u k->jS w1 k) (RJ:s.ids+1<=D.J+m.st) (M8:UB l) (A q:Nat->Prop) (M5:∀i (h:i<s.ay.length),A i<->nm.data.toList∈s.ay[i].built\/s.ay[i].name=nm.data.toList) (hq:∀i (h:i<s.ay.length),q i->s.ay[i].name=nm.data.toList) (hX:EX D w1 m.bk s.ay.length (iR s.ay) (λk=>obs.getD k 0) (qN (XD s.ay) A) q):Ry bb ib nb m.bk mb nm a l.length p w1 (bu B W xb rb mb w m D (s.set nm.data.toList l)):=by
 have K0:¬D.u mb:=λe=>(h.us mb e).2.1 rfl;have hml:=hwr.mp.lt;have hs1:=hk1.size;have Jc:∀b t c,aC w b t c->t≠111->¬D.u b:=λb t c hb ht e=>h.KR e hb ht rfl;have cells:∀w',(∀b t c,aC w b t c->t≠111->aC w' b t c)->AH bb ib nb m.bk mb nm (.slice a l.length p) w':=λw' hk=>⟨(hk _ _ _ h1 (by decide)).cell rfl,(hk _ _ _ h2 (by decide)).cell rfl,(hk _ _ _ h3 (by decide)).cell rfl,(hk _ _ _ h.book (by decide)).cell rfl⟩;have hb1:∀b t c,aC w b t c->t≠111->aC w1 b t c:=λb t c hb ht=>hk1.blk hb (Jc b t c hb ht);have Lm:cV (BD D.d w1) (.slice a l.length p) l:=hI.mono (λb t c q=>⟨q.1,hk1.blk q.2 (λe=>hwr.wd.ud b e q.1)⟩);refine(Rp (λ_ _=>False) w1 D.d m.bk nm _ l Lm (by obtain⟨G,hG⟩:=hwb;exact⟨G,cm (λ_ _=>trivial) _ _ _ hG⟩)).mono ?_;rintro e w2 ⟨ob,hb,sv,rfl,hk2,Dr,hhb,hne,hblk,hmap,hA⟩;have hs2:=hk2.size;have aaD:w1.heap[mb]? = w.heap[mb]?:=hk1.block mb hml K0;have Wx:w2.heap[mb]? = w.heap[mb]?:=(hk2.block mb (by omega) (by simp)).trans aaD;obtain⟨w3,VC,hrun,hgr,hmn⟩:=(hwr.mn.same Wx).put nm hnm l ob (by
  rcases mD with q|q
  ·left;rw[<-iC];exact q
  ·right;simpa using q)
 rw[<-yT] at hmn;have hk3:Kp w2 w3 (λk=>k=mb):=(Kp.refl w2 _).grown hgr (λk _ e=>(Option.some.inj e).symm);have hs3:=hk3.size;have RF:w2.ownsMap prog 9 bQ mb _ DD:=aL hwr.mp Wx;have hb3:∀b t c,aC w2 b t c->aC w3 b t c:=λb t c q=>hk3.blk q (λe=>dh RF q (show b=mb from e).symm);refine⟨ob,w3,rfl,cells w2 (λb t c q ht=>hk2.blk (hb1 b t c q ht) (by simp)),cells w3 (λb t c q ht=>hb3 b t c (hk2.blk (hb1 b t c q ht) (by simp))),hrun,?_⟩;have hW3:=hwr.defined nm K0 old hold zC hk1 hP hk2 hk3 ob hb Dr hhb hne hnm _ sv l h.Cm (by have:=h.ids;have:=h.Di;omega) M8 A q M5 hq hX hblk hmap hI hA hwb VC hmn;have hkT:Kp w w3 (λk=>D.u k\/k=mb):=((hk1.mono (λ_ _ e=>.inl e)).trans (hk2.mono (λ_ _ e=>e.elim))).trans (hk3.mono (λ_ _ e=>.inr e));have hlo:=hblk.lt;have Yi:=hmap.lt;have Wy:∀k,(vG D w1.heap.size w2.heap.size ob hb (o8 (jU s nm.data.toList l))).u k->jS w3 k:=λk q=>by
  have hmv:∀k,k<w2.heap.size->k≠mb->jS w2 k->jS w3 k:=λk hk hkm hq=>by
   rcases hq with⟨c,hc⟩|⟨n,M9,hm⟩
   ·exact .inl ⟨c,hb3 _ _ _ hc⟩
   ·exact .inr ⟨n,M9,aL hm (hk3.block k hk hkm)⟩
  rcases q with q|q|q
  ·have hkl:=hwr.wd.lt k q;refine hmv k (by omega) (h.us k q).2.1 ?_;rcases aaC k q with⟨c,hc⟩|⟨n,M9,hm⟩
   ·exact .inl ⟨c,hk2.blk hc (by simp)⟩
   ·exact .inr ⟨n,M9,aL hm (hk2.block k (by omega) (by simp))⟩
  ·rw[q];exact hmv ob hlo (by omega) (.inl ⟨_,hblk⟩)
  ·rw[q];exact hmv hb Yi (by omega) (.inr ⟨_,_,hmap⟩)
 have M6:wrap64 (s.ids+1)=s.ids+1:=by have:=h.ids;have:=h.Di;unfold wrap64;omega
 obtain⟨r1,r2⟩:=h.om (s':=s.set nm.data.toList l) hkT ⟨_,_,hW3⟩ rfl (λ_ _ q=>.inl q) (λ_ q=>.inl q) (λk q=>q.imp id (λq=>by omega)) (λk q=>q.imp id (λq=>by rcases q with q|q <;> omega)) Wy hg rfl (by show 0<=wrap64 (s.ids+1)/\wrap64 (s.ids+1)<=_;rw[M6];have:=h.ids;omega) (λo f hr=>by
  show f.id<=wrap64 (s.ids+1);rw[M6];rcases hr with hr|⟨_,hr⟩
  ·have:=h.Cm o f hr;omega
  ·rw[hr];show wrap64 (s.ids+1)<=_;omega)
 exact⟨m,_,r1,r2⟩
theorem aaE (h:PR B W w xb rb mb m D s)(bb ib nb:Nat)(nm:ByteArray)(hnm:nm.size<=1000)(iv:Value)(l:List It)(h1:aC w bb 78 #[pt m.bk])(h2:aC w ib 108 #[iv])(h3:aC w nb 9 #[.string nm])(hI:cV (BD D.d w) iv l)(hwb:∃G,wb (fY s.ay) G false l)
  (mD:s.aA nm.data.toList=true\/s.ay.length<30) (hg:cC (s.set nm.data.toList l)) (RJ:s.ids+1<=D.J+m.st) (M8:UB l):
  bp (.func (.func 116) #[] #[pt bb,pt nb,pt ib]) (pt rb) w λe w'=>e=.returned (.int .i64 0)/\bu B W xb rb mb w m D (s.set nm.data.toList l) w':=by
 refine⟨_,_,_,rfl,M3,?_⟩;show Calls prog 116 #[pt rb,pt bb,pt nb,pt ib] w _;obtain⟨xs,aJ,-⟩:=hI.out;obtain⟨a,p,rfl⟩:=aJ.form;obtain⟨obs,DD,hwr⟩:=h.words;have hml:=hwr.mp.lt;have K0:¬D.u mb:=λe=>(h.us mb e).2.1 rfl;have Jc:∀b t c,aC w b t c->t≠111->¬D.u b:=λb t c hb ht e=>h.KR e hb ht rfl;have cells:∀w',(∀b t c,aC w b t c->t≠111->aC w' b t c)->AH bb ib nb m.bk mb nm (.slice a l.length p) w':=λw' hk=>⟨(hk _ _ _ h1 (by decide)).cell rfl,(hk _ _ _ h2 (by decide)).cell rfl,(hk _ _ _ h3 (by decide)).cell rfl,(hk _ _ _ h.book (by decide)).cell rfl⟩;have hsz:nm.size<=maxLen:=ai hnm (by decide);have hl:=hwr.lk nm.data.toList hsz;have hlt:∀k (hk:k<s.ay.length),obs.getD k 0<w.heap.size:=λk hk=>by obtain⟨_,⟨c,hc,_⟩,_⟩:=hwr.cur k hk;exact hc.blk.lt
 cases hf:s.ay.findIdx? (λd=>d.name==nm.data.toList) with
 | none=>
  rw[hf] at hl;have hnone:=hf;rw[List.findIdx?_eq_none_iff] at hnone;refine JH w rb bb ib nb m.bk mb nm a l.length p _ (cells w (λ_ _ _ h _=>h)) (λw0 hk=>mB (aL hwr.mp (hk.block mb hml (by simp))) nm hsz hl) (λw0 hk=>cells w0 (λb t c q _=>hk.blk q (by simp))) (λw0 hk=>?_);have hP:lX D w w0 m.bk w.heap.size:=λo g c hr hc=>by
   obtain⟨c',e1,_,_,_,_,hc'⟩:=(hwr.wd.kp hk).1 o g c hr hc;exact⟨c',λ_=>e1,λe=>by have:=hc.blk.lt;omega,hc'⟩
  refine JK h hwr bb ib nb nm hnm a p l h1 h2 h3 hI hwb mD hg w.heap.size (λk hk e=>by have:=hnone _ (List.getElem_mem hk);rw[e] at this;simp at this) (λk hk _ e=>by have:=hlt k hk;omega) w0 (hk.mono (λ_ _ e=>e.elim)) hP (λk hu=>by
   rcases (h.us k hu).2.2 with⟨c,hc⟩|⟨n,M9,hm⟩
   ·exact .inl ⟨c,hk.blk hc (by simp)⟩
   ·exact .inr ⟨n,M9,aL hm (hk.block k hm.lt (by simp))⟩) RJ M8 (λ_=>False) (λ_=>False) (λi hi=>⟨λe=>e.elim,λe=>?_⟩) (λi hi e=>e.elim) ((hwr.ex.kp hk).Z6 (λ_ _ e=>e))
  rcases e with e|e
  ·have hkn:=(hwr.bn _ (List.getElem_mem hi)).2 _ e;unfold fY at hkn;rw[hf] at hkn;cases hkn
  ·have:=hnone _ (List.getElem_mem hi);rw[e] at this;simp at this
 | some k0=>
  rw[hf] at hl;obtain⟨bC,hp0,_⟩:=List.findIdx?_eq_some_iff_getElem.1 hf;have hp0:s.ay[k0].name=nm.data.toList:=beq_iff_eq.1 hp0;obtain⟨cZ,⟨c0,hc0,hg0⟩,_⟩:=hwr.cur k0 bC;refine JI w rb bb ib nb m.bk mb (obs.getD k0 0) nm a l.length p _ (λw1=>Kp w w1 D.u/\lX D w w1 m.bk (obs.getD k0 0)/\(∀k,D.u k->jS w1 k)/\EX D w1 m.bk s.ay.length (iR s.ay) (λk=>obs.getD k 0) (qN (XD s.ay) (λi=>(XD s.ay).H i k0\/i=k0)) (λi=>i=k0)) (cells w (λ_ _ _ h _=>h)) (λw0 hk=>mB (aL hwr.mp (hk.block mb hml (by simp))) nm hsz hl) (λw0 hk=>?_) (λw1 hi w0 hk=>?_)
  ·obtain⟨hpk,hwk⟩:=hwr.wd.kp hk;obtain⟨c1,e1,_,_,_,_,hc1⟩:=hpk _ _ c0 cZ hc0;refine(M7 hwk (hwr.ex.kp hk) bC rfl (by unfold iR;rw[cN bC]) (λ_ _ _ _ e=>e) (λc hc=>by rw[hc.inj hc1];exact e1.trans hg0)).mono ?_;rintro e w1 ⟨rfl,q1,q2,q3,q4⟩;have kz:Kp w w1 D.u:=(hk.mono (λ_ _ e=>e.elim)).trans q1;refine⟨rfl,cells w1 (λb t c q ht=>kz.blk q (Jc b t c q ht)),kz,λo g c hr hc=>?_,λk hu=>q3 k hu ?_,q4⟩
   ·obtain⟨c2,a1,_,_,_,_,hc2⟩:=hpk o g c hr hc;obtain⟨c3,b1,b2,hc3⟩:=q2 o g c2 hr hc2;exact⟨c3,λe=>(b1 e).trans a1,b2,hc3⟩
   ·rcases (h.us k hu).2.2 with⟨c,hc⟩|⟨n,M9,hm⟩
    ·exact .inl ⟨c,hk.blk hc (by simp)⟩
    ·exact .inr ⟨n,M9,aL hm (hk.block k hm.lt (by simp))⟩
  ·obtain⟨q1,q2,q3,q4⟩:=hi;have hW1:kQ D w1 m.bk:=q2.yI hwr.wd q1.size;refine JK h hwr bb ib nb nm hnm a p l h1 h2 h3 hI hwb mD hg (obs.getD k0 0) (λk hk e=>by rw[hwr.nd k k0 hk bC (e.trans hp0.symm)]) (λk hk e e2=>?_) w0 (q1.trans (hk.mono (λ_ _ e=>e.elim))) (λo g c hr hc=>?_) (λk hu=>?_) RJ M8 _ _ (λi hi=>?_) (λi hi e=>?_) (q4.kp hk)
   ·obtain⟨r1,_⟩:=hwr.cur k hk;rw[e2] at r1;have:=hwr.wd.fn _ _ _ r1 cZ;exact e ((congrArg Fr.name this).trans hp0)
   ·obtain⟨c2,a1,a2,hc2⟩:=q2 o g c hr hc;obtain⟨c3,b1,_,_,_,_,hc3⟩:=(hW1.kp hk).1 o g c2 hr hc2;exact⟨c3,λe=>b1.trans (a1 e),λe=>b1.trans (a2 e),hc3⟩
   ·rcases q3 k hu with⟨c,hc⟩|⟨n,M9,hm⟩
    ·exact .inl ⟨c,hk.blk hc (by simp)⟩
    ·exact .inr ⟨n,M9,aL hm (hk.block k hm.lt (by simp))⟩
   ·show((s.ay.getD k0 gY).name∈(s.ay.getD i gY).built\/i=k0)<->_;rw[cN bC,cN hi,hp0];exact⟨λe=>e.imp id (λe=>by subst e;exact hp0),λe=>e.imp id (λe=>hwr.nd i k0 hi bC (e.trans hp0.symm))⟩
   ·have e:i=k0:=e;subst e;exact hp0
end
end
end Go.Proofs.YteainaiebcphlaaGreatDoor
