import Derived.Test.YteainaiebcphlaaGreatDoorY20
import Derived.Test.YteainaiebcphlaaGreatDoorY16
import Derived.Handy
namespace Go.Proofs.YteainaiebcphlaaGreatDoor
set_option maxRecDepth 1000000
set_option maxHeartbeats 4000000
set_option linter.all false
section
open Go.RowKit
theorem ent_def:Ents 116:=ents_of Tryz.func116 (by kernel_rfl) (by kernel_rfl)
def newD (s:St) (t:Tok) (b:List It):Def:=⟨t,wrap64 (s.ids+1),b,0,false,[]⟩
def coolD (t:Tok) (d:Def):Def:=if d.fast=true/\d.built.any (· == t)=true then slowD d else d
theorem coolD_fr (t:Tok) (d:Def):frD (coolD t d)=frD d:=by unfold coolD;split <;> rfl
theorem coolD_name (t:Tok) (d:Def):(coolD t d).name=d.name:=by unfold coolD;split <;> rfl
theorem set_some {s:St} {t:Tok} {b:List It} {k:Nat} (h:s.defs.findIdx? (fun d=>d.name == t)=some k):(s.set t b).defs=(s.defs.map (coolD t)).set k (newD s t b):=by
 unfold St.set St.find;rw[h];rfl
theorem set_none {s:St} {t:Tok} {b:List It} (h:s.defs.findIdx? (fun d=>d.name == t)=none):(s.set t b).defs=s.defs.map (coolD t) ++ [newD s t b]:=by
 unfold St.set St.find;rw[h];rfl
theorem putObs_nb (defs:List Def) (obs:List Nat) (t:Tok) (ob:Nat):putObs (defs.map nbP) obs t ob=match defs.findIdx? (fun d=>d.name == t) with|some k=>obs.set k ob|none=>obs ++ [ob]:=by
 unfold putObs;rw[<-find_nb];cases defs.findIdx? (fun d=>d.name == t) <;> rfl
theorem set_at {s:St} {t:Tok} {b:List It} {obs:List Nat} {ob:Nat} (hl:obs.length=s.defs.length) (nd:∀ i j (hi:i < s.defs.length) (hj:j < s.defs.length),s.defs[i].name=s.defs[j].name->i=j):
  ∀ i (h:i < (s.set t b).defs.length),((s.set t b).defs[i]=newD s t b/\(putObs (s.defs.map nbP) obs t ob).getD i 0=ob/\(s.set t b).defs.findIdx? (fun d=>d.name == t)=some i/\∀ h':i < s.defs.length,s.defs[i].name=t)\/∃ h':i < s.defs.length,frD (s.set t b).defs[i]=frD s.defs[i]/\(putObs (s.defs.map nbP) obs t ob).getD i 0=obs.getD i 0/\¬ s.defs[i].name=t/\(s.set t b).defs[i]=coolD t s.defs[i]:=by
 intro i h;have hnew:((newD s t b).name == t)=true:=by show (t == t)=true;simp
 cases hf:s.defs.findIdx? (fun d=>d.name == t) with
 | some k=>
  have hs:=set_some (b:=b) hf;obtain⟨hk,hp,hbf⟩:=List.findIdx?_eq_some_iff_getElem.1 hf;have hp:s.defs[k].name=t:=beq_iff_eq.1 hp;have hi:i < s.defs.length:=by rw[hs] at h;simpa using h
  have hat:(s.set t b).defs[i]=((s.defs.map (coolD t)).set k (newD s t b))[i]'(by simpa using hi):=by simp only[hs]
  rw[hat,putObs_nb,hf];by_cases hik:k=i
  ·subst hik;refine .inl ⟨by simp,by simp[List.getD,hl,hk],?_,fun _=>hp⟩;rw[hs,List.findIdx?_eq_some_iff_getElem];refine⟨by simpa using hk,by simp[newD],fun j hj=>?_⟩;have hjl:j < s.defs.length:=by omega
   rw[List.getElem_set_ne (by omega)];simp only[List.getElem_map,coolD_name];exact hbf j hj
  ·refine .inr ⟨hi,by rw[List.getElem_set_ne hik];simp[coolD_fr],by simp[List.getD,List.getElem?_set_ne hik],fun e=>hik (nd k i hk hi (hp.trans e.symm)),by rw[List.getElem_set_ne hik];simp⟩
 | none=>
  have hs:=set_none (b:=b) hf;rw[List.findIdx?_eq_none_iff] at hf;have hlen:(s.set t b).defs.length=s.defs.length+1:=by rw[hs];simp
  have hat:(s.set t b).defs[i]=(s.defs.map (coolD t) ++ [newD s t b])[i]'(by simp;omega):=by simp only[hs]
  have hf0:s.defs.findIdx? (fun d=>d.name == t)=none:=by rw[List.findIdx?_eq_none_iff];exact hf
  rw[hat,putObs_nb,hf0];by_cases hi:i < s.defs.length
  ·refine .inr ⟨hi,by rw[List.getElem_append_left (by simpa using hi)];simp[coolD_fr],by simp[List.getD,List.getElem?_append,hl,hi],fun e=>?_,by rw[List.getElem_append_left (by simpa using hi)];simp⟩;have:=hf _ (List.getElem_mem hi);rw[e] at this;simp at this
  ·have hie:i=s.defs.length:=by omega
   subst hie;refine .inl ⟨by rw[List.getElem_append_right (by simp)];simp,by rw[<-hl];simp,?_,fun h'=>absurd h' (Nat.lt_irrefl _)⟩;rw[hs,List.findIdx?_append];have h1:(s.defs.map (coolD t)).findIdx? (fun d=>d.name == t)=none:=by
    rw[List.findIdx?_eq_none_iff];intro d hd;obtain⟨d0,hd0,rfl⟩:=List.mem_map.1 hd;rw[coolD_name];exact hf d0 hd0
   rw[h1,List.findIdx?_cons,hnew];simp
theorem set_len {s:St} {t:Tok} {b:List It}:s.defs.length<=(s.set t b).defs.length:=by
 cases hf:s.defs.findIdx? (fun d=>d.name == t) with
 | some k=>rw[set_some hf];simp
 | none=>rw[set_none hf];simp
theorem set_find {s:St} {t t':Tok} {b:List It} (h:¬ t'=t):(s.set t b).defs.findIdx? (fun d=>d.name == t')=s.defs.findIdx? (fun d=>d.name == t'):=by
 rw[find_nb,set_nb,putNB_find _ _ _ _ h,<-find_nb]
theorem set_know {s:St} {t t':Tok} {b:List It} (h:knowD s.defs t'):knowD (s.set t b).defs t':=by
 unfold knowD at h ⊢;by_cases e:t'=t
 ·subst e;rw[find_nb,set_nb];obtain⟨k,hk,_⟩:=putNB_same (s.defs.map nbP) (List.replicate (s.defs.map nbP).length 0) t' b 0 (by simp);rw[hk];rfl
 ·rw[set_find e];exact h
theorem set_new {s:St} {t:Tok} {b:List It}:knowD (s.set t b).defs t:=by
 unfold knowD;rw[find_nb,set_nb];obtain⟨k,hk,_⟩:=putNB_same (s.defs.map nbP) (List.replicate (s.defs.map nbP).length 0) t b 0 (by simp);rw[hk];rfl
theorem set_nd {s:St} {t:Tok} {b:List It} (nd:∀ i j (hi:i < s.defs.length) (hj:j < s.defs.length),s.defs[i].name=s.defs[j].name->i=j):∀ i j (hi:i < (s.set t b).defs.length) (hj:j < (s.set t b).defs.length),(s.set t b).defs[i].name=(s.set t b).defs[j].name->i=j:=by
 intro i j hi hj e;have ri:=set_at (t:=t) (b:=b) (obs:=List.replicate s.defs.length 0) (ob:=0) (by simp) nd i hi;have rj:=set_at (t:=t) (b:=b) (obs:=List.replicate s.defs.length 0) (ob:=0) (by simp) nd j hj;have nm:∀ k (hk:k < (s.set t b).defs.length),(s.set t b).defs[k]=newD s t b->(s.set t b).defs[k].name=t:=fun k hk q=>by rw[q];rfl
 rcases ri with⟨a1,a2,a3,-⟩|⟨h1,a1,a2,a3,-⟩
 ·rcases rj with⟨b1,b2,b3,-⟩|⟨h2,b1,b2,b3,-⟩
  ·rw[a3] at b3;injection b3
  ·have:=congrArg Fr.name b1;exact absurd (this.symm.trans (e.symm.trans (nm i hi a1))) b3
 ·rcases rj with⟨b1,b2,b3,-⟩|⟨h2,b1,b2,b3,-⟩
  ·have:=congrArg Fr.name a1;exact absurd (this.symm.trans (e.trans (nm j hj b1))) a3
  ·exact nd i j h1 h2 ((congrArg Fr.name a1).symm.trans (e.trans (congrArg Fr.name b1)))
theorem coolD_fast {t:Tok} {d:Def} (hb:d.fast=false->d.built=[]):(t∈d.built->coolD t d=slowD d)/\(¬ t∈d.built->coolD t d=d):=by
 unfold coolD;refine⟨fun h=>?_,fun h=>if_neg (fun q=>h ?_)⟩
 ·have hf:d.fast=true:=by
   cases e:d.fast with
   | true=>rfl
   | false=>rw[hb e] at h;cases h
  rw[if_pos ⟨hf,List.any_eq_true.2 ⟨t,h,by simp⟩⟩]
 ·obtain⟨x,hx,e⟩:=List.any_eq_true.1 q.2;rw[<-beq_iff_eq.1 e];exact hx
def defG (D:GD) (n1 n2 ob hb:Nat) (f:Fr):GD:=⟨fun k=>D.d k\/(n1<=k/\k < n2/\k ≠ ob/\k ≠ hb),fun k=>D.u k\/(k=ob\/k=hb),fun o g=>D.r o g\/(o=ob/\g=f),fun k=>if k=hb then (ob,0) else D.tag k,D.J⟩
section
variable {D:GD} {w:World} {bk mb:Nat} {s:St} {obs:List Nat} {DD:DataW Value}
theorem WR.defined (h:WR D w bk mb s.defs obs DD) {w1 w2 w3:World} (nm:ByteArray) (hmu:¬ D.u mb) (old:Nat) (hold:∀ k (hk:k < s.defs.length),s.defs[k].name=nm.data.toList->obs.getD k 0=old) (hold2:∀ k (hk:k < s.defs.length),¬ s.defs[k].name=nm.data.toList->¬ obs.getD k 0=old) (hk1:Kp w w1 D.u) (hP:PresG D w w1 bk old) (hk2:Kp w1 w2 (fun _=>False)) (hk3:Kp w2 w3 (fun k=>k=mb)) (ob hb:Nat) (hob:w1.heap.size<=ob) (hhb:w1.heap.size<=hb) (hne:ob ≠ hb) (hns:nm.size<=1000) (iv sv:Value) (l:List It)
  (hidr:∀ o f,D.r o f->f.id<=s.ids) (hids:0<=s.ids/\s.ids<=4611686018427389904) (hub:UB l) (A q:Nat->Prop) (hAq:∀ i (h:i < s.defs.length),A i<->nm.data.toList∈s.defs[i].built\/s.defs[i].name=nm.data.toList) (hq:∀ i (h:i < s.defs.length),q i->s.defs[i].name=nm.data.toList) (hX:EX D w1 bk s.defs.length (frA s.defs) (fun k=>obs.getD k 0) (slX (XD s.defs) A) q)
  (hblk:Blk w2 ob 111 (WC.arr ⟨nm,iv,sv,sv,false,0,false,none,some hb⟩)) (hmap:w2.ownsMap Tryz.prog 9 heldR hb 0 (.map [])) (hI:Items (BD D.d w) iv l) (hA:Acts (BD (fun k=>D.d k\/(w1.heap.size<=k/\k ≠ ob)) w2) (fun _ _=>False) bk ob sv l) (hwb:∃ G,wb (knowD s.defs) G false l) (DD3:DataW Value) (hmn:MN w3 mb ((s.set nm.data.toList l).defs.map nbP) (putObs (s.defs.map nbP) obs nm.data.toList ob) DD3):
  WR (defG D w1.heap.size w2.heap.size ob hb (frD (newD s nm.data.toList l))) w3 bk mb (s.set nm.data.toList l).defs (putObs (s.defs.map nbP) obs nm.data.toList ob) DD3:=by
 have hml:=h.mp.lt;have hs1:=hk1.size;have hs2:=hk2.size;have hs3:=hk3.size;have hlo:=hblk.lt;have hlh:=hmap.lt;have hmp1:w1.ownsMap Tryz.prog 9 heldR mb _ DD:=ownsMap_same h.mp (hk1.block mb hml hmu);have hmp2:w2.ownsMap Tryz.prog 9 heldR mb _ DD:=ownsMap_same hmp1 (hk2.block mb (by omega) (by simp));have hk13:Kp w1 w3 (fun k=>k=mb):=(hk2.mono (fun _ _ e=>e.elim)).trans hk3;have hbd1:∀ k t c,BD D.d w1 k t c->BD (defG D w1.heap.size w2.heap.size ob hb (frD (newD s nm.data.toList l))).d w3 k t c:=fun k t c q=>⟨.inl q.1,hk13.blk q.2 (fun e=>map_ne hmp1 q.2 (show k=mb from e).symm)⟩;have hbd:∀ k t c,BD D.d w k t c->BD (defG D w1.heap.size w2.heap.size ob hb (frD (newD s nm.data.toList l))).d w3 k t c:=fun k t c q=>hbd1 k t c ⟨q.1,hk1.blk q.2 (fun e=>h.wd.ud k e q.1)⟩;have hgl:GLe D (defG D w1.heap.size w2.heap.size ob hb (frD (newD s nm.data.toList l))) w1:=⟨fun _ q=>.inl q,fun _ _ q=>.inl q,fun k hk=>by show (if k=hb then _ else _)=_;rw[if_neg (by omega)]⟩;have hfr:∀ o f c,WordC D w1 bk o f c->WordC (defG D w1.heap.size w2.heap.size ob hb (frD (newD s nm.data.toList l))) w3 bk o f c:=fun o f c hc=>hc.frame hk13 hgl hbd1 (fun e=>map_ne hmp1 hc.blk (show o=mb from e).symm) (fun b hb e=>hmu ((show b=mb from e) ▸ (hc.pm b hb).1)) (fun b hb e=>hmu ((show b=mb from e) ▸ (hc.wm b hb).1));have hnew:WordC (defG D w1.heap.size w2.heap.size ob hb (frD (newD s nm.data.toList l))) w3 bk ob (frD (newD s nm.data.toList l)) ⟨nm,iv,sv,sv,false,0,false,none,some hb⟩:=by
  have hAA:=hA.mono (M':=BD (defG D w1.heap.size w2.heap.size ob hb (frD (newD s nm.data.toList l))).d w3) (R':=(defG D w1.heap.size w2.heap.size ob hb (frD (newD s nm.data.toList l))).r) (fun k t c q=>by
   refine⟨q.1.imp id (fun r=>⟨r.1,q.2.lt,r.2,fun e=>map_ne hmap q.2 e.symm⟩),hk3.blk q.2 (fun e=>map_ne hmp2 q.2 (show k=mb from e).symm)⟩) (fun _ _ q=>q.elim)
  refine⟨hk3.blk hblk (fun e=>by have e:ob=mb:=e;omega),rfl,hns,hI.mono hbd,hAA,hAA,(fun b e=>by cases e),fun b e=>?_,fun _=>rfl,.inr (.inl rfl),?_⟩
  ·injection e with e;subst e;exact⟨.inr (.inr rfl),by show (if hb=hb then _ else _)=_;rw[if_pos rfl],.map [],⟨0,ownsMap_same hmap (hk3.block hb hlh (fun e=>by have e:hb=mb:=e;omega))⟩,fun kl hkl=>by cases hkl⟩
  ·obtain⟨G,hG⟩:=hwb;exact⟨G,wb_known (fun _ _=>trivial) _ _ _ hG⟩
 have hlto:∀ o f,D.r o f->o < w.heap.size:=fun o f hr=>by obtain⟨c,hc⟩:=h.wd.ok o f hr;exact hc.blk.lt
 have hwd:Wds (defG D w1.heap.size w2.heap.size ob hb (frD (newD s nm.data.toList l))) w3 bk:=by
  refine⟨fun o f hr=>?_,fun o f f' hr hr'=>?_,fun k hu hd=>?_,fun k hu=>?_,fun k hd=>?_⟩
  ·rcases hr with hr|⟨rfl,rfl⟩
   ·obtain⟨c,hc⟩:=h.wd.ok o f hr;obtain⟨c',_,_,hc'⟩:=hP o f c hr hc;exact⟨c',hfr o f c' hc'⟩
   ·exact⟨_,hnew⟩
  ·rcases hr with hr|⟨e1,e2⟩
   ·rcases hr' with hr' | ⟨e1,e2⟩
    ·exact h.wd.fn o f f' hr hr'
    ·have:=hlto o f hr;omega
   ·rcases hr' with hr' | ⟨e3,e4⟩
    ·have:=hlto o f' hr';omega
    ·rw[e2,e4]
  ·rcases hu with hu|hu
   ·rcases hd with hd|hd
    ·exact h.wd.ud k hu hd
    ·have:=h.wd.lt k hu;omega
   ·rcases hd with hd|hd
    ·have:=h.wd.dl k hd;omega
    ·rcases hu with hu|hu
     ·exact hd.2.2.1 hu
     ·exact hd.2.2.2 hu
  ·rcases hu with hu|hu|hu
   ·have:=h.wd.lt k hu;omega
   ·omega
   ·omega
  ·rcases hd with hd|hd
   ·have:=h.wd.dl k hd;omega
   ·omega
 have hat:=set_at (s:=s) (t:=nm.data.toList) (b:=l) (obs:=obs) (ob:=ob) h.ol h.nd;have hwid:(newD s nm.data.toList l).id=s.ids+1:=by show wrap64 (s.ids+1)=_;unfold wrap64;omega
 have hnl:s.defs.length<=(s.set nm.data.toList l).defs.length:=set_len;have hex:EX (defG D w1.heap.size w2.heap.size ob hb (frD (newD s nm.data.toList l))) w3 bk (s.set nm.data.toList l).defs.length (frA (s.set nm.data.toList l).defs) (fun k=>(putObs (s.defs.map nbP) obs nm.data.toList ob).getD k 0) (XD (s.set nm.data.toList l).defs) (fun _=>False):=by
  have gl:∀ j (hj:j < (s.set nm.data.toList l).defs.length),(s.set nm.data.toList l).defs.getD j dd0=(s.set nm.data.toList l).defs[j]:=fun j hj=>getD_lt hj;have hnd:∀ i j,i < (s.set nm.data.toList l).defs.length->j < (s.set nm.data.toList l).defs.length->(frA (s.set nm.data.toList l).defs i).name=(frA (s.set nm.data.toList l).defs j).name->i=j:=fun i j hi hj e=>by
   unfold frA at e;rw[gl i hi,gl j hj] at e;exact set_nd h.nd i j hi hj e
  have heap:∀ b,D.u b->w3.heap[b]? = w1.heap[b]?:=fun b hu=>hk13.block b (Nat.lt_of_lt_of_le (h.wd.lt b hu) hs1) (fun e=>hmu ((show b=mb from e) ▸ hu))
  -- what is built into which,told by the new list
  have hin:∀ i j (hi:i < (s.set nm.data.toList l).defs.length) (hj:j < (s.set nm.data.toList l).defs.length),(XD (s.set nm.data.toList l).defs).P i j<->(i < s.defs.length/\j < s.defs.length/\(slX (XD s.defs) A).P i j):=fun i j hi hj=>by
   show ((s.set nm.data.toList l).defs.getD j dd0).name∈((s.set nm.data.toList l).defs.getD i dd0).built<->(_/\_/\¬ A i/\(s.defs.getD j dd0).name∈(s.defs.getD i dd0).built);rw[gl i hi,gl j hj];rcases hat i hi with⟨q1,-,-,q4⟩|⟨hi',-,-,q3,q5⟩
   ·rw[q1];refine⟨fun q=>(by cases q),fun ⟨a1,_,a3,_⟩=>absurd ((hAq i a1).2 (.inr (q4 a1))) a3⟩
   ·obtain⟨f1,f2⟩:=coolD_fast (t:=nm.data.toList) (h.bn _ (List.getElem_mem hi')).1;rw[q5,getD_lt hi'];have hAi:A i<->nm.data.toList∈s.defs[i].built:=(hAq i hi').trans ⟨fun q=>q.resolve_right q3,.inl⟩;by_cases ht:nm.data.toList∈s.defs[i].built
    ·rw[f1 ht];exact⟨fun q=>(by cases q),fun ⟨_,_,a3,_⟩=>absurd (hAi.2 ht) a3⟩
    ·rw[f2 ht];rcases hat j hj with⟨r1,-,-,r4⟩|⟨hj',r1,-,-,-⟩
     ·rw[r1];refine⟨fun q=>absurd q ht,fun ⟨_,a2,_,a4⟩=>?_⟩;rw[getD_lt a2,r4 a2] at a4;exact absurd a4 ht
     ·have hnj:(s.set nm.data.toList l).defs[j].name=s.defs[j].name:=congrArg Fr.name r1;rw[hnj,getD_lt hj'];exact⟨fun q=>⟨hi',hj',fun e=>ht (hAi.1 e),q⟩,fun q=>q.2.2.2⟩
  have hold':∀ i j,i < s.defs.length->j < s.defs.length->(slX (XD s.defs) A).P i j->(frA (s.set nm.data.toList l).defs j).name=(frA s.defs j).name/\(putObs (s.defs.map nbP) obs nm.data.toList ob).getD j 0=obs.getD j 0:=fun i j hi hj hp=>by
   have hj':j < (s.set nm.data.toList l).defs.length:=Nat.lt_of_lt_of_le hj hnl;have hne:¬ s.defs[j].name=nm.data.toList:=fun e=>by
    have h2:(s.defs.getD j dd0).name∈(s.defs.getD i dd0).built:=hp.2;rw[getD_lt hj,getD_lt hi,e] at h2;exact hp.1 ((hAq i hi).2 (.inl h2))
   rcases hat j hj' with⟨-,-,-,q4⟩|⟨_,q1,q2,-,-⟩
   ·exact absurd (q4 hj) hne
   ·unfold frA;rw[gl j hj',getD_lt hj];exact⟨congrArg Fr.name q1,q2⟩
  refine⟨fun i hi=>?_,hnd,fun i hi=>?_⟩
  ·unfold frA;rw[gl i hi];rcases hat i hi with⟨q1,q2,-,-⟩|⟨hi',q1,q2,-,-⟩
   ·show D.r _ _\/_;rw[q1,q2];exact .inr ⟨rfl,rfl⟩
   ·show D.r _ _\/_;rw[q1,q2];exact .inl (h.cur i hi').1
  ·rcases hat i hi with⟨q1,q2,-,q4⟩|⟨hi',q1,q2,q3,q5⟩
   ·have hfr0:frA (s.set nm.data.toList l).defs i=frD (newD s nm.data.toList l):=by unfold frA;rw[gl i hi,q1]
    rw[hfr0,q2];have hgi:(s.set nm.data.toList l).defs.getD i dd0=newD s nm.data.toList l:=by rw[gl i hi,q1]
    refine⟨_,hnew,by show false=((s.set nm.data.toList l).defs.getD i dd0).fast;rw[hgi];rfl,by show (0:Int)=((s.set nm.data.toList l).defs.getD i dd0).count;rw[hgi];rfl,.inl ⟨rfl,fun j hj e=>?_⟩,fun _=>.inr ⟨hb,.map [],rfl,⟨0,ownsMap_same hmap (hk3.block hb hlh (fun e=>by have e:hb=mb:=e;omega))⟩,fun j hj=>⟨fun e=>(by cases e),fun e=>?_⟩,fun kl e=>(by cases e)⟩,fun e=>e.elim⟩
    ·obtain⟨a1,_,a3,_⟩:=(hin i j hi hj).1 e;exact a3 ((hAq i a1).2 (.inr (q4 a1)))
    ·have e:(XD (s.set nm.data.toList l).defs).P j i:=e;obtain⟨a1,a2,a3,a4⟩:=(hin j i hj hi).1 e;have a4:(s.defs.getD i dd0).name∈(s.defs.getD j dd0).built:=a4;rw[getD_lt a2,q4 a2,getD_lt a1] at a4;exact absurd ((hAq j a1).2 (.inl a4)) a3
   ·obtain⟨c,hc,x1,x2,x3,x4,-⟩:=hX.wc i hi';have hfr0:frA (s.set nm.data.toList l).defs i=frA s.defs i:=by unfold frA;rw[gl i hi,q1,getD_lt hi']
    have hgi:(s.set nm.data.toList l).defs.getD i dd0=coolD nm.data.toList s.defs[i]:=by rw[gl i hi,q5]
    have hAi:A i<->nm.data.toList∈s.defs[i].built:=(hAq i hi').trans ⟨fun q=>q.resolve_right q3,.inl⟩;obtain⟨f1,f2⟩:=coolD_fast (t:=nm.data.toList) (h.bn _ (List.getElem_mem hi')).1;rw[hfr0,q2];refine⟨c,hfr _ _ _ hc,?_,?_,((x3.same (fun b hb=>heap b (hc.pm b hb).1)).re hnl (fun j hj hp=>hold' i j hi' hj hp) (fun j hj=>(hin i j hi hj).trans ⟨fun q=>q.2,fun q=>⟨hi',q⟩⟩) hnd),fun _=>((x4 (fun e=>q3 (hq i hi' e))).same (fun b hb=>heap b (hc.wm b hb).1)).re hnl (fun j hj hp=>?_) (fun j hj=>(hin j i hj hi).trans ⟨fun q=>⟨q.1,q.2.2⟩,fun q=>⟨q.1,hi',q.2⟩⟩) hnd,fun e=>e.elim⟩
    ·rw[x1];show _=((s.set nm.data.toList l).defs.getD i dd0).fast;rw[hgi];by_cases ht:nm.data.toList∈s.defs[i].built
     ·rw[f1 ht];exact if_pos (hAi.2 ht)
     ·rw[f2 ht,show (slX (XD s.defs) A).fa i=(s.defs.getD i dd0).fast from if_neg (fun e=>ht (hAi.1 e)),getD_lt hi']
    ·rw[x2];show _=((s.set nm.data.toList l).defs.getD i dd0).count;rw[hgi];by_cases ht:nm.data.toList∈s.defs[i].built
     ·rw[f1 ht];exact if_pos (hAi.2 ht)
     ·rw[f2 ht,show (slX (XD s.defs) A).ct i=(s.defs.getD i dd0).count from if_neg (fun e=>ht (hAi.1 e)),getD_lt hi']
    ·have hj':j < (s.set nm.data.toList l).defs.length:=Nat.lt_of_lt_of_le hj hnl;rcases hat j hj' with⟨-,-,-,r4⟩|⟨_,r1,r2,-,-⟩
     ·exact absurd ((hAq j hj).2 (.inr (r4 hj))) hp.1
     ·unfold frA;rw[gl j hj',getD_lt hj];exact⟨congrArg Fr.name r1,r2⟩
 refine⟨by have:=hmn.ol;simpa using this,by have:=hmn.mp;simpa using this,by have:=hmn.sz;simpa using this,fun t ht=>by rw[find_nb];exact hmn.hs t ht,by have:=hmn.l30;simpa using this,fun t ht=>by rw[find_nb];exact hmn.lk t ht,set_nd h.nd,hwd,fun i hi=>?_,fun o f hr=>?_,hex,fun d hd=>?_,fun d hd=>?_⟩
 ·rcases hat i hi with⟨q1,q2,q3,-⟩|⟨hi',q1,q2,q3,-⟩
  ·rw[q1,q2];obtain⟨G,hG⟩:=hwb;exact⟨.inr ⟨rfl,rfl⟩,⟨_,hnew,rfl⟩,G,wb_known (fun t ht=>set_know ht) _ _ _ hG⟩
  ·obtain⟨r1,⟨c,r2,r3⟩,G,r4⟩:=h.cur i hi';obtain⟨c',a1,_,hc'⟩:=hP _ _ c r1 r2;have hbq:(s.set nm.data.toList l).defs[i].body=s.defs[i].body:=congrArg Fr.body q1;rw[q1,q2,hbq];exact⟨.inl r1,⟨c',hfr _ _ _ hc',(a1 (hold2 i hi' q3)).trans r3⟩,G,wb_known (fun t ht=>set_know ht) _ _ _ r4⟩
 ·rcases hr with hr|⟨rfl,rfl⟩
  ·obtain⟨hkn,hq⟩:=h.reg o f hr;refine⟨set_know hkn,?_⟩;have hidn:∀ k (h:k < (s.set nm.data.toList l).defs.length),f.name=nm.data.toList->(s.set nm.data.toList l).defs.findIdx? (fun d=>d.name == f.name)=some k->f.id < (s.set nm.data.toList l).defs[k].id:=fun k hk hfn hfi=>by
    obtain⟨_,hp,_⟩:=List.findIdx?_eq_some_iff_getElem.1 hfi;have hp:=beq_iff_eq.1 hp;rcases hat k hk with⟨q1,-⟩|⟨_,q1,-,q3,-⟩
    ·rw[q1,hwid];have:=hidr o f hr;omega
    ·exact absurd ((congrArg Fr.name q1).symm.trans (hp.trans hfn)) q3
   rcases hq with⟨k,hk,hfi,ho,hf⟩|⟨c,hc,hgn,hgid⟩
   ·by_cases hnt:s.defs[k].name=nm.data.toList
    ·obtain⟨c,hc⟩:=h.wd.ok o f hr;obtain⟨c',_,a2,hc'⟩:=hP o f c hr hc;exact .inr ⟨c',hfr _ _ _ hc',a2 (by rw[<-ho];exact hold k hk hnt),fun k' hk' e=>hidn k' hk' (by rw[hf];exact hnt) e⟩
    ·have hk':k < (s.set nm.data.toList l).defs.length:=Nat.lt_of_lt_of_le hk set_len;rcases hat k hk' with⟨_,_,_,q4⟩|⟨_,q1,q2,q3,-⟩
     ·exact absurd (q4 hk) hnt
     ·have hfn:f.name=s.defs[k].name:=by rw[hf]
      exact .inl ⟨k,hk',by rw[set_find (by rw[hfn];exact hnt)];exact hfi,by rw[q2];exact ho,by rw[q1];exact hf⟩
   ·obtain⟨c',a1,a2,hc'⟩:=hP o f c hr hc;refine .inr ⟨c',hfr _ _ _ hc',?_,fun k hk e=>?_⟩
    ·by_cases e:o=old
     ·exact a2 e
     ·exact (a1 e).trans hgn
    ·by_cases hfn:f.name=nm.data.toList
     ·exact hidn k hk hfn e
     ·rw[set_find hfn] at e;obtain⟨hk0,hp,_⟩:=List.findIdx?_eq_some_iff_getElem.1 e;rcases hat k hk with⟨_,_,_,q4⟩|⟨_,q1,-,-,-⟩
      ·exact absurd ((beq_iff_eq.1 hp).symm.trans (q4 hk0)) hfn
      ·have:(s.set nm.data.toList l).defs[k].id=s.defs[k].id:=congrArg Fr.id q1;rw[this];exact hgid k hk0 e
  ·have hkn:knowD (s.set nm.data.toList l).defs nm.data.toList:=set_new;refine⟨hkn,.inl ?_⟩;unfold knowD at hkn
   cases hfi:(s.set nm.data.toList l).defs.findIdx? (fun d=>d.name == nm.data.toList) with
   | none=>rw[hfi] at hkn;cases hkn
   | some i=>
    obtain⟨hi,hp,_⟩:=List.findIdx?_eq_some_iff_getElem.1 hfi;rcases hat i hi with⟨q1,q2,_,_⟩|⟨hi',q1,q2,q3,-⟩
    ·exact⟨i,hi,hfi,q2,by rw[q1]⟩
    ·exact absurd ((congrArg Fr.name q1).symm.trans (beq_iff_eq.1 hp)) q3
 ·obtain⟨i,hi,rfl⟩:=List.getElem_of_mem hd;rcases hat i hi with⟨q1,-⟩|⟨hi',-,-,-,q5⟩
  ·rw[q1];exact⟨fun _=>rfl,fun t ht=>by cases ht⟩
  ·rw[q5];obtain⟨b1,b2⟩:=h.bn _ (List.getElem_mem hi');obtain⟨f1,f2⟩:=coolD_fast (t:=nm.data.toList) b1;by_cases ht:nm.data.toList∈s.defs[i].built
   ·rw[f1 ht];exact⟨fun _=>rfl,fun t ht=>by cases ht⟩
   ·rw[f2 ht];exact⟨b1,fun t ht=>set_know (b2 t ht)⟩
 ·obtain⟨i,hi,rfl⟩:=List.getElem_of_mem hd;rcases hat i hi with⟨q1,-⟩|⟨hi',q1,-,-,-⟩
  ·rw[q1];exact hub
  ·rw[show (s.set nm.data.toList l).defs[i].body=s.defs[i].body from congrArg Fr.body q1];exact h.ub _ (List.getElem_mem hi')
end
end
section
open Go.RowKit
section
variable {D:GD} {w:World} {bk ob:Nat} {f:Fr} {n k:Nat} {fr:Nat->Fr} {oo:Nat->Nat} {X:XV}
theorem retireK (hW:Wds D w bk) (hX:EX D w bk n fr oo X (fun _=>False)) (hk:k < n) (ho:oo k=ob) (hf:fr k=f) (hHP:∀ i j,i < n->j < n->X.H i j->X.P i j) (hgn:∀ c,WordC D w bk ob f c->c.gn=false):
  Calls Tryz.prog 117 #[pt ob] w fun e w'=>e=.returned (.tuple #[])/\Kp w w' D.u/\PresG D w w' bk ob/\(∀ k,D.u k->KindU w k->KindU w' k)/\EX D w' bk n fr oo (slX X (fun i=>X.H i k\/i=k)) (fun i=>i=k):=by
 have hr:D.r ob f:=by rw[<-ho,<-hf];exact hX.r k hk
 obtain⟨c,hc,a1,a2,a3,a4,a5⟩:=hX.wc k hk;rw[ho,hf] at hc;have hgn:=hgn c hc;obtain⟨hpg,hkg,hcg⟩:=goneC hW hr hc;obtain⟨W1,hW1⟩:∃ W1,W1=(w.setCell ⟨ob,6,none⟩ (.bool true)).setCell ⟨ob,8,none⟩ (.map none):=⟨_,rfl⟩;rw[<-hW1] at hpg hkg hcg;have hWd:=hpg.wds hW hkg.size;have hXg:=hX.gone hW hk ho hf hc hkg hcg;have hsz1:W1.heap.size=w.heap.size:=by rw[hW1];simp
 obtain⟨hb,hwm⟩:∃ hb,c.wm=some hb:=Option.isSome_iff_exists.1 (hc.wn hgn);obtain⟨hbu,hbt,_⟩:=hc.wm hb hwm;have hmx:=a4 (fun e=>e);rw[hwm] at hmx;obtain⟨DD,⟨m,hown⟩,hhas,hE⟩:∃ DD,(∃ m,w.ownsMap Tryz.prog 9 heldR hb m DD)/\(∀ j,j < n->(Maps.has DD (.string (fr j).name)=true<->X.H j k))/\∀ kl,Maps.has DD kl=true->∃ j,j < n/\kl=.string (fr j).name/\∀ zd,DD.atKey kl zd=.held (pt (oo j)):=by
  rcases hmx with⟨e,_⟩|⟨b,DD,e,h⟩
  ·cases e
  ·injection e with e;subst e;exact⟨DD,h⟩
 have hne:=map_ne hown hc.blk;have hown1:W1.ownsMap Tryz.prog 9 heldR hb m DD:=ownsMap_same hown (hkg.block hb hown.lt hne);have hnf:¬ FU D W1 bk hb:=by
  rintro (⟨g,h⟩|⟨o,g,c2,h,hc2,hm⟩)
  ·obtain⟨c2,hc2⟩:=hWd.ok hb g h;exact map_ne hown1 hc2.blk rfl
  ·obtain⟨_,q,_⟩:=hc2.wm hb hm;rw[hbt] at q;injection q with q;subst q;have:=hWd.fn ob g f h hr;subst this;have:=hc2.inj hcg;subst this
   cases hm
 have c6:w.cell? ⟨ob,6,none⟩=some (.bool c.gn):=hc.blk.cell rfl;have c8:w.cell? ⟨ob,8,none⟩=some (.map (some hb)):=by rw[<-hwm];exact hc.blk.cell rfl
 have g6:=hc.blk.free 6;have g8:=hc.blk.free 8;have HKU:Hid (∀ k,D.u k->KindU w k->KindU W1 k):=fun k hu hq=>by
  by_cases e:k=ob
  ·rw[e];exact .inl ⟨_,hcg.blk⟩
  ·rcases hq with⟨c,hc⟩|⟨n,DD,hm⟩
   ·exact .inl ⟨c,hkg.blk hc e⟩
   ·exact .inr ⟨n,DD,ownsMap_same hm (hkg.block k hm.lt e)⟩
 have HW:=hide hW;have HWd:=hide hWd;have HPG:=hide hpg;have HKG:=hide hkg;have HE:=hide hE;have HU:Hid (∀ k,k=ob->D.u k):=fun k e=>by rw[e];exact hc.u
 have HNF:=hide hnf;have HX0:Hid (EX D W1 bk n fr oo (slX X (fun i=>X.H i k/\Maps.has DD (.string (fr i).name)=false)) (fun i=>i=k)):=hXg.sl0 (fun i hi h=>by have:=(hhas i hi).2 h.1;rw[h.2] at this;cases this);have HHAS:=hide hhas;have HHP:=hide hHP;have HND:=hide hX.nd;clear hW hWd hpg hkg hE hc hcg hgn hwm hnf hX hXg hhas hHP hmx a1 a2 a3 a4 a5;go_enter Tryz.func117,Tryz.ntmps117
 go_wp2_with (first
  | (at_range;(rw[<-hW1]);refine wpList_range_own _ rfl _ 104 rfl 9 107 (Maps.string_keyed Tryz.underlying9) Tryz.underlying104 _ hb m _ rfl hown1 ?_;intro w0 hrg0 hg0 hs0)
  | go_in)
 go_frame
 rw[hsz1] at hrg0 hs0 ⊢
 go_loopw [4] (fun _ wr=>∃ left cnt,RetAt D bk n fr oo X k hb w.heap.size m DD W1 wr left cnt) (fun _ wr=>wr.rangeLeft hb w.heap.size)
 case atStart=>
  have hk0:Kp W1 w0 (fun _=>False):=(Kp.refl W1 _).grown hg0 (fun k _ e=>by cases e);exact⟨_,_,⟨hrg0,fun _ h=>h,hk0.mono (fun _ _ e=>e.elim),(HWd.out.kp hk0).1,HX0.out.kp hk0⟩⟩
 case round=>
  clear HX0;obtain⟨left,cnt,hat0⟩:=hrel;have hWr:=HWd.out.next hat0.kp.size hat0.pr;have hrg:=hat0.rg
  go_wp2_with (first
   | (at_next;refine wpList_next_ranges _ rfl _ rfl 9 (Maps.string_keyed Tryz.underlying9) heldR Value.string (fun v:Value=>v) (fun key kl h=>(keyStr_inv h).imp (fun _ q=>q.1)) (fun v _ _=>⟨v,rfl⟩) hb w.heap.size m _ _ _ rfl hrg ?_ ?_)
   | go_in)
  ·intro hc0 hl0;have HL:=hide hl0;have HC:=hide (coolM (w:=wr) hWr hat0.ex hk ho hf (fun j hj h=>⟨h.1,HHP.out k j hk hj h.2⟩));have HAT:=hide hat0;have HWr:=hide hWr;clear hat0 hWr hrg hc0 hl0 hg0 hs0 hrg0 hown hown1
   go_wp2_with fail
   refine HC.out.mono ?_;rintro e w5 ⟨rfl,hk5,hp5,hx5⟩;have HX5:Hid (EX D w5 bk n fr oo (slX X (fun i=>X.H i k\/i=k)) (fun i=>i=k)):=hx5.sl1 (fun i hi=>⟨fun h=>h.imp (fun h=>⟨h,HL.out _⟩) id,fun h=>h.imp (fun h=>h.1) id⟩);have HP:Hid (PresG D w w5 bk ob):=HPG.out.then (HAT.out.pr.trans (fun _ _ h=>h) hp5);have HK:Hid (Kp w w5 D.u):=by
    have h1:Kp W1 w5 D.u:=(HAT.out.kp.mono (fun k _ e=>e.u HWd.out)).trans (hk5.mono (fun k _ e=>e.u HWr.out));exact (HKG.out.mono (fun k _ e=>HU.out k e)).trans h1
   have HKK:Hid (∀ k,D.u k->KindU w k->KindU w5 k):=fun k hu hq=>kindU HWd.out (HAT.out.kp.trans (hk5.mono (fun k _ e=>e.back HWd.out HAT.out.pr))) (HAT.out.pr.trans (fun _ _ h=>h) hp5) hu (HKU.out k hu hq);clear hk5 hp5 hx5 HC HAT HWr HL ho hf hk;go_wp2;refine bodyPost_end (results_none rfl _ _ _) rfl ?_;exact⟨rfl,HK.out,HP.out,HKK.out,HX5.out⟩
  ·intro x v kl yd yp w1 cnt1 hkey hlk hv hat hrg1 hlt hg1 hs1 hen;have hhk:=hat0.sub kl hlk;obtain⟨j,hj,rfl,hat2⟩:=HE.out kl hhk;have hjk:=(HHAS.out j hj).1 hhk;obtain⟨o2,ho2⟩:∃ o2,oo j=o2:=⟨_,rfl⟩;rw[ho2] at hat2;have hvv:v=pt o2:=by
    have h1:=hat (.held (.pointer none));rw[hat2] at h1;have h2:some (DataW.held v,[])=some (yd,yp):=hv;have h3:DataW.held v=yd:=congrArg Prod.fst (Option.some.inj h2);have h4:DataW.held (pt o2)=yd:=h1;rw[<-h3] at h4;exact (DataW.held.inj h4).symm
   subst hvv;have hrn:w.heap.size < wr.heap.size:=hrg.lt;have hk1:Kp wr w1 (fun k=>k=w.heap.size):=(Kp.refl wr _).grown hg1 (fun k _ e=>(Option.some.inj e).symm);have hnu:∀ k,D.u k->¬ k=w.heap.size:=fun k hk e=>by have:=HWd.out.lt k hk;omega
   obtain⟨hp1,hWd1⟩:=hWr.out hk1 hnu (fun k hd e=>by have:=HWd.out.dl k hd;omega);have hX1:=hat0.ex.out hk1 hnu (fun k hd e=>by have:=HWd.out.dl k hd;omega);have hpa:=hat0.pr.trans (fun _ _ h=>h) hp1;have hka:Kp W1 w1 (FU D W1 bk):=((hat0.kp.mono (T:=fun k=>FU D W1 bk k\/k=w.heap.size) (fun _ _ e=>.inl e)).trans (hk1.mono (fun _ _ e=>.inr e))).mono (fun k hk e=>e.elim id (fun e=>by omega));have HC:=hide (coolM (w:=w1) hWd1 hX1 hj ho2 rfl (fun i hi h=>⟨h.1,HHP.out j i hj hi h.2⟩));have HN:Hid (∀ w2,Kp w1 w2 (FU D w1 bk)->Pres D D w1 w2 bk->EX D w2 bk n fr oo (coolX (slX X (fun i=>X.H i k/\left (.string (fr i).name)=false)) j) (fun i=>i=k)->RetAt D bk n fr oo X k hb w.heap.size m DD W1 w2 (fun z=>left z && !z.sameKey (.string (fr j).name)) cnt1):=by
    intro w2 hk2 hp2 hx2;have hk2':=hk2.mono (fun k _ e=>FU.back HWd.out hpa e);have hbl:=HWd.out.lt hb hbu;have hs2:=hk1.size;refine⟨ranges_same hrg1 (hk2'.block hb (by omega) HNF.out) (hk2'.block w.heap.size (by omega) (fun e=>by have:=HWd.out.lt _ (e.u HWd.out);omega)),fun k hk=>hat0.sub k (by simp at hk;exact hk.1),hka.trans hk2',hpa.trans (fun _ _ h=>h) hp2,hx2.sl1 (fun i hi=>?_)⟩;have hl:=left_ne (left:=left) HND.out hi hj
    constructor
    ·rintro⟨h1,h2⟩;by_cases e:i=j
     ·exact .inr e
     ·refine .inl ⟨h1,?_⟩
      cases hq:left (.string (fr i).name) with
      | false=>rfl
      | true=>have:=hl.2 ⟨hq,e⟩;rw[this] at h2;cases h2
    ·rintro (⟨h1,h2⟩|e)
     ·exact⟨h1,by rw[h2];rfl⟩
     ·refine⟨by rw[e];exact hjk,?_⟩
      cases hq:(left (.string (fr i).name) && !(Lit.string (fr i).name).sameKey (.string (fr j).name)) with
      | false=>rfl
      | true=>exact absurd e (hl.1 hq).2
   have hcn0:=hrg.left_eq;clear hat0 hWr hrg hrg1 hg1 hs1 hat hat2 hv hkey hlk hk1 hnu hp1 hWd1 hpa hka hX1 hhk hjk ho2
   go_wp2_with fail
   refine HC.out.mono ?_;rintro e w2 ⟨rfl,hk2,hp2,hx2⟩;have hN:=HN.out w2 hk2 hp2 hx2;have HNN:=hide hN;have hcnt:=hN.rg.left_eq;clear hN hk2 hp2 hx2 HN HC;go_wp2
   go_roundw
   case rel=>exact⟨_,_,HNN.out⟩
   case measure=>rw[hcnt,hcn0];exact hlt
end
end
section
open Go.RowKit
section
variable {B:Nat} {W w:World} {xb rb mb:Nat} {m:MS} {D:GD} {s:St}
theorem defEnd (h:PR B W w xb rb mb m D s) {obs:List Nat} {DD:DataW Value} (hwr:WR D w m.bk mb s.defs obs DD) (bb ib nb:Nat) (nm:ByteArray) (hnm:nm.size<=1000) (a:Option Addr) (p:Nat) (l:List It) (h1:Blk w bb 78 #[pt m.bk]) (h2:Blk w ib 108 #[.slice a l.length p]) (h3:Blk w nb 9 #[.string nm]) (hI:Items (BD D.d w) (.slice a l.length p) l) (hwb:∃ G,wb (knowD s.defs) G false l)
  (h30:s.known nm.data.toList=true\/s.defs.length < 30) (hg:SGood (s.set nm.data.toList l)) (old:Nat) (hold:∀ k (hk:k < s.defs.length),s.defs[k].name=nm.data.toList->obs.getD k 0=old) (hold2:∀ k (hk:k < s.defs.length),¬ s.defs[k].name=nm.data.toList->¬ obs.getD k 0=old)
  (w1:World) (hk1:Kp w w1 D.u) (hP:PresG D w w1 m.bk old) (hus1:∀ k,D.u k->KindU w1 k) (hidl:s.ids+1<=D.J+m.st) (hub':UB l) (A q:Nat->Prop) (hAq:∀ i (h:i < s.defs.length),A i<->nm.data.toList∈s.defs[i].built\/s.defs[i].name=nm.data.toList) (hq:∀ i (h:i < s.defs.length),q i->s.defs[i].name=nm.data.toList) (hX:EX D w1 m.bk s.defs.length (frA s.defs) (fun k=>obs.getD k 0) (slX (XD s.defs) A) q):DefF bb ib nb m.bk mb nm a l.length p w1 (PPost B W xb rb mb w m D (s.set nm.data.toList l)):=by
 have hmu:¬ D.u mb:=fun e=>(h.us mb e).2.1 rfl;have hml:=hwr.mp.lt;have hs1:=hk1.size;have hub:∀ b t c,Blk w b t c->t ≠ 111->¬ D.u b:=fun b t c hb ht e=>h.une e hb ht rfl;have cells:∀ w',(∀ b t c,Blk w b t c->t ≠ 111->Blk w' b t c)->DefS bb ib nb m.bk mb nm (.slice a l.length p) w':=fun w' hk=>⟨(hk _ _ _ h1 (by decide)).cell rfl,(hk _ _ _ h2 (by decide)).cell rfl,(hk _ _ _ h3 (by decide)).cell rfl,(hk _ _ _ h.book (by decide)).cell rfl⟩;have hb1:∀ b t c,Blk w b t c->t ≠ 111->Blk w1 b t c:=fun b t c hb ht=>hk1.blk hb (hub b t c hb ht);have hI1:Items (BD D.d w1) (.slice a l.length p) l:=hI.mono (fun b t c q=>⟨q.1,hk1.blk q.2 (fun e=>hwr.wd.ud b e q.1)⟩);refine (forgeM (fun _ _=>False) w1 D.d m.bk nm _ l hI1 (by obtain⟨G,hG⟩:=hwb;exact⟨G,wb_known (fun _ _=>trivial) _ _ _ hG⟩)).mono ?_;rintro e w2 ⟨ob,hb,sv,rfl,hk2,hob,hhb,hne,hblk,hmap,hA⟩;have hs2:=hk2.size;have hmm1:w1.heap[mb]? = w.heap[mb]?:=hk1.block mb hml hmu;have hmm2:w2.heap[mb]? = w.heap[mb]?:=(hk2.block mb (by omega) (by simp)).trans hmm1;obtain⟨w3,DD3,hrun,hgr,hmn⟩:=(hwr.mn.same hmm2).put nm hnm l ob (by
  rcases h30 with q|q
  ·left;rw[<-find_nb];exact q
  ·right;simpa using q)
 rw[<-set_nb] at hmn;have hk3:Kp w2 w3 (fun k=>k=mb):=(Kp.refl w2 _).grown hgr (fun k _ e=>(Option.some.inj e).symm);have hs3:=hk3.size;have hmp2:w2.ownsMap Tryz.prog 9 heldR mb _ DD:=ownsMap_same hwr.mp hmm2;have hb3:∀ b t c,Blk w2 b t c->Blk w3 b t c:=fun b t c q=>hk3.blk q (fun e=>map_ne hmp2 q (show b=mb from e).symm);refine⟨ob,w3,rfl,cells w2 (fun b t c q ht=>hk2.blk (hb1 b t c q ht) (by simp)),cells w3 (fun b t c q ht=>hb3 b t c (hk2.blk (hb1 b t c q ht) (by simp))),hrun,?_⟩;have hW3:=hwr.defined nm hmu old hold hold2 hk1 hP hk2 hk3 ob hb hob hhb hne hnm _ sv l h.idr (by have:=h.ids;have:=h.st1;omega) hub' A q hAq hq hX hblk hmap hI hA hwb DD3 hmn;have hkT:Kp w w3 (fun k=>D.u k\/k=mb):=((hk1.mono (fun _ _ e=>.inl e)).trans (hk2.mono (fun _ _ e=>e.elim))).trans (hk3.mono (fun _ _ e=>.inr e));have hlo:=hblk.lt;have hlh:=hmap.lt;have hkind:∀ k,(defG D w1.heap.size w2.heap.size ob hb (frD (newD s nm.data.toList l))).u k->KindU w3 k:=fun k q=>by
  have hmv:∀ k,k < w2.heap.size->k ≠ mb->KindU w2 k->KindU w3 k:=fun k hk hkm hq=>by
   rcases hq with⟨c,hc⟩|⟨n,DDk,hm⟩
   ·exact .inl ⟨c,hb3 _ _ _ hc⟩
   ·exact .inr ⟨n,DDk,ownsMap_same hm (hk3.block k hk hkm)⟩
  rcases q with q|q|q
  ·have hkl:=hwr.wd.lt k q;refine hmv k (by omega) (h.us k q).2.1 ?_;rcases hus1 k q with⟨c,hc⟩|⟨n,DDk,hm⟩
   ·exact .inl ⟨c,hk2.blk hc (by simp)⟩
   ·exact .inr ⟨n,DDk,ownsMap_same hm (hk2.block k (by omega) (by simp))⟩
  ·rw[q];exact hmv ob hlo (by omega) (.inl ⟨_,hblk⟩)
  ·rw[q];exact hmv hb hlh (by omega) (.inr ⟨_,_,hmap⟩)
 have hwid:wrap64 (s.ids+1)=s.ids+1:=by have:=h.ids;have:=h.st1;unfold wrap64;omega
 obtain⟨r1,r2⟩:=h.redef (s':=s.set nm.data.toList l) hkT ⟨_,_,hW3⟩ rfl (fun _ _ q=>.inl q) (fun _ q=>.inl q) (fun k q=>q.imp id (fun q=>by omega)) (fun k q=>q.imp id (fun q=>by rcases q with q|q <;> omega)) hkind hg rfl (by show 0<=wrap64 (s.ids+1)/\wrap64 (s.ids+1)<=_;rw[hwid];have:=h.ids;omega) (fun o f hr=>by
  show f.id<=wrap64 (s.ids+1);rw[hwid];rcases hr with hr|⟨_,hr⟩
  ·have:=h.idr o f hr;omega
  ·rw[hr];show wrap64 (s.ids+1)<=_;omega)
 exact⟨m,_,r1,r2⟩
theorem defP (h:PR B W w xb rb mb m D s) (bb ib nb:Nat) (nm:ByteArray) (hnm:nm.size<=1000) (iv:Value) (l:List It) (h1:Blk w bb 78 #[pt m.bk]) (h2:Blk w ib 108 #[iv]) (h3:Blk w nb 9 #[.string nm]) (hI:Items (BD D.d w) iv l) (hwb:∃ G,wb (knowD s.defs) G false l)
  (h30:s.known nm.data.toList=true\/s.defs.length < 30) (hg:SGood (s.set nm.data.toList l)) (hidl:s.ids+1<=D.J+m.st) (hub':UB l):
  CallsV (.func (.func 116) #[] #[pt bb,pt nb,pt ib]) (pt rb) w fun e w'=>e=.returned (.int .i64 0)/\PPost B W xb rb mb w m D (s.set nm.data.toList l) w':=by
 refine⟨_,_,_,rfl,ent_def,?_⟩;show Calls Tryz.prog 116 #[pt rb,pt bb,pt nb,pt ib] w _;obtain⟨xs,hrow,-⟩:=hI.out;obtain⟨a,p,rfl⟩:=hrow.form;obtain⟨obs,DD,hwr⟩:=h.words;have hml:=hwr.mp.lt;have hmu:¬ D.u mb:=fun e=>(h.us mb e).2.1 rfl;have hub:∀ b t c,Blk w b t c->t ≠ 111->¬ D.u b:=fun b t c hb ht e=>h.une e hb ht rfl;have cells:∀ w',(∀ b t c,Blk w b t c->t ≠ 111->Blk w' b t c)->DefS bb ib nb m.bk mb nm (.slice a l.length p) w':=fun w' hk=>⟨(hk _ _ _ h1 (by decide)).cell rfl,(hk _ _ _ h2 (by decide)).cell rfl,(hk _ _ _ h3 (by decide)).cell rfl,(hk _ _ _ h.book (by decide)).cell rfl⟩;have hsz:nm.size<=maxLen:=Nat.le_trans hnm (by decide);have hl:=hwr.lk nm.data.toList hsz;have hlt:∀ k (hk:k < s.defs.length),obs.getD k 0 < w.heap.size:=fun k hk=>by obtain⟨_,⟨c,hc,_⟩,_⟩:=hwr.cur k hk;exact hc.blk.lt
 cases hf:s.defs.findIdx? (fun d=>d.name == nm.data.toList) with
 | none=>
  rw[hf] at hl;have hnone:=hf;rw[List.findIdx?_eq_none_iff] at hnone;refine defFnNew w rb bb ib nb m.bk mb nm a l.length p _ (cells w (fun _ _ _ h _=>h)) (fun w0 hk=>look_run (ownsMap_same hwr.mp (hk.block mb hml (by simp))) nm hsz hl) (fun w0 hk=>cells w0 (fun b t c q _=>hk.blk q (by simp))) (fun w0 hk=>?_);have hP:PresG D w w0 m.bk w.heap.size:=fun o g c hr hc=>by
   obtain⟨c',e1,_,_,_,_,hc'⟩:=(hwr.wd.kp hk).1 o g c hr hc;exact⟨c',fun _=>e1,fun e=>by have:=hc.blk.lt;omega,hc'⟩
  refine defEnd h hwr bb ib nb nm hnm a p l h1 h2 h3 hI hwb h30 hg w.heap.size (fun k hk e=>by have:=hnone _ (List.getElem_mem hk);rw[e] at this;simp at this) (fun k hk _ e=>by have:=hlt k hk;omega) w0 (hk.mono (fun _ _ e=>e.elim)) hP (fun k hu=>by
   rcases (h.us k hu).2.2 with⟨c,hc⟩|⟨n,DDk,hm⟩
   ·exact .inl ⟨c,hk.blk hc (by simp)⟩
   ·exact .inr ⟨n,DDk,ownsMap_same hm (hk.block k hm.lt (by simp))⟩) hidl hub' (fun _=>False) (fun _=>False) (fun i hi=>⟨fun e=>e.elim,fun e=>?_⟩) (fun i hi e=>e.elim) ((hwr.ex.kp hk).sl0 (fun _ _ e=>e))
  rcases e with e|e
  ·have hkn:=(hwr.bn _ (List.getElem_mem hi)).2 _ e;unfold knowD at hkn;rw[hf] at hkn;cases hkn
  ·have:=hnone _ (List.getElem_mem hi);rw[e] at this;simp at this
 | some k0=>
  rw[hf] at hl;obtain⟨hk0,hp0,_⟩:=List.findIdx?_eq_some_iff_getElem.1 hf;have hp0:s.defs[k0].name=nm.data.toList:=beq_iff_eq.1 hp0;obtain⟨hr0,⟨c0,hc0,hg0⟩,_⟩:=hwr.cur k0 hk0;refine defFnOld w rb bb ib nb m.bk mb (obs.getD k0 0) nm a l.length p _ (fun w1=>Kp w w1 D.u/\PresG D w w1 m.bk (obs.getD k0 0)/\(∀ k,D.u k->KindU w1 k)/\EX D w1 m.bk s.defs.length (frA s.defs) (fun k=>obs.getD k 0) (slX (XD s.defs) (fun i=>(XD s.defs).H i k0\/i=k0)) (fun i=>i=k0)) (cells w (fun _ _ _ h _=>h)) (fun w0 hk=>look_run (ownsMap_same hwr.mp (hk.block mb hml (by simp))) nm hsz hl) (fun w0 hk=>?_) (fun w1 hi w0 hk=>?_)
  ·obtain⟨hpk,hwk⟩:=hwr.wd.kp hk;obtain⟨c1,e1,_,_,_,_,hc1⟩:=hpk _ _ c0 hr0 hc0;refine (retireK hwk (hwr.ex.kp hk) hk0 rfl (by unfold frA;rw[getD_lt hk0]) (fun _ _ _ _ e=>e) (fun c hc=>by rw[hc.inj hc1];exact e1.trans hg0)).mono ?_;rintro e w1 ⟨rfl,q1,q2,q3,q4⟩;have hkw:Kp w w1 D.u:=(hk.mono (fun _ _ e=>e.elim)).trans q1;refine⟨rfl,cells w1 (fun b t c q ht=>hkw.blk q (hub b t c q ht)),hkw,fun o g c hr hc=>?_,fun k hu=>q3 k hu ?_,q4⟩
   ·obtain⟨c2,a1,_,_,_,_,hc2⟩:=hpk o g c hr hc;obtain⟨c3,b1,b2,hc3⟩:=q2 o g c2 hr hc2;exact⟨c3,fun e=>(b1 e).trans a1,b2,hc3⟩
   ·rcases (h.us k hu).2.2 with⟨c,hc⟩|⟨n,DDk,hm⟩
    ·exact .inl ⟨c,hk.blk hc (by simp)⟩
    ·exact .inr ⟨n,DDk,ownsMap_same hm (hk.block k hm.lt (by simp))⟩
  ·obtain⟨q1,q2,q3,q4⟩:=hi;have hW1:Wds D w1 m.bk:=q2.wds hwr.wd q1.size;refine defEnd h hwr bb ib nb nm hnm a p l h1 h2 h3 hI hwb h30 hg (obs.getD k0 0) (fun k hk e=>by rw[hwr.nd k k0 hk hk0 (e.trans hp0.symm)]) (fun k hk e e2=>?_) w0 (q1.trans (hk.mono (fun _ _ e=>e.elim))) (fun o g c hr hc=>?_) (fun k hu=>?_) hidl hub' _ _ (fun i hi=>?_) (fun i hi e=>?_) (q4.kp hk)
   ·obtain⟨r1,_⟩:=hwr.cur k hk;rw[e2] at r1;have:=hwr.wd.fn _ _ _ r1 hr0;exact e ((congrArg Fr.name this).trans hp0)
   ·obtain⟨c2,a1,a2,hc2⟩:=q2 o g c hr hc;obtain⟨c3,b1,_,_,_,_,hc3⟩:=(hW1.kp hk).1 o g c2 hr hc2;exact⟨c3,fun e=>b1.trans (a1 e),fun e=>b1.trans (a2 e),hc3⟩
   ·rcases q3 k hu with⟨c,hc⟩|⟨n,DDk,hm⟩
    ·exact .inl ⟨c,hk.blk hc (by simp)⟩
    ·exact .inr ⟨n,DDk,ownsMap_same hm (hk.block k hm.lt (by simp))⟩
   ·show ((s.defs.getD k0 dd0).name∈(s.defs.getD i dd0).built\/i=k0)<->_;rw[getD_lt hk0,getD_lt hi,hp0];exact⟨fun e=>e.imp id (fun e=>by subst e;exact hp0),fun e=>e.imp id (fun e=>hwr.nd i k0 hi hk0 (e.trans hp0.symm))⟩
   ·have e:i=k0:=e;subst e;exact hp0
end
end
end Go.Proofs.YteainaiebcphlaaGreatDoor
