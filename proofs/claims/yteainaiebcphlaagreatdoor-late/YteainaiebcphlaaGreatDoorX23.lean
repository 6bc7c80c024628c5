import Derived.Test.YteainaiebcphlaaGreatDoorX22
import Derived.Test.YteainaiebcphlaaGreatDoorX19
import Derived.Handy
namespace Go.Proofs.YteainaiebcphlaaGreatDoor
set_option maxRecDepth 1000000
set_option maxHeartbeats 4000000
set_option linter.all false
section
open Go.RowKit
theorem ent_def:Ents 116:=ents_of Tryz.func116 (by kernel_rfl) (by kernel_rfl)
def newD (s:St) (t:Tok) (b:List It):Def:=⟨t,wrap64 (s.ids+1),b,0,false,[]⟩
def coolD (t:Tok) (d:Def):Def:=if d.fast=true/\d.built.any (· == t)=true then slowD d else d
theorem coolD_fr (t:Tok) (d:Def):frD (coolD t d)=frD d:=by unfold coolD;split <;> rfl
theorem coolD_name (t:Tok) (d:Def):(coolD t d).name=d.name:=by unfold coolD;split <;> rfl
theorem set_some {s:St} {t:Tok} {b:List It} {k:Nat} (h:s.defs.findIdx? (fun d=>d.name == t)=some k):(s.set t b).defs=(s.defs.map (coolD t)).set k (newD s t b):=by
 unfold St.set St.find;rw[h];rfl
theorem set_none {s:St} {t:Tok} {b:List It} (h:s.defs.findIdx? (fun d=>d.name == t)=none):(s.set t b).defs=s.defs.map (coolD t) ++ [newD s t b]:=by
 unfold St.set St.find;rw[h];rfl
theorem putObs_nb (defs:List Def) (obs:List Nat) (t:Tok) (ob:Nat):putObs (defs.map nbP) obs t ob=match defs.findIdx? (fun d=>d.name == t) with|some k=>obs.set k ob|none=>obs ++ [ob]:=by
 unfold putObs;rw[<-find_nb];cases defs.findIdx? (fun d=>d.name == t) <;> rfl
theorem set_at {s:St} {t:Tok} {b:List It} {obs:List Nat} {ob:Nat} (hl:obs.length=s.defs.length) (nd:∀ i j (hi:i < s.defs.length) (hj:j < s.defs.length),s.defs[i].name=s.defs[j].name->i=j):
  ∀ i (h:i < (s.set t b).defs.length),((s.set t b).defs[i]=newD s t b/\(putObs (s.defs.map nbP) obs t ob).getD i 0=ob/\(s.set t b).defs.findIdx? (fun d=>d.name == t)=some i/\∀ h':i < s.defs.length,s.defs[i].name=t)\/∃ h':i < s.defs.length,frD (s.set t b).defs[i]=frD s.defs[i]/\(putObs (s.defs.map nbP) obs t ob).getD i 0=obs.getD i 0/\¬ s.defs[i].name=t:=by
 intro i h;have hnew:((newD s t b).name == t)=true:=by show (t == t)=true;simp
 cases hf:s.defs.findIdx? (fun d=>d.name == t) with
 | some k=>
  have hs:=set_some (b:=b) hf;obtain⟨hk,hp,hbf⟩:=List.findIdx?_eq_some_iff_getElem.1 hf;have hp:s.defs[k].name=t:=beq_iff_eq.1 hp;have hi:i < s.defs.length:=by rw[hs] at h;simpa using h
  have hat:(s.set t b).defs[i]=((s.defs.map (coolD t)).set k (newD s t b))[i]'(by simpa using hi):=by simp only[hs]
  rw[hat,putObs_nb,hf];by_cases hik:k=i
  ·subst hik;refine .inl ⟨by simp,by simp[List.getD,hl,hk],?_,fun _=>hp⟩;rw[hs,List.findIdx?_eq_some_iff_getElem];refine⟨by simpa using hk,by simp[newD],fun j hj=>?_⟩;have hjl:j < s.defs.length:=by omega
   rw[List.getElem_set_ne (by omega)];simp only[List.getElem_map,coolD_name];exact hbf j hj
  ·refine .inr ⟨hi,by rw[List.getElem_set_ne hik];simp[coolD_fr],by simp[List.getD,List.getElem?_set_ne hik],fun e=>hik (nd k i hk hi (hp.trans e.symm))⟩
 | none=>
  have hs:=set_none (b:=b) hf;rw[List.findIdx?_eq_none_iff] at hf;have hlen:(s.set t b).defs.length=s.defs.length+1:=by rw[hs];simp
  have hat:(s.set t b).defs[i]=(s.defs.map (coolD t) ++ [newD s t b])[i]'(by simp;omega):=by simp only[hs]
  have hf0:s.defs.findIdx? (fun d=>d.name == t)=none:=by rw[List.findIdx?_eq_none_iff];exact hf
  rw[hat,putObs_nb,hf0];by_cases hi:i < s.defs.length
  ·refine .inr ⟨hi,by rw[List.getElem_append_left (by simpa using hi)];simp[coolD_fr],by simp[List.getD,List.getElem?_append,hl,hi],fun e=>?_⟩;have:=hf _ (List.getElem_mem hi);rw[e] at this;simp at this
  ·have hie:i=s.defs.length:=by omega
   subst hie;refine .inl ⟨by rw[List.getElem_append_right (by simp)];simp,by rw[<-hl];simp,?_,fun h'=>absurd h' (Nat.lt_irrefl _)⟩;rw[hs,List.findIdx?_append];have h1:(s.defs.map (coolD t)).findIdx? (fun d=>d.name == t)=none:=by
    rw[List.findIdx?_eq_none_iff];intro d hd;obtain⟨d0,hd0,rfl⟩:=List.mem_map.1 hd;rw[coolD_name];exact hf d0 hd0
   rw[h1,List.findIdx?_cons,hnew];simp
theorem set_len {s:St} {t:Tok} {b:List It}:s.defs.length<=(s.set t b).defs.length:=by
 cases hf:s.defs.findIdx? (fun d=>d.name == t) with
 | some k=>rw[set_some hf];simp
 | none=>rw[set_none hf];simp
theorem set_find {s:St} {t t':Tok} {b:List It} (h:¬ t'=t):(s.set t b).defs.findIdx? (fun d=>d.name == t')=s.defs.findIdx? (fun d=>d.name == t'):=by
 rw[find_nb,set_nb,putNB_find _ _ _ _ h,<-find_nb]
theorem set_know {s:St} {t t':Tok} {b:List It} (h:knowD s.defs t'):knowD (s.set t b).defs t':=by
 unfold knowD at h ⊢;by_cases e:t'=t
 ·subst e;rw[find_nb,set_nb];obtain⟨k,hk,_⟩:=putNB_same (s.defs.map nbP) (List.replicate (s.defs.map nbP).length 0) t' b 0 (by simp);rw[hk];rfl
 ·rw[set_find e];exact h
theorem set_new {s:St} {t:Tok} {b:List It}:knowD (s.set t b).defs t:=by
 unfold knowD;rw[find_nb,set_nb];obtain⟨k,hk,_⟩:=putNB_same (s.defs.map nbP) (List.replicate (s.defs.map nbP).length 0) t b 0 (by simp);rw[hk];rfl
theorem set_nd {s:St} {t:Tok} {b:List It} (nd:∀ i j (hi:i < s.defs.length) (hj:j < s.defs.length),s.defs[i].name=s.defs[j].name->i=j):∀ i j (hi:i < (s.set t b).defs.length) (hj:j < (s.set t b).defs.length),(s.set t b).defs[i].name=(s.set t b).defs[j].name->i=j:=by
 intro i j hi hj e;have ri:=set_at (t:=t) (b:=b) (obs:=List.replicate s.defs.length 0) (ob:=0) (by simp) nd i hi;have rj:=set_at (t:=t) (b:=b) (obs:=List.replicate s.defs.length 0) (ob:=0) (by simp) nd j hj;have nm:∀ k (hk:k < (s.set t b).defs.length),(s.set t b).defs[k]=newD s t b->(s.set t b).defs[k].name=t:=fun k hk q=>by rw[q];rfl
 rcases ri with⟨a1,a2,a3,-⟩|⟨h1,a1,a2,a3⟩
 ·rcases rj with⟨b1,b2,b3,-⟩|⟨h2,b1,b2,b3⟩
  ·rw[a3] at b3;injection b3
  ·have:=congrArg Fr.name b1;exact absurd (this.symm.trans (e.symm.trans (nm i hi a1))) b3
 ·rcases rj with⟨b1,b2,b3,-⟩|⟨h2,b1,b2,b3⟩
  ·have:=congrArg Fr.name a1;exact absurd (this.symm.trans (e.trans (nm j hj b1))) a3
  ·exact nd i j h1 h2 ((congrArg Fr.name a1).symm.trans (e.trans (congrArg Fr.name b1)))
def defG (D:GD) (n1 n2 ob hb:Nat) (f:Fr):GD:=⟨fun k=>D.d k\/(n1<=k/\k < n2/\k ≠ ob/\k ≠ hb),fun k=>D.u k\/(k=ob\/k=hb),fun o g=>D.r o g\/(o=ob/\g=f),fun k=>if k=hb then (ob,0) else D.tag k⟩
section
variable {D:GD} {w:World} {bk mb:Nat} {s:St} {obs:List Nat} {DD:DataW Value}
theorem WR.defined (h:WR D w bk mb s.defs obs DD) {w1 w2 w3:World} (nm:ByteArray) (hmu:¬ D.u mb) (old:Nat) (hold:∀ k (hk:k < s.defs.length),s.defs[k].name=nm.data.toList->obs.getD k 0=old) (hold2:∀ k (hk:k < s.defs.length),¬ s.defs[k].name=nm.data.toList->¬ obs.getD k 0=old) (hk1:Kp w w1 D.u) (hP:PresG D w w1 bk old) (hk2:Kp w1 w2 (fun _=>False)) (hk3:Kp w2 w3 (fun k=>k=mb)) (ob hb:Nat) (hob:w1.heap.size<=ob) (hhb:w1.heap.size<=hb) (hne:ob ≠ hb) (hns:nm.size<=1000) (iv sv:Value) (l:List It)
  (hblk:Blk w2 ob 111 (WC.arr ⟨nm,iv,sv,sv,false,0,false,none,some hb⟩)) (hmap:w2.ownsMap Tryz.prog 9 heldR hb 0 (.map [])) (hI:Items (BD D.d w) iv l) (hA:Acts (BD (fun k=>D.d k\/(w1.heap.size<=k/\k ≠ ob)) w2) (fun _ _=>False) bk ob sv l) (hwb:∃ G,wb (knowD s.defs) G false l) (DD3:DataW Value) (hmn:MN w3 mb ((s.set nm.data.toList l).defs.map nbP) (putObs (s.defs.map nbP) obs nm.data.toList ob) DD3):
  WR (defG D w1.heap.size w2.heap.size ob hb (frD (newD s nm.data.toList l))) w3 bk mb (s.set nm.data.toList l).defs (putObs (s.defs.map nbP) obs nm.data.toList ob) DD3:=by
 have hml:=h.mp.lt;have hs1:=hk1.size;have hs2:=hk2.size;have hs3:=hk3.size;have hlo:=hblk.lt;have hlh:=hmap.lt;have hmp1:w1.ownsMap Tryz.prog 9 heldR mb _ DD:=ownsMap_same h.mp (hk1.block mb hml hmu);have hmp2:w2.ownsMap Tryz.prog 9 heldR mb _ DD:=ownsMap_same hmp1 (hk2.block mb (by omega) (by simp));have hk13:Kp w1 w3 (fun k=>k=mb):=(hk2.mono (fun _ _ e=>e.elim)).trans hk3;have hbd1:∀ k t c,BD D.d w1 k t c->BD (defG D w1.heap.size w2.heap.size ob hb (frD (newD s nm.data.toList l))).d w3 k t c:=fun k t c q=>⟨.inl q.1,hk13.blk q.2 (fun e=>map_ne hmp1 q.2 (show k=mb from e).symm)⟩;have hbd:∀ k t c,BD D.d w k t c->BD (defG D w1.heap.size w2.heap.size ob hb (frD (newD s nm.data.toList l))).d w3 k t c:=fun k t c q=>hbd1 k t c ⟨q.1,hk1.blk q.2 (fun e=>h.wd.ud k e q.1)⟩;have hgl:GLe D (defG D w1.heap.size w2.heap.size ob hb (frD (newD s nm.data.toList l))) w1:=⟨fun _ q=>.inl q,fun _ _ q=>.inl q,fun k hk=>by show (if k=hb then _ else _)=_;rw[if_neg (by omega)]⟩;have hfr:∀ o f c,WordC D w1 bk o f c->WordC (defG D w1.heap.size w2.heap.size ob hb (frD (newD s nm.data.toList l))) w3 bk o f c:=fun o f c hc=>hc.frame hk13 hgl hbd1 (fun e=>map_ne hmp1 hc.blk (show o=mb from e).symm) (fun b hb e=>hmu ((show b=mb from e) ▸ (hc.pm b hb).1)) (fun b hb e=>hmu ((show b=mb from e) ▸ (hc.wm b hb).1));have hnew:WordC (defG D w1.heap.size w2.heap.size ob hb (frD (newD s nm.data.toList l))) w3 bk ob (frD (newD s nm.data.toList l)) ⟨nm,iv,sv,sv,false,0,false,none,some hb⟩:=by
  have hAA:=hA.mono (M':=BD (defG D w1.heap.size w2.heap.size ob hb (frD (newD s nm.data.toList l))).d w3) (R':=(defG D w1.heap.size w2.heap.size ob hb (frD (newD s nm.data.toList l))).r) (fun k t c q=>by
   refine⟨q.1.imp id (fun r=>⟨r.1,q.2.lt,r.2,fun e=>map_ne hmap q.2 e.symm⟩),hk3.blk q.2 (fun e=>map_ne hmp2 q.2 (show k=mb from e).symm)⟩) (fun _ _ q=>q.elim)
  refine⟨hk3.blk hblk (fun e=>by have e:ob=mb:=e;omega),rfl,hns,hI.mono hbd,hAA,hAA,(fun b e=>by cases e),fun b e=>?_,fun _=>rfl,.inr (.inl rfl),?_⟩
  ·injection e with e;subst e;exact⟨.inr (.inr rfl),by show (if hb=hb then _ else _)=_;rw[if_pos rfl],.map [],⟨0,ownsMap_same hmap (hk3.block hb hlh (fun e=>by have e:hb=mb:=e;omega))⟩,fun kl hkl=>by cases hkl⟩
  ·obtain⟨G,hG⟩:=hwb;exact⟨G,wb_known (fun _ _=>trivial) _ _ _ hG⟩
 have hlto:∀ o f,D.r o f->o < w.heap.size:=fun o f hr=>by obtain⟨c,hc⟩:=h.wd.ok o f hr;exact hc.blk.lt
 have hwd:Wds (defG D w1.heap.size w2.heap.size ob hb (frD (newD s nm.data.toList l))) w3 bk:=by
  refine⟨fun o f hr=>?_,fun o f f' hr hr'=>?_,fun k hu hd=>?_,fun k hu=>?_,fun k hd=>?_⟩
  ·rcases hr with hr|⟨rfl,rfl⟩
   ·obtain⟨c,hc⟩:=h.wd.ok o f hr;obtain⟨c',_,_,hc'⟩:=hP o f c hr hc;exact⟨c',hfr o f c' hc'⟩
   ·exact⟨_,hnew⟩
  ·rcases hr with hr|⟨e1,e2⟩
   ·rcases hr' with hr' | ⟨e1,e2⟩
    ·exact h.wd.fn o f f' hr hr'
    ·have:=hlto o f hr;omega
   ·rcases hr' with hr' | ⟨e3,e4⟩
    ·have:=hlto o f' hr';omega
    ·rw[e2,e4]
  ·rcases hu with hu|hu
   ·rcases hd with hd|hd
    ·exact h.wd.ud k hu hd
    ·have:=h.wd.lt k hu;omega
   ·rcases hd with hd|hd
    ·have:=h.wd.dl k hd;omega
    ·rcases hu with hu|hu
     ·exact hd.2.2.1 hu
     ·exact hd.2.2.2 hu
  ·rcases hu with hu|hu|hu
   ·have:=h.wd.lt k hu;omega
   ·omega
   ·omega
  ·rcases hd with hd|hd
   ·have:=h.wd.dl k hd;omega
   ·omega
 have hat:=set_at (s:=s) (t:=nm.data.toList) (b:=l) (obs:=obs) (ob:=ob) h.ol h.nd;refine⟨by have:=hmn.ol;simpa using this,by have:=hmn.mp;simpa using this,by have:=hmn.sz;simpa using this,fun t ht=>by rw[find_nb];exact hmn.hs t ht,by have:=hmn.l30;simpa using this,fun t ht=>by rw[find_nb];exact hmn.lk t ht,set_nd h.nd,hwd,fun i hi=>?_,fun o f hr=>?_⟩
 ·rcases hat i hi with⟨q1,q2,q3,-⟩|⟨hi',q1,q2,q3⟩
  ·rw[q1,q2];obtain⟨G,hG⟩:=hwb;exact⟨.inr ⟨rfl,rfl⟩,⟨_,hnew,rfl⟩,G,wb_known (fun t ht=>set_know ht) _ _ _ hG⟩
  ·obtain⟨r1,⟨c,r2,r3⟩,G,r4⟩:=h.cur i hi';obtain⟨c',a1,_,hc'⟩:=hP _ _ c r1 r2;have hbq:(s.set nm.data.toList l).defs[i].body=s.defs[i].body:=congrArg Fr.body q1;rw[q1,q2,hbq];exact⟨.inl r1,⟨c',hfr _ _ _ hc',(a1 (hold2 i hi' q3)).trans r3⟩,G,wb_known (fun t ht=>set_know ht) _ _ _ r4⟩
 ·rcases hr with hr|⟨rfl,rfl⟩
  ·obtain⟨hkn,hq⟩:=h.reg o f hr;refine⟨set_know hkn,?_⟩;rcases hq with⟨k,hk,hfi,ho,hf⟩|⟨c,hc,hgn⟩
   ·by_cases hnt:s.defs[k].name=nm.data.toList
    ·obtain⟨c,hc⟩:=h.wd.ok o f hr;obtain⟨c',_,a2,hc'⟩:=hP o f c hr hc;exact .inr ⟨c',hfr _ _ _ hc',a2 (by rw[<-ho];exact hold k hk hnt)⟩
    ·have hk':k < (s.set nm.data.toList l).defs.length:=Nat.lt_of_lt_of_le hk set_len;rcases hat k hk' with⟨_,_,_,q4⟩|⟨_,q1,q2,q3⟩
     ·exact absurd (q4 hk) hnt
     ·have hfn:f.name=s.defs[k].name:=by rw[hf]
      exact .inl ⟨k,hk',by rw[set_find (by rw[hfn];exact hnt)];exact hfi,by rw[q2];exact ho,by rw[q1];exact hf⟩
   ·obtain⟨c',a1,a2,hc'⟩:=hP o f c hr hc;refine .inr ⟨c',hfr _ _ _ hc',?_⟩;by_cases e:o=old
    ·exact a2 e
    ·exact (a1 e).trans hgn
  ·have hkn:knowD (s.set nm.data.toList l).defs nm.data.toList:=set_new;refine⟨hkn,.inl ?_⟩;unfold knowD at hkn
   cases hfi:(s.set nm.data.toList l).defs.findIdx? (fun d=>d.name == nm.data.toList) with
   | none=>rw[hfi] at hkn;cases hkn
   | some i=>
    obtain⟨hi,hp,_⟩:=List.findIdx?_eq_some_iff_getElem.1 hfi;rcases hat i hi with⟨q1,q2,_,_⟩|⟨hi',q1,q2,q3⟩
    ·exact⟨i,hi,hfi,q2,by rw[q1]⟩
    ·exact absurd ((congrArg Fr.name q1).symm.trans (beq_iff_eq.1 hp)) q3
end
end
section
open Go.RowKit
section
variable {D:GD} {w:World} {bk ob:Nat} {f:Fr}
theorem retireK (hW:Wds D w bk) (hr:D.r ob f) {c:WC} (hc:WordC D w bk ob f c) (hgn:c.gn=false):
  Calls Tryz.prog 117 #[pt ob] w fun e w'=>e=.returned (.tuple #[])/\Kp w w' D.u/\PresG D w w' bk ob/\∀ k,D.u k->KindU w k->KindU w' k:=by
 obtain⟨hpg,hkg,hcg⟩:=goneC hW hr hc;obtain⟨W1,hW1⟩:∃ W1,W1=(w.setCell ⟨ob,6,none⟩ (.bool true)).setCell ⟨ob,8,none⟩ (.map none):=⟨_,rfl⟩;rw[<-hW1] at hpg hkg hcg;have hWd:=hpg.wds hW hkg.size;have hsz1:W1.heap.size=w.heap.size:=by rw[hW1];simp
 obtain⟨hb,hwm⟩:∃ hb,c.wm=some hb:=Option.isSome_iff_exists.1 (hc.wn hgn);obtain⟨hbu,hbt,DD,⟨⟨n,hown⟩,hE⟩⟩:=hc.wm hb hwm;have hne:=map_ne hown hc.blk;have hown1:W1.ownsMap Tryz.prog 9 heldR hb n DD:=ownsMap_same hown (hkg.block hb hown.lt hne);have hnf:¬ FU D W1 bk hb:=by
  rintro (⟨g,h⟩|⟨o,g,c2,h,hc2,hm⟩)
  ·obtain⟨c2,hc2⟩:=hWd.ok hb g h;exact map_ne hown1 hc2.blk rfl
  ·obtain⟨_,q,_⟩:=hc2.wm hb hm;rw[hbt] at q;injection q with q;subst q;have:=hWd.fn ob g f h hr;subst this;have:=hc2.inj hcg;subst this
   cases hm
 have c6:w.cell? ⟨ob,6,none⟩=some (.bool c.gn):=hc.blk.cell rfl;have c8:w.cell? ⟨ob,8,none⟩=some (.map (some hb)):=by rw[<-hwm];exact hc.blk.cell rfl
 have g6:=hc.blk.free 6;have g8:=hc.blk.free 8;have HKU:Hid (∀ k,D.u k->KindU w k->KindU W1 k):=fun k hu hq=>by
  by_cases e:k=ob
  ·rw[e];exact .inl ⟨_,hcg.blk⟩
  ·rcases hq with⟨c,hc⟩|⟨n,DD,hm⟩
   ·exact .inl ⟨c,hkg.blk hc e⟩
   ·exact .inr ⟨n,DD,ownsMap_same hm (hkg.block k hm.lt e)⟩
 have HW:=hide hW;have HWd:=hide hWd;have HPG:=hide hpg;have HKG:=hide hkg;have HE:=hide hE;have HU:Hid (∀ k,k=ob->D.u k):=fun k e=>by rw[e];exact hc.u
 have HNF:=hide hnf;have HC7:=hide (coolM (w:=W1) hWd hr);clear hW hWd hpg hkg hE hc hcg hgn hwm hnf HC7;go_enter Tryz.func117,Tryz.ntmps117
 go_wp2_with (first
  | (at_range;(rw[<-hW1]);refine wpList_range_own _ rfl _ 104 rfl 9 107 (Maps.string_keyed Tryz.underlying9) Tryz.underlying104 _ hb n _ rfl hown1 ?_;intro w0 hrg0 hg0 hs0)
  | go_in)
 go_frame
 rw[hsz1] at hrg0 hs0 ⊢
 go_loopw [4] (fun _ wr=>∃ left cnt,RetAt D bk ob hb w.heap.size n DD w W1 wr left cnt) (fun _ wr=>wr.rangeLeft hb w.heap.size)
 case atStart=>
  have hk0:Kp W1 w0 (fun _=>False):=(Kp.refl W1 _).grown hg0 (fun k _ e=>by cases e);exact⟨_,_,⟨hrg0,fun _ h=>h,hk0.mono (fun _ _ e=>e.elim),(HWd.out.kp hk0).1⟩⟩
 case round=>
  obtain⟨left,cnt,hat0⟩:=hrel;have hWr:=HWd.out.next hat0.kp.size hat0.pr;have hrg:=hat0.rg
  go_wp2_with (first
   | (at_next;refine wpList_next_ranges _ rfl _ rfl 9 (Maps.string_keyed Tryz.underlying9) heldR Value.string (fun v:Value=>v) (fun key kl h=>(keyStr_inv h).imp (fun _ q=>q.1)) (fun v _ _=>⟨v,rfl⟩) hb w.heap.size n _ _ _ rfl hrg ?_ ?_)
   | go_in)
  ·intro hc0 hl0;have HC:=hide (coolM (w:=wr) hWr hr);have HAT:=hide hat0;have HWr:=hide hWr;clear hat0 hWr hrg hc0 hl0 hg0 hs0 hrg0 hown hown1
   go_wp2_with fail
   refine HC.out.mono ?_;rintro e w5 ⟨rfl,hk5,hp5⟩;have HP:Hid (PresG D w w5 bk ob):=HPG.out.then (HAT.out.pr.trans (fun _ _ h=>h) hp5);have HK:Hid (Kp w w5 D.u):=by
    have h1:Kp W1 w5 D.u:=(HAT.out.kp.mono (fun k _ e=>e.u HWd.out)).trans (hk5.mono (fun k _ e=>e.u HWr.out));exact (HKG.out.mono (fun k _ e=>HU.out k e)).trans h1
   have HKK:Hid (∀ k,D.u k->KindU w k->KindU w5 k):=fun k hu hq=>kindU HWd.out (HAT.out.kp.trans (hk5.mono (fun k _ e=>e.back HWd.out HAT.out.pr))) (HAT.out.pr.trans (fun _ _ h=>h) hp5) hu (HKU.out k hu hq);clear hk5 hp5 HC HAT HWr;go_wp2;refine bodyPost_end (results_none rfl _ _ _) rfl ?_;exact⟨rfl,HK.out,HP.out,HKK.out⟩
  ·intro x v kl yd yp w1 cnt1 hkey hlk hv hat hrg1 hlt hg1 hs1 hen;obtain⟨o2,f2,rfl,hr2,hat2⟩:=HE.out kl (hat0.sub kl hlk);have hvv:v=pt o2:=by
    have h1:=hat (.held (.pointer none));rw[hat2] at h1;have h2:some (DataW.held v,[])=some (yd,yp):=hv;have h3:DataW.held v=yd:=congrArg Prod.fst (Option.some.inj h2);have h4:DataW.held (pt o2)=yd:=h1;rw[<-h3] at h4;exact (DataW.held.inj h4).symm
   subst hvv;have hrn:w.heap.size < wr.heap.size:=hrg.lt;have hk1:Kp wr w1 (fun k=>k=w.heap.size):=(Kp.refl wr _).grown hg1 (fun k _ e=>(Option.some.inj e).symm);have hnu:∀ k,D.u k->¬ k=w.heap.size:=fun k hk e=>by have:=HWd.out.lt k hk;omega
   obtain⟨hp1,hWd1⟩:=hWr.out hk1 hnu (fun k hd e=>by have:=HWd.out.dl k hd;omega);have hpa:=hat0.pr.trans (fun _ _ h=>h) hp1;have hka:Kp W1 w1 (FU D W1 bk):=((hat0.kp.mono (T:=fun k=>FU D W1 bk k\/k=w.heap.size) (fun _ _ e=>.inl e)).trans (hk1.mono (fun _ _ e=>.inr e))).mono (fun k hk e=>e.elim id (fun e=>by omega));have HC:=hide (coolM (w:=w1) hWd1 hr2);have HN:Hid (∀ w2,Kp w1 w2 (FU D w1 bk)->Pres D D w1 w2 bk->RetAt D bk ob hb w.heap.size n DD w W1 w2 (fun z=>left z && !z.sameKey (.string f2.name)) cnt1):=by
    intro w2 hk2 hp2;have hk2':=hk2.mono (fun k _ e=>FU.back HWd.out hpa e);have hbl:=HWd.out.lt hb hbu;have hs2:=hk1.size;refine⟨ranges_same hrg1 (hk2'.block hb (by omega) HNF.out) (hk2'.block w.heap.size (by omega) (fun e=>by have:=HWd.out.lt _ (e.u HWd.out);omega)),fun k hk=>hat0.sub k (by simp at hk;exact hk.1),hka.trans hk2',hpa.trans (fun _ _ h=>h) hp2⟩
   have hcn0:=hrg.left_eq;clear hat0 hWr hrg hrg1 hg1 hs1 hat hat2 hv hkey hlk hk1 hnu hp1 hWd1 hpa hka
   go_wp2_with fail
   refine HC.out.mono ?_;rintro e w2 ⟨rfl,hk2,hp2⟩;have hN:=HN.out w2 hk2 hp2;have HNN:=hide hN;have hcnt:=hN.rg.left_eq;clear hN hk2 hp2 HN HC;go_wp2
   go_roundw
   case rel=>exact⟨_,_,HNN.out⟩
   case measure=>rw[hcnt,hcn0];exact hlt
end
end
section
open Go.RowKit
section
variable {B:Nat} {W w w':World} {xb rb mb:Nat} {m:MS} {D D':GD} {s:St}
theorem PR.redef {s':St} (h:PR B W w xb rb mb m D s) (hk:Kp w w' (fun k=>D.u k\/k=mb)) (hwords:WordsR D' w' m.bk mb s'.defs) (hss:s'={ s with defs:=s'.defs,ids:=s'.ids }) (hr2:∀ o f,D.r o f->D'.r o f) (hd:∀ k,D.d k->D'.d k) (hd2:∀ k,D'.d k->D.d k\/(w.heap.size<=k/\k < w'.heap.size)) (hu2:∀ k,D'.u k->D.u k\/w.heap.size<=k) (hus:∀ k,D'.u k->KindU w' k) (hg:SGood s'):
  PR B W w' xb rb mb m D' s'/\PTo xb rb mb w w' m m D D':=by
 obtain⟨ns,hi,hn⟩:=h.inv;have hs:=h.safe;have hsz:=hk.size;have hsb:=hs.bs;have hml:=h.words.ltm;have hub:∀ b t c,Blk w b t c->t ≠ 111->¬ (D.u b\/b=mb):=fun b t c hb ht e=>e.elim (fun e=>h.une e hb ht rfl) (fun e=>h.words.ne hb e.symm);have e1:s'.e=s.e:=by rw[hss]
 have e2:s'.rs=s.rs:=by rw[hss]
 refine⟨⟨⟨ns,⟨hk.blk hi.xblk (hub _ _ _ hi.xblk (by decide)),hk.blk hi.rblk (hub _ _ _ hi.rblk (by decide)),hk.row hi.srow (fun k e e2=>by obtain⟨c,hc⟩:=row_blk hi.srow e;exact hub _ _ _ hc (by decide) e2),hk.row hi.orow (fun k e e2=>by obtain⟨c,hc⟩:=row_blk hi.orow e;exact hub _ _ _ hc (by decide) e2),hi.len⟩,by rw[e1,e2];exact hn⟩,by rw[hss];exact h.mem,by rw[hss];exact h.out,h.st0,h.st1,by rw[hss];exact h.st,by rw[hss];exact h.dp,⟨hs.bel.trans (hk.below hs.bs (fun k hk2 e=>by
   rcases e with e|e
   ·have:=(h.us k e).1;omega
   ·have:=h.bmb;omega)),hs.bx,hs.br,hs.bv,Nat.le_trans hs.bs hsz⟩,h.bmb,by rw[hss];exact hk.blk h.book (hub _ _ _ h.book (by decide)),hwords,fun k hk2=>?_,fun k hk2=>?_,hg⟩,⟨⟨hk.mono (fun k _ e=>e.elim (fun e=>.inr (.inr e)) (fun e=>.inl (.inr e))),fun k hk2=>?_⟩,hd,fun k hk2=>(hd2 k hk2).imp id (fun q=>q.1),hr2,rfl⟩⟩
 ·rcases hd2 k hk2 with q|⟨q,q2⟩
  ·obtain⟨e0,e1⟩:=h.sep k q;exact⟨by omega,e1⟩
  ·refine⟨q2,?_,?_,fun e=>?_,fun e=>?_⟩
   ·have:=hi.xblk.lt;omega
   ·have:=hi.rblk.lt;omega
   ·have:=own_lt hi.srow e;omega
   ·have:=own_lt hi.orow e;omega
 ·rcases hu2 k hk2 with q|q
  ·exact⟨(h.us k q).1,(h.us k q).2.1,hus k hk2⟩
  ·exact⟨by omega,by omega,hus k hk2⟩
 ·rcases hk2 with e|e
  ·exact .inl (.inl e)
  ·rcases hu2 k e with q|q
   ·exact .inl (.inr q)
   ·exact .inr q
end
section
variable {B:Nat} {W w:World} {xb rb mb:Nat} {m:MS} {D:GD} {s:St}
theorem defEnd (h:PR B W w xb rb mb m D s) {obs:List Nat} {DD:DataW Value} (hwr:WR D w m.bk mb s.defs obs DD) (bb ib nb:Nat) (nm:ByteArray) (hnm:nm.size<=1000) (a:Option Addr) (p:Nat) (l:List It) (h1:Blk w bb 78 #[pt m.bk]) (h2:Blk w ib 108 #[.slice a l.length p]) (h3:Blk w nb 9 #[.string nm]) (hI:Items (BD D.d w) (.slice a l.length p) l) (hwb:∃ G,wb (knowD s.defs) G false l)
  (h30:s.known nm.data.toList=true\/s.defs.length < 30) (hg:SGood (s.set nm.data.toList l)) (old:Nat) (hold:∀ k (hk:k < s.defs.length),s.defs[k].name=nm.data.toList->obs.getD k 0=old) (hold2:∀ k (hk:k < s.defs.length),¬ s.defs[k].name=nm.data.toList->¬ obs.getD k 0=old)
  (w1:World) (hk1:Kp w w1 D.u) (hP:PresG D w w1 m.bk old) (hus1:∀ k,D.u k->KindU w1 k):DefF bb ib nb m.bk mb nm a l.length p w1 (PPost B W xb rb mb w m D (s.set nm.data.toList l)):=by
 have hmu:¬ D.u mb:=fun e=>(h.us mb e).2.1 rfl;have hml:=hwr.mp.lt;have hs1:=hk1.size;have hub:∀ b t c,Blk w b t c->t ≠ 111->¬ D.u b:=fun b t c hb ht e=>h.une e hb ht rfl;have cells:∀ w',(∀ b t c,Blk w b t c->t ≠ 111->Blk w' b t c)->DefS bb ib nb m.bk mb nm (.slice a l.length p) w':=fun w' hk=>⟨(hk _ _ _ h1 (by decide)).cell rfl,(hk _ _ _ h2 (by decide)).cell rfl,(hk _ _ _ h3 (by decide)).cell rfl,(hk _ _ _ h.book (by decide)).cell rfl⟩;have hb1:∀ b t c,Blk w b t c->t ≠ 111->Blk w1 b t c:=fun b t c hb ht=>hk1.blk hb (hub b t c hb ht);have hI1:Items (BD D.d w1) (.slice a l.length p) l:=hI.mono (fun b t c q=>⟨q.1,hk1.blk q.2 (fun e=>hwr.wd.ud b e q.1)⟩);refine (forgeM (fun _ _=>False) w1 D.d m.bk nm _ l hI1 (by obtain⟨G,hG⟩:=hwb;exact⟨G,wb_known (fun _ _=>trivial) _ _ _ hG⟩)).mono ?_;rintro e w2 ⟨ob,hb,sv,rfl,hk2,hob,hhb,hne,hblk,hmap,hA⟩;have hs2:=hk2.size;have hmm1:w1.heap[mb]? = w.heap[mb]?:=hk1.block mb hml hmu;have hmm2:w2.heap[mb]? = w.heap[mb]?:=(hk2.block mb (by omega) (by simp)).trans hmm1;obtain⟨w3,DD3,hrun,hgr,hmn⟩:=(hwr.mn.same hmm2).put nm hnm l ob (by
  rcases h30 with q|q
  ·left;rw[<-find_nb];exact q
  ·right;simpa using q)
 rw[<-set_nb] at hmn;have hk3:Kp w2 w3 (fun k=>k=mb):=(Kp.refl w2 _).grown hgr (fun k _ e=>(Option.some.inj e).symm);have hs3:=hk3.size;have hmp2:w2.ownsMap Tryz.prog 9 heldR mb _ DD:=ownsMap_same hwr.mp hmm2;have hb3:∀ b t c,Blk w2 b t c->Blk w3 b t c:=fun b t c q=>hk3.blk q (fun e=>map_ne hmp2 q (show b=mb from e).symm);refine⟨ob,w3,rfl,cells w2 (fun b t c q ht=>hk2.blk (hb1 b t c q ht) (by simp)),cells w3 (fun b t c q ht=>hb3 b t c (hk2.blk (hb1 b t c q ht) (by simp))),hrun,?_⟩;have hW3:=hwr.defined nm hmu old hold hold2 hk1 hP hk2 hk3 ob hb hob hhb hne hnm _ sv l hblk hmap hI hA hwb DD3 hmn;have hkT:Kp w w3 (fun k=>D.u k\/k=mb):=((hk1.mono (fun _ _ e=>.inl e)).trans (hk2.mono (fun _ _ e=>e.elim))).trans (hk3.mono (fun _ _ e=>.inr e));have hlo:=hblk.lt;have hlh:=hmap.lt;have hkind:∀ k,(defG D w1.heap.size w2.heap.size ob hb (frD (newD s nm.data.toList l))).u k->KindU w3 k:=fun k q=>by
  have hmv:∀ k,k < w2.heap.size->k ≠ mb->KindU w2 k->KindU w3 k:=fun k hk hkm hq=>by
   rcases hq with⟨c,hc⟩|⟨n,DDk,hm⟩
   ·exact .inl ⟨c,hb3 _ _ _ hc⟩
   ·exact .inr ⟨n,DDk,ownsMap_same hm (hk3.block k hk hkm)⟩
  rcases q with q|q|q
  ·have hkl:=hwr.wd.lt k q;refine hmv k (by omega) (h.us k q).2.1 ?_;rcases hus1 k q with⟨c,hc⟩|⟨n,DDk,hm⟩
   ·exact .inl ⟨c,hk2.blk hc (by simp)⟩
   ·exact .inr ⟨n,DDk,ownsMap_same hm (hk2.block k (by omega) (by simp))⟩
  ·rw[q];exact hmv ob hlo (by omega) (.inl ⟨_,hblk⟩)
  ·rw[q];exact hmv hb hlh (by omega) (.inr ⟨_,_,hmap⟩)
 obtain⟨r1,r2⟩:=h.redef (s':=s.set nm.data.toList l) hkT ⟨_,_,hW3⟩ rfl (fun _ _ q=>.inl q) (fun _ q=>.inl q) (fun k q=>q.imp id (fun q=>by omega)) (fun k q=>q.imp id (fun q=>by rcases q with q|q <;> omega)) hkind hg
 exact⟨m,_,r1,r2⟩
theorem defP (h:PR B W w xb rb mb m D s) (bb ib nb:Nat) (nm:ByteArray) (hnm:nm.size<=1000) (iv:Value) (l:List It) (h1:Blk w bb 78 #[pt m.bk]) (h2:Blk w ib 108 #[iv]) (h3:Blk w nb 9 #[.string nm]) (hI:Items (BD D.d w) iv l) (hwb:∃ G,wb (knowD s.defs) G false l)
  (h30:s.known nm.data.toList=true\/s.defs.length < 30) (hg:SGood (s.set nm.data.toList l)):
  CallsV (.func (.func 116) #[] #[pt bb,pt nb,pt ib]) (pt rb) w fun e w'=>e=.returned (.int .i64 0)/\PPost B W xb rb mb w m D (s.set nm.data.toList l) w':=by
 refine⟨_,_,_,rfl,ent_def,?_⟩;show Calls Tryz.prog 116 #[pt rb,pt bb,pt nb,pt ib] w _;obtain⟨xs,hrow,-⟩:=hI.out;obtain⟨a,p,rfl⟩:=hrow.form;obtain⟨obs,DD,hwr⟩:=h.words;have hml:=hwr.mp.lt;have hmu:¬ D.u mb:=fun e=>(h.us mb e).2.1 rfl;have hub:∀ b t c,Blk w b t c->t ≠ 111->¬ D.u b:=fun b t c hb ht e=>h.une e hb ht rfl;have cells:∀ w',(∀ b t c,Blk w b t c->t ≠ 111->Blk w' b t c)->DefS bb ib nb m.bk mb nm (.slice a l.length p) w':=fun w' hk=>⟨(hk _ _ _ h1 (by decide)).cell rfl,(hk _ _ _ h2 (by decide)).cell rfl,(hk _ _ _ h3 (by decide)).cell rfl,(hk _ _ _ h.book (by decide)).cell rfl⟩;have hsz:nm.size<=maxLen:=Nat.le_trans hnm (by decide);have hl:=hwr.lk nm.data.toList hsz;have hlt:∀ k (hk:k < s.defs.length),obs.getD k 0 < w.heap.size:=fun k hk=>by obtain⟨_,⟨c,hc,_⟩,_⟩:=hwr.cur k hk;exact hc.blk.lt
 cases hf:s.defs.findIdx? (fun d=>d.name == nm.data.toList) with
 | none=>
  rw[hf] at hl;have hnone:=hf;rw[List.findIdx?_eq_none_iff] at hnone;refine defFnNew w rb bb ib nb m.bk mb nm a l.length p _ (cells w (fun _ _ _ h _=>h)) (fun w0 hk=>look_run (ownsMap_same hwr.mp (hk.block mb hml (by simp))) nm hsz hl) (fun w0 hk=>cells w0 (fun b t c q _=>hk.blk q (by simp))) (fun w0 hk=>?_);have hP:PresG D w w0 m.bk w.heap.size:=fun o g c hr hc=>by
   obtain⟨c',e1,_,_,_,_,hc'⟩:=(hwr.wd.kp hk).1 o g c hr hc;exact⟨c',fun _=>e1,fun e=>by have:=hc.blk.lt;omega,hc'⟩
  exact defEnd h hwr bb ib nb nm hnm a p l h1 h2 h3 hI hwb h30 hg w.heap.size (fun k hk e=>by have:=hnone _ (List.getElem_mem hk);rw[e] at this;simp at this) (fun k hk _ e=>by have:=hlt k hk;omega) w0 (hk.mono (fun _ _ e=>e.elim)) hP (fun k hu=>by
   rcases (h.us k hu).2.2 with⟨c,hc⟩|⟨n,DDk,hm⟩
   ·exact .inl ⟨c,hk.blk hc (by simp)⟩
   ·exact .inr ⟨n,DDk,ownsMap_same hm (hk.block k hm.lt (by simp))⟩)
 | some k0=>
  rw[hf] at hl;obtain⟨hk0,hp0,_⟩:=List.findIdx?_eq_some_iff_getElem.1 hf;have hp0:s.defs[k0].name=nm.data.toList:=beq_iff_eq.1 hp0;obtain⟨hr0,⟨c0,hc0,hg0⟩,_⟩:=hwr.cur k0 hk0;refine defFnOld w rb bb ib nb m.bk mb (obs.getD k0 0) nm a l.length p _ (fun w1=>Kp w w1 D.u/\PresG D w w1 m.bk (obs.getD k0 0)/\∀ k,D.u k->KindU w1 k) (cells w (fun _ _ _ h _=>h)) (fun w0 hk=>look_run (ownsMap_same hwr.mp (hk.block mb hml (by simp))) nm hsz hl) (fun w0 hk=>?_) (fun w1 hi w0 hk=>?_)
  ·obtain⟨hpk,hwk⟩:=hwr.wd.kp hk;obtain⟨c1,e1,_,_,_,_,hc1⟩:=hpk _ _ c0 hr0 hc0;refine (retireK hwk hr0 hc1 (e1.trans hg0)).mono ?_;rintro e w1 ⟨rfl,q1,q2,q3⟩;have hkw:Kp w w1 D.u:=(hk.mono (fun _ _ e=>e.elim)).trans q1;refine⟨rfl,cells w1 (fun b t c q ht=>hkw.blk q (hub b t c q ht)),hkw,fun o g c hr hc=>?_,fun k hu=>q3 k hu ?_⟩
   ·obtain⟨c2,a1,_,_,_,_,hc2⟩:=hpk o g c hr hc;obtain⟨c3,b1,b2,hc3⟩:=q2 o g c2 hr hc2;exact⟨c3,fun e=>(b1 e).trans a1,b2,hc3⟩
   ·rcases (h.us k hu).2.2 with⟨c,hc⟩|⟨n,DDk,hm⟩
    ·exact .inl ⟨c,hk.blk hc (by simp)⟩
    ·exact .inr ⟨n,DDk,ownsMap_same hm (hk.block k hm.lt (by simp))⟩
  ·obtain⟨q1,q2,q3⟩:=hi;have hW1:Wds D w1 m.bk:=q2.wds hwr.wd q1.size;refine defEnd h hwr bb ib nb nm hnm a p l h1 h2 h3 hI hwb h30 hg (obs.getD k0 0) (fun k hk e=>by rw[hwr.nd k k0 hk hk0 (e.trans hp0.symm)]) (fun k hk e e2=>?_) w0 (q1.trans (hk.mono (fun _ _ e=>e.elim))) (fun o g c hr hc=>?_) (fun k hu=>?_)
   ·obtain⟨r1,_⟩:=hwr.cur k hk;rw[e2] at r1;have:=hwr.wd.fn _ _ _ r1 hr0;exact e ((congrArg Fr.name this).trans hp0)
   ·obtain⟨c2,a1,a2,hc2⟩:=q2 o g c hr hc;obtain⟨c3,b1,_,_,_,_,hc3⟩:=(hW1.kp hk).1 o g c2 hr hc2;exact⟨c3,fun e=>b1.trans (a1 e),fun e=>b1.trans (a2 e),hc3⟩
   ·rcases q3 k hu with⟨c,hc⟩|⟨n,DDk,hm⟩
    ·exact .inl ⟨c,hk.blk hc (by simp)⟩
    ·exact .inr ⟨n,DDk,ownsMap_same hm (hk.block k hm.lt (by simp))⟩
end
end
end Go.Proofs.YteainaiebcphlaaGreatDoor
