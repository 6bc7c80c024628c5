import Derived.Test.YteainaiebcphlaaGreatDoorQ26
import Derived.Test.YteainaiebcphlaaGreatDoorQ27
import Derived.Handy
namespace Go.Proofs.YteainaiebcphlaaGreatDoor
set_option maxRecDepth 1000000
set_option maxHeartbeats 4000000
set_option linter.all false
open Go.Proofs.Tryz
section
open Go.RowKit
theorem VV {x y:ByteArray}(h:x.data.toList=y.data.toList):x=y:=by
 obtain⟨⟨l⟩⟩:=x;obtain⟨⟨l'⟩⟩:=y;have h:l=l':=h;subst h;rfl
theorem vg {ay:List Def}{t:Tok}:fY ay t<->t∈ay.map Def.name:=by
 unfold fY
 constructor
 ·intro h
  cases hf:ay.findIdx? (λd=>d.name==t) with
  | none=>rw[hf] at h;cases h
  | some k=>
   obtain⟨hk,hp,_⟩:=List.findIdx?_eq_some_iff_getElem.1 hf;exact List.mem_map.2 ⟨ay[k],List.getElem_mem hk,beq_iff_eq.1 hp⟩
 ·intro h;obtain⟨d,hd,e⟩:=List.mem_map.1 h
  cases hf:ay.findIdx? (λd=>d.name==t) with
  | none=>
   rw[List.findIdx?_eq_none_iff] at hf;have:=hf d hd;rw[e] at this;simp at this
  | some k=>rfl
def VW (ay:List Def)(obs:List Nat)(o:Nat)(g:Fr):Prop:=∃k,∃h:k<ay.length,obs.getD k 0=o/\g=o8 ay[k]
section
variable {D:GD}{w:World}{bk mb:Nat}{ay:List Def}{obs:List Nat}{DD:DataW Value}
theorem WR.F8 (h:WR D w bk mb ay obs DD){w':World}{hot blt:Int}(hp:fT D D w w' bk)(hm:w'.heap[mb]? = w.heap[mb]?)(hb:aC w' bk 106 #[.map (some mb),.int .i64 hot,.int .i64 blt]):IZ D.r (VW ay obs) (ay.map Def.name) (dx ay) bk mb D.d w':=by
 refine⟨⟨hot,blt,hb⟩,⟨_,_,aL h.mp hm⟩,by rw[List.length_map];exact h.KQ,λnm hnm=>?_⟩;have hkn:=vg.2 hnm;unfold fY at hkn
 cases hf:ay.findIdx? (λd=>d.name==nm.data.toList) with
 | none=>rw[hf] at hkn;cases hkn
 | some k=>
  obtain⟨hk,hpk,kB⟩:=List.findIdx?_eq_some_iff_getElem.1 hf;have hn:ay[k].name=nm.data.toList:=beq_iff_eq.1 hpk;obtain⟨h1,⟨c,h2,h3⟩,G,h4⟩:=h.cur k hk;obtain⟨c',e1,e2,e3,e4,e5,h5⟩:=hp _ _ c h1 h2;have hcn:c'.nm=nm:=VV (h5.nm.trans hn);have hsz:nm.size<=1000:=by rw[<-hcn];exact h5.ns
  have hl:=h.lk nm.data.toList (ai hsz (by decide));rw[hf] at hl;refine⟨obs.getD k 0,o8 ay[k],c',⟨k,hk,rfl,rfl⟩,h1,hn,?_,λw0 e0=>mB (aL h.mp (e0.trans hm)) nm (ai hsz (by decide)) hl,h5.blk,hcn,hsz,h5.it,h5.sl,G,cm (λt ht=>vg.1 ht) _ _ _ h4⟩;show dx ay ay[k].name=some ay[k].body;unfold dx;have:ay.find? (λd=>d.name==ay[k].name)=some ay[k]:=by
   rw[List.find?_eq_some_iff_getElem];exact⟨by simp,k,hk,rfl,λj hj=>by have:=kB j hj;rw[hn];simpa using this⟩
  rw[this];rfl
end
abbrev qO (d:Def):Tok × Int × List It:=(d.name,d.id,d.body)
section
variable {ay defs':List Def}(hn:defs'.map qO=ay.map qO)
include hn
theorem tD:defs'.length=ay.length:=by have:=congrArg List.length hn;simpa using this
theorem Jn:∀k (h1:k<defs'.length) (h2:k<ay.length),o8 defs'[k]=o8 ay[k]:=by
 intro k h1 h2;have:=congrArg (λl=>l[k]?) hn;simp[h1,h2] at this;obtain⟨q1,q2,q3⟩:=this;show(⟨_,_,_⟩:Fr)=⟨_,_,_⟩;rw[q1,q2,q3]
theorem tE:iR defs'=iR ay:=by
 funext k
 have hl:=tD hn;unfold iR;by_cases h:k<defs'.length
 ·rw[cN h,cN (by omega:k<ay.length)];exact Jn hn k h (by omega)
 ·rw[show defs'.getD k gY=gY by simp[List.getD,List.getElem?_eq_none (Nat.le_of_not_lt h)],show ay.getD k gY=gY by simp[List.getD,List.getElem?_eq_none (by omega:ay.length<=k)]]
theorem Aw (t:Tok):defs'.findIdx? (λd=>d.name==t)=ay.findIdx? (λd=>d.name==t):=by
 have e:∀l:List Def,l.findIdx? (λd=>d.name==t)=(l.map qO).findIdx? (λp=>p.1==t):=by
  intro l;rw[List.findIdx?_map];rfl
 rw[e,e,hn]
theorem Jo:dx defs'=dx ay:=by
 funext t
 have e:∀l:List Def,dx l t=((l.map qO).find? (λp=>p.1==t)).map (λp=>p.2.2):=by
  intro l;unfold dx;rw[List.find?_map,Option.map_map];rfl
 rw[e,e,hn]
theorem vh:fY defs'=fY ay:=by funext t;unfold fY;rw[Aw hn]
end
theorem WR.same {D D':GD}{w w':World}{bk mb:Nat}{ay defs':List Def}{obs:List Nat}{DD:DataW Value}(h:WR D w bk mb ay obs DD)(hn:defs'.map qO=ay.map qO)(hp:fT D D' w w' bk)(hr:∀o f,D'.r o f->D.r o f)(hr2:∀o f,D.r o f->D'.r o f)(hw:kQ D' w' bk)(hm:w'.heap[mb]? = w.heap[mb]?)(hx:EX D' w' bk defs'.length (iR defs') (λk=>obs.getD k 0) (XD defs') (λ_=>False))(hb:∀d∈defs',(d.bF=false->d.built=[])/\∀t∈d.built,fY defs' t):WR D' w' bk mb defs' obs DD:=by
 have hl:=tD hn;have hat:=Jn hn;have hf:=Aw hn;have hkn:=vh hn;have hnm:∀k (h1:k<defs'.length) (h2:k<ay.length),defs'[k].name=ay[k].name:=λk h1 h2=>congrArg Fr.name (hat k h1 h2);refine⟨by rw[hl];exact h.ol,by rw[hl];exact aL h.mp hm,by rw[hl];exact h.sz,λt ht=>by rw[hf];exact h.hs t ht,by rw[hl];exact h.KQ,λt ht=>by rw[hf];exact h.lk t ht,λi j hi hj e=>h.nd i j (by omega) (by omega) (by rw[<-hnm i hi (by omega),<-hnm j hj (by omega)];exact e),hw,λk hk=>?_,λo f ho=>?_,hx,hb,λd hd=>?_⟩
 ·have hk':k<ay.length:=by omega
  have hq:=hat k hk hk';have hb:defs'[k].body=ay[k].body:=congrArg Fr.body hq;obtain⟨h1,⟨c,h2,h3⟩,h4⟩:=h.cur k hk';obtain⟨c',e1,_,_,_,_,h5⟩:=hp _ _ c h1 h2;rw[hq,hb,hkn];exact⟨hr2 _ _ h1,⟨c',h5,e1.trans h3⟩,h4⟩
 ·rw[hkn];obtain⟨q,⟨k,hk,e0,e1,e2⟩|⟨c,h2,h3,h4⟩⟩:=h.VP o f (hr o f ho)
  ·exact⟨q,.inl ⟨k,by omega,by rw[hf];exact e0,e1,by rw[hat k (by omega) hk];exact e2⟩⟩
  ·obtain⟨c',e1,_,_,_,_,h5⟩:=hp _ _ c (hr o f ho) h2;refine⟨q,.inr ⟨c',h5,e1.trans h3,λk hk e=>?_⟩⟩;rw[hf] at e;have hid:defs'[k].id=(ay[k]'(by omega)).id:=congrArg Fr.id (hat k hk (by omega));rw[hid];exact h4 k (by omega) e
 ·have:qO d∈defs'.map qO:=List.mem_map.2 ⟨d,hd,rfl⟩;rw[hn] at this;obtain⟨d0,hd0,Gw⟩:=List.mem_map.1 this;have hb:d0.body=d.body:=congrArg (λp=>p.2.2) Gw;rw[<-hb];exact h.ub d0 hd0
theorem jz {ay:List Def}{k:Nat}{d:Def}(h:ay[k]? = some d)(d':Def)(h1:d'.name=d.name)(h2:d'.body=d.body)(h3:d'.id=d.id):(ay.set k d').map qO=ay.map qO:=by
 rw[List.map_set]
 apply List.ext_getElem?
 intro i;rw[List.getElem?_set]
 split
 ·rename_i e
  subst e
  split
  ·simp[h,h1,h2,h3]
  ·rename_i hlt;simp at hlt;rw[List.getElem?_eq_none hlt] at h;cases h
 ·rfl
theorem St.vp {g:Nat}{s s':St}{k:Nat}(h:s.count g k=some s'):s'.ay.map qO=s.ay.map qO/\s'={s with ay:=s'.ay}:=by
 unfold St.count at h
 split at h
 ·cases h
 ·rename_i d hd
  split at h
  ·injection h with h;subst h;exact⟨rfl,rfl⟩
  ·split at h
   ·injection h with h;subst h;exact⟨jz hd _ rfl rfl rfl,rfl⟩
   ·split at h
    ·cases h
    ·injection h with h;subst h;exact⟨jz hd _ rfl rfl rfl,rfl⟩
theorem cC.same {s s':St}(h:cC s)(he:s'={s with ay:=s'.ay})(hm:s'.ay.map qO=s.ay.map qO):cC s':=by
 have hcb:∀d∈s'.ay,∀g names,bz g d.body=some names->names.length<=1000:=by
  intro d hd;have:qO d∈s'.ay.map qO:=List.mem_map.2 ⟨d,hd,rfl⟩;rw[hm] at this;obtain⟨d0,hd0,Gw⟩:=List.mem_map.1 this;have hb:d0.body=d.body:=congrArg (λp=>p.2.2) Gw;rw[<-hb];exact h.cb d0 hd0
 rw[he];exact⟨h.g,h.s0,h.s1,h.s2,h.d0,h.d1,h.b0,h.b1,hcb⟩
theorem vq {ay defs':List Def}(hn:defs'.map qO=ay.map qO){g:Nat}:∀{n:Nat} {l:List It},cJ defs' g n l=cJ ay g n l
 | 0,_=>rfl
 | n+1,l=>by
  unfold cJ;rw[Jo hn]
  split
  ·rfl
  ·congr 1
   funext t
   cases dx ay t with
   | none=>rfl
   | some b=>exact vq hn
theorem Ax {ay:List Def}{k:Nat}(hk:k<ay.length)(d:Def):(ay.set k d).getD k gY=d/\∀j,j≠k->(ay.set k d).getD j gY=ay.getD j gY:=by
 refine⟨by simp[List.getD,hk],λj hj=>?_⟩;simp[List.getD,List.getElem?_set_ne (Ne.symm hj)]
section
variable {B:Nat}{W w:World}{xb rb mb:Nat}{m:MS}{D:GD}{s:St}
theorem OZ (h:PR B W w xb rb mb m D s)(ob:Nat)(f:Fr)(hr:D.r ob f)(g:Nat)(s1:St)(hcm:eA g f s=some s1):
  Calls prog 160 #[pt m.bk,pt ob] w λe w'=>e=.returned (.tuple #[])/\bu B W xb rb mb w m D s1 w':=by
 obtain⟨obs,DD,hwr⟩:=h.words;have hW:=hwr.wd;obtain⟨c,hc⟩:=hW.ok ob f hr;have c4:w.cell? ⟨ob,4,none⟩=some (.bool c.fa):=hc.blk.cell rfl;have c5:w.cell? ⟨ob,5,none⟩=some (.int .i64 c.ct):=hc.blk.cell rfl;have c6:w.cell? ⟨ob,6,none⟩=some (.bool c.gn):=hc.blk.cell rfl;have hno:(c.fa=true\/c.gn=true)->s1=s->Calls prog 160 #[pt m.bk,pt ob] w λe w'=>e=.returned (.tuple #[])/\bu B W xb rb mb w m D s1 w':=λhno e1=>by
  rw[e1];refine(QY c.fa c.gn hno c4 c6).mono ?_;rintro e w' ⟨rfl,rfl⟩;exact⟨rfl,m,D,h,mN.refl _ _ _ _ _ _⟩
 obtain⟨hkn,⟨k,hk,hfi,hok,mh⟩|⟨cg,Q7,Dv,hid⟩⟩:=hwr.VP ob f hr
 rotate_left
 ·have:=Q7.inj hc;subst this;refine hno (.inr Dv) ?_;obtain⟨k,hfi⟩:=Option.isSome_iff_exists.1 hkn;obtain⟨hk,_,_⟩:=List.findIdx?_eq_some_iff_getElem.1 hfi;have hlt:=hid k hk hfi;unfold eA St.find at hcm;rw[hfi] at hcm;dsimp only at hcm;rw[List.getElem?_eq_getElem hk] at hcm;dsimp only at hcm;rw[af (by omega)] at hcm;injection hcm with hcm;exact hcm.symm
 have hcm:s.count g k=some s1:=by
  unfold eA St.find at hcm;rw[hfi] at hcm;dsimp only at hcm;rw[List.getElem?_eq_getElem hk] at hcm;dsimp only at hcm;rw[ag (by rw[mh])] at hcm;exact hcm
 obtain⟨Fh,zk⟩:=St.vp hcm;have Yc:iR s.ay k=f:=by unfold iR;rw[cN hk,mh]
 obtain⟨_,⟨c0,hc0,Dv⟩,G,hG⟩:=hwr.cur k hk;rw[hok,<-mh] at hc0;have:=hc0.inj hc;subst this;have hX:=hwr.ex;obtain⟨c2,hc2,x1,x2,x3,x4,_⟩:=hX.wc k hk;rw[show obs.getD k 0=ob from hok,Yc] at hc2;have:=hc2.inj hc;subst this;have x1:c2.fa=s.ay[k].bF:=by rw[x1];show(s.ay.getD k gY).bF=_;rw[cN hk]
 have x2:c2.ct=s.ay[k].count:=by rw[x2];show(s.ay.getD k gY).count=_;rw[cN hk]
 unfold St.count at hcm;rw[List.getElem?_eq_getElem hk] at hcm;dsimp only at hcm;by_cases Ay:s.ay[k].bF=true
 ·rw[ag Ay] at hcm;injection hcm with hcm;exact hno (.inl (x1.trans Ay)) hcm.symm
 rw[af Ay] at hcm;have KF:c2.fa=false:=by rw[x1];simpa using Ay
 have jC:s.ay[k].built=[]:=(hwr.bn _ (List.getElem_mem hk)).1 (by simpa using Ay);rw[KF] at c4;rw[Dv] at c6;have l8:¬m.bk=ob:=λe=>h.KR hc.u h.book (by decide) e.symm;have Dr:∀k,k=ob->D.u k:=λk e=>by rw[e];exact hc.u
 obtain⟨D1,KW⟩:∃D1:Def,D1={s.ay[k] with count:=wrap64 (s.ay[k].count+1)}:=⟨_,rfl⟩;obtain⟨VX,hgo⟩:=Ax hk D1;have Q8:(s.ay.set k D1).map qO=s.ay.map qO:=jz (List.getElem?_eq_getElem hk) _ (by rw[KW]) (by rw[KW]) (by rw[KW]);have aai:=tE Q8;have Q9:∀i,((s.ay.set k D1).getD i gY).name=(s.ay.getD i gY).name:=λi=>congrArg Fr.name (congrFun aai i);have key:∀nq,Kp w ((w.setCell ⟨ob,5,none⟩ (.int .i64 (wrap64 (c2.ct+1)))).drewN nq) (λk=>k=ob)/\fT D D w ((w.setCell ⟨ob,5,none⟩ (.int .i64 (wrap64 (c2.ct+1)))).drewN nq) m.bk/\EX D ((w.setCell ⟨ob,5,none⟩ (.int .i64 (wrap64 (c2.ct+1)))).drewN nq) m.bk s.ay.length (iR s.ay) (λk=>obs.getD k 0) (XD (s.ay.set k D1)) (λ_=>False):=λnq=>by
  have hkp:Kp w ((w.setCell ⟨ob,5,none⟩ (.int .i64 (wrap64 (c2.ct+1)))).drewN nq) (λk=>k=ob):=((Kp.refl w (λk=>k=ob)).set (a:=⟨ob,5,none⟩) (λ_=>rfl) _).drewN nq;have hbd:=Er hW.ud Dr hkp;have hnew:dH D ((w.setCell ⟨ob,5,none⟩ (.int .i64 (wrap64 (c2.ct+1)))).drewN nq) m.bk ob f {c2 with ct:=wrap64 (c2.ct+1)}:=⟨hc.blk.set 5 _,hc.nm,hc.ns,hc.it.mono hbd,hc.sl.mono hbd (λ_ _ h=>h),hc.ac.mono hbd (λ_ _ h=>h),hc.pm.frame hkp (wD.refl _ _) (λb hb e=>hc.pm.gW hb hc.blk e),hc.wm.frame hkp (wD.refl _ _) (λb hb e=>hc.wm.gW hb hc.blk e),hc.wn,hc.u,hc.wf⟩;refine⟨hkp,hW.word hr hc hkp hnew rfl rfl rfl rfl rfl,?_⟩;have hq:∀i j,(XD s.ay).P i j<->(XD (s.ay.set k D1)).P i j:=λi j=>by
   show _∈_<->_∈_;rw[Q9 j];by_cases e:i=k
   ·subst e;rw[VX,KW,cN hk]
   ·rw[hgo i e]
  refine hX.word hW hk (c:=c2) (c':={c2 with ct:=wrap64 (c2.ct+1)}) (by rw[Yc,hok];exact hc) (by rw[hok];exact hkp) (by rw[Yc,hok];exact hnew) ?_ ?_ ((x3.same (λb hb=>hkp.block b (hc.pm.lt hb) (hc.pm.gW hb hc.blk))).iff (λj _=>hq k j)) (λe=>((x4 e).same (λb hb=>hkp.block b (hc.wm.lt hb) (hc.wm.gW hb hc.blk))).iff (λj _=>hq j k)) (λe=>e.elim) (λj hj e=>⟨?_,?_,λi _=>hq j i,λi _=>hq i j,Iff.rfl⟩)
  ·show c2.fa=((s.ay.set k D1).getD k gY).bF;rw[VX,KW];exact x1
  ·show wrap64 (c2.ct+1)=((s.ay.set k D1).getD k gY).count;rw[VX,KW,x2]
  ·show((s.ay.set k D1).getD j gY).bF=(s.ay.getD j gY).bF;rw[hgo j e]
  ·show((s.ay.set k D1).getD j gY).count=(s.ay.getD j gY).count;rw[hgo j e]
 have O0:=h.good.same zk Fh;have uY:s1.ids=s.ids:=by rw[zk]
 have hml:=hwr.mp.lt;have hmo:¬mb=ob:=dh hwr.mp hc.blk;rw[x2] at key c5;refine My s.ay[k].count s.hot l8 _ c4 c6 c5 (hc.blk.free 5) (h.book.cell rfl) (λhlt nq=>?_) (λhlt nq=>?_)
 ·rw[ag hlt] at hcm;injection hcm with hcm;have Dw:s1.ay=s.ay.set k D1:=by rw[<-hcm,KW]
  obtain⟨hkp,hp,hx⟩:=key nq;have Jb:Kp w ((w.setCell ⟨ob,5,none⟩ (.int .i64 (wrap64 (s.ay[k].count+1)))).drewN nq) (FU D w m.bk):=hkp.mono (λk _ e=>.inl ⟨f,by rw[show k=ob from e];exact hr⟩);have hW1:=hwr.same Fh hp (λ_ _ h=>h) (λ_ _ h=>h) (hW.next hkp.size hp) (hkp.block mb hml hmo) (by rw[Dw,tE Q8,tD Q8];exact hx) (λd hd=>by
   rw[vh Fh];rw[Dw] at hd;rcases List.mem_or_eq_of_mem_set hd with q|q
   ·exact hwr.bn d q
   ·rw[q,KW];exact(hwr.bn s.ay[k] (List.getElem_mem hk)))
  obtain⟨h1,h2⟩:=h.om (s':=s1) (hkp.mono (λk _ e=>.inl (Dr k e))) ⟨obs,DD,hW1⟩ (by rw[zk]) (λ_ _ h=>h) (λ_ h=>h) (λ_ h=>.inl h) (λ_ h=>.inl h) (λk hk2=>I8 hW Jb hp hk2 (h.us k hk2).2.2) O0 rfl (by rw[uY];exact⟨h.ids.1,h.ids.2.1⟩) (by rw[uY];exact h.Cm);exact⟨m,D,h1,h2⟩
 ·rw[af hlt] at hcm;obtain⟨hkp,hp,hx⟩:=key nq;obtain⟨W5,hW5⟩:∃W5,W5=(w.setCell ⟨ob,5,none⟩ (.int .i64 (wrap64 (s.ay[k].count+1)))).drewN nq:=⟨_,rfl⟩;rw[<-hW5] at hkp hp hx ⊢;have hs5:W5.heap.size=w.heap.size:=by rw[hW5];show(w.setCell _ _).heap.size=_;simp
  have VY:=hW.next hkp.size hp;have Ra:=hkp.blk h.book l8;have hb0:=h.good.b0;have hb1:=h.good.b1;have uX:((s.built.toNat:Nat):Int)=s.built:=by omega
  rw[<-uX] at Ra;obtain⟨c',e1,_,_,_,_,hc'⟩:=hp ob f c2 hr hc;have hbd:∀t b,dx s.ay t=some b->(∃G,wb (fY s.ay) G false b)/\UB b:=λt b hb=>by
   unfold dx at hb;obtain⟨d,hd,rfl⟩:=Option.map_eq_some_iff.1 hb;have hm:=List.mem_of_find?_eq_some hd;obtain⟨i,hi,rfl⟩:=List.getElem_of_mem hm;exact⟨(hwr.cur i hi).2.2,hwr.ub _ hm⟩
  split at hcm
  ·cases hcm
  rename_i bs hbs
  injection hcm with hcm;have hbs:cJ s.ay g s.built.toNat s.ay[k].body=some bs:=by
   rw[<-vq (defs':=s.ay.set k {s.ay[k] with count:=wrap64 (s.ay[k].count+1),bF:=true}) (jz (List.getElem?_eq_getElem hk) _ rfl rfl rfl)];exact hbs
  have hin:=qG hbd g s.built.toNat s.ay[k].body bs G hG (hwr.ub _ (List.getElem_mem hk)) hbs;refine(VN VY hx hk hok Yc (λo q hq=>by obtain⟨j,hj,a1,a2⟩:=hq;exact⟨j,hj,a1.symm,by rw[a2];unfold iR;rw[cN hj]⟩) hwr.KQ hr hc' (C:=VW s.ay obs) (K:=s.ay.map Def.name) (bo:=dx s.ay) (λo g hg=>?_) s.built.toNat (by omega) s.hot Ra (hwr.F8 hp (hkp.block mb hml hmo) Ra) ?_).mono ?_
  ·obtain⟨k,hk1,q1,q2⟩:=hg;obtain⟨r1,⟨c2,r2,r3⟩,_⟩:=hwr.cur k hk1;rw[q1,<-q2] at r1 r2;obtain⟨c3,a1,_,_,_,_,a6⟩:=hp o g c2 r1 r2;exact⟨r1,c3,a6,a1.trans r3⟩
  ·rw[mh];exact⟨G,cm (λt ht=>vg.1 ht) _ _ _ hG⟩
  ·rintro e w' ⟨rfl,n2,pb,a1,a2,a3,a4,a5,a6,a7,a8⟩;rw[hs5] at a1 a5 a6 a8;have VZ:Kp W5 w' D.u:=a4.mono (λk _ e=>e.u VY);have kz:Kp w w' D.u:=(hkp.mono (λk _ e=>Dr k e)).trans VZ;have Jb:Kp w w' (FU D w m.bk):=(hkp.mono (λk _ e=>.inl ⟨f,by rw[show k=ob from e];exact hr⟩)).trans (a4.mono (λk _ e=>e.back hW hp));have hpw:=hp.trans (λ_ _ h=>h) a5;obtain⟨D2,KX⟩:∃D2:Def,D2={s.ay[k] with count:=wrap64 (s.ay[k].count+1),bF:=true,built:=bs}:=⟨_,rfl⟩;have Dw:s1.ay=s.ay.set k D2:=by rw[<-hcm,KX]
   obtain⟨MG,MH⟩:=Ax hk D2;have Rb:(s.ay.set k D2).map qO=s.ay.map qO:=by rw[<-Dw];exact Fh
   have Rc:∀i,((s.ay.set k D2).getD i gY).name=(s.ay.getD i gY).name:=λi=>congrArg Fr.name (congrFun (tE Rb) i);have Ig:EX (iB D w.heap.size n2 pb ob) w' m.bk s.ay.length (iR s.ay) (λk=>obs.getD k 0) (XD (s.ay.set k D2)) (λ_=>False):=by
    have hT:∀j,Bd (dx s.ay) s.built.toNat f.body (iR s.ay j).name<->((s.ay.set k D2).getD j gY).name∈bs:=λj=>by
     rw[Rc j,mh];exact(hin _).symm
    refine a8.iff (λi _=>?_) (λi _=>?_) (λi j _ _=>?_) (λi j _ _ _=>?_)
    ·show((s.ay.set k D2).getD i gY).bF=if i=k then true else((s.ay.set k D1).getD i gY).bF;by_cases e:i=k
     ·rw[ag e,e,MG,KX]
     ·rw[af e,MH i e,hgo i e]
    ·show((s.ay.set k D2).getD i gY).count=((s.ay.set k D1).getD i gY).count;by_cases e:i=k
     ·rw[e,MG,VX,KX,KW]
     ·rw[MH i e,hgo i e]
    ·show((i=k/\_)\/(i≠k/\_∈((s.ay.set k D1).getD i gY).built))<->_∈((s.ay.set k D2).getD i gY).built;by_cases e:i=k
     ·subst e;have hb2:D2.built=bs:=by rw[KX]
      rw[MG,hb2,<-hT j];exact⟨λq=>q.elim (λq=>q.2) (λq=>ax rfl q.1),λq=>.inl ⟨rfl,q⟩⟩
     ·rw[MH i e,hgo i e,Q9 j,Rc j];exact⟨λq=>q.elim (λq=>ax q.1 e) (λq=>q.2),λq=>.inr ⟨e,q⟩⟩
    ·show(_∈((s.ay.set k D1).getD i gY).built\/(i=k/\_/\¬False))<->_∈((s.ay.set k D2).getD i gY).built;by_cases e:i=k
     ·subst e;have hb1:D1.built=[]:=by rw[KW];exact jC
      have hb2:D2.built=bs:=by rw[KX]
      rw[MG,VX,hb1,hb2,<-hT j];exact⟨λq=>q.elim (λq=>by cases q) (λq=>q.2.1),λq=>.inr ⟨rfl,q,λe=>e⟩⟩
     ·rw[MH i e,hgo i e,Q9 j,Rc j];exact⟨λq=>q.elim id (λq=>ax q.1 e),.inl⟩
   have hW1:=hwr.same Fh hpw (λ_ _ h=>h) (λ_ _ h=>h) a6 (by
    have:=kz.block mb hml (λe=>(h.us mb e).2.1 rfl);exact this) (by rw[Dw,tE Rb,tD Rb];exact Ig) (λd hd=>by
    rw[vh Fh];rw[Dw] at hd;rcases List.mem_or_eq_of_mem_set hd with q|q
    ·exact hwr.bn d q
    ·rw[q,KX];exact⟨λe=>(by cases e),λt ht=>Hp hbd hG (hwr.ub _ (List.getElem_mem hk)) ((hin t).1 ht)⟩)
   obtain⟨h1,h2⟩:=h.om (D':=iB D w.heap.size n2 pb ob) (s':=s1) (kz.mono (λk _ e=>.inl e)) ⟨obs,DD,hW1⟩ (by rw[zk]) (λ_ _ h=>h) (λ_ h=>.inl h) (λk hd=>hd.imp id (λq=>⟨q.1,by omega⟩)) (λk hu=>hu.imp id (λe=>by omega)) (λk hk2=>by
    rcases hk2 with hk2|hk2
    ·exact I8 hW Jb hpw hk2 (h.us k hk2).2.2
    ·rw[hk2];exact .inr a7) O0 rfl (by rw[uY];exact⟨h.ids.1,h.ids.2.1⟩) (by rw[uY];exact h.Cm)
   exact⟨rfl,m,_,h1,h2⟩
end
theorem vr {g:Nat}{f:Fr}{s s':St}(h:eA g f s=some s'):s'.ay.map qO=s.ay.map qO/\s'={s with ay:=s'.ay}:=by
 unfold eA at h
 split at h
 ·injection h with h;subst h;exact⟨rfl,rfl⟩
 ·split at h
  ·cases h
  ·split at h
   ·exact St.vp h
   ·injection h with h;subst h;exact⟨rfl,rfl⟩
theorem Fi {g k:Nat}{s s1:St}(n:Int)(h:s.count g k=some s1):St.count g {s with depth:=n} k=some {s1 with depth:=n}:=by
 unfold St.count at h ⊢;dsimp only at h ⊢
 split at h
 ·cases h
 ·split at h
  ·rename_i hd hf;injection h with h;subst h;rw[ag hf]
  ·rename_i hd hf
   rw[af hf]
   split at h
   ·rename_i hl;injection h with h;subst h;rw[ag hl]
   ·rename_i hl
    rw[af hl]
    split at h
    ·cases h
    ·injection h with h;subst h;rfl
theorem qP {g:Nat}{f:Fr}{s s1:St}(n:Int)(h:eA g f s=some s1):eA g f {s with depth:=n}=some {s1 with depth:=n}:=by
 unfold eA St.find at h ⊢;dsimp only at h ⊢
 split at h
 ·injection h with h;subst h;rfl
 ·split at h
  ·cases h
  ·split at h
   ·rename_i hi;rw[ag hi];exact Fi n h
   ·rename_i hi;rw[af hi];injection h with h;subst h;rfl
section
variable {B:Nat}{W w:World}{xb rb mb:Nat}{m:MS}{D:GD}{s:St}
theorem mO {g:Nat}{f:Fr}{s':St}{left:Bool}(h:aI (g+1) (iM f) s=some (s',left))(h20:¬20<=s.depth):
  ∃(s1 s2:St) (bH:Bool),s1={s with ay:=s1.ay}/\eA g f s=some s1/\aI g (bZ f [] f.body) {s1 with depth:=s1.depth+1}=some (s2,bH)/\s'={s2 with depth:=s2.depth-1}/\s2.depth=s.depth+1:=by
 rw[lC,af h20] at h
 cases hc:eA g f s with
 | none=>rw[hc] at h;cases h
 | some s1=>
  rw[hc] at h;obtain⟨s2,bH,hx,hs⟩:=lJ h;obtain⟨h1,h2⟩:=vr hc;refine⟨s1,s2,bH,h2,rfl,hx,hs,?_⟩;have:=(cH _ _ _ _ _ hx).1;rw[this];show s1.depth+1=s.depth+1;rw[h2]
theorem Jp (g:Nat)(hW:QW B W g)(h:PR B W w xb rb mb m D s)(he:s.e=0)(f:Fr)(ob:Nat)(hr:D.r ob f)(s1 s2:St)(left:Bool)(gc:Nat)(q2:eA gc f s=some s1)(hx:aI g (bZ f [] f.body) s1=some (s2,left)):
  Calls prog 121 #[pt m.bk,pt rb,pt ob] w λe w'=>e=.returned (.int .i64 s2.e)/\bu B W xb rb mb w m D s2 w':=by
 have HN:=az (OZ h ob f hr gc s1 q2);have fA:s1.e=0:=by obtain⟨_,q1⟩:=vr q2;rw[q1];exact he
 have HW:Hid (∀w1 m1 D1,PR B W w1 xb rb mb m1 D1 s1->mN xb rb mb w w1 m m1 D D1->Calls prog 161 #[pt ob,pt rb] w1 λe w'=>e=.returned (.int .i64 s2.e)/\bu B W xb rb mb w m D s2 w'):=by
  intro w1 m1 D1 hr1 ht1;refine(hW w1 xb rb mb m1 D1 s1 s2 f ob left hr1 fA (ht1.rg _ _ hr) hx).mono ?_;rintro e w' ⟨rfl,hp⟩;exact⟨rfl,hp.step ht1⟩
 clear h he hr q2 hx hW fA;go_enter func121,ntmps121
 go_wp2_with fail
 refine HN.out.mono ?_;rintro e w1 ⟨rfl,m1,D1,hr1,ht1⟩;have HC:=az (HW.out w1 m1 D1 hr1 ht1);clear hr1 ht1 HW HN
 go_wp2_with fail
 refine HC.out.mono ?_;rintro e w2 ⟨rfl,hp⟩;have HP:=az hp;clear hp HC;go_wp2;go_ret;exact⟨rfl,HP.out⟩
theorem V9 (w:World)(rb bb wb bk ob:Nat)(Q:Ending->World->Prop)(h1:aC w bb 78 #[pt bk])(h2:aC w wb 107 #[pt ob])
  (hc:∀w0,Kp w w0 (λ_=>False)->Calls prog 121 #[pt bk,pt rb,pt ob] w0 λe w'=>∃n,e=.returned (.int .i64 n)/\Q e w'):
  Calls prog 229 #[pt rb,pt bb,pt wb] w Q:=by
 have c1:w.cell? ⟨bb,0,none⟩=some (pt bk):=h1.cell rfl;have c2:w.cell? ⟨wb,0,none⟩=some (pt ob):=h2.cell rfl;have HC:=az hc;clear hc;go_enter func229,ntmps229
 go_wp2_with fail
 refine(HC.out _ (Kp.refl _ _)).mono ?_;rintro e w1 ⟨n,rfl,hq⟩;have HQ:=az hq;clear hq;go_wp2;exact HQ.out
theorem aaj (g:Nat)(hW:QW B W g)(h:PR B W w xb rb mb m D s)(he:s.e=0)(f:Fr)(ob db bb wb:Nat)(hb:BD D.d w db 125 #[.func (.func 229) #[] #[pt bb,pt wb]])(h1:BD D.d w bb 78 #[pt m.bk])(h2:BD D.d w wb 107 #[pt ob])(hw:D.r ob f)(s':St)(left:Bool)(hx:aI (g+1) (iM f) s=some (s',left)):
  bp (j4 db) (pt rb) w λe w'=>e=.returned (.int .i64 s'.e)/\bu B W xb rb mb w m D s' w':=by
 by_cases h20:20<=s.depth
 ·have hs:s'=gh s s:=by
   rw[lC,ag h20] at hx;injection hx with hx;injection hx with hx _;rw[<-hx];unfold gh;rw[ag h20]
  rw[hs];exact Av h db _ _ _ hb s (λh=>ax h20 h)
 ·obtain⟨s1,s2,bH,q1,q2,q3,q4,q5⟩:=mO hx h20;have hs:s'=gh s s2:=by unfold gh;rw[af h20];exact q4
  rw[hs];refine Av h db _ _ _ hb s2 (λ_=>⟨q5,λw1 m1 hr1 ht1=>?_⟩);have hd1:s1.depth=s.depth:=by rw[q1]
  have kd:=h.fD ht1;refine⟨_,_,_,rfl,Jh,?_⟩;show Calls prog 229 #[pt rb,pt bb,pt wb] w1 _;refine V9 w1 rb bb wb m.bk ob _ (kd _ _ _ h1).2 (kd _ _ _ h2).2 (λw0 hk=>?_);obtain⟨hr3,kg⟩:=hr1.kp hk;rw[<-ht1.bk];refine(Jp g hW hr3 he f ob hw {s1 with depth:=s1.depth+1} s2 bH g (by rw[hd1];exact qP _ q2) q3).mono ?_;rintro e w' ⟨rfl,hp⟩;exact⟨_,rfl,rfl,hp.step kg⟩
theorem Re (w:World)(rb bb nb bk mb ob:Nat)(nm:ByteArray)(Q:Ending->World->Prop){hh bl:Value}(h1:aC w bb 78 #[pt bk])(h2:aC w nb 9 #[.string nm])(h3:aC w bk 106 #[.map (some mb),hh,bl])
  (hrun:∀w0,Kp w w0 (λ_=>False)->(Instr.lookup 104 (.map (some mb)) (.string nm) false).run prog w0=.ok (pt ob) w0)
  (hc:∀w0,Kp w w0 (λ_=>False)->Calls prog 121 #[pt bk,pt rb,pt ob] w0 λe w'=>∃n,e=.returned (.int .i64 n)/\Q e w'):
  Calls prog 120 #[pt rb,pt bb,pt nb] w Q:=by
 have c1:w.cell? ⟨bb,0,none⟩=some (pt bk):=h1.cell rfl;have c2:w.cell? ⟨nb,0,none⟩=some (.string nm):=h2.cell rfl;have c3:w.cell? ⟨bk,0,none⟩=some (.map (some mb)):=h3.cell rfl;have HR:=az hrun;have HC:=az hc;have cZ:=hrun w (Kp.refl _ _);have hr1:=hrun w.drew (Kp.refl _ _).drew;clear hrun hc HR;go_enter func120,ntmps120;go_wp2
 go_region_with (go_at_call 121;refine(HC.out _ ?_).mono ?_;exact(Kp.refl _ _).drew;rintro e w1 ⟨n,rfl,hq⟩;have HQ:=az hq;clear hq)
 all_goals go_wp2
 all_goals go_ret
 all_goals exact HQ.out
theorem Wa {w:World}{D:GD}{bk mb:Nat}{ay:List Def}(h:eP D w bk mb ay)(nm:ByteArray)(hs:nm.size<=1000)(d:Def)(hd:ay.find? (λd=>d.name==nm.data.toList)=some d):
  ∃ob,D.r ob (o8 d)/\∀w0,w0.heap[mb]? = w.heap[mb]?->(Instr.lookup 104 (.map (some mb)) (.string nm) false).run prog w0=.ok (pt ob) w0:=by
 obtain⟨obs,DD,h⟩:=h;have hsz:nm.size<=maxLen:=ai hs (by decide);have hl:=h.lk nm.data.toList hsz
 cases hf:ay.findIdx? (λd=>d.name==nm.data.toList) with
 | none=>
  rw[List.findIdx?_eq_none_iff] at hf;have:=hf d (List.mem_of_find?_eq_some hd);have h6:=List.find?_some hd;rw[this] at h6;cases h6
 | some k=>
  obtain⟨hk,_,_⟩:=List.findIdx?_eq_some_iff_getElem.1 hf;have hdk:d=ay[k]:=by
   have:=List.find?_eq_some_iff_getElem.1 hd;obtain⟨hp,i,hi,hx,hn⟩:=this;obtain⟨hk1,hk2,hk3⟩:=List.findIdx?_eq_some_iff_getElem.1 hf;have:i=k:=by
    rcases Nat.lt_trichotomy i k with h|h|h
    ·exact ax (by rw[hx];exact hp) (hk3 i h)
    ·exact h
    ·have:=hn k h;rw[hk2] at this;cases this
   subst this;exact hx.symm
  rw[hf] at hl;refine⟨obs.getD k 0,by rw[hdk];exact(h.cur k hk).1,λw0 e0=>mB (aL h.mp e0) nm hsz hl⟩
theorem O1 (g:Nat)(hW:QW B W g)(h:PR B W w xb rb mb m D s)(he:s.e=0)(db bb nb:Nat)(nm:ByteArray)(hs:nm.size<=1000)(hb:BD D.d w db 125 #[.func (.func 120) #[] #[pt bb,pt nb]])(h1:BD D.d w bb 78 #[pt m.bk])(h2:BD D.d w nb 9 #[.string nm])(s':St)(left:Bool)(hx:aI (g+1+1) (gB nm.data.toList) s=some (s',left)):
  bp (j4 db) (pt rb) w λe w'=>e=.returned (.int .i64 s'.e)/\bu B W xb rb mb w m D s' w':=by
 rw[qA] at hx
 cases hd:s.ay.find? (λd=>d.name==nm.data.toList) with
 | none=>rw[hd] at hx;cases hx
 | some d=>
  rw[hd] at hx;dsimp only at hx;by_cases h20:20<=s.depth
  ·have hs:s'=gh s s:=by
    rw[lC,ag h20] at hx;injection hx with hx;injection hx with hx _;rw[<-hx];unfold gh;rw[ag h20]
   rw[hs];exact Av h db _ _ _ hb s (λh=>ax h20 h)
  ·obtain⟨s1,s2,bH,q1,q2,q3,q4,q5⟩:=mO hx h20;have hs':s'=gh s s2:=by unfold gh;rw[af h20];exact q4
   rw[hs'];refine Av h db _ _ _ hb s2 (λ_=>⟨q5,λw1 m1 hr1 ht1=>?_⟩);have hd1:s1.depth=s.depth:=by rw[q1]
   obtain⟨ob,Dr,hlk⟩:=Wa hr1.words nm hs d hd;have kd:=h.fD ht1;have aak:=hr1.words.Mz;refine⟨_,_,_,rfl,Fa,?_⟩;show Calls prog 120 #[pt rb,pt bb,pt nb] w1 _;refine Re w1 rb bb nb m.bk mb ob nm _ (kd _ _ _ h1).2 (kd _ _ _ h2).2 (by rw[<-ht1.bk];exact hr1.book) (λw0 hk=>hlk w0 (hk.block mb aak (by simp))) (λw0 hk=>?_);obtain⟨hr3,kg⟩:=hr1.kp hk;rw[<-ht1.bk];refine(Jp g hW hr3 he (o8 d) ob Dr {s1 with depth:=s1.depth+1} s2 bH g (by rw[hd1];exact qP _ q2) q3).mono ?_;rintro e w' ⟨rfl,hp⟩;exact⟨_,rfl,rfl,hp.step kg⟩
end
theorem MI (w:World)(rb sb tb bk:Nat)(tv:Value)(a:Option Addr)(n p:Nat)(htv:tv=.slice a n p)(Q:Ending->World->Prop)(h1:aC w sb 78 #[pt bk])(h2:aC w tb 47 #[tv])
  (hc:∀w0,Kp w w0 (λ_=>False)->Calls prog 42 #[pt bk,pt rb,tv] w0 λe w'=>∃n,e=.returned (.int .i64 n)/\Q e w'):
  Calls prog 230 #[pt rb,pt sb,pt tb] w Q:=by
 subst htv;have c1:w.cell? ⟨sb,0,none⟩=some (pt bk):=h1.cell rfl;have c2:w.cell? ⟨tb,0,none⟩=some (.slice a n p):=h2.cell rfl;have HC:=az hc;clear hc;go_enter func230,ntmps230
 go_wp2_with fail
 refine(HC.out _ (Kp.refl _ _)).mono ?_;rintro e w1 ⟨n,rfl,hq⟩;have HQ:=az hq;clear hq;go_wp2;exact HQ.out
section
variable {B:Nat}{W w:World}{xb rb mb fb:Nat}{m:MS}{D:GD}{s:St}{lv:Value}{lp:List Int}
theorem Dx (g:Nat)(hT:QT B W g)(h:PR B W w xb rb mb m D s)(he:s.e=0)(db sb tb:Nat)(tv:Value)(ws:List ByteArray)(hb:BD D.d w db 125 #[.func (.func 230) #[] #[pt sb,pt tb]])(h1:BD D.d w sb 78 #[pt m.bk])(h2:BD D.d w tb 47 #[tv])(h3:lg (BD D.d w) 9 tv (ws.map Value.string))(ho:∀t∈ws,okW t)(hl:ws.length<=1000)(s2:St)(left:Bool)
  (hx:¬20<=s.depth->aI g (aT (aD ws)) {s with depth:=s.depth+1}=some (s2,left)):
  bp (j4 db) (pt rb) w λe w'=>e=.returned (.int .i64 (gh s s2).e)/\bu B W xb rb mb w m D (gh s s2) w':=by
 refine Av h db _ _ _ hb s2 (λh20=>⟨(cH _ _ _ _ _ (hx h20)).1,λw1 m1 hr1 ht1=>?_⟩);have kd:=h.fD ht1;refine⟨_,_,_,rfl,ME,?_⟩;show Calls prog 230 #[pt rb,pt sb,pt tb] w1 _;obtain⟨a,p,hv⟩:=h3.form;refine MI w1 rb sb tb m.bk tv a _ p hv _ (kd _ _ _ h1).2 (kd _ _ _ h2).2 (λw0 hk=>?_);obtain⟨hr3,kg⟩:=hr1.kp hk;have aJ:=(gT (λb t c hb=>(hr1.fD kg) b t c (kd b t c hb)) h3);have aal:fC (aC w0) tv ws:=by
  rcases aJ with⟨h4,h5⟩|⟨gd,cap,cur,h4,h5,h6,h7,h8,h9⟩
  ·refine .inl ⟨by simpa using h5,none,0,h4⟩
  ·refine .inr ⟨gd,0,cap,cur,by rw[h4];simp,h5.2,by simpa using h6,by omega,by omega,λi hi=>?_⟩;have hi2:i<(ws.map Value.string).length:=by simpa using hi
   have:(cur.toList.take ((ws.map Value.string).length*1))[i]? = (ws.map Value.string)[i]?:=by rw[h9]
   rw[List.getElem?_take_of_lt (by omega)] at this;simp only[Nat.zero_add];rw[<-Array.getElem?_toList,this];simp[hi]
 rw[<-ht1.bk];refine(hT w0 xb rb mb m1 D _ s2 tv ws left hr3 he aal ho hl (hx h20)).mono ?_;rintro e w' ⟨rfl,hp⟩;exact⟨_,rfl,rfl,hp.step kg⟩
theorem Az (h:PR B W w xb rb mb m D s)(he:s.e=0):bp (.func (.func 231) #[] #[]) (pt rb) w λe w'=>e=.returned (.int .i64 s.e)/\bu B W xb rb mb w m D s w':=by
 refine⟨_,_,_,rfl,Ar,?_⟩;show Calls prog 231 #[pt rb] w _;rw[he];have H:=az h;clear h he;go_enter func231,ntmps231;go_wp2;go_ret;exact⟨rfl,m,D,H.out,mN.refl _ _ _ _ _ _⟩
theorem Wb (h:PR B W w xb rb mb m D s)(he:s.e=0)(hf:lY B w fb rb m D lv 0 lp):
  bp (.func (.func 208) #[] #[]) (pt fb) w λe w'=>e=.returned (.int .i64 1)/\kJ B W xb rb mb fb w m D lv lp s.step w':=by
 refine⟨_,_,_,rfl,Jj,?_⟩;show Calls prog 208 #[pt fb] w _;have c0:w.cell? ⟨fb,0,none⟩=some (pt rb):=hf.blk.cell rfl;have lI:=bV;have HS:Hid (∀w0,Kp w w0 (λ_=>False)->Calls prog 68 #[pt rb,.func (.func 231) #[] #[]] w0 λe w'=>e=.returned (.int .i64 s.step.e)/\bu B W xb rb mb w m D s.step w'):=by
  intro w0 hk;obtain⟨h0,t0⟩:=h.kp hk;refine(ve h0 he (.func (.func 231) #[] #[]) s.step s.step (by split <;> rfl) (λe w1 m1 p1 t1=>Az p1 e)).mono ?_
  rintro e w' ⟨rfl,hp⟩;exact⟨rfl,hp.step t0⟩
 have HF:Hid (∀w1,bu B W xb rb mb w m D s.step w1->kJ B W xb rb mb fb w m D lv lp s.step (w1.setCell ⟨fb,2,none⟩ (.int .i64 s.step.e))/\(∃y,aC w1 fb 247 #[pt rb,lv,.int .i64 y])):=λw1 hp=>kJ.Cr h hf hp;clear h he hf;go_enter func208,ntmps208
 go_wp2_with fail
 refine(HS.out _ (Kp.refl _ _)).mono ?_;rintro e w1 ⟨rfl,hp⟩;obtain⟨h1,⟨y,h2⟩⟩:=HF.out w1 hp;have H1:=az h1;clear h1 hp
 go_wp2_with fail
 refine(sB _ fb s.step.e _ _ _ h2).mono ?_;rintro e w2 ⟨rfl,rfl⟩;go_wp2;go_ret;exact⟨rfl,H1.out⟩
end
theorem Jq (w:World)(i:Int):Calls prog 69 #[.int .i64 i] w λe w'=>e=.returned (.func (.func 95) #[] #[pt w.heap.size])/\w'=w.alloc (.cells #[.int .i64 i] 2):=by
 have lI:=bV;go_enter func69,ntmps69;go_wp2;go_ret;exact⟨rfl,rfl⟩
section
variable {B:Nat}{W w:World}{xb rb mb fb:Nat}{m:MS}{D:GD}{s:St}{lv:Value}{lp:List Int}
theorem Rf (h:PR B W w xb rb mb m D s)(he:s.e=0)(hf:lY B w fb rb m D lv 0 lp):
  Calls prog 223 #[pt fb] w λe w'=>e=.returned (.tuple #[.bool s.test.2,.int .i64 (sA false s.test.1.e)])/\kJ B W xb rb mb fb w m D lv lp s.test.1 w':=by
 have c0:w.cell? ⟨fb,0,none⟩=some (pt rb):=hf.blk.cell rfl;have HS:=az (aag h he);have HF:Hid (∀w1,bu B W xb rb mb w m D s.test.1 w1->kJ B W xb rb mb fb w m D lv lp s.test.1 (w1.setCell ⟨fb,2,none⟩ (.int .i64 s.test.1.e))/\(∃y,aC w1 fb 247 #[pt rb,lv,.int .i64 y])):=λw1 hp=>kJ.Cr h hf hp;clear h he hf;go_enter func223,ntmps223
 go_wp2_with fail
 refine HS.out.mono ?_;rintro e w1 ⟨rfl,hp⟩;obtain⟨h1,⟨y,h2⟩⟩:=HF.out w1 hp;have H1:=az h1;clear h1 hp
 go_wp2_with fail
 refine(sB _ fb s.test.1.e _ _ _ h2).mono ?_;rintro e w2 ⟨rfl,rfl⟩;go_wp2;go_ret2;exact⟨rfl,H1.out⟩
theorem Wc (h:PR B W w xb rb mb m D s)(he:s.e=0)(i:Int)(MJ:List Int)(hlp:lp=i::MJ)(hll:lp.length<=9999)(hf:lY B w fb rb m D lv 0 lp)(s':St)(hs':s'=if s.step.e=0 then s.step.put i else s.step):
  bp (.func (.func 205) #[] #[]) (pt fb) w λe w'=>e=.returned (.int .i64 (sA false s'.e))/\kJ B W xb rb mb fb w m D lv lp s' w':=by
 refine⟨_,_,_,rfl,MF,?_⟩;show Calls prog 205 #[pt fb] w _;have lI:=bV;have c0:w.cell? ⟨fb,0,none⟩=some (pt rb):=hf.blk.cell rfl;obtain⟨g,cap,hv,hcell⟩:=bE hf.row (by rw[hlp];simp);have ci:w.cell? ⟨g,MJ.length,none⟩=some (.int .i64 i):=hcell _ _ (by rw[hlp];simp[bD]);have hlen:lp.length=MJ.length+1:=by rw[hlp];simp
 have c1:w.cell? ⟨fb,1,none⟩=some (.slice (some ⟨g,0,none⟩) (MJ.length+1) cap):=by rw[<-hlen,<-hv];exact hf.blk.cell rfl
 have hin:=hf.ins i (by rw[hlp];simp);have ae3:MJ.length+1<=9999:=by omega
 have hrl:rb<w.heap.size:=by obtain⟨ns,hi,_⟩:=h.inv;exact hi.cF.lt
 have HS:Hid (∀w0 nb,Kp w w0 (λ_=>False)->w.heap.size<=nb->aC w0 nb 2 #[.int .i64 i]->Calls prog 68 #[pt rb,.func (.func 95) #[] #[pt nb]] w0 λe w'=>e=.returned (.int .i64 s'.e)/\bu B W xb rb mb w m D s' w'):=by
  intro w0 nb hkk hnb aam;obtain⟨h0,t0⟩:=h.kp hkk;refine(ve h0 he (.func (.func 95) #[] #[pt nb]) (s.step.put i) s' hs' (λe w1 m1 p1 t1=>?_)).mono ?_
  ·obtain⟨ns,hi,_⟩:=h.inv;refine Q4 p1 e i hin nb (t1.wt.kp.blk aam ?_);rintro (((e|e)|e)|((e|e)|e))
   ·have:=hi.bJ.lt;omega
   ·have:=hi.cF.lt;omega
   ·have:=h.words.Mz;omega
   ·have:=bw hi.dc e;omega
   ·have:=bw hi.dY e;omega
   ·have:=h.ult e;omega
  ·rintro e w' ⟨rfl,hp⟩;exact⟨rfl,hp.step t0⟩
 have HF:Hid (∀w1,bu B W xb rb mb w m D s' w1->kJ B W xb rb mb fb w m D lv lp s' (w1.setCell ⟨fb,2,none⟩ (.int .i64 s'.e))/\(∃y,aC w1 fb 247 #[pt rb,lv,.int .i64 y])):=λw1 hp=>kJ.Cr h hf hp;clear h he hf hs' hcell hlp hv hlen hll hin;go_enter func205,ntmps205;go_wp2
 go_quiet (fail)
 go_wp2
 go_region_held3 (λw'=>w'.cell? ⟨fb,0,none⟩=some (pt rb)) (go_keep) (first
  | (go_at_call 69;refine(Jq _ i).mono ?_;rintro e w5 ⟨rfl,rfl⟩)
  | (go_at_call 68;refine(HS.out _ w.heap.size ?_ ?_ ?_).mono ?_;exact((((Kp.refl w _).drewN nq).drew).alloc _);exact ah _;exact aC.new _ _ _;rintro e w1 ⟨rfl,hp⟩;obtain⟨h1,⟨y,h2⟩⟩:=HF.out w1 hp;have h4:w1.cell? ⟨fb,0,none⟩=some (pt rb):=h2.cell rfl;have H1:=az h1;have H2:=az h2;clear h1 hp h2)
  | (go_at_call 220;refine(sB _ fb s'.e _ _ _ H2.out).mono ?_;rintro e w2 ⟨rfl,rfl⟩;have k0:(w1.setCell ⟨fb,2,none⟩ (.int .i64 s'.e)).cell? ⟨fb,0,none⟩=some (pt rb):=(H2.out.set 2 _).cell rfl))
 go_wp2;go_ret;exact⟨rfl,H1.out⟩
end
theorem kX:∀(g:Nat) (f:Fr) (lp:List Int) (l:List It) (s s':St),s.e=0->aI g (bZ f lp l) s=some (s',false)->s'.e=0
 | 0,_,_,_,_,_,_,h=>by cases h
 | g+1,f,lp,[],s,s',he,h=>by
  rw[xw] at h;injection h with h;injection h with h _;rw[<-h];exact he
 | g+1,f,lp,x::l,s,s',he,h=>by
  rw[qz] at h
  split at h
  ·cases h
  ·rename_i s1 fK h1
   split at h
   ·injection h with h;injection h with _ h;cases h
   ·rename_i hn
    have hn:=not_or.1 hn;exact kX g f lp l s1 s' (by simpa using hn.2) h
theorem AA {g:Nat}{f:Fr}{lp:List Int}{l:List It}{s s':St}{left:Bool}(he:s.e=0)(h:aI g (bZ f lp l) s=some (s',left)):sA left s'.e=sig left:=by
 cases left
 ·rw[kX g f lp l s s' he h];rfl
 ·rw[dA (.inl rfl)];rfl
section
variable {B:Nat}{W w:World}{xb rb mb fb:Nat}{m:MS}{D:GD}{s:St}{lv:Value}{lp lq:List Int}
theorem St.wQ (s:St)(n:Int)(h:n<=s.steps):n<=s.test.1.steps:=by rw[s.cD];omega
theorem ifP (g:Nat)(la lb:List It)(hpq:PQ lp lq)(hB:QB B W g)(h:PR B W w xb rb mb m D s)(he:s.e=0)(hf:lY B w fb rb m D lv 0 lq)(hlp:(lq.length:Int)<=s.steps)(f:Fr)(ob b1 b2:Nat)(oka:KU lp la)(okb:KU lp lb)(va vb:Value)(h1:BD D.d w b1 109 #[va])(h2:BD D.d w b2 109 #[vb])(ha:cQ (BD D.d w) D.r m.bk ob va la)(hb:cQ (BD D.d w) D.r m.bk ob vb lb)(hW:D.r ob f)(s':St)(left:Bool)
  (hx:(if s.test.1.e≠0 then some (s.test.1,true) else if s.test.2=true then aI g (bZ f lp la) s.test.1 else aI g (bZ f lp lb) s.test.1)=some (s',left)):
  bp (.func (.func 222) #[] #[pt b1,pt b2]) (pt fb) w λe w'=>e=.returned (.int .i64 (sA left s'.e))/\kJ B W xb rb mb fb w m D lv lq s' w':=by
 refine⟨_,_,_,rfl,Cq,?_⟩;show Calls prog 222 #[pt fb,pt b1,pt b2] w _;have HA:=az (Rf h he hf);have Co:Hid (∀w' m' D' jt,FT xb rb mb fb w w' m m' D D' lv jt->(∀b t c,BD D.d w b t c->BD D'.d w' b t c)):=λw' m' D' jt ht=>hf.fD h ht;have HX:=az hx;have Ha:=az ha;have Hb:=az hb;have HW:=az hW;have H1:=az h1;have H2:=az h2;have hst:=St.wQ s _ hlp;obtain⟨ao,MK,rfl⟩:=ha.form;obtain⟨bo,oa,rfl⟩:=hb.form;clear h he hf hx ha hb hW h1 h2 hlp;go_enter func222,ntmps222
 go_wp2_with fail
 refine HA.out.mono ?_;rintro e w1 ⟨rfl,m1,D1,gi,hr1,cY,ht1⟩;have kd:=Co.out _ _ _ _ ht1;have c1:w1.cell? ⟨b1,0,none⟩=some (.slice ao la.length MK):=(kd _ _ _ H1.out).2.cell rfl;have c2:w1.cell? ⟨b2,0,none⟩=some (.slice bo lb.length oa):=(kd _ _ _ H2.out).2.cell rfl;by_cases hte:s.test.1.e=0
 ·rw[hte,lM];have hx:=HX.out;rw[af (by simpa using hte)] at hx;rw[hte] at cY;have hW1:D1.r ob f:=ht1.rg _ _ HW.out;have OM:=az ht1
  cases ht2:s.test.2
  ·rw[ht2,af (by decide)] at hx;have HC:=az (hB w1 xb rb mb fb m1 D1 s.test.1 s' f lp lq gi ob _ lb left hpq hr1 hte cY hst okb (by rw[ht1.bk];exact Hb.out.mono kd ht1.rg) hW1 hx);have HSG:=az (AA hte hx);clear hx kd hr1 cY hW1 ht1 HA
   go_wp2_with fail
   refine HC.out.mono ?_;rintro e w2 ⟨rfl,hp⟩;have HP:=az hp;clear hp;go_wp2;go_ret;rw[HSG.out];exact⟨rfl,HP.out.step OM.out⟩
  ·rw[ht2,ag rfl] at hx;have HC:=az (hB w1 xb rb mb fb m1 D1 s.test.1 s' f lp lq gi ob _ la left hpq hr1 hte cY hst oka (by rw[ht1.bk];exact Ha.out.mono kd ht1.rg) hW1 hx);have HSG:=az (AA hte hx);clear hx kd hr1 cY hW1 ht1 HA
   go_wp2_with fail
   refine HC.out.mono ?_;rintro e w2 ⟨rfl,hp⟩;have HP:=az hp;clear hp;go_wp2;go_ret;rw[HSG.out];exact⟨rfl,HP.out.step OM.out⟩
 ·rw[dA (.inr hte)];have hx:=HX.out;rw[ag hte] at hx;injection hx with hx;injection hx with hx1 hx2;have SM:=az hx1;have vY:=az hx2;have HR:=az hr1;have HF:=az cY;have HT:=az ht1;clear hx1 hx2 hr1 cY ht1 kd hte;go_wp2;go_ret;rw[<-SM.out,<-vY.out,dA (.inl rfl)];exact⟨rfl,m1,D1,gi,HR.out,HF.out,HT.out⟩
end
def s7 (w:World)(rb:Nat):Int:=match w.cell? ⟨rb,2,none⟩ with
 | some (.int _ n)=>n
 | _=>0
theorem PR.s7 {B:Nat}{W w:World}{xb rb mb:Nat}{m:MS}{D:GD}{s:St}(h:PR B W w xb rb mb m D s)(he:s.e=0):Go.Proofs.YteainaiebcphlaaGreatDoor.s7 w rb=s.steps:=by
 obtain⟨ns,hi,_⟩:=h.inv;have:w.cell? ⟨rb,2,none⟩=some (.int .i64 m.st):=hi.cF.cell rfl;unfold Go.Proofs.YteainaiebcphlaaGreatDoor.s7;rw[this,<-h.st he]
structure S7 (B:Nat)(W:World)(g xb rb mb fb:Nat)(w wr:World)(m:MS)(D:GD)(s':St)(f:Fr)(lp lq:List Int)(lv:Value)(x:It)(left:Bool):Prop where
 ex:∃g' m1 D1 gi s1,g'<=g/\PR B W wr xb rb mb m1 D1 s1/\s1.e=0/\lY B wr fb rb m1 D1 gi 0 lq/\(lq.length:Int)<=s1.steps/\FT xb rb mb fb w wr m m1 D D1 lv gi/\aI g' (cT f lp x) s1=some (s',left)/\(∀b t c,BD D.d w b t c->BD D1.d wr b t c)
section
variable {B:Nat}{W w:World}{xb rb mb fb:Nat}{m:MS}{D:GD}{s:St}{lv:Value}{lp lq:List Int}
theorem Rg (g:Nat)(hpq:PQ lp lq)(hB:∀g',g'<g->QB B W g')(h:PR B W w xb rb mb m D s)(he:s.e=0)(hf:lY B w fb rb m D lv 0 lq)(hlp:(lq.length:Int)<=s.steps)(f:Fr)(ob b1:Nat)(va:Value)(x:It)(hok:KV lp x)(hk:x.kind=117)(h1:BD D.d w b1 109 #[va])(ha:cQ (BD D.d w) D.r m.bk ob va x.a)(hW:D.r ob f)(s':St)(left:Bool)
  (hx:aI g (cT f lp x) s=some (s',left)):
  bp (.func (.func 224) #[] #[pt b1]) (pt fb) w λe w'=>e=.returned (.int .i64 (sA left s'.e))/\kJ B W xb rb mb fb w m D lv lq s' w':=by
 refine⟨_,_,_,rfl,Fe,?_⟩;show Calls prog 224 #[pt fb,pt b1] w _;have h0:Hid (S7 B W g xb rb mb fb w w m D s' f lp lq lv x left):=⟨⟨g,m,D,lv,s,ah _,h,he,hf,hlp,FT.refl _ _ _ _ _ _ _ _,hx,λ_ _ _ h=>h⟩⟩;have HB:=az hB;have Ha:=az ha;have HW:=az hW;have H1:=az h1;obtain⟨ao,MK,rfl⟩:=ha.form;clear hB h he hf hlp ha hW h1 hx;go_enter func224,ntmps224;go_wp2
 go_loopw [6] (λ_ wr=>S7 B W g xb rb mb fb w wr m D s' f lp lq lv x left) (λ_ wr=>(2002-s7 wr rb).toNat)
 case atStart=>exact h0.out
 case round=>
  obtain⟨g',m1,D1,gi,s1,hg,hr,he,hf,hlp,hto,hx,kd⟩:=hrel;have Rh:=hr.s7 he;have hs1:=hr.good.s2 he
  cases g' with
  | zero=>cases hx
  | succ g'=>
   rw[nB _ _ _ _ _ hk] at hx
   cases hb:aI g' (bZ f lp x.a) s1 with
   | none=>rw[hb] at hx;cases hx
   | some p=>
    obtain⟨s2,bH⟩:=p;rw[hb] at hx;dsimp only at hx;have c1:wr.cell? ⟨b1,0,none⟩=some (.slice ao x.a.length MK):=(kd _ _ _ H1.out).2.cell rfl;have HC:=az (HB.out g' (by omega) wr xb rb mb fb m1 D1 s1 s2 f lp lq gi ob _ x.a bH hpq hr he hf hlp (hok.ab (by omega)).1 (by rw[hto.bk];exact Ha.out.mono kd hto.rg) (hto.rg _ _ HW.out) hb);have Co:Hid (∀w' m' D' jt,FT xb rb mb fb wr w' m1 m' D1 D' gi jt->(∀b t c,BD D1.d wr b t c->BD D'.d w' b t c)):=λw' m' D' jt ht=>hf.fD hr ht;have hst:=(cH _ _ _ _ _ hb).2;have S8:=az kd;have Jr:=az hto;clear hr hf kd hto
    go_wp2_with fail
    refine HC.out.mono ?_;rintro e w1 ⟨rfl,m2,D2,r8,hr2,hf2,ht2⟩;have Ri:=Co.out _ _ _ _ ht2
    cases bH with
    | true=>
     rw[ag rfl] at hx;injection hx with hx;injection hx with q1 q2;subst q1 q2;have HR:=az hr2;have HF:=az hf2;have HT:=az (Jr.out.trans ht2);clear hr2 hf2 ht2 Ri hb;rw[show sig true=1 from rfl];go_wp2;go_ret;rw[dA (.inl rfl)];exact⟨rfl,m2,D2,r8,HR.out,HF.out,HT.out⟩
    | false=>
     rw[af (by decide)] at hx;have pF:=kX _ _ _ _ _ _ he hb;rw[pF] at hf2;rw[show sig false=0 from rfl];have HA:=az (Rf hr2 pF hf2);have Rj:Hid (∀w' m' D' jt,FT xb rb mb fb w1 w' m2 m' D2 D' r8 jt->(∀b t c,BD D2.d w1 b t c->BD D'.d w' b t c)):=λw' m' D' jt ht=>hf2.fD hr2 ht;have Rk:=az (Jr.out.trans ht2);have Rl:Hid (∀b t c,BD D.d w b t c->BD D2.d w1 b t c):=λb t c hh=>Ri b t c (S8.out b t c hh);have hts:=s2.cD;have HX:=az hx;clear hr2 hf2 ht2 Ri hb hx Co HC
     go_wp2_with fail
     refine HA.out.mono ?_;rintro e w2 ⟨rfl,m3,D3,BR,hr3,hf3,kg⟩;have ML:=Rj.out _ _ _ _ kg;have wJ:=az (Rk.out.trans kg);have hx:=HX.out;by_cases hte:s2.test.1.e=0
     ·rw[af (by simpa using hte)] at hx;rw[hte,lM]
      cases Cs:s2.test.2 with
      | true=>
       rw[Cs,ag rfl] at hx;injection hx with hx;injection hx with q1 q2;have yN:=az q1;have wP:=az q2;have HR:=az hr3;have HF:=az hf3;have vw:=az hte;clear hr3 hf3 kg ML q1 q2 Cs hte HX;go_wp2;go_ret;rw[<-wP.out,<-yN.out,vw.out,lM];exact⟨rfl,m3,D3,BR,HR.out,HF.out,wJ.out⟩
      | false=>
       rw[Cs,af (by decide)] at hx;have aao:=hr3.s7 hte;have hs3:=hr3.good.s2 hte;rw[hte] at hf3;have HN:Hid (S7 B W g xb rb mb fb w w2 m D s' f lp lq lv x left):=⟨⟨g',m3,D3,BR,s2.test.1,by omega,hr3,hte,hf3,by omega,wJ.out,hx,λb t c hh=>ML b t c (Rl.out b t c hh)⟩⟩;clear hr3 hf3 kg ML Cs HX hx;go_wp2
       go_roundw
       case rel=>exact HN.out
       case measure=>rw[Rh,aao];omega
     ·rw[ag hte] at hx;injection hx with hx;injection hx with q1 q2;rw[dA (.inr hte)];have yN:=az q1;have wP:=az q2;have HR:=az hr3;have HF:=az hf3;clear hr3 hf3 kg ML q1 q2 hte HX
      cases Cs:s2.test.2
      ·clear Cs;go_wp2;go_ret;rw[<-wP.out,<-yN.out,dA (.inl rfl)];exact⟨rfl,m3,D3,BR,HR.out,HF.out,wJ.out⟩
      ·clear Cs;go_wp2;go_ret;rw[<-wP.out,<-yN.out,dA (.inl rfl)];exact⟨rfl,m3,D3,BR,HR.out,HF.out,wJ.out⟩
end
section
variable {B:Nat}{W w:World}{xb rb mb fb:Nat}{m:MS}{D:GD}{s:St}{lv:Value}{lp lq:List Int}
theorem Rm (g:Nat)(hpq:PQ lp lq)(hB:∀g',g'<g->QB B W g')(h:PR B W w xb rb mb m D s)(he:s.e=0)(hf:lY B w fb rb m D lv 0 lq)(hlp:(lq.length:Int)<=s.steps)(f:Fr)(ob b1 b2:Nat)(va vb:Value)(x:It)(hok:KV lp x)(hk:x.kind=119)(h1:BD D.d w b1 109 #[va])(h2:BD D.d w b2 109 #[vb])(ha:cQ (BD D.d w) D.r m.bk ob va x.a)(hbb:cQ (BD D.d w) D.r m.bk ob vb x.b)(hW:D.r ob f)(s':St)(left:Bool)
  (hx:aI g (cT f lp x) s=some (s',left)):
  bp (.func (.func 225) #[] #[pt b1,pt b2]) (pt fb) w λe w'=>e=.returned (.int .i64 (sA left s'.e))/\kJ B W xb rb mb fb w m D lv lq s' w':=by
 refine⟨_,_,_,rfl,Ff,?_⟩;show Calls prog 225 #[pt fb,pt b1,pt b2] w _;have h0:Hid (S7 B W g xb rb mb fb w w m D s' f lp lq lv x left):=⟨⟨g,m,D,lv,s,ah _,h,he,hf,hlp,FT.refl _ _ _ _ _ _ _ _,hx,λ_ _ _ h=>h⟩⟩;have HB:=az hB;have Ha:=az ha;have HW:=az hW;have H1:=az h1;have Hb:=az hbb;have H2:=az h2;obtain⟨ao,MK,rfl⟩:=ha.form;obtain⟨bo,oa,rfl⟩:=hbb.form;clear hB h he hf hlp ha hbb hW h1 h2 hx;go_enter func225,ntmps225;go_wp2
 go_loopw [6] (λ_ wr=>S7 B W g xb rb mb fb w wr m D s' f lp lq lv x left) (λ_ wr=>(2002-s7 wr rb).toNat)
 case atStart=>exact h0.out
 case round=>
  obtain⟨g',m1,D1,gi,s1,hg,hr,he,hf,hlp,hto,hx,kd⟩:=hrel;have Rh:=hr.s7 he;have hs1:=hr.good.s2 he
  cases g' with
  | zero=>cases hx
  | succ g'=>
   rw[lB _ _ _ _ _ hk] at hx
   cases hb:aI g' (bZ f lp x.a) s1 with
   | none=>rw[hb] at hx;cases hx
   | some p=>
    obtain⟨s2,bH⟩:=p;rw[hb] at hx;dsimp only at hx;have c1:wr.cell? ⟨b1,0,none⟩=some (.slice ao x.a.length MK):=(kd _ _ _ H1.out).2.cell rfl;have HC:=az (HB.out g' (by omega) wr xb rb mb fb m1 D1 s1 s2 f lp lq gi ob _ x.a bH hpq hr he hf hlp (hok.ab (by omega)).1 (by rw[hto.bk];exact Ha.out.mono kd hto.rg) (hto.rg _ _ HW.out) hb);have Co:Hid (∀w' m' D' jt,FT xb rb mb fb wr w' m1 m' D1 D' gi jt->(∀b t c,BD D1.d wr b t c->BD D'.d w' b t c)):=λw' m' D' jt ht=>hf.fD hr ht;have hst:=(cH _ _ _ _ _ hb).2;have S8:=az kd;have Jr:=az hto;clear hr hf kd hto
    go_wp2_with fail
    refine HC.out.mono ?_;rintro e w1 ⟨rfl,m2,D2,r8,hr2,hf2,ht2⟩;have Ri:=Co.out _ _ _ _ ht2
    cases bH with
    | true=>
     rw[ag rfl] at hx;injection hx with hx;injection hx with q1 q2;subst q1 q2;have HR:=az hr2;have HF:=az hf2;have HT:=az (Jr.out.trans ht2);clear hr2 hf2 ht2 Ri hb;rw[show sig true=1 from rfl];go_wp2;go_ret;rw[dA (.inl rfl)];exact⟨rfl,m2,D2,r8,HR.out,HF.out,HT.out⟩
    | false=>
     rw[af (by decide)] at hx;have pF:=kX _ _ _ _ _ _ he hb;rw[pF] at hf2;rw[show sig false=0 from rfl];have HA:=az (Rf hr2 pF hf2);have Rj:Hid (∀w' m' D' jt,FT xb rb mb fb w1 w' m2 m' D2 D' r8 jt->(∀b t c,BD D2.d w1 b t c->BD D'.d w' b t c)):=λw' m' D' jt ht=>hf2.fD hr2 ht;have Rk:=az (Jr.out.trans ht2);have Rl:Hid (∀b t c,BD D.d w b t c->BD D2.d w1 b t c):=λb t c hh=>Ri b t c (S8.out b t c hh);have hts:=s2.cD;have HX:=az hx;clear hr2 hf2 ht2 Ri hb hx Co HC
     go_wp2_with fail
     refine HA.out.mono ?_;rintro e w2 ⟨rfl,m3,D3,BR,hr3,hf3,kg⟩;have ML:=Rj.out _ _ _ _ kg;have wJ:=az (Rk.out.trans kg);have hx:=HX.out;by_cases hte:s2.test.1.e=0
     ·rw[af (by simpa using hte)] at hx;rw[hte,lM]
      cases Cs:s2.test.2 with
      | false=>
       rw[Cs,ag rfl] at hx;injection hx with hx;injection hx with q1 q2;have yN:=az q1;have wP:=az q2;have HR:=az hr3;have HF:=az hf3;have vw:=az hte;clear hr3 hf3 kg ML q1 q2 Cs hte HX;go_wp2;go_ret;rw[<-wP.out,<-yN.out,vw.out,lM];exact⟨rfl,m3,D3,BR,HR.out,HF.out,wJ.out⟩
      | true=>
       rw[Cs,af (by decide)] at hx
       cases hb3:aI g' (bZ f lp x.b) s2.test.1 with
       | none=>rw[hb3] at hx;cases hx
       | some p3=>
        obtain⟨s3,iy⟩:=p3;rw[hb3] at hx;dsimp only at hx;rw[hte] at hf3;have Yd:∀b t c,BD D.d w b t c->BD D3.d w2 b t c:=λb t c hh=>ML b t c (Rl.out b t c hh);have c2:w2.cell? ⟨b2,0,none⟩=some (.slice bo x.b.length oa):=(Yd _ _ _ H2.out).2.cell rfl;have Ye:=az (HB.out g' (by omega) w2 xb rb mb fb m3 D3 s2.test.1 s3 f lp lq BR ob _ x.b iy hpq hr3 hte hf3 (by omega) (hok.ab (by omega)).2 (by rw[wJ.out.bk];exact Hb.out.mono Yd wJ.out.rg) (wJ.out.rg _ _ HW.out) hb3);have aap:Hid (∀w' m' D' jt,FT xb rb mb fb w2 w' m3 m' D3 D' BR jt->(∀b t c,BD D3.d w2 b t c->BD D'.d w' b t c)):=λw' m' D' jt ht=>hf3.fD hr3 ht;have UI:=(cH _ _ _ _ _ hb3).2;have HKw:=az Yd;clear hr3 hf3 kg ML Yd Cs HX
        go_wp2_with fail
        refine Ye.out.mono ?_;rintro e w3 ⟨rfl,m4,D4,XZ,hr4,wG,KY⟩;have S9:=aap.out _ _ _ _ KY;have Vx:=az (wJ.out.trans KY)
        cases iy with
        | true=>
         rw[ag rfl] at hx;injection hx with hx;injection hx with q1 q2;subst q1 q2;have HR:=az hr4;have HF:=az wG;clear hr4 wG KY S9 hb3;rw[show sig true=1 from rfl];go_wp2;go_ret;rw[dA (.inl rfl)];exact⟨rfl,m4,D4,XZ,HR.out,HF.out,Vx.out⟩
        | false=>
         rw[af (by decide)] at hx;have Yf:=kX _ _ _ _ _ _ hte hb3;have aaq:=hr4.s7 Yf;have hs4:=hr4.good.s2 Yf;rw[Yf] at wG;rw[show sig false=0 from rfl];have HN:Hid (S7 B W g xb rb mb fb w w3 m D s' f lp lq lv x left):=⟨⟨g',m4,D4,XZ,s3,by omega,hr4,Yf,wG,by omega,Vx.out,hx,λb t c hh=>S9 b t c (HKw.out b t c hh)⟩⟩;clear hr4 wG KY S9 hb3 hx;go_wp2
         go_roundw
         case rel=>exact HN.out
         case measure=>rw[Rh,aaq];omega
     ·rw[ag hte] at hx;injection hx with hx;injection hx with q1 q2;rw[dA (.inr hte)];have yN:=az q1;have wP:=az q2;have HR:=az hr3;have HF:=az hf3;clear hr3 hf3 kg ML q1 q2 hte HX
      cases Cs:s2.test.2
      ·clear Cs;go_wp2;go_ret;rw[<-wP.out,<-yN.out,dA (.inl rfl)];exact⟨rfl,m3,D3,BR,HR.out,HF.out,wJ.out⟩
      ·clear Cs;go_wp2;go_ret;rw[<-wP.out,<-yN.out,dA (.inl rfl)];exact⟨rfl,m3,D3,BR,HR.out,HF.out,wJ.out⟩
end
end
end Go.Proofs.YteainaiebcphlaaGreatDoor
