import Derived.Test.YteainaiebcphlaaGreatDoorQ11
import Derived.Test.YteainaiebcphlaaGreatDoorQ13
import Derived.Maps.RangeWalk
namespace Go.Proofs.YteainaiebcphlaaGreatDoor
set_option maxRecDepth 1000000
set_option maxHeartbeats 4000000
set_option linter.all false
open Go.Proofs.Tryz
section
open Go.RowKit
structure GD where
 d:Nat->Prop
 u:Nat->Prop
 r:Nat->Fr->Prop
 tag:Nat->Nat × Nat
 J:Int
structure WC where
 nm:ByteArray
 iv:Value
 sv:Value
 av:Value
 fa:Bool
 ct:Int
 gn:Bool
 pm:Option Nat
 wm:Option Nat
def WC.arr (c:WC):Array Value:=#[.string c.nm,c.iv,c.sv,c.av,.bool c.fa,.int .i64 c.ct,.bool c.gn,.map c.pm,.map c.wm]
theorem WC.inj {c c':WC}(h:c.arr=c'.arr):c=c':=by
 obtain⟨a1,a2,a3,a4,a5,a6,a7,a8,a9⟩:=c;obtain⟨b1,b2,b3,b4,b5,b6,b7,b8,b9⟩:=c';unfold WC.arr at h;simp at h;obtain⟨rfl,rfl,rfl,rfl,rfl,rfl,rfl,rfl,rfl⟩:=h;rfl
def Lj (r:Nat->Fr->Prop)(DD:DataW Value):Prop:=∀kl,Maps.has DD kl=true->∃ob f,kl=.string f.name/\r ob f/\∀zd,DD.atKey kl zd=.held (pt ob)
def wC (r:Nat->Fr->Prop)(w:World)(b:Nat)(DD:DataW Value):Prop:=(∃n,w.ownsMap prog 9 bQ b n DD)/\Lj r DD
def ot (D:GD)(w:World)(o:Option Nat)(tg:Nat × Nat):Prop:=∀b,o=some b->D.u b/\D.tag b=tg/\∃DD,wC D.r w b DD
structure dH (D:GD)(w:World)(bk ob:Nat)(f:Fr)(c:WC):Prop where
 blk:aC w ob 111 c.arr
 nm:c.nm.data.toList=f.name
 ns:c.nm.size<=1000
 it:cV (BD D.d w) c.iv f.body
 sl:cQ (BD D.d w) D.r bk ob c.sv f.body
 ac:cQ (BD D.d w) D.r bk ob c.av f.body
 pm:ot D w c.pm (ob,1)
 wm:ot D w c.wm (ob,0)
 wn:c.gn=false->c.wm.isSome=true
 u:D.u ob
 wf:∃G,wb (λ_=>True) G false f.body
theorem dH.inj {D:GD}{w:World}{bk ob:Nat}{f f':Fr}{c c':WC}(h:dH D w bk ob f c)(h':dH D w bk ob f' c'):c=c':=WC.inj (h.blk.inj h'.blk).2
structure wD (D D':GD)(w:World):Prop where
 u:∀k,D.u k->D'.u k
 r:∀o f,D.r o f->D'.r o f
 tag:∀k,k<w.heap.size->D'.tag k=D.tag k
theorem wD.refl (D:GD)(w:World):wD D D w:=⟨λ_ h=>h,λ_ _ h=>h,λ_ _=>rfl⟩
theorem Lj.mono {r r':Nat->Fr->Prop}{DD:DataW Value}(h:Lj r DD)(hr:∀o f,r o f->r' o f):Lj r' DD:=λkl hk=>by
 obtain⟨ob,f,h1,h2,h3⟩:=h kl hk;exact⟨ob,f,h1,hr _ _ h2,h3⟩
theorem wC.same {r r':Nat->Fr->Prop}{w w':World}{b:Nat}{DD:DataW Value}(h:wC r w b DD)(hr:∀o f,r o f->r' o f)(e:w'.heap[b]? = w.heap[b]?):wC r' w' b DD:=by
 obtain⟨⟨n,h1⟩,h2⟩:=h;exact⟨⟨n,aL h1 e⟩,h2.mono hr⟩
theorem wC.lt {r:Nat->Fr->Prop}{w:World}{b:Nat}{DD:DataW Value}(h:wC r w b DD):b<w.heap.size:=by obtain⟨⟨n,h1⟩,_⟩:=h;exact h1.lt
theorem wC.ne {r:Nat->Fr->Prop}{w:World}{b:Nat}{DD:DataW Value}(h:wC r w b DD){b':Nat}{t:TypeId}{c:Array Value}(hb:aC w b' t c):b≠b':=by obtain⟨⟨n,h1⟩,_⟩:=h;exact dh h1 hb
theorem ot.frame {D D':GD}{w w':World}{S:Nat->Prop}{o:Option Nat}{tg:Nat × Nat}(h:ot D w o tg)(hk:Kp w w' S)(hl:wD D D' w)(hs:∀b,o=some b->¬S b):ot D' w' o tg:=λb hb=>by
 obtain⟨h1,h2,DD,h3⟩:=h b hb;exact⟨hl.u b h1,by rw[hl.tag b h3.lt];exact h2,DD,h3.same hl.r (hk.block b h3.lt (hs b hb))⟩
theorem dH.frame {D D':GD}{w w':World}{S:Nat->Prop}{bk ob:Nat}{f:Fr}{c:WC}(h:dH D w bk ob f c)(hk:Kp w w' S)(hl:wD D D' w)(hd:∀b t c,BD D.d w b t c->BD D'.d w' b t c)(h1:¬S ob)(h2:∀b,c.pm=some b->¬S b)(h3:∀b,c.wm=some b->¬S b):dH D' w' bk ob f c:=
 ⟨hk.blk h.blk h1,h.nm,h.ns,h.it.mono hd,h.sl.mono hd hl.r,h.ac.mono hd hl.r,h.pm.frame hk hl h2,h.wm.frame hk hl h3,h.wn,hl.u _ h.u,h.wf⟩
structure kQ (D:GD)(w:World)(bk:Nat):Prop where
 ok:∀o f,D.r o f->∃c,dH D w bk o f c
 fn:∀o f f',D.r o f->D.r o f'->f=f'
 ud:∀k,D.u k->¬D.d k
 lt:∀k,D.u k->k<w.heap.size
 dl:∀k,D.d k->k<w.heap.size
def fT (D D':GD)(w w':World)(bk:Nat):Prop:=∀o f c,D.r o f->dH D w bk o f c->∃c',c'.gn=c.gn/\c'.nm=c.nm/\c'.iv=c.iv/\c'.sv=c.sv/\c'.wm=c.wm/\dH D' w' bk o f c'
theorem fT.trans {D D1 D2:GD}{w w1 w2:World}{bk:Nat}(h:fT D D1 w w1 bk)(hr:∀o f,D.r o f->D1.r o f)(g:fT D1 D2 w1 w2 bk):fT D D2 w w2 bk:=λo f c hd hc=>by
 obtain⟨c1,a1,a2,a3,a4,a5,h1⟩:=h o f c hd hc;obtain⟨c2,b1,b2,b3,b4,b5,h2⟩:=g o f c1 (hr o f hd) h1;exact⟨c2,b1.trans a1,b2.trans a2,b3.trans a3,b4.trans a4,b5.trans a5,h2⟩
section
variable {D:GD}{w w':World}{bk ob:Nat}{f:Fr}{c c':WC}
theorem kQ.next (h:kQ D w bk)(hk:w.heap.size<=w'.heap.size)(hp:fT D D w w' bk):kQ D w' bk:=
 ⟨λo f hr=>by obtain⟨c,hc⟩:=h.ok o f hr;obtain⟨c',_,_,_,_,_,h'⟩:=hp o f c hr hc;exact⟨c',h'⟩,h.fn,h.ud,λk hk'=>aj (h.lt k hk') hk,λk hk'=>aj (h.dl k hk') hk⟩
theorem Er (hd:∀k,D.u k->¬D.d k){S:Nat->Prop}(hS:∀k,S k->D.u k)(hk:Kp w w' S):∀b t c,BD D.d w b t c->BD D.d w' b t c:=
 λb _ _ h=>⟨h.1,hk.blk h.2 (λe=>hd b (hS b e) h.1)⟩
theorem ot.gW {o:Option Nat}{tg:Nat × Nat}(h:ot D w o tg){b:Nat}(hb:o=some b){b':Nat}{t:TypeId}{ca:Array Value}(hc:aC w b' t ca):¬b=b':=by
 obtain⟨_,_,DD,h3⟩:=h b hb;exact h3.ne hc
theorem kQ.word (hW:kQ D w bk)(hr:D.r ob f)(hc:dH D w bk ob f c)(hk:Kp w w' (λk=>k=ob))(hc':dH D w' bk ob f c')(e1:c'.gn=c.gn)(e2:c'.nm=c.nm)(e3:c'.iv=c.iv)(e4:c'.sv=c.sv)(e5:c'.wm=c.wm):fT D D w w' bk:=λo g c0 cZ hc0=>by
 by_cases ho:o=ob
 ·subst ho;have:=hW.fn o g f cZ hr;subst this;have:=hc0.inj hc;subst this;exact⟨c',e1,e2,e3,e4,e5,hc'⟩
 ·refine⟨c0,rfl,rfl,rfl,rfl,rfl,hc0.frame hk (wD.refl _ _) (Er hW.ud (λk e=>by have e:k=ob:=e;rw[e];exact hc.u) hk) ho (λb hb e=>?_) (λb hb e=>?_)⟩
  ·exact hc0.pm.gW hb hc.blk e
  ·exact hc0.wm.gW hb hc.blk e
theorem kQ.Es (hW:kQ D w bk)(hr:D.r ob f)(hc:dH D w bk ob f c){b:Nat}(hb:c.wm=some b)(hk:Kp w w' (λk=>k=b)){DD:DataW Value}(hm:wC D.r w' b DD):fT D D w w' bk:=λo g c0 cZ hc0=>by
 obtain⟨hu,ht,XS,hm0⟩:=hc.wm b hb;have hbd:=Er hW.ud (λk e=>by have e:k=b:=e;rw[e];exact hu) hk;by_cases ho:o=ob
 ·subst ho;have:=hW.fn o g f cZ hr;subst this;have:=hc0.inj hc;subst this;refine⟨c0,rfl,rfl,rfl,rfl,rfl,⟨hk.blk hc0.blk (λe=>hm0.ne hc0.blk e.symm),hc0.nm,hc0.ns,hc0.it.mono hbd,hc0.sl.mono hbd (λ_ _ h=>h),hc0.ac.mono hbd (λ_ _ h=>h),hc0.pm.frame hk (wD.refl _ _) (λb' e e2=>?_),λb' e=>?_,hc0.wn,hc0.u,hc0.wf⟩⟩
  ·obtain⟨_,q,_⟩:=hc0.pm b' e;have e2:b'=b:=e2;rw[e2,ht] at q;cases q
  ·rw[hb] at e;injection e with e;subst e;exact⟨hu,ht,DD,hm⟩
 ·refine⟨c0,rfl,rfl,rfl,rfl,rfl,hc0.frame hk (wD.refl _ _) hbd (λe=>hm0.ne hc0.blk (by have e:o=b:=e;exact e.symm)) (λb' e e2=>?_) (λb' e e2=>?_)⟩
  ·obtain⟨_,q,_⟩:=hc0.pm b' e;have e2:b'=b:=e2;rw[e2,ht] at q;cases q
  ·obtain⟨_,q,_⟩:=hc0.wm b' e;have e2:b'=b:=e2;rw[e2,ht] at q;injection q with q;exact ho q.symm
theorem kQ.kp (hW:kQ D w bk)(hk:Kp w w' (λ_=>False)):fT D D w w' bk/\kQ D w' bk:=by
 have hp:fT D D w w' bk:=λo g c0 cZ hc0=>⟨c0,rfl,rfl,rfl,rfl,rfl,hc0.frame hk (wD.refl _ _) (bU hk (λb _ hb=>⟨hb,by simp⟩)) (by simp) (by simp) (by simp)⟩;exact⟨hp,hW.next hk.size hp⟩
theorem kQ.out {S:Nat->Prop}(hW:kQ D w bk)(hk:Kp w w' S)(hu:∀k,D.u k->¬S k)(hd:∀k,D.d k->¬S k):fT D D w w' bk/\kQ D w' bk:=by
 have hp:fT D D w w' bk:=λo g c0 cZ hc0=>⟨c0,rfl,rfl,rfl,rfl,rfl,hc0.frame hk (wD.refl _ _) (bU hk (λb _ hb=>⟨hb,hd b hb⟩)) (hu _ hc0.u) (λb hb=>hu _ (hc0.pm b hb).1) (λb hb=>hu _ (hc0.wm b hb).1)⟩;exact⟨hp,hW.next hk.size hp⟩
end
def FU (D:GD)(w:World)(bk:Nat)(k:Nat):Prop:=(∃g,D.r k g)\/∃o g c,D.r o g/\dH D w bk o g c/\c.wm=some k
theorem FU.u {D:GD}{w:World}{bk k:Nat}(hW:kQ D w bk)(h:FU D w bk k):D.u k:=by
 rcases h with⟨g,h⟩|⟨o,g,c,h,hc,hm⟩
 ·obtain⟨c,hc⟩:=hW.ok k g h;exact hc.u
 ·exact(hc.wm k hm).1
theorem FU.back {D:GD}{w w':World}{bk k:Nat}(hW:kQ D w bk)(hp:fT D D w w' bk)(h:FU D w' bk k):FU D w bk k:=by
 rcases h with⟨g,h⟩|⟨o,g,c,h,hc,hm⟩
 ·exact .inl ⟨g,h⟩
 ·obtain⟨c0,hc0⟩:=hW.ok o g h;obtain⟨c1,_,_,_,_,e5,hc1⟩:=hp o g c0 h hc0;have:=hc1.inj hc;subst this;exact .inr ⟨o,g,c0,h,hc0,by rw[<-e5];exact hm⟩
theorem fJ {w w':World}{b r n cnt:Nat}{DD:DataW Value}{left:Lit->Bool}(h:w.ranges prog 9 bQ b r n DD left cnt)(e1:w'.heap[b]? = w.heap[b]?)(e2:w'.heap[r]? = w.heap[r]?):w'.ranges prog 9 bQ b r n DD left cnt:=by
 obtain⟨es,clock,since,seen,c0,h1,h2,h3,h4,h5,h6⟩:=h;exact⟨es,clock,since,seen,c0,e1.trans h1,h2,h3,h4,e2.trans h5,h6⟩
structure XV where
 fa:Nat->Bool
 ct:Nat->Int
 P:Nat->Nat->Prop
 H:Nat->Nat->Prop
def jv (n:Nat)(fr:Nat->Fr)(ob:Nat->Nat)(w:World)(o:Option Nat)(S:Nat->Prop):Prop:=
 (o=none/\∀j,j<n->¬S j)\/∃b DD,o=some b/\(∃m,w.ownsMap prog 9 bQ b m DD)/\(∀j,j<n->(Maps.has DD (.string (fr j).name)=true<->S j))/\∀kl,Maps.has DD kl=true->∃j,j<n/\kl=.string (fr j).name/\∀zd,DD.atKey kl zd=.held (pt (ob j))
section
variable {n:Nat}{fr:Nat->Fr}{ob:Nat->Nat}{w w':World}{o:Option Nat}{S S':Nat->Prop}
theorem jv.same (h:jv n fr ob w o S)(e:∀b,o=some b->w'.heap[b]? = w.heap[b]?):jv n fr ob w' o S:=by
 rcases h with h|⟨b,DD,rfl,⟨m,h1⟩,h2⟩
 ·exact .inl h
 ·exact .inr ⟨b,DD,rfl,⟨m,aL h1 (e b rfl)⟩,h2⟩
theorem jv.iff (h:jv n fr ob w o S)(e:∀j,j<n->(S j<->S' j)):jv n fr ob w o S':=by
 rcases h with⟨h,h1⟩|⟨b,DD,rfl,h1,h2,h3⟩
 ·exact .inl ⟨h,λj hj q=>h1 j hj ((e j hj).2 q)⟩
 ·exact .inr ⟨b,DD,rfl,h1,λj hj=>(h2 j hj).trans (e j hj),h3⟩
theorem jv.re (h:jv n fr ob w o S){n':Nat}{fr':Nat->Fr}{ob':Nat->Nat}(hn:n<=n')(hfr:∀j,j<n->S j->(fr' j).name=(fr j).name/\ob' j=ob j)(hS:∀j,j<n'->(S' j<->j<n/\S j))(nd:∀i j,i<n'->j<n'->(fr' i).name=(fr' j).name->i=j):jv n' fr' ob' w o S':=by
 rcases h with⟨h,h1⟩|⟨b,DD,rfl,h1,h2,h3⟩
 ·exact .inl ⟨h,λj hj q=>h1 j ((hS j hj).1 q).1 ((hS j hj).1 q).2⟩
 ·refine .inr ⟨b,DD,rfl,h1,λj hj=>⟨λq=>?_,λq=>?_⟩,λkl q=>?_⟩
  ·obtain⟨i,hi,e,_⟩:=h3 _ q;injection e with e;rw[e] at q;have hs:=(h2 i hi).1 q;have:=nd i j (by omega) hj ((hfr i hi hs).1.trans e.symm);subst this;exact(hS i hj).2 ⟨hi,hs⟩
  ·obtain⟨hl,hs⟩:=(hS j hj).1 q;rw[(hfr j hl hs).1];exact(h2 j hl).2 hs
  ·obtain⟨i,hi,e,e2⟩:=h3 kl q;rw[e] at q;have hs:=(h2 i hi).1 q;obtain⟨a1,a2⟩:=hfr i hi hs;exact⟨i,by omega,by rw[a1];exact e,by rw[a2];exact e2⟩
theorem jv.PG {b:Nat}(h:jv n fr ob w (some b) S){r:Nat->Fr->Prop}(hr:∀j,j<n->r (ob j) (fr j)):∃DD,wC r w b DD:=by
 rcases h with⟨h,_⟩|⟨b',DD,e,h1,h2,h3⟩
 ·cases h
 ·injection e with e;subst e;exact⟨DD,h1,λkl q=>by obtain⟨j,hj,e1,e2⟩:=h3 kl q;exact⟨ob j,fr j,e1,hr j hj,e2⟩⟩
theorem jv.del {b:Nat}(h:jv n fr ob w (some b) S)(nd:∀i j,i<n->j<n->(fr i).name=(fr j).name->i=j)(k:Nat)(hk:k<n)(nm:ByteArray)(hnm:nm.data.toList=(fr k).name)(hs:nm.size<=1000):
  ∃w',(∀ty,(Builtin.delete_ #[104,9] ty #[.map (some b),.string nm]).run prog w=.ok (.tuple #[]) w')/\Kp w w' (λk=>k=b)/\w'.heap.size=w.heap.size/\jv n fr ob w' (some b) (λj=>S j/\j≠k):=by
 rcases h with⟨h,_⟩|⟨b',DD,e,⟨m,h1⟩,h2,h3⟩
 ·cases h
 injection e with e;subst e;have hkey:=DW nm (ai hs (by decide));obtain⟨w',hrun,hown,ht⟩:=h1.drop (Maps.string_keyed underlying9) underlying104 hkey 0;have hg:=ht.grown;have hne:∀j,j<n->j≠k->¬Lit.string (fr j).name=.string nm.data.toList:=λj hj q e=>by
  injection e with e;exact q (nd j k hj hk (e.trans hnm))
 refine⟨w',λty=>hrun,(Kp.refl w _).grown hg (λk _ e=>(Option.some.inj e).symm),?_,.inr ⟨b,_,rfl,⟨m,hown⟩,λj hj=>?_,λkl hkl=>?_⟩⟩
 ·obtain⟨es,cl,es',cl',hb,rfl⟩:=ht;simp[ChangeMaps.setBlock]
 ·by_cases q:j=k
  ·subst q;rw[<-hnm,Maps.has_del_same];exact⟨λh=>(by cases h),λh=>ax rfl h.2⟩
  ·rw[Maps.has_del_other (hne j hj q),h2 j hj];exact⟨λh=>⟨h,q⟩,λh=>h.1⟩
 ·have hn:¬kl=.string nm.data.toList:=by
   rintro rfl;rw[Maps.has_del_same] at hkl;cases hkl
  rw[Maps.has_del_other hn] at hkl;obtain⟨j,hj,e1,e2⟩:=h3 kl hkl;exact⟨j,hj,e1,λzd=>by rw[Maps.atKey_del_other hn];exact e2 zd⟩
theorem jv.put {b:Nat}(h:jv n fr ob w (some b) S)(mD:n<=30)(nd:∀i j,i<n->j<n->(fr i).name=(fr j).name->i=j)(k:Nat)(hk:k<n)(nm:ByteArray)(hnm:nm.data.toList=(fr k).name)(hs:nm.size<=1000):
  ∃w',(Instr.mapUpdate 104 (.map (some b)) (.string nm) (pt (ob k))).run prog w=.ok () w'/\Kp w w' (λk=>k=b)/\jv n fr ob w' (some b) (λj=>S j\/j=k):=by
 rcases h with⟨h,_⟩|⟨b',DD,e,⟨m,h1⟩,h2,h3⟩
 ·cases h
 injection e with e;subst e;have hsz:nm.size<=maxLen:=ai hs (by decide);have hle:Maps.size DD<=((List.range n).map (λj=>Lit.string (fr j).name)).length:=mH h1 (Maps.string_keyed underlying9) _ (λkl hkl=>by
  obtain⟨j,hj,e1,_⟩:=h3 kl hkl;rw[e1];exact List.mem_map.2 ⟨j,List.mem_range.2 hj,rfl⟩)
 have Et:Maps.size DD<maxLen:=by
  rw[List.length_map,List.length_range] at hle;have mD:(30:Nat)<maxLen:=by decide
  omega
 obtain⟨w2,hrun,hm2,hg⟩:=(lH h1).update (Maps.string_keyed underlying9) underlying104 Et (key:=.string nm) (val:=pt (ob k)) (kl:=.string nm.data.toList) (d:=.held (pt (ob k))) (ps:=[]) (DW nm hsz) rfl;have htd:=h1.tidy (Maps.string_keyed underlying9);have bC:WideAt.IsKeyLit (.string nm.data.toList):=trivial;have hne:∀j,j<n->j≠k->¬Lit.string (fr j).name=.string nm.data.toList:=λj hj q e=>by
  injection e with e;exact q (nd j k hj hk (e.trans hnm))
 refine⟨w2,hrun,(Kp.refl w _).grown hg (λk _ e=>(Option.some.inj e).symm),.inr ⟨b,_,rfl,⟨_,hm2⟩,λj hj=>?_,λkl hkl=>?_⟩⟩
 ·by_cases q:j=k
  ·subst q;rw[<-hnm,Maps.has_put_same htd.isMap bC];exact⟨λ_=>.inr rfl,λ_=>rfl⟩
  ·rw[Maps.has_put_other (hne j hj q),h2 j hj];exact⟨.inl,λh=>h.elim id (λh=>ax h q)⟩
 ·by_cases e:kl=.string nm.data.toList
  ·subst e;exact⟨k,hk,by rw[hnm],λzd=>Maps.atKey_put_same htd.isMap bC _ _⟩
  ·rw[Maps.has_put_other e] at hkl;obtain⟨j,hj,e1,e2⟩:=h3 kl hkl;exact⟨j,hj,e1,λzd=>by rw[Maps.atKey_put_other e];exact e2 zd⟩
end
structure EX (D:GD)(w:World)(bk n:Nat)(fr:Nat->Fr)(ob:Nat->Nat)(X:XV)(q:Nat->Prop):Prop where
 r:∀k,k<n->D.r (ob k) (fr k)
 nd:∀i j,i<n->j<n->(fr i).name=(fr j).name->i=j
 wc:∀k,k<n->∃c,dH D w bk (ob k) (fr k) c/\c.fa=X.fa k/\c.ct=X.ct k/\jv n fr ob w c.pm (X.P k)/\(¬q k->jv n fr ob w c.wm (λj=>X.H j k))/\(q k->c.wm=none)
theorem ot.lt {D:GD}{w:World}{o:Option Nat}{tg:Nat × Nat}(h:ot D w o tg){b:Nat}(hb:o=some b):b<w.heap.size:=by
 obtain⟨_,_,DD,h3⟩:=h b hb;exact h3.lt
section
variable {D D':GD}{w w':World}{bk n:Nat}{fr:Nat->Fr}{ob:Nat->Nat}{X X':XV}{q q':Nat->Prop}
theorem EX.inj (h:EX D w bk n fr ob X q)(hW:kQ D w bk){i j:Nat}(hi:i<n)(hj:j<n)(e:ob i=ob j):i=j:=by
 have h1:=h.r i hi;rw[e] at h1;exact h.nd i j hi hj (congrArg Fr.name (hW.fn _ _ _ h1 (h.r j hj)))
theorem EX.frame {S:Nat->Prop}(h:EX D w bk n fr ob X q)(hk:Kp w w' S)(hl:wD D D' w)(hd:∀b t c,BD D.d w b t c->BD D'.d w' b t c)(hu:∀k,D.u k->¬S k):EX D' w' bk n fr ob X q:=by
 refine⟨λk hk=>hl.r _ _ (h.r k hk),h.nd,λk hkn=>?_⟩;obtain⟨c,hc,h1,h2,h3,h4,h5⟩:=h.wc k hkn;refine⟨c,hc.frame hk hl hd (hu _ hc.u) (λb hb=>hu _ (hc.pm b hb).1) (λb hb=>hu _ (hc.wm b hb).1),h1,h2,h3.same (λb hb=>hk.block b (hc.pm.lt hb) (hu _ (hc.pm b hb).1)),λe=>(h4 e).same (λb hb=>hk.block b (hc.wm.lt hb) (hu _ (hc.wm b hb).1)),h5⟩
theorem EX.out {S:Nat->Prop}(h:EX D w bk n fr ob X q)(hk:Kp w w' S)(hu:∀k,D.u k->¬S k)(hd:∀k,D.d k->¬S k):EX D w' bk n fr ob X q:=
 h.frame hk (wD.refl _ _) (bU hk (λb _ hb=>⟨hb,hd b hb⟩)) hu
theorem EX.kp (h:EX D w bk n fr ob X q)(hk:Kp w w' (λ_=>False)):EX D w' bk n fr ob X q:=h.out hk (λ_ _ e=>e) (λ_ _ e=>e)
theorem EX.iff (h:EX D w bk n fr ob X q)(h1:∀k,k<n->X'.fa k=X.fa k)(h2:∀k,k<n->X'.ct k=X.ct k)(h3:∀k j,k<n->j<n->(X.P k j<->X'.P k j))(h4:∀k j,k<n->j<n->¬q j->(X.H k j<->X'.H k j)):EX D w bk n fr ob X' q:=by
 refine⟨h.r,h.nd,λk hk=>?_⟩;obtain⟨c,hc,a1,a2,a3,a4,a5⟩:=h.wc k hk;exact⟨c,hc,a1.trans (h1 k hk).symm,a2.trans (h2 k hk).symm,a3.iff (λj hj=>h3 k j hk hj),λe=>(a4 e).iff (λj hj=>h4 j k hj hk e),a5⟩
theorem EX.word (h:EX D w bk n fr ob X q)(hW:kQ D w bk){k:Nat}(hk:k<n){c c':WC}(hc:dH D w bk (ob k) (fr k) c)(hkp:Kp w w' (λb=>b=ob k))(hc':dH D w' bk (ob k) (fr k) c')(h1:c'.fa=X'.fa k)(h2:c'.ct=X'.ct k)(h3:jv n fr ob w' c'.pm (X'.P k))(h4:¬q' k->jv n fr ob w' c'.wm (λj=>X'.H j k))(h5:q' k->c'.wm=none)
  (ho:∀j,j<n->j≠k->X'.fa j=X.fa j/\X'.ct j=X.ct j/\(∀i,i<n->(X.P j i<->X'.P j i))/\(∀i,i<n->(X.H i j<->X'.H i j))/\(q' j<->q j)):EX D w' bk n fr ob X' q':=by
 refine⟨h.r,h.nd,λj hj=>?_⟩;by_cases e:j=k
 ·subst e;exact⟨c',hc',h1,h2,h3,h4,h5⟩
 obtain⟨c0,hc0,a1,a2,a3,a4,a5⟩:=h.wc j hj;obtain⟨b1,b2,b3,b4,b5⟩:=ho j hj e;have hne:¬ob j=ob k:=λe2=>e (h.inj hW hj hk e2);have n1:∀b,c0.pm=some b->¬b=ob k:=λb hb=>hc0.pm.gW hb hc.blk;have n2:∀b,c0.wm=some b->¬b=ob k:=λb hb=>hc0.wm.gW hb hc.blk;refine⟨c0,hc0.frame hkp (wD.refl _ _) (Er hW.ud (λx e=>by rw[show x=ob k from e];exact hc.u) hkp) hne n1 n2,a1.trans b1.symm,a2.trans b2.symm,(a3.same (λb hb=>hkp.block b (hc0.pm.lt hb) (n1 b hb))).iff b3,λe=>((a4 (λq=>e (b5.2 q))).same (λb hb=>hkp.block b (hc0.wm.lt hb) (n2 b hb))).iff b4,λe=>a5 (b5.1 e)⟩
theorem EX.Es (h:EX D w bk n fr ob X q)(hW:kQ D w bk){k:Nat}(hk:k<n){c:WC}(hc:dH D w bk (ob k) (fr k) c){b:Nat}(hb:c.wm=some b)(hkp:Kp w w' (λx=>x=b)){S:Nat->Prop}(hm:jv n fr ob w' (some b) S)(h1:X'.fa=X.fa)(h2:X'.ct=X.ct)(h3:X'.P=X.P)(hS:∀i,i<n->(S i<->X'.H i k))(hH:∀i j,i<n->j<n->j≠k->(X.H i j<->X'.H i j)):EX D w' bk n fr ob X' q:=by
 obtain⟨hu,ht,XS,hm0⟩:=hc.wm b hb;obtain⟨DD1,xJ⟩:=hm.PG h.r;have nY:=hW.Es (h.r k hk) hc hb hkp xJ;refine⟨h.r,h.nd,λj hj=>?_⟩;obtain⟨c0,hc0,a1,a2,a3,a4,a5⟩:=h.wc j hj;obtain⟨c1,-,-,-,-,-,hc1⟩:=nY _ _ c0 (h.r j hj) hc0;have l8:¬ob j=b:=λe=>hm0.ne hc0.blk e.symm;have:c1=c0:=WC.inj (hc1.blk.inj (hkp.blk hc0.blk l8)).2;subst this;have n1:∀b',c1.pm=some b'->¬b'=b:=λb' e e2=>by
  obtain⟨_,t,_⟩:=hc0.pm b' e;rw[e2,ht] at t;have t:=congrArg Prod.snd t;simp at t
 refine⟨c1,hc1,a1.trans (by rw[h1]),a2.trans (by rw[h2]),?_,λe=>?_,a5⟩
 ·rw[h3];exact a3.same (λb' e=>hkp.block b' (hc0.pm.lt e) (n1 b' e))
 ·by_cases ej:j=k
  ·subst ej;have:=hc0.inj hc;subst this;rw[hb];exact hm.iff hS
  ·refine((a4 e).same (λb' e=>hkp.block b' (hc0.wm.lt e) (λe2=>?_))).iff (λi hi=>hH i j hi hj ej);obtain⟨_,t,_⟩:=hc0.wm b' e;have e2:b'=b:=e2;rw[e2,ht] at t;injection t with t;exact ej (h.inj hW hj hk t.symm)
end
theorem bW.other {w w':World}{sb bk mb:Nat}{aA:Tok->Bool}{ws:List ByteArray}{lo b0:Nat}(h:bW w sb bk mb aA ws lo)(hk:Kp w w' (λb=>b=b0)){c:Array Value}(hZ:aC w b0 241 c)(h1:1<b0):bW w' sb bk mb aA ws lo:=by
 obtain⟨rv,hB,hT⟩:=h.blk;obtain⟨nn,DD,hm,hl⟩:=h.book.look;have hne:∀b t c,aC w b t c->t≠241->¬b=b0:=λb t c hb ht e=>by subst e;exact ht (hb.inj hZ).1
 exact⟨⟨rv,hk.blk hB (hne sb _ _ hB (by decide)),cO (λb c hc=>⟨hc.1,hk.blk hc.2 (hne b 9 c hc.2 (by decide))⟩) hT⟩,h.book.kp hk (hne bk _ _ h.book.blk (by decide)) (λe=>dh hm hZ e),h.len,h.ok,h.sp.kp hk (by show ¬(1:Nat)=b0;omega),h.s1⟩
theorem Kp.nZ {w:World}(b:Nat)(v0 v1 v2 v3 v4 v5 v6:Value):
  Kp w (((((((w.setCell ⟨b,0,none⟩ v0).setCell ⟨b,1,none⟩ v1).setCell ⟨b,2,none⟩ v2).setCell ⟨b,3,none⟩ v3).setCell ⟨b,4,none⟩ v4).setCell ⟨b,5,none⟩ v5).setCell ⟨b,6,none⟩ v6) (λk=>k=b):=
 (((((((Kp.refl w (λk=>k=b)).set (a:=⟨b,0,none⟩) (λ_=>rfl) v0).set (a:=⟨b,1,none⟩) (λ_=>rfl) v1).set (a:=⟨b,2,none⟩) (λ_=>rfl) v2).set (a:=⟨b,3,none⟩) (λ_=>rfl) v3).set (a:=⟨b,4,none⟩) (λ_=>rfl) v4).set (a:=⟨b,5,none⟩) (λ_=>rfl) v5).set (a:=⟨b,6,none⟩) (λ_=>rfl) v6
theorem mI {M:Mem}{P:Value->List It->Prop}(k:Nat)(va vb:Value)(a b:List It)(hk:k=63\/k=117\/k=119\/k=100)(ha:P va a)(hb:P vb b):wo M P ⟨k,0,[],a,b,[]⟩ 0 0 ⟨#[]⟩ (.slice none 0 0) va vb:=by
 refine⟨?_,λh=>?_,λh=>?_,λh=>?_,⟨[],.inl ⟨rfl,rfl⟩,λh=>?_⟩,ha,hb⟩
 ·rcases hk with h|h|h|h <;> simp[h]
 ·have h:k=110:=h
  exfalso;omega
 ·have h:k=112:=h
  exfalso;omega
 ·have h:k=99:=h
  exfalso;omega
 ·have h:k=123:=h
  exfalso;omega
theorem doQ (g:Nat)(hQ:tI g)(w:World)(sb bk mb:Nat)(aA:Tok->Bool)(ws:List ByteArray)(lo:Nat)(XT:ws.length+lo+1<=1000)(res:fh)(aG:aK aA (g+1) ⟨true,lo,[],Gr⟩ (aD ws)=some res)(h:bW w sb bk mb aA ws lo):
  Calls prog 240 #[pt sb] w λx w'=>Kp w w' (λb=>b=sb)/\rE w sb bk mb aA lo x w' res:=by
 obtain⟨rv,hB,hT⟩:=h.blk;have hsb:=hB.lt;have hcs:sb≠w.heap.size:=by omega
 have Bf:=h.sp.lt;have c2:w.cell? ⟨sb,2,none⟩=some (.int .i64 lo):=hB.cell rfl;have f2:=hB.free 2;have hlo:(lo:Int)<=1000:=by omega
 have Eu:bW ((w.setCell ⟨sb,2,none⟩ (.int .i64 ((lo:Int)+1))).alloc (.cells #[.int .i64 0,.int .i64 0,.int .i64 0,.string ⟨#[]⟩,.slice none 0 0,.slice none 0 0,.slice none 0 0] 241)) sb bk mb aA ws (lo+1):=
  (h.to (Kp.one _ _ _ _) rv (hB.set 2 _) hT (by omega) h.ok).kp ((Kp.refl _ (λ_=>False)).alloc _)
 have YX:aC ((w.setCell ⟨sb,2,none⟩ (.int .i64 ((lo:Int)+1))).alloc (.cells #[.int .i64 0,.int .i64 0,.int .i64 0,.string ⟨#[]⟩,.slice none 0 0,.slice none 0 0,.slice none 0 0] 241)) w.heap.size 241 #[.int .i64 0,.int .i64 0,.int .i64 0,.string ⟨#[]⟩,.slice none 0 0,.slice none 0 0,.slice none 0 0]:=by
  have:=aC.new (w.setCell ⟨sb,2,none⟩ (.int .i64 ((lo:Int)+1))) #[.int .i64 0,.int .i64 0,.int .i64 0,.string ⟨#[]⟩,.slice none 0 0,.slice none 0 0,.slice none 0 0] 241;simpa using this
 have bC:Kp w ((w.setCell ⟨sb,2,none⟩ (.int .i64 ((lo:Int)+1))).alloc (.cells #[.int .i64 0,.int .i64 0,.int .i64 0,.string ⟨#[]⟩,.slice none 0 0,.slice none 0 0,.slice none 0 0] 241)) (λb=>b=sb):=(Kp.one w sb 2 _).alloc _;have TS:((w.setCell ⟨sb,2,none⟩ (.int .i64 ((lo:Int)+1))).alloc (.cells #[.int .i64 0,.int .i64 0,.int .i64 0,.string ⟨#[]⟩,.slice none 0 0,.slice none 0 0,.slice none 0 0] 241)).heap.size=w.heap.size+1:=by simp
 have hup:∃Ev,aK aA g ⟨false,lo+1,[mA],[]⟩ (aD ws)=some Ev/\((∃e,Ev=.error e/\res=.error e)\/∃a t1 r1,Ev=.ok (a,t1,r1)/\res=.ok ([⟨100,0,[],a,[],[]⟩],[],r1)):=by
  rcases Oi aG with⟨e,h1,h2⟩|⟨a,t1,r1,h1,h2⟩
  ·exact⟨_,h1,.inl ⟨e,rfl,h2⟩⟩
  ·exact⟨_,h1,.inr ⟨a,t1,r1,rfl,h2⟩⟩
 obtain⟨Ev,hrB,dz⟩:=hup;have HU:=az (Gv g hQ _ sb bk mb aA ws (lo+1) mA 30 (by decide) (by decide) Ev hrB Eu);have HC:=az dz;clear hQ aG hrB Eu dz XT;go_enter func240,ntmps240
 go_wp2_with fail
 refine HU.out.mono ?_;rintro x w2 ⟨hk2,hq⟩;have Ll:=hk2.blk YX hcs.symm;have dR:=bC.trans hk2;have hsz2:=hk2.size;rw[TS] at hsz2;have dz:=HC.out;rcases Ev with er|⟨l,t1,r1⟩
 ·obtain⟨her,a5,m5,p5,rH,rfl,hB2'⟩:=hq;have hre:res=.error er:=by
   rcases dz with⟨e,h1,h2⟩|⟨_,_,_,h1,_⟩
   ·injection h1 with h1;rw[h2,h1]
   ·cases h1
  have HR:=az hre;have d2:w2.cell? ⟨sb,2,none⟩=some (.int .i64 ((lo:Int)+1)):=by have:=hB2'.cell (o:=2) (v:=.int .i64 ((lo+1:Nat):Int)) rfl;simpa using this
  have g2:=hB2'.free 2;have cX:aC (w2.setCell ⟨sb,2,none⟩ (.int .i64 lo)) sb 201 (gA rH bk lo):=hB2'.set 2 _;have hZ:=Ll.setOther (a:=⟨sb,2,none⟩) hcs.symm (.int .i64 lo);have hkp:=dR.trans (Kp.one w2 sb 2 (.int .i64 lo));obtain⟨y0,y1,y2,y3,y4,y5,y6⟩:=Ll.seven;obtain⟨z0,z1,z2,z3,z4,z5,z6⟩:=Ll.fk;clear dz hre HC HU hB2' bC hk2 YX dR;go_wp2;have bS:=hZ.dL (.int .i64 6) (.int .i64 0) (.int .i64 0) (.string ⟨#[]⟩) (.slice none 0 0) (.slice a5 m5 p5) (.slice none 0 0);have hK2:=hkp.dL (ah _) (.int .i64 6) (.int .i64 0) (.int .i64 0) (.string ⟨#[]⟩) (.slice none 0 0) (.slice a5 m5 p5) (.slice none 0 0);have hk3:=Kp.nZ (w:=(w2.setCell ⟨sb,2,none⟩ (.int .i64 lo))) w.heap.size (.int .i64 6) (.int .i64 0) (.int .i64 0) (.string ⟨#[]⟩) (.slice none 0 0) (.slice a5 m5 p5) (.slice none 0 0);have aX:=cX.dM hcs (.int .i64 6) (.int .i64 0) (.int .i64 0) (.string ⟨#[]⟩) (.slice none 0 0) (.slice a5 m5 p5) (.slice none 0 0);generalize ((((((((w2.setCell ⟨sb,2,none⟩ (.int .i64 lo)).setCell ⟨w.heap.size,0,none⟩ (.int .i64 6)).setCell ⟨w.heap.size,1,none⟩ (.int .i64 0)).setCell ⟨w.heap.size,2,none⟩ (.int .i64 0)).setCell ⟨w.heap.size,3,none⟩ (.string ⟨#[]⟩)).setCell ⟨w.heap.size,4,none⟩ (.slice none 0 0)).setCell ⟨w.heap.size,5,none⟩ (.slice a5 m5 p5)).setCell ⟨w.heap.size,6,none⟩ (.slice none 0 0))=wf at bS hK2 aX hk3 ⊢;obtain⟨q0,q1,q2,q3,q4,q5,q6⟩:=bS.seven;refine bodyPost_ret (v:=.tuple #[.agg #[.int .i64 6,.int .i64 0,.int .i64 0,.string ⟨#[]⟩,.slice none 0 0,.slice a5 m5 p5,.slice none 0 0],.int .i64 er]) (by simp[results,results240,go_sem,q0,q1,q2,q3,q4,q5,q6]) rfl ?_;rw[HR.out];exact⟨hK2,her,_,_,_,_,_,_,_,_,_,_,_,_,_,_,rfl,aX⟩
 ·obtain⟨v,eZ,rfl,hI,htx,fM⟩:=hq;have hre:res=.ok ([⟨100,0,[],l,[],[]⟩],[],r1):=by
   rcases dz with⟨e,h1,_⟩|⟨a,t2,r2,h1,h2⟩
   ·cases h1
   ·injection h1 with h1;injection h1 with h3 h1;injection h1 with _ h4;rw[h2,h3,h4]
  have HR:=az hre;obtain⟨xs,aJ,-⟩:=hI.out;obtain⟨a5,p5,rfl⟩:=aJ.form;obtain⟨rH,hB2',zq⟩:=fM.blk;have d2:w2.cell? ⟨sb,2,none⟩=some (.int .i64 ((lo:Int)+1)):=by have:=hB2'.cell (o:=2) (v:=.int .i64 ((lo+1:Nat):Int)) rfl;simpa using this
  have g2:=hB2'.free 2;have cX:aC (w2.setCell ⟨sb,2,none⟩ (.int .i64 lo)) sb 201 (gA rH bk lo):=hB2'.set 2 _;have hZ:=Ll.setOther (a:=⟨sb,2,none⟩) hcs.symm (.int .i64 lo);have hone:=Kp.one w2 sb 2 (.int .i64 lo);have hkp:=dR.trans hone;have iw:bW (w2.setCell ⟨sb,2,none⟩ (.int .i64 lo)) sb bk mb aA eZ lo:=fM.to hone rH cX zq (by have:=fM.len;omega) fM.ok;have hka:=bU (D:=New ((w.setCell ⟨sb,2,none⟩ (.int .i64 ((lo:Int)+1))).alloc (.cells #[.int .i64 0,.int .i64 0,.int .i64 0,.string ⟨#[]⟩,.slice none 0 0,.slice none 0 0,.slice none 0 0] 241))) (D':=λb=>w.heap.size+1<=b) hone (λb _ hb=>by
   have hb:((w.setCell ⟨sb,2,none⟩ (.int .i64 ((lo:Int)+1))).alloc (.cells #[.int .i64 0,.int .i64 0,.int .i64 0,.string ⟨#[]⟩,.slice none 0 0,.slice none 0 0,.slice none 0 0] 241)).heap.size<=b:=hb;rw[TS] at hb;exact⟨hb,by show ¬b=sb;omega⟩)
  have yq:=hI.mono hka;have TT:=az yq;have YY:=az iw;obtain⟨y0,y1,y2,y3,y4,y5,y6⟩:=Ll.seven;obtain⟨z0,z1,z2,z3,z4,z5,z6⟩:=Ll.fk;clear dz hre HC HU hB2' bC hk2 YX dR hone hka hI yq fM iw zq aJ;go_wp2;have bS:=hZ.dL (.int .i64 6) (.int .i64 0) (.int .i64 0) (.string ⟨#[]⟩) (.slice none 0 0) (.slice a5 l.length p5) (.slice none 0 0);have hK2:=hkp.dL (ah _) (.int .i64 6) (.int .i64 0) (.int .i64 0) (.string ⟨#[]⟩) (.slice none 0 0) (.slice a5 l.length p5) (.slice none 0 0);have hk3:=Kp.nZ (w:=(w2.setCell ⟨sb,2,none⟩ (.int .i64 lo))) w.heap.size (.int .i64 6) (.int .i64 0) (.int .i64 0) (.string ⟨#[]⟩) (.slice none 0 0) (.slice a5 l.length p5) (.slice none 0 0);have aX:=cX.dM hcs (.int .i64 6) (.int .i64 0) (.int .i64 0) (.string ⟨#[]⟩) (.slice none 0 0) (.slice a5 l.length p5) (.slice none 0 0);generalize ((((((((w2.setCell ⟨sb,2,none⟩ (.int .i64 lo)).setCell ⟨w.heap.size,0,none⟩ (.int .i64 6)).setCell ⟨w.heap.size,1,none⟩ (.int .i64 0)).setCell ⟨w.heap.size,2,none⟩ (.int .i64 0)).setCell ⟨w.heap.size,3,none⟩ (.string ⟨#[]⟩)).setCell ⟨w.heap.size,4,none⟩ (.slice none 0 0)).setCell ⟨w.heap.size,5,none⟩ (.slice a5 l.length p5)).setCell ⟨w.heap.size,6,none⟩ (.slice none 0 0))=wf at bS hK2 aX hk3 ⊢;obtain⟨q0,q1,q2,q3,q4,q5,q6⟩:=bS.seven;refine bodyPost_ret (v:=.tuple #[.agg #[.int .i64 6,.int .i64 0,.int .i64 0,.string ⟨#[]⟩,.slice none 0 0,.slice a5 l.length p5,.slice none 0 0],.int .i64 0]) (by simp[results,results240,go_sem,q0,q1,q2,q3,q4,q5,q6]) rfl ?_;rw[HR.out];have hkb:=bU (D:=λb=>w.heap.size+1<=b) (D':=New w) hk3 (λb _ hb=>⟨by show w.heap.size<=b;omega,by show ¬b=w.heap.size;omega⟩);exact⟨hK2,_,_,_,_,_,_,_,eZ,rfl,rfl,mI 100 _ _ l [] (by simp) (TT.out.mono hkb) (cV.nil _),htx,YY.out.other hk3 hZ Bf⟩
end
end Go.Proofs.YteainaiebcphlaaGreatDoor
