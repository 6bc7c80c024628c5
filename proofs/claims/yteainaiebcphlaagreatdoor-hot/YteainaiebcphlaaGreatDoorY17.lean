import Derived.Test.YteainaiebcphlaaGreatDoorY15
import Derived.Test.YteainaiebcphlaaGreatDoorY10
import Derived.Test.YteainaiebcphlaaGreatDoorY11
import Derived.Test.YteainaiebcphlaaGreatDoorY12
import Derived.Test.YteainaiebcphlaaGreatDoorY16
import Derived.Test.YteainaiebcphlaaGreatDoorY6
import Derived.Handy
namespace Go.Proofs.YteainaiebcphlaaGreatDoor
set_option maxRecDepth 1000000
set_option maxHeartbeats 4000000
set_option linter.all false
section
open Go.RowKit
def knowD (defs:List Def) (t:Tok):Prop:=(defs.findIdx? (fun d=>d.name == t)).isSome=true
abbrev frD (d:Def):Fr:=⟨d.id,d.name,d.body⟩
def dd0:Def:=⟨[],0,[],0,false,[]⟩
def frA (defs:List Def) (k:Nat):Fr:=frD (defs.getD k dd0)
def XD (defs:List Def):XV:=⟨fun k=>(defs.getD k dd0).fast,fun k=>(defs.getD k dd0).count,fun k j=>(defs.getD j dd0).name∈(defs.getD k dd0).built,fun k j=>(defs.getD j dd0).name∈(defs.getD k dd0).built⟩
theorem getD_lt {defs:List Def} {k:Nat} (h:k < defs.length):defs.getD k dd0=defs[k]:=by simp[List.getD,h]
structure WR (D:GD) (w:World) (bk mb:Nat) (defs:List Def) (obs:List Nat) (DD:DataW Value):Prop where
 ol:obs.length=defs.length
 mp:w.ownsMap Tryz.prog 9 heldR mb defs.length DD
 sz:Maps.size DD=defs.length
 hs:∀ t:Tok,t.length<=maxLen->Maps.has DD (.string t)=(defs.findIdx? (fun d=>d.name == t)).isSome
 l30:defs.length<=30
 lk:∀ t:Tok,t.length<=maxLen->DD.atKey (.string t) (.held (.pointer none))=.held (.pointer ((defs.findIdx? (fun d=>d.name == t)).map (fun k=>(⟨obs.getD k 0,0,none⟩:Addr))))
 nd:∀ i j (hi:i < defs.length) (hj:j < defs.length),defs[i].name=defs[j].name->i=j
 wd:Wds D w bk
 cur:∀ k (h:k < defs.length),D.r (obs.getD k 0) (frD defs[k])/\(∃ c,WordC D w bk (obs.getD k 0) (frD defs[k]) c/\c.gn=false)/\∃ G,wb (knowD defs) G false defs[k].body
 reg:∀ o f,D.r o f->knowD defs f.name/\((∃ k,∃ h:k < defs.length,defs.findIdx? (fun d=>d.name == f.name)=some k/\obs.getD k 0=o/\f=frD defs[k])\/∃ c,WordC D w bk o f c/\c.gn=true/\∀ k (h:k < defs.length),defs.findIdx? (fun d=>d.name == f.name)=some k->f.id < defs[k].id)
 ex:EX D w bk defs.length (frA defs) (fun k=>obs.getD k 0) (XD defs) (fun _=>False)
 bn:∀ d∈defs,(d.fast=false->d.built=[])/\∀ t∈d.built,knowD defs t
 ub:∀ d∈defs,UB d.body
def WordsR (D:GD) (w:World) (bk mb:Nat) (defs:List Def):Prop:=∃ obs DD,WR D w bk mb defs obs DD
section
variable {D D':GD} {w w':World} {bk mb:Nat} {defs:List Def}
theorem WordsR.wds (h:WordsR D w bk mb defs):Wds D w bk:=by obtain⟨_,_,h⟩:=h;exact h.wd
theorem WordsR.ltm (h:WordsR D w bk mb defs):mb < w.heap.size:=by obtain⟨_,_,h⟩:=h;exact h.mp.lt
theorem WordsR.ne (h:WordsR D w bk mb defs) {b:Nat} {t:TypeId} {c:Array Value} (hb:Blk w b t c):mb ≠ b:=by obtain⟨_,_,h⟩:=h;exact map_ne h.mp hb
theorem WordsR.known {s:St} {hot blt:Int} (h:WordsR D w bk mb s.defs) (hb:Blk w bk 106 #[.map (some mb),.int .i64 hot,.int .i64 blt]):BookK w bk mb s.known:=by
 obtain⟨obs,DD,h⟩:=h;refine⟨⟨_,_,hb⟩,_,DD,h.mp,fun t ht=>⟨_,h.lk t ht,?_⟩⟩;unfold St.known St.find
 cases s.defs.findIdx? (fun d=>d.name == t) <;> rfl
theorem WordsR.pres (h:WordsR D w bk mb defs) (hp:Pres D D' w w' bk) (hr:∀ o f,D'.r o f->D.r o f) (hr2:∀ o f,D.r o f->D'.r o f) (hw:Wds D' w' bk) (hm:w'.heap[mb]? = w.heap[mb]?) (hx:∀ n fr ob X,EX D w bk n fr ob X (fun _=>False)->EX D' w' bk n fr ob X (fun _=>False)):WordsR D' w' bk mb defs:=by
 obtain⟨obs,DD,h⟩:=h;refine⟨obs,DD,h.ol,ownsMap_same h.mp hm,h.sz,h.hs,h.l30,h.lk,h.nd,hw,fun k hk=>?_,fun o f ho=>?_,hx _ _ _ _ h.ex,h.bn,h.ub⟩
 ·obtain⟨h1,⟨c,h2,h3⟩,h4⟩:=h.cur k hk;obtain⟨c',e1,_,_,_,_,h5⟩:=hp _ _ c h1 h2;exact⟨hr2 _ _ h1,⟨c',h5,e1.trans h3⟩,h4⟩
 ·obtain⟨q,h1|⟨c,h2,h3,h4⟩⟩:=h.reg o f (hr o f ho)
  ·exact⟨q,.inl h1⟩
  ·obtain⟨c',e1,_,_,_,_,h5⟩:=hp _ _ c (hr o f ho) h2;exact⟨q,.inr ⟨c',h5,e1.trans h3,h4⟩⟩
end
structure PR (B:Nat) (W w:World) (xb rb mb:Nat) (m:MS) (D:GD) (s:St):Prop where
 inv:∃ ns,MInv w xb rb m ns/\(s.e=0->ns=s.rs.reverse)
 mem:m.mem=s.mem
 out:m.out=s.out
 st0:0<=m.st
 st1:m.st<=2000
 st:s.e=0->m.st=s.steps
 dp:m.dp=s.depth
 safe:Safe B W w xb rb m
 bmb:B<=mb
 book:Blk w m.bk 106 #[.map (some mb),.int .i64 s.hot,.int .i64 s.built]
 words:WordsR D w m.bk mb s.defs
 sep:∀ k,D.d k->k < w.heap.size/\k ≠ xb/\k ≠ rb/\¬ own m.sv k/\¬ own m.ov k
 us:∀ k,D.u k->B<=k/\k ≠ mb/\((∃ c,Blk w k 111 c)\/∃ n DD,w.ownsMap Tryz.prog 9 heldR k n DD)
 good:SGood s
 ids:0<=s.ids/\s.ids<=D.J+m.st/\D.J<=4611686018427387904
 idr:∀ o f,D.r o f->f.id<=s.ids
def SameW (s s':St):Prop:=s'.defs=s.defs/\s'.hot=s.hot/\s'.built=s.built/\s'.ids=s.ids
structure PTo (xb rb mb:Nat) (w w':World) (m m':MS) (D D':GD):Prop where
 wt:To (fun k=>(k=xb\/k=rb)\/k=mb) w w' (fun k=>(own m.sv k\/own m.ov k)\/D.u k) (fun k=>(own m'.sv k\/own m'.ov k)\/D'.u k)
 up:∀ k,D.d k->D'.d k
 nw:∀ k,D'.d k->D.d k\/w.heap.size<=k
 rg:∀ o f,D.r o f->D'.r o f
 bk:m'.bk=m.bk
 jj:D'.J=D.J
theorem PTo.refl (xb rb mb:Nat) (w:World) (m:MS) (D:GD):PTo xb rb mb w w m m D D:=⟨To.refl _ _ _,fun _ h=>h,fun _ h=>.inl h,fun _ _ h=>h,rfl,rfl⟩
theorem PTo.trans {xb rb mb:Nat} {w w1 w2:World} {m m1 m2:MS} {D D1 D2:GD} (h:PTo xb rb mb w w1 m m1 D D1) (g:PTo xb rb mb w1 w2 m1 m2 D1 D2):PTo xb rb mb w w2 m m2 D D2:=by
 refine⟨h.wt.trans g.wt,fun k hk=>g.up k (h.up k hk),fun k hk=>?_,fun o f hr=>g.rg o f (h.rg o f hr),g.bk.trans h.bk,g.jj.trans h.jj⟩;rcases g.nw k hk with h1|h1
 ·exact h.nw k h1
 ·exact .inr (Nat.le_trans h.wt.kp.size h1)
theorem PTo.of {xb rb mb:Nat} {w w':World} {m m':MS} (h:MTo xb rb w w' m m') (hb:m'.bk=m.bk) (D:GD):PTo xb rb mb w w' m m' D D:=by
 refine⟨⟨(To.kp h).mono (fun k _ hk=>?_),fun k hk=>?_⟩,fun _ h=>h,fun _ h=>.inl h,fun _ _ h=>h,hb,rfl⟩
 ·rcases hk with e|e
  ·exact .inl (.inl e)
  ·exact .inr (.inl e)
 ·rcases hk with e|e
  ·rcases To.nx h k e with h1|h1
   ·exact .inl (.inl h1)
   ·exact .inr h1
  ·exact .inl (.inr e)
section
variable {B:Nat} {W w w':World} {xb rb mb:Nat} {m m':MS} {D D':GD} {s s':St}
theorem PR.ult (h:PR B W w xb rb mb m D s) {k:Nat} (hk:D.u k):k < w.heap.size:=h.words.wds.lt k hk
theorem PR.une (h:PR B W w xb rb mb m D s) {k:Nat} (hk:D.u k) {b:Nat} {t:TypeId} {c:Array Value} (hb:Blk w b t c) (ht:t ≠ 111):k ≠ b:=by
 rintro rfl;obtain⟨_,_,⟨c',hc⟩|⟨n,DD,hm⟩⟩:=h.us k hk
 ·exact ht (hb.inj hc).1
 ·exact map_ne hm hb rfl
theorem PR.ux (h:PR B W w xb rb mb m D s) {k:Nat} (hk:D.u k):k ≠ xb/\k ≠ rb/\k ≠ mb/\k ≠ m.bk/\¬ own m.sv k/\¬ own m.ov k:=by
 obtain⟨ns,hi,_⟩:=h.inv;refine⟨h.une hk hi.xblk (by decide),h.une hk hi.rblk (by decide),(h.us k hk).2.1,h.une hk h.book (by decide),fun e=>?_,fun e=>?_⟩
 ·obtain⟨c,hc⟩:=row_blk hi.srow e;exact h.une hk hc (by decide) rfl
 ·obtain⟨c,hc⟩:=row_blk hi.orow e;exact h.une hk hc (by decide) rfl
theorem PR.keepD (h:PR B W w xb rb mb m D s) (ht:PTo xb rb mb w w' m m' D D'):∀ b t c,BD D.d w b t c->BD D'.d w' b t c:=by
 intro b t c hb;obtain⟨_,h1,h2,h3,h4⟩:=h.sep b hb.1;refine⟨ht.up b hb.1,ht.wt.kp.blk hb.2 ?_⟩;rintro (((e|e)|e)|((e|e)|e))
 ·exact h1 e
 ·exact h2 e
 ·exact h.words.ne hb.2 e.symm
 ·exact h3 e
 ·exact h4 e
 ·exact h.words.wds.ud b e hb.1
theorem PR.turn (h:PR B W w xb rb mb m D s) (hto:MTo xb rb w w' m m') (hb:m'.bk=m.bk) (hi:∃ ns,MInv w' xb rb m' ns/\(s'.e=0->ns=s'.rs.reverse))
  (hm:m'.mem=s'.mem) (ho:m'.out=s'.out) (h0:0<=m'.st) (h1:m'.st<=2000) (hst:s'.e=0->m'.st=s'.steps) (hdp:m'.dp=s'.depth) (hd:SameW s s') (hg:SGood s') (hsm:m.st<=m'.st:=by first|exact Int.le_refl _|omega|(dsimp only;omega)):PR B W w' xb rb mb m' D s'/\PTo xb rb mb w w' m m' D D:=by
 have hP:PTo xb rb mb w w' m m' D D:=PTo.of hto hb D;have hkp:=To.kp hto;obtain⟨ns,hi0,_⟩:=h.inv;have nb:∀ b t c,Blk w b t c->t ≠ 80->t ≠ 100->t ≠ 2->t ≠ 5->¬ ((b=xb\/b=rb)\/(own m.sv b\/own m.ov b)):=by
  intro b t c hbb t1 t2 t3 t4;rintro ((e|e)|(e|e))
  ·subst e;exact t1 (hbb.inj hi0.xblk).1
  ·subst e;exact t2 (hbb.inj hi0.rblk).1
  ·exact t3 (row_type hi0.srow e hbb)
  ·exact t4 (row_type hi0.orow e hbb)
 have hnm:¬ ((mb=xb\/mb=rb)\/(own m.sv mb\/own m.ov mb)):=by
  rintro ((e|e)|(e|e))
  ·exact h.words.ne hi0.xblk e
  ·exact h.words.ne hi0.rblk e
  ·obtain⟨c,hc⟩:=row_blk hi0.srow e;exact h.words.ne hc rfl
  ·obtain⟨c,hc⟩:=row_blk hi0.orow e;exact h.words.ne hc rfl
 have hnu:∀ k,D.u k->¬ ((k=xb\/k=rb)\/(own m.sv k\/own m.ov k)):=fun k hk=>by
  obtain⟨e1,e2,_,_,e3,e4⟩:=h.ux hk;rintro ((e|e)|(e|e))
  ·exact e1 e
  ·exact e2 e
  ·exact e3 e
  ·exact e4 e
 have hnd:∀ k,D.d k->¬ ((k=xb\/k=rb)\/(own m.sv k\/own m.ov k)):=fun k hk=>by
  obtain⟨_,e1,e2,e3,e4⟩:=h.sep k hk;rintro ((e|e)|(e|e))
  ·exact e1 e
  ·exact e2 e
  ·exact e3 e
  ·exact e4 e
 obtain⟨hpr,hwd⟩:=h.words.wds.out hkp hnu hnd;refine⟨⟨hi,hm,ho,h0,h1,hst,hdp,h.safe.to hto,h.bmb,?_,?_,fun k hk=>?_,fun k hk=>?_,hg,by rw[hd.2.2.2];have:=h.ids;omega,by rw[hd.2.2.2];exact h.idr⟩,hP⟩
 ·rw[hb,hd.2.1,hd.2.2.1];exact hkp.blk h.book (nb _ _ _ h.book (by decide) (by decide) (by decide) (by decide))
 ·rw[hb,hd.1];exact h.words.pres hpr (fun _ _ h=>h) (fun _ _ h=>h) hwd (hkp.block mb h.words.ltm hnm) (fun _ _ _ _ q=>q.out hkp hnu hnd)
 ·obtain⟨e0,e1,e2,e3,e4⟩:=h.sep k hk;refine⟨Nat.lt_of_lt_of_le e0 hkp.size,e1,e2,fun e=>?_,fun e=>?_⟩
  ·rcases To.nx hto k (.inl e) with (h2|h2)|h2
   ·exact e3 h2
   ·exact e4 h2
   ·omega
  ·rcases To.nx hto k (.inr e) with (h2|h2)|h2
   ·exact e3 h2
   ·exact e4 h2
   ·omega
 ·obtain⟨e0,e1,e2⟩:=h.us k hk;refine⟨e0,e1,?_⟩;rcases e2 with⟨c,hc⟩|⟨n,DD,hm2⟩
  ·exact .inl ⟨c,hkp.blk hc (hnu k hk)⟩
  ·exact .inr ⟨n,DD,ownsMap_same hm2 (hkp.block k hm2.lt (hnu k hk))⟩
theorem PR.kp (h:PR B W w xb rb mb m D s) (hk:Kp w w' (fun _=>False)):PR B W w' xb rb mb m D s/\PTo xb rb mb w w' m m D D:=by
 obtain⟨ns,hi,hn⟩:=h.inv;exact h.turn (MTo.kp hk) rfl ⟨ns,hi.kp hk,hn⟩ h.mem h.out h.st0 h.st1 h.st h.dp ⟨rfl,rfl,rfl,rfl⟩ h.good
theorem PR.redef {s':St} (h:PR B W w xb rb mb m D s) (hk:Kp w w' (fun k=>D.u k\/k=mb)) (hwords:WordsR D' w' m.bk mb s'.defs) (hss:s'={ s with defs:=s'.defs,ids:=s'.ids }) (hr2:∀ o f,D.r o f->D'.r o f) (hd:∀ k,D.d k->D'.d k) (hd2:∀ k,D'.d k->D.d k\/(w.heap.size<=k/\k < w'.heap.size)) (hu2:∀ k,D'.u k->D.u k\/w.heap.size<=k) (hus:∀ k,D'.u k->KindU w' k) (hg:SGood s') (hj:D'.J=D.J) (hids:0<=s'.ids/\s'.ids<=D.J+m.st) (hidr:∀ o f,D'.r o f->f.id<=s'.ids):
  PR B W w' xb rb mb m D' s'/\PTo xb rb mb w w' m m D D':=by
 obtain⟨ns,hi,hn⟩:=h.inv;have hs:=h.safe;have hsz:=hk.size;have hsb:=hs.bs;have hml:=h.words.ltm;have hub:∀ b t c,Blk w b t c->t ≠ 111->¬ (D.u b\/b=mb):=fun b t c hb ht e=>e.elim (fun e=>h.une e hb ht rfl) (fun e=>h.words.ne hb e.symm);have e1:s'.e=s.e:=by rw[hss]
 have e2:s'.rs=s.rs:=by rw[hss]
 refine⟨⟨⟨ns,⟨hk.blk hi.xblk (hub _ _ _ hi.xblk (by decide)),hk.blk hi.rblk (hub _ _ _ hi.rblk (by decide)),hk.row hi.srow (fun k e e2=>by obtain⟨c,hc⟩:=row_blk hi.srow e;exact hub _ _ _ hc (by decide) e2),hk.row hi.orow (fun k e e2=>by obtain⟨c,hc⟩:=row_blk hi.orow e;exact hub _ _ _ hc (by decide) e2),hi.len⟩,by rw[e1,e2];exact hn⟩,by rw[hss];exact h.mem,by rw[hss];exact h.out,h.st0,h.st1,by rw[hss];exact h.st,by rw[hss];exact h.dp,⟨hs.bel.trans (hk.below hs.bs (fun k hk2 e=>by
   rcases e with e|e
   ·have:=(h.us k e).1;omega
   ·have:=h.bmb;omega)),hs.bx,hs.br,hs.bv,Nat.le_trans hs.bs hsz⟩,h.bmb,by rw[hss];exact hk.blk h.book (hub _ _ _ h.book (by decide)),hwords,fun k hk2=>?_,fun k hk2=>?_,hg,by rw[hj];exact⟨hids.1,hids.2,h.ids.2.2⟩,hidr⟩,⟨⟨hk.mono (fun k _ e=>e.elim (fun e=>.inr (.inr e)) (fun e=>.inl (.inr e))),fun k hk2=>?_⟩,hd,fun k hk2=>(hd2 k hk2).imp id (fun q=>q.1),hr2,rfl,hj⟩⟩
 ·rcases hd2 k hk2 with q|⟨q,q2⟩
  ·obtain⟨e0,e1⟩:=h.sep k q;exact⟨by omega,e1⟩
  ·refine⟨q2,?_,?_,fun e=>?_,fun e=>?_⟩
   ·have:=hi.xblk.lt;omega
   ·have:=hi.rblk.lt;omega
   ·have:=own_lt hi.srow e;omega
   ·have:=own_lt hi.orow e;omega
 ·rcases hu2 k hk2 with q|q
  ·exact⟨(h.us k q).1,(h.us k q).2.1,hus k hk2⟩
  ·exact⟨by omega,by omega,hus k hk2⟩
 ·rcases hk2 with e|e
  ·exact .inl (.inl e)
  ·rcases hu2 k e with q|q
   ·exact .inl (.inr q)
   ·exact .inr q
end
end
section
open Go.RowKit
theorem Blk.three {w:World} {b:Nat} {t:TypeId} {a0 a1 a2:Value} (h:Blk w b t #[a0,a1,a2]):w.cell? ⟨b,0,none⟩=some a0/\w.cell? ⟨b,1,none⟩=some a1/\w.cell? ⟨b,2,none⟩=some a2:=⟨h.cell rfl,h.cell rfl,h.cell rfl⟩
theorem Blk.threeF {w:World} {b:Nat} {t:TypeId} {c:Array Value} (h:Blk w b t c):w.frozen? ⟨b,0,none⟩=false/\w.frozen? ⟨b,1,none⟩=false/\w.frozen? ⟨b,2,none⟩=false:=⟨h.free 0,h.free 1,h.free 2⟩
theorem Blk.set3 {w:World} {b:Nat} {t:TypeId} {a0 a1 a2:Value} (h:Blk w b t #[a0,a1,a2]) (v0 v1 v2:Value):Blk (((w.setCell ⟨b,0,none⟩ v0).setCell ⟨b,1,none⟩ v1).setCell ⟨b,2,none⟩ v2) b t #[v0,v1,v2]:=
 ((h.set 0 v0).set 1 v1).set 2 v2
theorem Kp.new3 {w w1:World} (h:Kp w w1 (fun _=>False)) {b:Nat} (hb:w.heap.size<=b) (v0 v1 v2:Value):Kp w (((w1.setCell ⟨b,0,none⟩ v0).setCell ⟨b,1,none⟩ v1).setCell ⟨b,2,none⟩ v2) (fun _=>False):=by
 have hn:∀ o,(⟨b,o,none⟩:Addr).block < w.heap.size->(fun _:Nat=>False) (⟨b,o,none⟩:Addr).block:=fun o hlt=>absurd hlt (by show ¬ b < _;omega);exact ((h.set (hn 0) v0).set (hn 1) v1).set (hn 2) v2
theorem MInv.aside {w:World} {xb rb:Nat} {m:MS} {ns:List Int} (h:MInv w xb rb m ns) {b:Nat} {c:Array Value} (hb:Blk w b 195 c) (o:Nat) (v:Value):MInv (w.setCell ⟨b,o,none⟩ v) xb rb m ns:=
  ⟨h.xblk.setOther (a:=⟨b,o,none⟩) (by rintro rfl;exact absurd (hb.inj h.xblk).1 (by decide)) v,h.rblk.setOther (a:=⟨b,o,none⟩) (by rintro rfl;exact absurd (hb.inj h.rblk).1 (by decide)) v,
   ownsRow_setCell_other (a:=⟨b,o,none⟩) h.srow (own_ne h.srow hb (by decide)) v,ownsRow_setCell_other (a:=⟨b,o,none⟩) h.orow (own_ne h.orow hb (by decide)) v,h.len⟩
theorem stTk_no (w:World) (xb rb:Nat) (m:MS) (ns:List Int) (n:Int) (h:MInv w xb rb m ns) (h1:¬ m.st < 2000):
  Calls Tryz.prog 244 #[pt rb,.int .i64 n] w fun e w'=>e=.returned (.tuple #[.agg #[.int .i64 0,.int .i64 0,.int .i64 0],.int .i64 12])/\Kp w w' (fun _=>False):=by
 have HB:=hide (burn_no (w.alloc (.cells #[.int .i64 0,.int .i64 0,.int .i64 0] 195)) xb rb m ns (h.alloc _) h1);have hl:=h.rblk.lt;go_enter Tryz.func244,Tryz.ntmps244
 go_wp2_with fail
 refine HB.out.mono ?_;rintro e w' ⟨rfl,rfl⟩;go_wp2;refine bodyPost_ret (v:=.tuple #[.agg #[.int .i64 0,.int .i64 0,.int .i64 0],.int .i64 12]) (by simp[results,Tryz.results244,go_sem]) rfl ?_;exact⟨rfl,(Kp.refl _ _).alloc _⟩
theorem stTk_under (w:World) (xb rb:Nat) (m:MS) (ns:List Int) (n:Int) (h:MInv w xb rb m ns) (h0:0<=m.st) (h1:m.st < 2000) (hlt:(ns.length:Int) < n) (hn:n<=10):
  Calls Tryz.prog 244 #[pt rb,.int .i64 n] w fun e w'=>e=.returned (.tuple #[.agg #[.int .i64 0,.int .i64 0,.int .i64 0],.int .i64 6])/\MInv w' xb rb { m with st:=m.st+1 } ns/\MTo xb rb w w' m { m with st:=m.st+1 }:=by
 have HB:=hide (burn_ok (w.alloc (.cells #[.int .i64 0,.int .i64 0,.int .i64 0] 195)) xb rb m _ (h.alloc _) h0 h1);have hl:=h.rblk.lt;have hlx:=h.xblk.lt;have hi1:=((h.setSt (m.st+1)).1).alloc (.cells #[.int .i64 0,.int .i64 0,.int .i64 0] 195);have ht1:MTo xb rb w ((w.setCell ⟨rb,2,none⟩ (.int .i64 (m.st+1))).alloc (.cells #[.int .i64 0,.int .i64 0,.int .i64 0] 195)) m { m with st:=m.st+1 }:=(h.setSt (m.st+1)).2.trans (MTo.kp ((Kp.refl _ _).alloc _));have hZ0:Blk ((w.setCell ⟨rb,2,none⟩ (.int .i64 (m.st+1))).alloc (.cells #[.int .i64 0,.int .i64 0,.int .i64 0] 195)) w.heap.size 195 #[.int .i64 0,.int .i64 0,.int .i64 0]:=by
  have:=Blk.new (w.setCell ⟨rb,2,none⟩ (.int .i64 (m.st+1))) #[.int .i64 0,.int .i64 0,.int .i64 0] 195;simpa using this
 go_enter Tryz.func244,Tryz.ntmps244
 go_wp2_with fail
 refine HB.out.mono ?_;rintro e w' ⟨rfl,rfl⟩
 go_wp2_with fail
 refine (takeM_under _ xb rb _ ns n hi1 hlt hn).mono ?_;rintro e w2 ⟨rfl,hk2⟩;have hZ:=hk2.blk hZ0 (by simp);obtain⟨y0,y1,y2⟩:=hZ.three;obtain⟨z0,z1,z2⟩:=hZ.threeF;go_wp2;have hC:=hZ.set3 (.int .i64 0) (.int .i64 0) (.int .i64 0);have HQ:MInv (((w2.setCell ⟨w.heap.size,0,none⟩ (.int .i64 0)).setCell ⟨w.heap.size,1,none⟩ (.int .i64 0)).setCell ⟨w.heap.size,2,none⟩ (.int .i64 0)) xb rb { m with st:=m.st+1 } ns/\MTo xb rb w (((w2.setCell ⟨w.heap.size,0,none⟩ (.int .i64 0)).setCell ⟨w.heap.size,1,none⟩ (.int .i64 0)).setCell ⟨w.heap.size,2,none⟩ (.int .i64 0)) m { m with st:=m.st+1 }:=by
  refine⟨(((hi1.kp hk2).aside hZ 0 _).aside (hZ.set 0 _) 1 _).aside ((hZ.set 0 _).set 1 _) 2 _,?_⟩;have t2:=ht1.trans (MTo.kp hk2);exact⟨((t2.kp.set (a:=⟨w.heap.size,0,none⟩) (fun hh=>absurd hh (Nat.lt_irrefl _)) _).set (a:=⟨w.heap.size,1,none⟩) (fun hh=>absurd hh (Nat.lt_irrefl _)) _).set (a:=⟨w.heap.size,2,none⟩) (fun hh=>absurd hh (Nat.lt_irrefl _)) _,t2.nx⟩
 generalize (((w2.setCell ⟨w.heap.size,0,none⟩ (.int .i64 0)).setCell ⟨w.heap.size,1,none⟩ (.int .i64 0)).setCell ⟨w.heap.size,2,none⟩ (.int .i64 0))=wf at hC HQ ⊢;obtain⟨q0,q1,q2⟩:=hC.three;refine bodyPost_ret (v:=.tuple #[.agg #[.int .i64 0,.int .i64 0,.int .i64 0],.int .i64 6]) (by simp[results,Tryz.results244,go_sem,q0,q1,q2]) rfl ?_;exact⟨rfl,HQ.1,HQ.2⟩
theorem stTk1 (w:World) (xb rb:Nat) (m:MS) (a:Int) (r:List Int) (h:MInv w xb rb m (a :: r).reverse) (h0:0<=m.st) (h1:m.st < 2000):
  Calls Tryz.prog 244 #[pt rb,.int .i64 1] w fun e w'=>∃ v',e=.returned (.tuple #[.agg #[.int .i64 a,.int .i64 0,.int .i64 0],.int .i64 0])/\MInv w' xb rb { m with sv:=v',st:=m.st+1 } r.reverse/\MTo xb rb w w' m { m with sv:=v',st:=m.st+1 }:=by
 have HB:=hide (burn_ok (w.alloc (.cells #[.int .i64 0,.int .i64 0,.int .i64 0] 195)) xb rb m _ (h.alloc _) h0 h1);have hl:=h.rblk.lt;have hlx:=h.xblk.lt;have hi1:=((h.setSt (m.st+1)).1).alloc (.cells #[.int .i64 0,.int .i64 0,.int .i64 0] 195);have ht1:MTo xb rb w ((w.setCell ⟨rb,2,none⟩ (.int .i64 (m.st+1))).alloc (.cells #[.int .i64 0,.int .i64 0,.int .i64 0] 195)) m { m with st:=m.st+1 }:=(h.setSt (m.st+1)).2.trans (MTo.kp ((Kp.refl _ _).alloc _));have hZ0:Blk ((w.setCell ⟨rb,2,none⟩ (.int .i64 (m.st+1))).alloc (.cells #[.int .i64 0,.int .i64 0,.int .i64 0] 195)) w.heap.size 195 #[.int .i64 0,.int .i64 0,.int .i64 0]:=by
  have:=Blk.new (w.setCell ⟨rb,2,none⟩ (.int .i64 (m.st+1))) #[.int .i64 0,.int .i64 0,.int .i64 0] 195;simpa using this
 go_enter Tryz.func244,Tryz.ntmps244
 go_wp2_with fail
 refine HB.out.mono ?_;rintro e w' ⟨rfl,rfl⟩
 go_wp2_with fail
 refine (takeM1 _ xb rb _ a r hi1).mono ?_;rintro e w2 ⟨v',rfl,hi2,ht2⟩;have hZ:=ht2.blk hZ0 (by rintro (h9|h9) <;> omega) (by rintro (h9|h9);exact own_ne hi1.srow hZ0 (by decide) h9;exact own_ne hi1.orow hZ0 (by decide) h9)
 obtain⟨y0,y1,y2⟩:=hZ.three;obtain⟨z0,z1,z2⟩:=hZ.threeF;go_wp2;have hC:=hZ.set3 (.int .i64 a) (.int .i64 0) (.int .i64 0);have HQ:MInv (((w2.setCell ⟨w.heap.size,0,none⟩ (.int .i64 a)).setCell ⟨w.heap.size,1,none⟩ (.int .i64 0)).setCell ⟨w.heap.size,2,none⟩ (.int .i64 0)) xb rb { m with sv:=v',st:=m.st+1 } r.reverse/\MTo xb rb w (((w2.setCell ⟨w.heap.size,0,none⟩ (.int .i64 a)).setCell ⟨w.heap.size,1,none⟩ (.int .i64 0)).setCell ⟨w.heap.size,2,none⟩ (.int .i64 0)) m { m with sv:=v',st:=m.st+1 }:=by
  refine⟨((hi2.aside hZ 0 _).aside (hZ.set 0 _) 1 _).aside ((hZ.set 0 _).set 1 _) 2 _,?_⟩;have t2:=ht1.trans ht2;exact⟨((t2.kp.set (a:=⟨w.heap.size,0,none⟩) (fun hh=>absurd hh (Nat.lt_irrefl _)) _).set (a:=⟨w.heap.size,1,none⟩) (fun hh=>absurd hh (Nat.lt_irrefl _)) _).set (a:=⟨w.heap.size,2,none⟩) (fun hh=>absurd hh (Nat.lt_irrefl _)) _,t2.nx⟩
 generalize (((w2.setCell ⟨w.heap.size,0,none⟩ (.int .i64 a)).setCell ⟨w.heap.size,1,none⟩ (.int .i64 0)).setCell ⟨w.heap.size,2,none⟩ (.int .i64 0))=wf at hC HQ ⊢;obtain⟨q0,q1,q2⟩:=hC.three;refine bodyPost_ret (v:=.tuple #[.agg #[.int .i64 a,.int .i64 0,.int .i64 0],.int .i64 0]) (by simp[results,Tryz.results244,go_sem,q0,q1,q2]) rfl ?_;exact⟨v',rfl,HQ.1,HQ.2⟩
theorem stTk2 (w:World) (xb rb:Nat) (m:MS) (b a:Int) (r:List Int) (h:MInv w xb rb m (b :: a :: r).reverse) (h0:0<=m.st) (h1:m.st < 2000):
  Calls Tryz.prog 244 #[pt rb,.int .i64 2] w fun e w'=>∃ v',e=.returned (.tuple #[.agg #[.int .i64 a,.int .i64 b,.int .i64 0],.int .i64 0])/\MInv w' xb rb { m with sv:=v',st:=m.st+1 } r.reverse/\MTo xb rb w w' m { m with sv:=v',st:=m.st+1 }:=by
 have HB:=hide (burn_ok (w.alloc (.cells #[.int .i64 0,.int .i64 0,.int .i64 0] 195)) xb rb m _ (h.alloc _) h0 h1);have hl:=h.rblk.lt;have hlx:=h.xblk.lt;have hi1:=((h.setSt (m.st+1)).1).alloc (.cells #[.int .i64 0,.int .i64 0,.int .i64 0] 195);have ht1:MTo xb rb w ((w.setCell ⟨rb,2,none⟩ (.int .i64 (m.st+1))).alloc (.cells #[.int .i64 0,.int .i64 0,.int .i64 0] 195)) m { m with st:=m.st+1 }:=(h.setSt (m.st+1)).2.trans (MTo.kp ((Kp.refl _ _).alloc _));have hZ0:Blk ((w.setCell ⟨rb,2,none⟩ (.int .i64 (m.st+1))).alloc (.cells #[.int .i64 0,.int .i64 0,.int .i64 0] 195)) w.heap.size 195 #[.int .i64 0,.int .i64 0,.int .i64 0]:=by
  have:=Blk.new (w.setCell ⟨rb,2,none⟩ (.int .i64 (m.st+1))) #[.int .i64 0,.int .i64 0,.int .i64 0] 195;simpa using this
 go_enter Tryz.func244,Tryz.ntmps244
 go_wp2_with fail
 refine HB.out.mono ?_;rintro e w' ⟨rfl,rfl⟩
 go_wp2_with fail
 refine (takeM2 _ xb rb _ b a r hi1).mono ?_;rintro e w2 ⟨v',rfl,hi2,ht2⟩;have hZ:=ht2.blk hZ0 (by rintro (h9|h9) <;> omega) (by rintro (h9|h9);exact own_ne hi1.srow hZ0 (by decide) h9;exact own_ne hi1.orow hZ0 (by decide) h9)
 obtain⟨y0,y1,y2⟩:=hZ.three;obtain⟨z0,z1,z2⟩:=hZ.threeF;go_wp2;have hC:=hZ.set3 (.int .i64 a) (.int .i64 b) (.int .i64 0);have HQ:MInv (((w2.setCell ⟨w.heap.size,0,none⟩ (.int .i64 a)).setCell ⟨w.heap.size,1,none⟩ (.int .i64 b)).setCell ⟨w.heap.size,2,none⟩ (.int .i64 0)) xb rb { m with sv:=v',st:=m.st+1 } r.reverse/\MTo xb rb w (((w2.setCell ⟨w.heap.size,0,none⟩ (.int .i64 a)).setCell ⟨w.heap.size,1,none⟩ (.int .i64 b)).setCell ⟨w.heap.size,2,none⟩ (.int .i64 0)) m { m with sv:=v',st:=m.st+1 }:=by
  refine⟨((hi2.aside hZ 0 _).aside (hZ.set 0 _) 1 _).aside ((hZ.set 0 _).set 1 _) 2 _,?_⟩;have t2:=ht1.trans ht2;exact⟨((t2.kp.set (a:=⟨w.heap.size,0,none⟩) (fun hh=>absurd hh (Nat.lt_irrefl _)) _).set (a:=⟨w.heap.size,1,none⟩) (fun hh=>absurd hh (Nat.lt_irrefl _)) _).set (a:=⟨w.heap.size,2,none⟩) (fun hh=>absurd hh (Nat.lt_irrefl _)) _,t2.nx⟩
 generalize (((w2.setCell ⟨w.heap.size,0,none⟩ (.int .i64 a)).setCell ⟨w.heap.size,1,none⟩ (.int .i64 b)).setCell ⟨w.heap.size,2,none⟩ (.int .i64 0))=wf at hC HQ ⊢;obtain⟨q0,q1,q2⟩:=hC.three;refine bodyPost_ret (v:=.tuple #[.agg #[.int .i64 a,.int .i64 b,.int .i64 0],.int .i64 0]) (by simp[results,Tryz.results244,go_sem,q0,q1,q2]) rfl ?_;exact⟨v',rfl,HQ.1,HQ.2⟩
end
section
open Go.RowKit
def PPost (B:Nat) (W:World) (xb rb mb:Nat) (w:World) (m:MS) (D:GD) (s':St) (w':World):Prop:=∃ m' D',PR B W w' xb rb mb m' D' s'/\PTo xb rb mb w w' m m' D D'
theorem PPost.step {B:Nat} {W:World} {xb rb mb:Nat} {w w1 w2:World} {m m1:MS} {D D1:GD} {s':St} (ht:PTo xb rb mb w w1 m m1 D D1) (h:PPost B W xb rb mb w1 m1 D1 s' w2):PPost B W xb rb mb w m D s' w2:=by
 obtain⟨m',D',h1,h2⟩:=h;exact⟨m',D',h1,ht.trans h2⟩
theorem St.step_ok {s:St} (h:s.steps < 2000):s.step={ s with steps:=s.steps+1 }:=by unfold St.step;rw[if_pos h]
theorem St.step_no {s:St} (h:¬ s.steps < 2000):s.step={ s with e:=12,steps:=s.steps+1 }:=by unfold St.step;rw[if_neg h]
section
variable {B:Nat} {W w:World} {xb rb mb:Nat} {m:MS} {D:GD} {s:St}
theorem PR.fuel (h:PR B W w xb rb mb m D s) (he:s.e=0) (hf:¬ m.st < 2000):PR B W w xb rb mb m D s.step/\s.step.e=12:=by
 have hs:¬ s.steps < 2000:=by rw[<-h.st he];exact hf
 have hg:=h.good.step he;rw[St.step_no hs] at hg ⊢;obtain⟨ns,hi,_⟩:=h.inv;exact⟨(h.turn (s':={ s with e:=12,steps:=s.steps+1 }) (To.refl _ _ _) rfl ⟨ns,hi,(fun h=>by cases h)⟩ h.mem h.out h.st0 h.st1 (fun h=>by cases h) h.dp ⟨rfl,rfl,rfl,rfl⟩ hg).1,rfl⟩
theorem PR.burn (h:PR B W w xb rb mb m D s) (he:s.e=0) (hf:m.st < 2000):PR B W (w.setCell ⟨rb,2,none⟩ (.int .i64 (m.st+1))) xb rb mb { m with st:=m.st+1 } D s.step/\PTo xb rb mb w (w.setCell ⟨rb,2,none⟩ (.int .i64 (m.st+1))) m { m with st:=m.st+1 } D D/\s.step.e=0:=by
 have hs:s.steps < 2000:=by rw[<-h.st he];exact hf
 have hg:=h.good.step he;rw[St.step_ok hs] at hg ⊢;obtain⟨ns,hi,hn⟩:=h.inv;obtain⟨h1,h2⟩:=hi.setSt (m.st+1);have:=h.turn (s':={ s with steps:=s.steps+1 }) h2 rfl ⟨ns,h1,hn⟩ h.mem h.out (by have:=h.st0;show 0<=m.st+1;omega) (by show m.st+1<=2000;omega) (fun e=>by show m.st+1=s.steps+1;rw[h.st he]) h.dp ⟨rfl,rfl,rfl,rfl⟩ hg;exact⟨this.1,this.2,he⟩
theorem PR.ofM {w':World} {R:Res} {s':St} (h:PR B W w xb rb mb m D s) (hp:MPost w w' xb rb m R) (h1:s'.e=R.e) (h2:R.e=0->s'.rs=R.rs) (h3:s'.mem=R.mem) (h4:s'.out=R.out) (h5:s'.steps=s.steps) (h6:s'.depth=s.depth) (h7:SameW s s') (he:s.e=0) (hg:SGood s'):PPost B W xb rb mb w m D s' w':=by
 obtain⟨m',ns,hi,ht,hm,ho,hq,hn⟩:=hp;have q1:m'.st=m.st:=congrArg Prod.fst hq;have q2:m'.dp=m.dp:=congrArg (fun x=>x.2.1) hq;have q3:m'.bk=m.bk:=congrArg (fun x=>x.2.2) hq;exact⟨m',D,h.turn ht q3 ⟨ns,hi,fun e=>by rw[h1] at e;rw[hn e,h2 e]⟩ (by rw[hm,h3]) (by rw[ho,h4]) (by rw[q1];exact h.st0) (by rw[q1];exact h.st1) (fun _=>by rw[q1,h.st he,h5]) (by rw[q2,h.dp,h6]) h7 hg⟩
theorem stepP (h:PR B W w xb rb mb m D s) (he:s.e=0) (v:Value) (s2 s':St) (hs':s'=if s.step.e=0 then s2 else s.step)
  (hact:s.step.e=0->∀ w1 m1,PR B W w1 xb rb mb m1 D s.step->PTo xb rb mb w w1 m m1 D D->CallsV v (pt rb) w1 fun e w'=>e=.returned (.int .i64 s2.e)/\PPost B W xb rb mb w1 m1 D s2 w'):
  Calls Tryz.prog 68 #[pt rb,v] w fun e w'=>e=.returned (.int .i64 s'.e)/\PPost B W xb rb mb w m D s' w':=by
 obtain⟨ns,hi,hn⟩:=h.inv;by_cases hf:m.st < 2000
 ·obtain⟨h1,h2,h3⟩:=h.burn he hf;rw[if_pos h3] at hs';rw[hs'];refine (stepV w xb rb m ns v (fun n w'=>n=s2.e/\PPost B W xb rb mb w m D s2 w') hi h.st0 hf ((hact h3 _ _ h1 h2).mono ?_)).mono ?_
  ·rintro e w' ⟨rfl,hp⟩;exact⟨_,rfl,rfl,hp.step h2⟩
  ·rintro e w' ⟨n,rfl,rfl,hp⟩;exact⟨rfl,hp⟩
 ·obtain⟨h1,h2⟩:=h.fuel he hf;rw[if_neg (by rw[h2];decide)] at hs';rw[hs'];refine (stepV_no w xb rb m ns v hi hf).mono ?_;rintro e w' ⟨rfl,rfl⟩;exact⟨by rw[h2],m,D,h1,PTo.refl _ _ _ _ _ _⟩
theorem layP (h:PR B W w xb rb mb m D s) (he:s.e=0) (n:Int) (hn:In n) (nb:Nat) (hb:Blk w nb 2 #[.int .i64 n]):
  CallsV (.func (.func 95) #[] #[pt nb]) (pt rb) w fun e w'=>e=.returned (.int .i64 (s.put n).e)/\PPost B W xb rb mb w m D (s.put n) w':=by
 obtain⟨ns,hi,hns⟩:=h.inv;have hns:=hns he;subst hns;have hg:=h.good.put hn;refine⟨_,_,_,rfl,ent_lay,?_⟩;by_cases hl:s.rs.length < 32
 ·have hs:s.put n={ s with rs:=n :: s.rs }:=by unfold St.put;rw[if_pos hl]
  rw[hs] at hg ⊢;refine (ly_ok w xb rb nb m n s.rs hi (hb.cell rfl) hl).mono ?_;rintro e w' ⟨rfl,hp⟩;exact⟨by rw[show ({ s with rs:=n :: s.rs }:St).e=0 from he],h.ofM hp he (fun _=>rfl) h.mem.symm h.out.symm rfl rfl ⟨rfl,rfl,rfl,rfl⟩ he hg⟩
 ·have hs:s.put n={ s with e:=7 }:=by unfold St.put;rw[if_neg hl]
  rw[hs] at hg ⊢;refine (ly_full w xb rb nb m n s.rs hi (hb.cell rfl) hl).mono ?_;rintro e w' ⟨rfl,hp⟩;exact⟨rfl,h.ofM hp rfl (fun h=>by cases h) h.mem.symm h.out.symm rfl rfl ⟨rfl,rfl,rfl,rfl⟩ he hg⟩
theorem plainPX (hG:Glo B W) (h:PR B W w xb rb mb m D s) (he:s.e=0) (j:Nat) (act:Value) (hb:plainR (BD D.d w) j act):
  CallsV act (pt rb) w fun e w'=>e=.returned (.int .i64 (s.word j).e)/\PPost B W xb rb mb w m D (s.word j) w':=by
 obtain⟨ns,hi,hns⟩:=h.inv;have hns:=hns he;subst hns;have hg:=h.good.word he j;refine (actM B W w D.d xb rb m s.rs j act hb hi (by rw[h.out];exact h.good.g.osz) h.good.g.ins h.safe hG).mono ?_;rintro e w' ⟨rfl,hp⟩;rw[h.mem,h.out] at hp;rw[h.mem,h.out];exact⟨rfl,h.ofM hp rfl (fun _=>rfl) rfl rfl rfl rfl ⟨rfl,rfl,rfl,rfl⟩ he hg⟩
theorem askM (w:World) (rb:Nat) (a0 a1 a2 why:Int) (Q:World->Prop) (hc:Calls Tryz.prog 244 #[pt rb,.int .i64 1] w fun e w'=>e=.returned (.tuple #[.agg #[.int .i64 a0,.int .i64 a1,.int .i64 a2],.int .i64 why])/\∀ w2,Kp w' w2 (fun _=>False)->Q w2):
  Calls Tryz.prog 243 #[pt rb] w fun e w'=>e=.returned (.tuple #[.bool (a0 != 0),.int .i64 why])/\Q w':=by
 have HC:=hide hc;clear hc;go_enter Tryz.func243,Tryz.ntmps243
 go_wp2_with fail
 refine HC.out.mono ?_;rintro e w1 ⟨rfl,hq⟩;have HQ:=hide hq;clear hq;go_wp2;go_ret2;exact⟨rfl,HQ.out _ ((Kp.refl _ _).alloc _)⟩
theorem boundsM (w:World) (rb:Nat) (a0 a1 a2 why:Int) (Q:World->Prop) (hc:Calls Tryz.prog 244 #[pt rb,.int .i64 2] w fun e w'=>e=.returned (.tuple #[.agg #[.int .i64 a0,.int .i64 a1,.int .i64 a2],.int .i64 why])/\∀ w2,Kp w' w2 (fun _=>False)->Q w2):
  Calls Tryz.prog 227 #[pt rb] w fun e w'=>e=.returned (.tuple #[.int .i64 a0,.int .i64 a1,.int .i64 why])/\Q w':=by
 have HC:=hide hc;clear hc;go_enter Tryz.func227,Tryz.ntmps227
 go_wp2_with fail
 refine HC.out.mono ?_;rintro e w1 ⟨rfl,hq⟩;have HQ:=hide hq;clear hq;go_wp2
 go_quiet (fail)
 go_wp2;refine bodyPost_ret (results_tmp3 rfl _ _ _) rfl ?_;exact⟨rfl,HQ.out _ (((Kp.refl _ _).alloc _).drewN nq)⟩
theorem PPost.after {w' w2:World} {s':St} (h:PPost B W xb rb mb w m D s' w') (hk:Kp w' w2 (fun _=>False)):PPost B W xb rb mb w m D s' w2:=by
 obtain⟨m',D',h1,h2⟩:=h;obtain⟨h3,h4⟩:=h1.kp hk;exact⟨m',D',h3,h2.trans h4⟩
theorem askP (h:PR B W w xb rb mb m D s) (he:s.e=0):
  Calls Tryz.prog 243 #[pt rb] w fun e w'=>e=.returned (.tuple #[.bool s.test.2,.int .i64 s.test.1.e])/\PPost B W xb rb mb w m D s.test.1 w':=by
 obtain⟨ns,hi,hns⟩:=h.inv;have hns:=hns he;subst hns;have hg:=h.good.test he;by_cases hf:m.st < 2000
 ·have hst:s.steps < 2000:=by rw[<-h.st he];exact hf
  have hs:=St.step_ok hst;have hse:s.step.e=0:=by rw[hs];exact he
  cases hrs:s.rs with
  | nil=>
   have HT:s.test=(s.step.err 6,false):=by unfold St.test;rw[if_pos hse,show s.step.rs=[] by rw[hs];exact hrs]
   rw[HT] at hg ⊢;refine askM w rb 0 0 0 6 _ ((stTk_under w xb rb m _ 1 hi h.st0 hf (by rw[hrs];decide) (by decide)).mono ?_);rintro e w' ⟨rfl,hi',ht'⟩;refine⟨rfl,fun w2 hk=>PPost.after ⟨_,D,h.turn ht' rfl ⟨_,hi',(fun h=>by cases h)⟩ (by rw[hs];exact h.mem) (by rw[hs];exact h.out) (by have:=h.st0;show 0<=m.st+1;omega) (by show m.st+1<=2000;omega) (fun h=>by cases h) (by rw[hs];exact h.dp) (by rw[hs];exact⟨rfl,rfl,rfl,rfl⟩) hg⟩ hk⟩
  | cons a r=>
   have HT:s.test=({ s.step with rs:=r },decide (a ≠ 0)):=by unfold St.test;rw[if_pos hse,show s.step.rs=a :: r by rw[hs];exact hrs]
   rw[HT] at hg ⊢;rw[hrs] at hi;rw[show decide (a ≠ 0)=(a != 0) by cases hz:(a != 0) <;> simpa using hz,show ({ s.step with rs:=r }:St).e=0 from hse]
   refine askM w rb a 0 0 0 _ ((stTk1 w xb rb m a r hi h.st0 hf).mono ?_);rintro e w' ⟨v',rfl,hi',ht'⟩;refine⟨rfl,fun w2 hk=>PPost.after ⟨_,D,h.turn ht' rfl ⟨_,hi',fun _=>rfl⟩ (by rw[hs];exact h.mem) (by rw[hs];exact h.out) (by have:=h.st0;show 0<=m.st+1;omega) (by show m.st+1<=2000;omega) (fun _=>by rw[hs];show m.st+1=s.steps+1;rw[h.st he]) (by rw[hs];exact h.dp) (by rw[hs];exact⟨rfl,rfl,rfl,rfl⟩) hg⟩ hk⟩
 ·obtain⟨h1,h2⟩:=h.fuel he hf;have HT:s.test=(s.step,false):=by unfold St.test;rw[if_neg (by rw[h2];decide)]
  rw[HT] at ⊢;rw[h2];refine askM w rb 0 0 0 12 _ ((stTk_no w xb rb m _ 1 hi hf).mono ?_);rintro e w' ⟨rfl,hk'⟩;exact⟨rfl,fun w2 hk=>PPost.after ⟨m,D,(h1.kp hk').1,(h1.kp hk').2⟩ hk⟩
end
end
section
open Go.RowKit
structure FrR (B:Nat) (w:World) (fb rb:Nat) (m:MS) (D:GD) (lv:Value) (why:Int) (lp:List Int):Prop where
 blk:Blk w fb 247 #[pt rb,lv,.int .i64 why]
 row:w.ownsRow 0 2 1 lv lp.length (ints lp.reverse)
 ins:∀ n∈lp,In n
 sep:∀ k,own lv k->¬ own m.sv k
 nd:¬ D.d fb
 nl:∀ k,own lv k->¬ D.d k
 nu:¬ D.u fb
 nlu:∀ k,own lv k->¬ D.u k
 bf:B<=fb
 bl:∀ k,own lv k->B<=k
structure FT (xb rb mb fb:Nat) (w w':World) (m m':MS) (D D':GD) (lv lv':Value):Prop where
 wt:To (fun k=>((k=xb\/k=rb)\/k=mb)\/k=fb) w w' (fun k=>((own m.sv k\/own m.ov k)\/D.u k)\/own lv k) (fun k=>((own m'.sv k\/own m'.ov k)\/D'.u k)\/own lv' k)
 up:∀ k,D.d k->D'.d k
 nw:∀ k,D'.d k->D.d k\/w.heap.size<=k
 rg:∀ o f,D.r o f->D'.r o f
 bk:m'.bk=m.bk
 lve:lv'=lv
 jj:D'.J=D.J
theorem FT.refl (xb rb mb fb:Nat) (w:World) (m:MS) (D:GD) (lv:Value):FT xb rb mb fb w w m m D D lv lv:=⟨To.refl _ _ _,fun _ h=>h,fun _ h=>.inl h,fun _ _ h=>h,rfl,rfl,rfl⟩
theorem FT.trans {xb rb mb fb:Nat} {w w1 w2:World} {m m1 m2:MS} {D D1 D2:GD} {lv lv1 lv2:Value} (h:FT xb rb mb fb w w1 m m1 D D1 lv lv1) (g:FT xb rb mb fb w1 w2 m1 m2 D1 D2 lv1 lv2):FT xb rb mb fb w w2 m m2 D D2 lv lv2:=by
 refine⟨h.wt.trans g.wt,fun k hk=>g.up k (h.up k hk),fun k hk=>?_,fun o f hr=>g.rg o f (h.rg o f hr),g.bk.trans h.bk,g.lve.trans h.lve,g.jj.trans h.jj⟩;rcases g.nw k hk with h1|h1
 ·exact h.nw k h1
 ·exact .inr (Nat.le_trans h.wt.kp.size h1)
section
variable {B:Nat} {W w w':World} {xb rb mb fb:Nat} {m m':MS} {D D':GD} {s:St} {lv:Value} {why:Int} {lp:List Int}
theorem PR.other {S:Nat->Prop} (h:PR B W w xb rb mb m D s) (hk:Kp w w' S) (h1:¬ S xb) (h2:¬ S rb) (h3:¬ S mb) (h4:¬ S m.bk) (h5:∀ k,own m.sv k->¬ S k) (h6:∀ k,own m.ov k->¬ S k) (h7:∀ k,D.d k->¬ S k) (h9:∀ k,D.u k->¬ S k) (h8:∀ k,k < B->¬ S k):PR B W w' xb rb mb m D s:=by
 obtain⟨ns,hi,hn⟩:=h.inv;have hs:=h.safe;obtain⟨hpr,hwd⟩:=h.words.wds.out hk h9 h7;refine⟨⟨ns,⟨hk.blk hi.xblk h1,hk.blk hi.rblk h2,hk.row hi.srow h5,hk.row hi.orow h6,hi.len⟩,hn⟩,h.mem,h.out,h.st0,h.st1,h.st,h.dp,⟨hs.bel.trans (hk.below hs.bs h8),hs.bx,hs.br,hs.bv,Nat.le_trans hs.bs hk.size⟩,h.bmb,hk.blk h.book h4,h.words.pres hpr (fun _ _ h=>h) (fun _ _ h=>h) hwd (hk.block mb h.words.ltm h3) (fun _ _ _ _ q=>q.out hk h9 h7),fun k hd=>?_,fun k hu=>?_,h.good,h.ids,h.idr⟩
 ·obtain⟨e0,e1⟩:=h.sep k hd;exact⟨Nat.lt_of_lt_of_le e0 hk.size,e1⟩
 ·obtain⟨e0,e1,e2⟩:=h.us k hu;refine⟨e0,e1,?_⟩;rcases e2 with⟨c,hc⟩|⟨n,DD,hm2⟩
  ·exact .inl ⟨c,hk.blk hc (h9 k hu)⟩
  ·exact .inr ⟨n,DD,ownsMap_same hm2 (hk.block k hm2.lt (h9 k hu))⟩
theorem FrR.ne (h:PR B W w xb rb mb m D s) (hf:FrR B w fb rb m D lv why lp):fb ≠ xb/\fb ≠ rb/\fb ≠ mb/\fb ≠ m.bk/\¬ own m.sv fb/\¬ own m.ov fb/\¬ own lv fb:=by
 obtain⟨ns,hi,_⟩:=h.inv;refine⟨?_,?_,(h.words.ne hf.blk).symm,?_,fun e=>?_,fun e=>?_,fun e=>?_⟩
 ·rintro rfl;exact absurd (hf.blk.inj hi.xblk).1 (by decide)
 ·rintro rfl;exact absurd (hf.blk.inj hi.rblk).1 (by decide)
 ·rintro rfl;exact absurd (hf.blk.inj h.book).1 (by decide)
 ·exact absurd (row_type hi.srow e hf.blk) (by decide)
 ·exact absurd (row_type hi.orow e hf.blk) (by decide)
 ·exact absurd (row_type hf.row e hf.blk) (by decide)
theorem FrR.lvn (h:PR B W w xb rb mb m D s) (hf:FrR B w fb rb m D lv why lp) {k:Nat} (hk:own lv k):k ≠ xb/\k ≠ rb/\k ≠ mb/\k ≠ m.bk/\¬ own m.sv k/\¬ own m.ov k:=by
 obtain⟨ns,hi,_⟩:=h.inv;obtain⟨c,hc⟩:=row_blk hf.row hk;refine⟨?_,?_,(h.words.ne hc).symm,?_,hf.sep k hk,fun e=>?_⟩
 ·rintro rfl;exact absurd (hc.inj hi.xblk).1 (by decide)
 ·rintro rfl;exact absurd (hc.inj hi.rblk).1 (by decide)
 ·rintro rfl;exact absurd (hc.inj h.book).1 (by decide)
 ·exact absurd (row_type hi.orow e hc) (by decide)
theorem FrR.sto (h:PR B W w xb rb mb m D s) (hf:FrR B w fb rb m D lv why lp) (ht:PTo xb rb mb w w' m m' D D'):FrR B w' fb rb m' D' lv why lp/\FT xb rb mb fb w w' m m' D D' lv lv:=by
 obtain⟨n1,n2,n3,n4,n5,n6,n7⟩:=hf.ne h;refine⟨⟨ht.wt.kp.blk hf.blk ?_,ht.wt.kp.row hf.row (fun k hk=>?_),hf.ins,fun k hk hv=>?_,fun hd=>?_,fun k hk hd=>?_,fun hd=>?_,fun k hk hd=>?_,hf.bf,hf.bl⟩,⟨⟨ht.wt.kp.mono (fun k _ hk=>?_),fun k hk=>?_⟩,ht.up,ht.nw,ht.rg,ht.bk,rfl,ht.jj⟩⟩
 ·rintro (((e|e)|e)|((e|e)|e))
  ·exact n1 e
  ·exact n2 e
  ·exact n3 e
  ·exact n5 e
  ·exact n6 e
  ·exact hf.nu e
 ·obtain⟨l1,l2,l3,l4,l5,l6⟩:=hf.lvn h hk;rintro (((e|e)|e)|((e|e)|e))
  ·exact l1 e
  ·exact l2 e
  ·exact l3 e
  ·exact l5 e
  ·exact l6 e
  ·exact hf.nlu k hk e
 ·obtain⟨l1,l2,l3,l4,l5,l6⟩:=hf.lvn h hk;have:=own_lt hf.row hk;rcases ht.wt.nx k (.inl (.inl hv)) with ((e|e)|e)|e
  ·exact l5 e
  ·exact l6 e
  ·exact hf.nlu k hk e
  ·omega
 ·rcases ht.nw _ hd with e|e
  ·exact hf.nd e
  ·have:=hf.blk.lt;omega
 ·rcases ht.nw _ hd with e|e
  ·exact hf.nl k hk e
  ·have:=own_lt hf.row hk;omega
 ·rcases ht.wt.nx _ (.inr hd) with ((e|e)|e)|e
  ·exact n5 e
  ·exact n6 e
  ·exact hf.nu e
  ·have:=hf.blk.lt;omega
 ·obtain⟨l1,l2,l3,l4,l5,l6⟩:=hf.lvn h hk;have:=own_lt hf.row hk;rcases ht.wt.nx k (.inr hd) with ((e|e)|e)|e
  ·exact l5 e
  ·exact l6 e
  ·exact hf.nlu k hk e
  ·omega
 ·rcases hk with e|e
  ·exact .inl (.inl e)
  ·exact .inr (.inl e)
 ·rcases hk with e|e
  ·rcases ht.wt.nx k e with h1|h1
   ·exact .inl (.inl h1)
   ·exact .inr h1
  ·exact .inl (.inr e)
theorem FrR.setWhy (h:PR B W w xb rb mb m D s) (hf:FrR B w fb rb m D lv why lp) (n:Int):PR B W (w.setCell ⟨fb,2,none⟩ (.int .i64 n)) xb rb mb m D s/\FrR B (w.setCell ⟨fb,2,none⟩ (.int .i64 n)) fb rb m D lv n lp/\FT xb rb mb fb w (w.setCell ⟨fb,2,none⟩ (.int .i64 n)) m m D D lv lv:=by
 obtain⟨n1,n2,n3,n4,n5,n6,n7⟩:=hf.ne h;have hk:=Kp.one w fb 2 (.int .i64 n);refine⟨h.other hk n1.symm n2.symm n3.symm n4.symm (fun k hk e=>n5 (e ▸ hk)) (fun k hk e=>n6 (e ▸ hk)) (fun k hk e=>hf.nd (e ▸ hk)) (fun k hk e=>hf.nu (e ▸ hk)) (fun k hk e=>by have:=hf.bf;omega),⟨hf.blk.set 2 _,ownsRow_setCell_other (a:=⟨fb,2,none⟩) hf.row n7 _,hf.ins,hf.sep,hf.nd,hf.nl,hf.nu,hf.nlu,hf.bf,hf.bl⟩,⟨⟨hk.mono (fun k _ e=>.inl (.inr e)),fun k hk=>.inl hk⟩,fun _ h=>h,fun _ h=>.inl h,fun _ _ h=>h,rfl,rfl,rfl⟩⟩
end
def sig (b:Bool):Int:=if b=true then 1 else 0
def sgl (l:Bool) (e:Int):Int:=sig (l || decide (e ≠ 0))
theorem sgl_no:sgl false 0=0:=rfl
theorem sgl_yes {l:Bool} {e:Int} (h:l=true\/e ≠ 0):sgl l e=1:=by
 unfold sgl;rcases h with h|h
 ·rw[h];rfl
 ·rw[decide_eq_true h];simp[sig]
theorem sgl_dec (e:Int):sgl (decide (e ≠ 0)) e=sgl false e:=by unfold sgl;cases decide (e ≠ 0) <;> rfl
theorem heedM (w:World) (fb:Nat) (why:Int) (rv lv:Value) (y:Int) (hf:Blk w fb 247 #[rv,lv,.int .i64 y]):
  Calls Tryz.prog 220 #[pt fb,.int .i64 why] w fun e w'=>e=.returned (.int .i64 (sgl false why))/\w'=w.setCell ⟨fb,2,none⟩ (.int .i64 why):=by
 have c2:w.cell? ⟨fb,2,none⟩=some (.int .i64 y):=hf.cell rfl;have f2:=hf.free 2;by_cases h0:why=0
 ·subst h0;go_enter Tryz.func220,Tryz.ntmps220;go_wp2;go_ret;exact⟨rfl,rfl⟩
 ·have h1:(why != 0)=true:=by simpa using h0
  have H0:=hide h0;clear h0;go_enter Tryz.func220,Tryz.ntmps220;go_wp2;go_ret;exact⟨by rw[sgl_yes (.inr H0.out)];rfl,rfl⟩
end
section
open Go.RowKit
structure Env (B:Nat) (W:World):Prop where
 glo:Glo B W
 sp:SpAt W
 b1:1 < B
theorem Env.at {B:Nat} {W w:World} {xb rb mb:Nat} {m:MS} {D:GD} {s:St} (h:Env B W) (hp:PR B W w xb rb mb m D s):SpAt w:=by
 obtain⟨tt,fr,hx⟩:=h.sp;exact⟨tt,fr,(hp.safe.bel.block 1 h.b1).trans hx⟩
def FPo (B:Nat) (W:World) (xb rb mb fb:Nat) (w:World) (m:MS) (D:GD) (lv:Value) (lp:List Int) (s':St) (w':World):Prop:=
 ∃ m' D' lv',PR B W w' xb rb mb m' D' s'/\FrR B w' fb rb m' D' lv' s'.e lp/\FT xb rb mb fb w w' m m' D D' lv lv'
theorem FPo.step {B:Nat} {W:World} {xb rb mb fb:Nat} {w w1 w2:World} {m m1:MS} {D D1:GD} {lv lv1:Value} {lp:List Int} {s':St} (ht:FT xb rb mb fb w w1 m m1 D D1 lv lv1) (h:FPo B W xb rb mb fb w1 m1 D1 lv1 lp s' w2):FPo B W xb rb mb fb w m D lv lp s' w2:=by
 obtain⟨m',D',lv',h1,h2,h3⟩:=h;exact⟨m',D',lv',h1,h2,ht.trans h3⟩
theorem FrR.keepD {B:Nat} {W w w':World} {xb rb mb fb:Nat} {m m':MS} {D D':GD} {s:St} {lv lv':Value} {why:Int} {lp:List Int} (h:PR B W w xb rb mb m D s) (hf:FrR B w fb rb m D lv why lp) (ht:FT xb rb mb fb w w' m m' D D' lv lv'):∀ b t c,BD D.d w b t c->BD D'.d w' b t c:=by
 intro b t c hb;obtain⟨_,h1,h2,h3,h4⟩:=h.sep b hb.1;refine⟨ht.up b hb.1,ht.wt.kp.blk hb.2 ?_⟩;rintro ((((e|e)|e)|e)|(((e|e)|e)|e))
 ·exact h1 e
 ·exact h2 e
 ·exact h.words.ne hb.2 e.symm
 ·exact hf.nd (e ▸ hb.1)
 ·exact h3 e
 ·exact h4 e
 ·exact h.words.wds.ud b e hb.1
 ·exact hf.nl b e hb.1
def OkL (lp:List Int) (l:List It):Prop:=∃ G lo,wb (fun _=>True) G lo l/\(lo=true->lp ≠ [])
def OkX (lp:List Int) (x:It):Prop:=∃ G lo,okIt (fun _=>True) (wb (fun _=>True) G) lo x/\(lo=true->lp ≠ [])
theorem OkL.mem {lp:List Int} {l:List It} (h:OkL lp l) {x:It} (hx:x∈l):OkX lp x:=by
 obtain⟨G,lo,h1,h2⟩:=h
 cases G with
 | zero=>have h1:l=[]:=h1;subst h1;cases hx
 | succ G=>exact⟨G,lo,h1 x hx,h2⟩
theorem OkX.ab {lp:List Int} {x:It} (h:OkX lp x) (hk:x.kind=63\/x.kind=117\/x.kind=119):OkL lp x.a/\OkL lp x.b:=by
 obtain⟨G,lo,h1,h2⟩:=h;rcases h1 with⟨q,_⟩|⟨_,q1,q2⟩|⟨q,_⟩
 ·exfalso;omega
 ·exact⟨⟨G,lo,q1,h2⟩,⟨G,lo,q2,h2⟩⟩
 ·exfalso;omega
theorem OkX.body {lp:List Int} {x:It} (h:OkX lp x) (hk:x.kind=100) (n:Int):OkL (n :: lp) x.a:=by
 obtain⟨G,lo,h1,h2⟩:=h;rcases h1 with⟨q,_⟩|⟨q,_⟩|⟨_,q1,_⟩
 ·exfalso;omega
 ·exfalso;omega
 ·exact⟨G,true,q1,fun _=>by simp⟩
theorem OkX.idx {lp:List Int} {x:It} (h:OkX lp x) (hk:x.kind=105):lp ≠ []:=by
 obtain⟨G,lo,h1,h2⟩:=h;rcases h1 with⟨q,_⟩|⟨q,_⟩|⟨q,_⟩
 ·rcases q with q|q|q|q|q|q|q
  all_goals first
   | exact h2 q.2
   | (exfalso;omega)
 ·exfalso;omega
 ·exfalso;omega
def PQ (lp lq:List Int):Prop:=∃ lo,lq=lp ++ lo
theorem PQ.refl (lp:List Int):PQ lp lp:=⟨[],by simp⟩
theorem PQ.push {lp lq:List Int} (h:PQ lp lq) (n:Int):PQ (n :: lp) (n :: lq):=by obtain⟨lo,h⟩:=h;exact⟨lo,by rw[h];rfl⟩
theorem PQ.nil (lq:List Int):PQ [] lq:=⟨lq,rfl⟩
def QB (B:Nat) (W:World) (g:Nat):Prop:=∀ (w:World) (xb rb mb fb:Nat) (m:MS) (D:GD) (s s':St) (f:Fr) (lp lq:List Int) (lv:Value) (ob:Nat) (v:Value) (l:List It) (left:Bool),PQ lp lq->PR B W w xb rb mb m D s->s.e=0->FrR B w fb rb m D lv 0 lq->(lq.length:Int)<=s.steps->OkL lp l->Acts (BD D.d w) D.r m.bk ob v l->D.r ob f ->
 xRun g (jBody f lp l) s=some (s',left)->Calls Tryz.prog 185 #[pt fb,v] w fun e w'=>e=.returned (.int .i64 (sig left))/\FPo B W xb rb mb fb w m D lv lq s' w'
def QI (B:Nat) (W:World) (g:Nat):Prop:=∀ (w:World) (xb rb mb fb:Nat) (m:MS) (D:GD) (s s':St) (f:Fr) (lp lq:List Int) (lv:Value) (ob:Nat) (c:Value) (x:It) (left:Bool),PQ lp lq->PR B W w xb rb mb m D s->s.e=0->FrR B w fb rb m D lv 0 lq->(lq.length:Int)<=s.steps->OkX lp x->actR (BD D.d w) D.r m.bk ob (Acts (BD D.d w) D.r m.bk) x c->D.r ob f ->
 xRun g (jItem f lp x) s=some (s',left)->CallsV c (pt fb) w fun e w'=>e=.returned (.int .i64 (sgl left s'.e))/\FPo B W xb rb mb fb w m D lv lq s' w'
def QW (B:Nat) (W:World) (g:Nat):Prop:=∀ (w:World) (xb rb mb:Nat) (m:MS) (D:GD) (s s':St) (f:Fr) (ob:Nat) (left:Bool),PR B W w xb rb mb m D s->s.e=0->D.r ob f ->
 xRun g (jBody f [] f.body) s=some (s',left)->Calls Tryz.prog 161 #[pt ob,pt rb] w fun e w'=>e=.returned (.int .i64 s'.e)/\PPost B W xb rb mb w m D s' w'
def QT (B:Nat) (W:World) (g:Nat):Prop:=∀ (w:World) (xb rb mb:Nat) (m:MS) (D:GD) (s s':St) (v:Value) (ws:List ByteArray) (left:Bool),PR B W w xb rb mb m D s->s.e=0->TokAt (Blk w) v ws->(∀ t∈ws,okW t)->ws.length<=1000 ->
 xRun g (jToks (texts ws)) s=some (s',left)->Calls Tryz.prog 42 #[pt m.bk,pt rb,v] w fun e w'=>e=.returned (.int .i64 s'.e)/\PPost B W xb rb mb w m D s' w'
structure BAt (B:Nat) (W:World) (g xb rb mb fb:Nat) (w wr:World) (m:MS) (D:GD) (s':St) (f:Fr) (lp lq:List Int) (lv:Value) (ob:Nat) (v:Value) (l:List It) (left:Bool) (k:Nat):Prop where
 ex:∃ g' m1 D1 lv1 s1,g'<=g/\PR B W wr xb rb mb m1 D1 s1/\s1.e=0/\FrR B wr fb rb m1 D1 lv1 0 lq/\(lq.length:Int)<=s1.steps/\FT xb rb mb fb w wr m m1 D D1 lv lv1/\Acts (BD D1.d wr) D1.r m1.bk ob v l/\D1.r ob f/\xRun g' (jBody f lp (l.drop k)) s1=some (s',left)
theorem runAllX {B:Nat} {W:World} (g:Nat) (hI:∀ g',g' < g->QI B W g'):QB B W g:=by
 intro w xb rb mb fb m D s s' f lp lq lv ob v l left hpq hr he hf hlp hok hA hW hx;have h0:Hid (BAt B W g xb rb mb fb w w m D s' f lp lq lv ob v l left 0):=⟨⟨g,m,D,lv,s,Nat.le_refl _,hr,he,hf,hlp,FT.refl _ _ _ _ _ _ _ _,hA,hW,hx⟩⟩;obtain⟨ao,cap,rfl⟩:=hA.form;obtain⟨cs,hrow,hcs⟩:=hA.out;have hll:l.length<=9223372036854775807:=by have:=row_slice_len hrow.row;rw[actsL_len _ _ hcs] at this;exact this
 have HI:=hide hI;have HOK:=hide hok;have HPQ:=hide hpq;clear hr he hf hlp hA hW hx hrow hI hcs hok hpq;go_enter Tryz.func185,Tryz.ntmps185;go_wp2
 go_loopw [9] (fun i wr=>∃ k:Nat,k<=l.length/\i=.int .i64 k/\BAt B W g xb rb mb fb w wr m D s' f lp lq lv ob (.slice ao l.length cap) l left k) (fun i _=>l.length - (intOf i).toNat)
 case atStart=>exact⟨0,Nat.zero_le _,rfl,h0.out⟩
 case round=>
  obtain⟨k,hk,rfl,⟨g',m1,D1,lv1,s1,hg,hr,he,hf,hlp,hto,hA,hW,hx⟩⟩:=hrel;by_cases hlt:k < l.length
  ·obtain⟨cs,hrow,hcs⟩:=hA.out;have hcl:=actsL_len _ _ hcs;obtain⟨c,hc,hact⟩:=actsL_at _ _ hcs k hlt;obtain⟨gd,cap',hv,hcell⟩:=row_cell hrow.row (by omega);injection hv with e1 e2 e3;subst e1;clear e2 e3;have c0:=hcell _ _ hc;clear hcell hc hrow hcs hcl;rw[List.drop_eq_getElem_cons hlt] at hx
   cases g' with
   | zero=>cases hx
   | succ g'=>
    rw[x_cons] at hx
    split at hx
    ·cases hx
    ·rename_i s2 left2 hx1
     obtain⟨fn,ff,fc,rfl,hen,hcall⟩:=HI.out g' (by omega) wr xb rb mb fb m1 D1 s1 s2 f lp lq lv1 ob c l[k] left2 HPQ.out hr he hf hlp (HOK.out.mem (List.getElem_mem hlt)) hact hW hx1;unfold Ents at hen;have HC:=hide hcall;have hst:=(xRun_keep _ _ _ _ _ hx1).2;have HKD:Hid (∀ w' m' D' lv',FT xb rb mb fb wr w' m1 m' D1 D' lv1 lv'->(∀ b t c,BD D1.d wr b t c->BD D'.d w' b t c)):=fun w' m' D' lv' ht=>hf.keepD hr ht;have HAA:=hide hA;have HWW:=hide hW;clear hcall hact hA hW hr hf
     go_wp2_with fail
     refine HC.out.mono ?_;rintro e w1 ⟨rfl,m2,D2,lv2,hr2,hf2,hto2⟩;have hkd:=HKD.out w1 m2 D2 lv2 hto2;have HA2:Hid (Acts (BD D2.d w1) D2.r m2.bk ob (.slice (some ⟨gd,0,none⟩) l.length cap) l):=by rw[hto2.bk];exact HAA.out.mono hkd hto2.rg
     have HW2:Hid (D2.r ob f):=hto2.rg _ _ HWW.out;have HR2:=hide hr2;have HF2:=hide hf2;have HT2:=hide (hto.trans hto2);clear hkd hr2 hf2 hto2 hto c0 HC hx1 hen;by_cases hl2:left2=true\/s2.e ≠ 0
     ·rw[if_pos hl2] at hx;injection hx with hx;injection hx with hx1 hx2;subst hx1;subst hx2;rw[sgl_yes hl2];clear hl2;go_wp2;go_ret;exact⟨rfl,m2,D2,lv2,HR2.out,HF2.out,HT2.out⟩
     ·rw[if_neg hl2] at hx;have hn:=not_or.1 hl2;have hl:left2=false:=by simpa using hn.1
      have he2:s2.e=0:=by simpa using hn.2
      rw[hl,he2,sgl_no];have HX:=hide hx;clear hx hl2 hn hl;go_wp2
      go_roundw
      case rel=>exact⟨k+1,by omega,by go_num,⟨⟨g',m2,D2,lv2,s2,by omega,HR2.out,he2,by have:=HF2.out;rw[he2] at this;exact this,by omega,HT2.out,HA2.out,HW2.out,HX.out⟩⟩⟩
      case measure=>simp[intOf];omega
  ·rw[List.drop_of_length_le (by omega)] at hx
   cases g' with
   | zero=>cases hx
   | succ g'=>
    rw[x_nil] at hx;injection hx with hx;injection hx with hx1 hx2;subst hx1;subst hx2;go_wp2;go_ret;exact⟨rfl,m1,D1,lv1,hr,by rw[he];exact hf,hto⟩
end
end Go.Proofs.YteainaiebcphlaaGreatDoor
