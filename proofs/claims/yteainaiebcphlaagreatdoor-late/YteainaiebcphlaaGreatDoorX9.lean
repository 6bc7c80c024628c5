import Derived.Test.YteainaiebcphlaaGreatDoorX7
import Derived.Test.YteainaiebcphlaaGreatDoorX8
import Derived.Maps.RangeWalk
namespace Go.Proofs.YteainaiebcphlaaGreatDoor
set_option maxRecDepth 1000000
set_option maxHeartbeats 4000000
set_option linter.all false
section
open Go.RowKit
structure GD where
 d:Nat->Prop
 u:Nat->Prop
 r:Nat->Fr->Prop
 tag:Nat->Nat × Nat
structure WC where
 nm:ByteArray
 iv:Value
 sv:Value
 av:Value
 fa:Bool
 ct:Int
 gn:Bool
 pm:Option Nat
 wm:Option Nat
def WC.arr (c:WC):Array Value:=#[.string c.nm,c.iv,c.sv,c.av,.bool c.fa,.int .i64 c.ct,.bool c.gn,.map c.pm,.map c.wm]
theorem WC.inj {c c':WC} (h:c.arr=c'.arr):c=c':=by
 obtain⟨a1,a2,a3,a4,a5,a6,a7,a8,a9⟩:=c;obtain⟨b1,b2,b3,b4,b5,b6,b7,b8,b9⟩:=c';unfold WC.arr at h;simp at h;obtain⟨rfl,rfl,rfl,rfl,rfl,rfl,rfl,rfl,rfl⟩:=h;rfl
def MapE (r:Nat->Fr->Prop) (DD:DataW Value):Prop:=∀ kl,Maps.has DD kl=true->∃ ob f,kl=.string f.name/\r ob f/\∀ zd,DD.atKey kl zd=.held (pt ob)
def MapB (r:Nat->Fr->Prop) (w:World) (b:Nat) (DD:DataW Value):Prop:=(∃ n,w.ownsMap Tryz.prog 9 heldR b n DD)/\MapE r DD
def MapOk (D:GD) (w:World) (o:Option Nat) (tg:Nat × Nat):Prop:=∀ b,o=some b->D.u b/\D.tag b=tg/\∃ DD,MapB D.r w b DD
structure WordC (D:GD) (w:World) (bk ob:Nat) (f:Fr) (c:WC):Prop where
 blk:Blk w ob 111 c.arr
 nm:c.nm.data.toList=f.name
 ns:c.nm.size<=1000
 it:Items (BD D.d w) c.iv f.body
 sl:Acts (BD D.d w) D.r bk ob c.sv f.body
 ac:Acts (BD D.d w) D.r bk ob c.av f.body
 pm:MapOk D w c.pm (ob,1)
 wm:MapOk D w c.wm (ob,0)
 wn:c.gn=false->c.wm.isSome=true
 u:D.u ob
 wf:∃ G,wb (fun _=>True) G false f.body
theorem WordC.inj {D:GD} {w:World} {bk ob:Nat} {f f':Fr} {c c':WC} (h:WordC D w bk ob f c) (h':WordC D w bk ob f' c'):c=c':=WC.inj (h.blk.inj h'.blk).2
structure GLe (D D':GD) (w:World):Prop where
 u:∀ k,D.u k->D'.u k
 r:∀ o f,D.r o f->D'.r o f
 tag:∀ k,k < w.heap.size->D'.tag k=D.tag k
theorem GLe.refl (D:GD) (w:World):GLe D D w:=⟨fun _ h=>h,fun _ _ h=>h,fun _ _=>rfl⟩
theorem MapE.mono {r r':Nat->Fr->Prop} {DD:DataW Value} (h:MapE r DD) (hr:∀ o f,r o f->r' o f):MapE r' DD:=fun kl hk=>by
 obtain⟨ob,f,h1,h2,h3⟩:=h kl hk;exact⟨ob,f,h1,hr _ _ h2,h3⟩
theorem MapB.same {r r':Nat->Fr->Prop} {w w':World} {b:Nat} {DD:DataW Value} (h:MapB r w b DD) (hr:∀ o f,r o f->r' o f) (e:w'.heap[b]? = w.heap[b]?):MapB r' w' b DD:=by
 obtain⟨⟨n,h1⟩,h2⟩:=h;exact⟨⟨n,ownsMap_same h1 e⟩,h2.mono hr⟩
theorem MapB.lt {r:Nat->Fr->Prop} {w:World} {b:Nat} {DD:DataW Value} (h:MapB r w b DD):b < w.heap.size:=by obtain⟨⟨n,h1⟩,_⟩:=h;exact h1.lt
theorem MapB.ne {r:Nat->Fr->Prop} {w:World} {b:Nat} {DD:DataW Value} (h:MapB r w b DD) {b':Nat} {t:TypeId} {c:Array Value} (hb:Blk w b' t c):b ≠ b':=by obtain⟨⟨n,h1⟩,_⟩:=h;exact map_ne h1 hb
theorem MapOk.frame {D D':GD} {w w':World} {S:Nat->Prop} {o:Option Nat} {tg:Nat × Nat} (h:MapOk D w o tg) (hk:Kp w w' S) (hl:GLe D D' w) (hs:∀ b,o=some b->¬ S b):MapOk D' w' o tg:=fun b hb=>by
 obtain⟨h1,h2,DD,h3⟩:=h b hb;exact⟨hl.u b h1,by rw[hl.tag b h3.lt];exact h2,DD,h3.same hl.r (hk.block b h3.lt (hs b hb))⟩
theorem WordC.frame {D D':GD} {w w':World} {S:Nat->Prop} {bk ob:Nat} {f:Fr} {c:WC} (h:WordC D w bk ob f c) (hk:Kp w w' S) (hl:GLe D D' w) (hd:∀ b t c,BD D.d w b t c->BD D'.d w' b t c) (h1:¬ S ob) (h2:∀ b,c.pm=some b->¬ S b) (h3:∀ b,c.wm=some b->¬ S b):WordC D' w' bk ob f c:=
 ⟨hk.blk h.blk h1,h.nm,h.ns,h.it.mono hd,h.sl.mono hd hl.r,h.ac.mono hd hl.r,h.pm.frame hk hl h2,h.wm.frame hk hl h3,h.wn,hl.u _ h.u,h.wf⟩
structure Wds (D:GD) (w:World) (bk:Nat):Prop where
 ok:∀ o f,D.r o f->∃ c,WordC D w bk o f c
 fn:∀ o f f',D.r o f->D.r o f'->f=f'
 ud:∀ k,D.u k->¬ D.d k
 lt:∀ k,D.u k->k < w.heap.size
 dl:∀ k,D.d k->k < w.heap.size
def Pres (D D':GD) (w w':World) (bk:Nat):Prop:=∀ o f c,D.r o f->WordC D w bk o f c->∃ c',c'.gn=c.gn/\c'.nm=c.nm/\c'.iv=c.iv/\c'.sv=c.sv/\c'.wm=c.wm/\WordC D' w' bk o f c'
theorem Pres.refl (D:GD) (w:World) (bk:Nat):Pres D D w w bk:=fun _ _ c _ h=>⟨c,rfl,rfl,rfl,rfl,rfl,h⟩
theorem Pres.trans {D D1 D2:GD} {w w1 w2:World} {bk:Nat} (h:Pres D D1 w w1 bk) (hr:∀ o f,D.r o f->D1.r o f) (g:Pres D1 D2 w1 w2 bk):Pres D D2 w w2 bk:=fun o f c hd hc=>by
 obtain⟨c1,a1,a2,a3,a4,a5,h1⟩:=h o f c hd hc;obtain⟨c2,b1,b2,b3,b4,b5,h2⟩:=g o f c1 (hr o f hd) h1;exact⟨c2,b1.trans a1,b2.trans a2,b3.trans a3,b4.trans a4,b5.trans a5,h2⟩
section
variable {D:GD} {w w':World} {bk ob:Nat} {f:Fr} {c c':WC}
theorem Wds.next (h:Wds D w bk) (hk:w.heap.size<=w'.heap.size) (hp:Pres D D w w' bk):Wds D w' bk:=
 ⟨fun o f hr=>by obtain⟨c,hc⟩:=h.ok o f hr;obtain⟨c',_,_,_,_,_,h'⟩:=hp o f c hr hc;exact⟨c',h'⟩,h.fn,h.ud,fun k hk'=>Nat.lt_of_lt_of_le (h.lt k hk') hk,fun k hk'=>Nat.lt_of_lt_of_le (h.dl k hk') hk⟩
theorem BD_u (hd:∀ k,D.u k->¬ D.d k) {S:Nat->Prop} (hS:∀ k,S k->D.u k) (hk:Kp w w' S):∀ b t c,BD D.d w b t c->BD D.d w' b t c:=
 fun b _ _ h=>⟨h.1,hk.blk h.2 (fun e=>hd b (hS b e) h.1)⟩
theorem MapOk.neBlk {o:Option Nat} {tg:Nat × Nat} (h:MapOk D w o tg) {b:Nat} (hb:o=some b) {b':Nat} {t:TypeId} {ca:Array Value} (hc:Blk w b' t ca):¬ b=b':=by
 obtain⟨_,_,DD,h3⟩:=h b hb;exact h3.ne hc
theorem Wds.word (hW:Wds D w bk) (hr:D.r ob f) (hc:WordC D w bk ob f c) (hk:Kp w w' (fun k=>k=ob)) (hc':WordC D w' bk ob f c') (e1:c'.gn=c.gn) (e2:c'.nm=c.nm) (e3:c'.iv=c.iv) (e4:c'.sv=c.sv) (e5:c'.wm=c.wm):Pres D D w w' bk:=fun o g c0 hr0 hc0=>by
 by_cases ho:o=ob
 ·subst ho;have:=hW.fn o g f hr0 hr;subst this;have:=hc0.inj hc;subst this;exact⟨c',e1,e2,e3,e4,e5,hc'⟩
 ·refine⟨c0,rfl,rfl,rfl,rfl,rfl,hc0.frame hk (GLe.refl _ _) (BD_u hW.ud (fun k e=>by have e:k=ob:=e;rw[e];exact hc.u) hk) ho (fun b hb e=>?_) (fun b hb e=>?_)⟩
  ·exact hc0.pm.neBlk hb hc.blk e
  ·exact hc0.wm.neBlk hb hc.blk e
theorem Wds.wmap (hW:Wds D w bk) (hr:D.r ob f) (hc:WordC D w bk ob f c) {b:Nat} (hb:c.wm=some b) (hk:Kp w w' (fun k=>k=b)) {DD:DataW Value} (hm:MapB D.r w' b DD):Pres D D w w' bk:=fun o g c0 hr0 hc0=>by
 obtain⟨hu,ht,DD0,hm0⟩:=hc.wm b hb;have hbd:=BD_u hW.ud (fun k e=>by have e:k=b:=e;rw[e];exact hu) hk;by_cases ho:o=ob
 ·subst ho;have:=hW.fn o g f hr0 hr;subst this;have:=hc0.inj hc;subst this;refine⟨c0,rfl,rfl,rfl,rfl,rfl,⟨hk.blk hc0.blk (fun e=>hm0.ne hc0.blk e.symm),hc0.nm,hc0.ns,hc0.it.mono hbd,hc0.sl.mono hbd (fun _ _ h=>h),hc0.ac.mono hbd (fun _ _ h=>h),hc0.pm.frame hk (GLe.refl _ _) (fun b' e e2=>?_),fun b' e=>?_,hc0.wn,hc0.u,hc0.wf⟩⟩
  ·obtain⟨_,q,_⟩:=hc0.pm b' e;have e2:b'=b:=e2;rw[e2,ht] at q;cases q
  ·rw[hb] at e;injection e with e;subst e;exact⟨hu,ht,DD,hm⟩
 ·refine⟨c0,rfl,rfl,rfl,rfl,rfl,hc0.frame hk (GLe.refl _ _) hbd (fun e=>hm0.ne hc0.blk (by have e:o=b:=e;exact e.symm)) (fun b' e e2=>?_) (fun b' e e2=>?_)⟩
  ·obtain⟨_,q,_⟩:=hc0.pm b' e;have e2:b'=b:=e2;rw[e2,ht] at q;cases q
  ·obtain⟨_,q,_⟩:=hc0.wm b' e;have e2:b'=b:=e2;rw[e2,ht] at q;injection q with q;exact ho q.symm
theorem Wds.kp (hW:Wds D w bk) (hk:Kp w w' (fun _=>False)):Pres D D w w' bk/\Wds D w' bk:=by
 have hp:Pres D D w w' bk:=fun o g c0 hr0 hc0=>⟨c0,rfl,rfl,rfl,rfl,rfl,hc0.frame hk (GLe.refl _ _) (BD_keep hk (fun b _ hb=>⟨hb,by simp⟩)) (by simp) (by simp) (by simp)⟩;exact⟨hp,hW.next hk.size hp⟩
theorem Wds.out {S:Nat->Prop} (hW:Wds D w bk) (hk:Kp w w' S) (hu:∀ k,D.u k->¬ S k) (hd:∀ k,D.d k->¬ S k):Pres D D w w' bk/\Wds D w' bk:=by
 have hp:Pres D D w w' bk:=fun o g c0 hr0 hc0=>⟨c0,rfl,rfl,rfl,rfl,rfl,hc0.frame hk (GLe.refl _ _) (BD_keep hk (fun b _ hb=>⟨hb,hd b hb⟩)) (hu _ hc0.u) (fun b hb=>hu _ (hc0.pm b hb).1) (fun b hb=>hu _ (hc0.wm b hb).1)⟩;exact⟨hp,hW.next hk.size hp⟩
end
def FU (D:GD) (w:World) (bk:Nat) (k:Nat):Prop:=(∃ g,D.r k g)\/∃ o g c,D.r o g/\WordC D w bk o g c/\c.wm=some k
theorem FU.u {D:GD} {w:World} {bk k:Nat} (hW:Wds D w bk) (h:FU D w bk k):D.u k:=by
 rcases h with⟨g,h⟩|⟨o,g,c,h,hc,hm⟩
 ·obtain⟨c,hc⟩:=hW.ok k g h;exact hc.u
 ·exact (hc.wm k hm).1
theorem FU.back {D:GD} {w w':World} {bk k:Nat} (hW:Wds D w bk) (hp:Pres D D w w' bk) (h:FU D w' bk k):FU D w bk k:=by
 rcases h with⟨g,h⟩|⟨o,g,c,h,hc,hm⟩
 ·exact .inl ⟨g,h⟩
 ·obtain⟨c0,hc0⟩:=hW.ok o g h;obtain⟨c1,_,_,_,_,e5,hc1⟩:=hp o g c0 h hc0;have:=hc1.inj hc;subst this;exact .inr ⟨o,g,c0,h,hc0,by rw[<-e5];exact hm⟩
theorem ranges_same {w w':World} {b r n cnt:Nat} {DD:DataW Value} {left:Lit->Bool} (h:w.ranges Tryz.prog 9 heldR b r n DD left cnt) (e1:w'.heap[b]? = w.heap[b]?) (e2:w'.heap[r]? = w.heap[r]?):w'.ranges Tryz.prog 9 heldR b r n DD left cnt:=by
 obtain⟨es,clock,since,seen,c0,h1,h2,h3,h4,h5,h6⟩:=h;exact⟨es,clock,since,seen,c0,e1.trans h1,h2,h3,h4,e2.trans h5,h6⟩
end
section
open Go.RowKit
theorem RdInv.other {w w':World} {sb bk mb:Nat} {known:Tok->Bool} {ws:List ByteArray} {lo b0:Nat} (h:RdInv w sb bk mb known ws lo) (hk:Kp w w' (fun b=>b=b0)) {c:Array Value} (hZ:Blk w b0 241 c) (h1:1 < b0):RdInv w' sb bk mb known ws lo:=by
 obtain⟨rv,hB,hT⟩:=h.blk;obtain⟨nn,DD,hm,hl⟩:=h.book.look;have hne:∀ b t c,Blk w b t c->t ≠ 241->¬ b=b0:=fun b t c hb ht e=>by subst e;exact ht (hb.inj hZ).1
 exact⟨⟨rv,hk.blk hB (hne sb _ _ hB (by decide)),TokAt_mono (fun b c hc=>⟨hc.1,hk.blk hc.2 (hne b 9 c hc.2 (by decide))⟩) hT⟩,h.book.kp hk (hne bk _ _ h.book.blk (by decide)) (fun e=>map_ne hm hZ e),h.len,h.ok,h.sp.kp hk (by show ¬ (1:Nat)=b0;omega),h.s1⟩
theorem Kp.own7 {w:World} (b:Nat) (v0 v1 v2 v3 v4 v5 v6:Value):
  Kp w (((((((w.setCell ⟨b,0,none⟩ v0).setCell ⟨b,1,none⟩ v1).setCell ⟨b,2,none⟩ v2).setCell ⟨b,3,none⟩ v3).setCell ⟨b,4,none⟩ v4).setCell ⟨b,5,none⟩ v5).setCell ⟨b,6,none⟩ v6) (fun k=>k=b):=
 (((((((Kp.refl w (fun k=>k=b)).set (a:=⟨b,0,none⟩) (fun _=>rfl) v0).set (a:=⟨b,1,none⟩) (fun _=>rfl) v1).set (a:=⟨b,2,none⟩) (fun _=>rfl) v2).set (a:=⟨b,3,none⟩) (fun _=>rfl) v3).set (a:=⟨b,4,none⟩) (fun _=>rfl) v4).set (a:=⟨b,5,none⟩) (fun _=>rfl) v5).set (a:=⟨b,6,none⟩) (fun _=>rfl) v6
theorem itm_long {M:Mem} {P:Value->List It->Prop} (k:Nat) (va vb:Value) (a b:List It) (hk:k=63\/k=117\/k=119\/k=100) (ha:P va a) (hb:P vb b):PItm M P ⟨k,0,[],a,b,[]⟩ 0 0 ⟨#[]⟩ (.slice none 0 0) va vb:=by
 refine⟨?_,fun h=>?_,fun h=>?_,fun h=>?_,⟨[],.inl ⟨rfl,rfl⟩,fun h=>?_⟩,ha,hb⟩
 ·rcases hk with h|h|h|h <;> simp[h]
 ·have h:k=110:=h
  exfalso;omega
 ·have h:k=112:=h
  exfalso;omega
 ·have h:k=99:=h
  exfalso;omega
 ·have h:k=123:=h
  exfalso;omega
theorem doQ (g:Nat) (hQ:QBody g) (w:World) (sb bk mb:Nat) (known:Tok->Bool) (ws:List ByteArray) (lo:Nat) (hlw:ws.length+lo+1<=1000) (res:PRes) (hres:pRead known (g+1) ⟨true,lo,[],kDo⟩ (texts ws)=some res) (h:RdInv w sb bk mb known ws lo):
  Calls Tryz.prog 240 #[pt sb] w fun x w'=>Kp w w' (fun b=>b=sb)/\QIt w sb bk mb known lo x w' res:=by
 obtain⟨rv,hB,hT⟩:=h.blk;have hsb:=hB.lt;have hcs:sb ≠ w.heap.size:=by omega
 have h1w:=h.sp.lt;have c2:w.cell? ⟨sb,2,none⟩=some (.int .i64 lo):=hB.cell rfl;have f2:=hB.free 2;have hlo:(lo:Int)<=1000:=by omega
 have hS0:RdInv ((w.setCell ⟨sb,2,none⟩ (.int .i64 ((lo:Int)+1))).alloc (.cells #[.int .i64 0,.int .i64 0,.int .i64 0,.string ⟨#[]⟩,.slice none 0 0,.slice none 0 0,.slice none 0 0] 241)) sb bk mb known ws (lo+1):=
  (h.to (Kp.one _ _ _ _) rv (hB.set 2 _) hT (by omega) h.ok).kp ((Kp.refl _ (fun _=>False)).alloc _)
 have hZ1:Blk ((w.setCell ⟨sb,2,none⟩ (.int .i64 ((lo:Int)+1))).alloc (.cells #[.int .i64 0,.int .i64 0,.int .i64 0,.string ⟨#[]⟩,.slice none 0 0,.slice none 0 0,.slice none 0 0] 241)) w.heap.size 241 #[.int .i64 0,.int .i64 0,.int .i64 0,.string ⟨#[]⟩,.slice none 0 0,.slice none 0 0,.slice none 0 0]:=by
  have:=Blk.new (w.setCell ⟨sb,2,none⟩ (.int .i64 ((lo:Int)+1))) #[.int .i64 0,.int .i64 0,.int .i64 0,.string ⟨#[]⟩,.slice none 0 0,.slice none 0 0,.slice none 0 0] 241;simpa using this
 have hk0:Kp w ((w.setCell ⟨sb,2,none⟩ (.int .i64 ((lo:Int)+1))).alloc (.cells #[.int .i64 0,.int .i64 0,.int .i64 0,.string ⟨#[]⟩,.slice none 0 0,.slice none 0 0,.slice none 0 0] 241)) (fun b=>b=sb):=(Kp.one w sb 2 _).alloc _;have hsz0:((w.setCell ⟨sb,2,none⟩ (.int .i64 ((lo:Int)+1))).alloc (.cells #[.int .i64 0,.int .i64 0,.int .i64 0,.string ⟨#[]⟩,.slice none 0 0,.slice none 0 0,.slice none 0 0] 241)).heap.size=w.heap.size+1:=by simp
 have hup:∃ resB,pRead known g ⟨false,lo+1,[kLoop],[]⟩ (texts ws)=some resB/\((∃ e,resB=.error e/\res=.error e)\/∃ a t1 r1,resB=.ok (a,t1,r1)/\res=.ok ([⟨100,0,[],a,[],[]⟩],[],r1)):=by
  rcases pI_do hres with⟨e,h1,h2⟩|⟨a,t1,r1,h1,h2⟩
  ·exact⟨_,h1,.inl ⟨e,rfl,h2⟩⟩
  ·exact⟨_,h1,.inr ⟨a,t1,r1,rfl,h2⟩⟩
 obtain⟨resB,hrB,hcase⟩:=hup;have HU:=hide (upToQ g hQ _ sb bk mb known ws (lo+1) kLoop 30 (by decide) (by decide) resB hrB hS0);have HC:=hide hcase;clear hQ hres hrB hS0 hcase hlw;go_enter Tryz.func240,Tryz.ntmps240
 go_wp2_with fail
 refine HU.out.mono ?_;rintro x w2 ⟨hk2,hq⟩;have hZ2:=hk2.blk hZ1 hcs.symm;have hkp2:=hk0.trans hk2;have hsz2:=hk2.size;rw[hsz0] at hsz2;have hcase:=HC.out;rcases resB with er|⟨l,t1,r1⟩
 ·obtain⟨her,a5,m5,p5,rv2,rfl,hB2'⟩:=hq;have hre:res=.error er:=by
   rcases hcase with⟨e,h1,h2⟩|⟨_,_,_,h1,_⟩
   ·injection h1 with h1;rw[h2,h1]
   ·cases h1
  have HR:=hide hre;have d2:w2.cell? ⟨sb,2,none⟩=some (.int .i64 ((lo:Int)+1)):=by have:=hB2'.cell (o:=2) (v:=.int .i64 ((lo+1:Nat):Int)) rfl;simpa using this
  have g2:=hB2'.free 2;have hB1:Blk (w2.setCell ⟨sb,2,none⟩ (.int .i64 lo)) sb 201 (rdArr rv2 bk lo):=hB2'.set 2 _;have hZ:=hZ2.setOther (a:=⟨sb,2,none⟩) hcs.symm (.int .i64 lo);have hkp:=hkp2.trans (Kp.one w2 sb 2 (.int .i64 lo));obtain⟨y0,y1,y2,y3,y4,y5,y6⟩:=hZ2.seven;obtain⟨z0,z1,z2,z3,z4,z5,z6⟩:=hZ2.sevenF;clear hcase hre HC HU hB2' hk0 hk2 hZ1 hkp2;go_wp2;have hC2:=hZ.set7 (.int .i64 6) (.int .i64 0) (.int .i64 0) (.string ⟨#[]⟩) (.slice none 0 0) (.slice a5 m5 p5) (.slice none 0 0);have hK2:=hkp.set7 (Nat.le_refl _) (.int .i64 6) (.int .i64 0) (.int .i64 0) (.string ⟨#[]⟩) (.slice none 0 0) (.slice a5 m5 p5) (.slice none 0 0);have hk3:=Kp.own7 (w:=(w2.setCell ⟨sb,2,none⟩ (.int .i64 lo))) w.heap.size (.int .i64 6) (.int .i64 0) (.int .i64 0) (.string ⟨#[]⟩) (.slice none 0 0) (.slice a5 m5 p5) (.slice none 0 0);have hB2:=hB1.other7 hcs (.int .i64 6) (.int .i64 0) (.int .i64 0) (.string ⟨#[]⟩) (.slice none 0 0) (.slice a5 m5 p5) (.slice none 0 0);generalize ((((((((w2.setCell ⟨sb,2,none⟩ (.int .i64 lo)).setCell ⟨w.heap.size,0,none⟩ (.int .i64 6)).setCell ⟨w.heap.size,1,none⟩ (.int .i64 0)).setCell ⟨w.heap.size,2,none⟩ (.int .i64 0)).setCell ⟨w.heap.size,3,none⟩ (.string ⟨#[]⟩)).setCell ⟨w.heap.size,4,none⟩ (.slice none 0 0)).setCell ⟨w.heap.size,5,none⟩ (.slice a5 m5 p5)).setCell ⟨w.heap.size,6,none⟩ (.slice none 0 0))=wf at hC2 hK2 hB2 hk3 ⊢;obtain⟨q0,q1,q2,q3,q4,q5,q6⟩:=hC2.seven;refine bodyPost_ret (v:=.tuple #[.agg #[.int .i64 6,.int .i64 0,.int .i64 0,.string ⟨#[]⟩,.slice none 0 0,.slice a5 m5 p5,.slice none 0 0],.int .i64 er]) (by simp[results,Tryz.results240,go_sem,q0,q1,q2,q3,q4,q5,q6]) rfl ?_;rw[HR.out];exact⟨hK2,her,_,_,_,_,_,_,_,_,_,_,_,_,_,_,rfl,hB2⟩
 ·obtain⟨v,ws',rfl,hI,htx,hS2⟩:=hq;have hre:res=.ok ([⟨100,0,[],l,[],[]⟩],[],r1):=by
   rcases hcase with⟨e,h1,_⟩|⟨a,t2,r2,h1,h2⟩
   ·cases h1
   ·injection h1 with h1;injection h1 with h3 h1;injection h1 with _ h4;rw[h2,h3,h4]
  have HR:=hide hre;obtain⟨xs,hrow,-⟩:=hI.out;obtain⟨a5,p5,rfl⟩:=hrow.form;obtain⟨rv2,hB2',hT2⟩:=hS2.blk;have d2:w2.cell? ⟨sb,2,none⟩=some (.int .i64 ((lo:Int)+1)):=by have:=hB2'.cell (o:=2) (v:=.int .i64 ((lo+1:Nat):Int)) rfl;simpa using this
  have g2:=hB2'.free 2;have hB1:Blk (w2.setCell ⟨sb,2,none⟩ (.int .i64 lo)) sb 201 (rdArr rv2 bk lo):=hB2'.set 2 _;have hZ:=hZ2.setOther (a:=⟨sb,2,none⟩) hcs.symm (.int .i64 lo);have hone:=Kp.one w2 sb 2 (.int .i64 lo);have hkp:=hkp2.trans hone;have hS3:RdInv (w2.setCell ⟨sb,2,none⟩ (.int .i64 lo)) sb bk mb known ws' lo:=hS2.to hone rv2 hB1 hT2 (by have:=hS2.len;omega) hS2.ok;have hka:=BD_keep (D:=New ((w.setCell ⟨sb,2,none⟩ (.int .i64 ((lo:Int)+1))).alloc (.cells #[.int .i64 0,.int .i64 0,.int .i64 0,.string ⟨#[]⟩,.slice none 0 0,.slice none 0 0,.slice none 0 0] 241))) (D':=fun b=>w.heap.size+1<=b) hone (fun b _ hb=>by
   have hb:((w.setCell ⟨sb,2,none⟩ (.int .i64 ((lo:Int)+1))).alloc (.cells #[.int .i64 0,.int .i64 0,.int .i64 0,.string ⟨#[]⟩,.slice none 0 0,.slice none 0 0,.slice none 0 0] 241)).heap.size<=b:=hb;rw[hsz0] at hb;exact⟨hb,by show ¬ b=sb;omega⟩)
  have hI2:=hI.mono hka;have HI2:=hide hI2;have HS3:=hide hS3;obtain⟨y0,y1,y2,y3,y4,y5,y6⟩:=hZ2.seven;obtain⟨z0,z1,z2,z3,z4,z5,z6⟩:=hZ2.sevenF;clear hcase hre HC HU hB2' hk0 hk2 hZ1 hkp2 hone hka hI hI2 hS2 hS3 hT2 hrow;go_wp2;have hC2:=hZ.set7 (.int .i64 6) (.int .i64 0) (.int .i64 0) (.string ⟨#[]⟩) (.slice none 0 0) (.slice a5 l.length p5) (.slice none 0 0);have hK2:=hkp.set7 (Nat.le_refl _) (.int .i64 6) (.int .i64 0) (.int .i64 0) (.string ⟨#[]⟩) (.slice none 0 0) (.slice a5 l.length p5) (.slice none 0 0);have hk3:=Kp.own7 (w:=(w2.setCell ⟨sb,2,none⟩ (.int .i64 lo))) w.heap.size (.int .i64 6) (.int .i64 0) (.int .i64 0) (.string ⟨#[]⟩) (.slice none 0 0) (.slice a5 l.length p5) (.slice none 0 0);have hB2:=hB1.other7 hcs (.int .i64 6) (.int .i64 0) (.int .i64 0) (.string ⟨#[]⟩) (.slice none 0 0) (.slice a5 l.length p5) (.slice none 0 0);generalize ((((((((w2.setCell ⟨sb,2,none⟩ (.int .i64 lo)).setCell ⟨w.heap.size,0,none⟩ (.int .i64 6)).setCell ⟨w.heap.size,1,none⟩ (.int .i64 0)).setCell ⟨w.heap.size,2,none⟩ (.int .i64 0)).setCell ⟨w.heap.size,3,none⟩ (.string ⟨#[]⟩)).setCell ⟨w.heap.size,4,none⟩ (.slice none 0 0)).setCell ⟨w.heap.size,5,none⟩ (.slice a5 l.length p5)).setCell ⟨w.heap.size,6,none⟩ (.slice none 0 0))=wf at hC2 hK2 hB2 hk3 ⊢;obtain⟨q0,q1,q2,q3,q4,q5,q6⟩:=hC2.seven;refine bodyPost_ret (v:=.tuple #[.agg #[.int .i64 6,.int .i64 0,.int .i64 0,.string ⟨#[]⟩,.slice none 0 0,.slice a5 l.length p5,.slice none 0 0],.int .i64 0]) (by simp[results,Tryz.results240,go_sem,q0,q1,q2,q3,q4,q5,q6]) rfl ?_;rw[HR.out];have hkb:=BD_keep (D:=fun b=>w.heap.size+1<=b) (D':=New w) hk3 (fun b _ hb=>⟨by show w.heap.size<=b;omega,by show ¬ b=w.heap.size;omega⟩);exact⟨hK2,_,_,_,_,_,_,_,ws',rfl,rfl,itm_long 100 _ _ l [] (by simp) (HI2.out.mono hkb) (Items.nil _),htx,HS3.out.other hk3 hZ h1w⟩
end
end Go.Proofs.YteainaiebcphlaaGreatDoor
