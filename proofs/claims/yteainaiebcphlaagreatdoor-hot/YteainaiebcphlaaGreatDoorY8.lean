import Derived.Test.YteainaiebcphlaaGreatDoorY7
import Derived.Maps.RangeWalk
import Derived.Test.YteainaiebcphlaaGreatDoorY6
namespace Go.Proofs.YteainaiebcphlaaGreatDoor
set_option maxRecDepth 1000000
set_option maxHeartbeats 4000000
set_option linter.all false
section
open Go.RowKit
structure XV where
 fa:Nat->Bool
 ct:Nat->Int
 P:Nat->Nat->Prop
 H:Nat->Nat->Prop
def MapX (n:Nat) (fr:Nat->Fr) (ob:Nat->Nat) (w:World) (o:Option Nat) (S:Nat->Prop):Prop:=
 (o=none/\∀ j,j < n->¬ S j)\/∃ b DD,o=some b/\(∃ m,w.ownsMap Tryz.prog 9 heldR b m DD)/\(∀ j,j < n->(Maps.has DD (.string (fr j).name)=true<->S j))/\∀ kl,Maps.has DD kl=true->∃ j,j < n/\kl=.string (fr j).name/\∀ zd,DD.atKey kl zd=.held (pt (ob j))
section
variable {n:Nat} {fr:Nat->Fr} {ob:Nat->Nat} {w w':World} {o:Option Nat} {S S':Nat->Prop}
theorem MapX.same (h:MapX n fr ob w o S) (e:∀ b,o=some b->w'.heap[b]? = w.heap[b]?):MapX n fr ob w' o S:=by
 rcases h with h|⟨b,DD,rfl,⟨m,h1⟩,h2⟩
 ·exact .inl h
 ·exact .inr ⟨b,DD,rfl,⟨m,ownsMap_same h1 (e b rfl)⟩,h2⟩
theorem MapX.iff (h:MapX n fr ob w o S) (e:∀ j,j < n->(S j<->S' j)):MapX n fr ob w o S':=by
 rcases h with⟨h,h1⟩|⟨b,DD,rfl,h1,h2,h3⟩
 ·exact .inl ⟨h,fun j hj q=>h1 j hj ((e j hj).2 q)⟩
 ·exact .inr ⟨b,DD,rfl,h1,fun j hj=>(h2 j hj).trans (e j hj),h3⟩
theorem MapX.re (h:MapX n fr ob w o S) {n':Nat} {fr':Nat->Fr} {ob':Nat->Nat} (hn:n<=n') (hfr:∀ j,j < n->S j->(fr' j).name=(fr j).name/\ob' j=ob j) (hS:∀ j,j < n'->(S' j<->j < n/\S j)) (nd:∀ i j,i < n'->j < n'->(fr' i).name=(fr' j).name->i=j):MapX n' fr' ob' w o S':=by
 rcases h with⟨h,h1⟩|⟨b,DD,rfl,h1,h2,h3⟩
 ·exact .inl ⟨h,fun j hj q=>h1 j ((hS j hj).1 q).1 ((hS j hj).1 q).2⟩
 ·refine .inr ⟨b,DD,rfl,h1,fun j hj=>⟨fun q=>?_,fun q=>?_⟩,fun kl q=>?_⟩
  ·obtain⟨i,hi,e,_⟩:=h3 _ q;injection e with e;rw[e] at q;have hs:=(h2 i hi).1 q;have:=nd i j (by omega) hj ((hfr i hi hs).1.trans e.symm);subst this;exact (hS i hj).2 ⟨hi,hs⟩
  ·obtain⟨hl,hs⟩:=(hS j hj).1 q;rw[(hfr j hl hs).1];exact (h2 j hl).2 hs
  ·obtain⟨i,hi,e,e2⟩:=h3 kl q;rw[e] at q;have hs:=(h2 i hi).1 q;obtain⟨a1,a2⟩:=hfr i hi hs;exact⟨i,by omega,by rw[a1];exact e,by rw[a2];exact e2⟩
theorem MapX.mapB {b:Nat} (h:MapX n fr ob w (some b) S) {r:Nat->Fr->Prop} (hr:∀ j,j < n->r (ob j) (fr j)):∃ DD,MapB r w b DD:=by
 rcases h with⟨h,_⟩|⟨b',DD,e,h1,h2,h3⟩
 ·cases h
 ·injection e with e;subst e;exact⟨DD,h1,fun kl q=>by obtain⟨j,hj,e1,e2⟩:=h3 kl q;exact⟨ob j,fr j,e1,hr j hj,e2⟩⟩
theorem MapX.del {b:Nat} (h:MapX n fr ob w (some b) S) (nd:∀ i j,i < n->j < n->(fr i).name=(fr j).name->i=j) (k:Nat) (hk:k < n) (nm:ByteArray) (hnm:nm.data.toList=(fr k).name) (hs:nm.size<=1000):
  ∃ w',(∀ ty,(Builtin.delete_ #[104,9] ty #[.map (some b),.string nm]).run Tryz.prog w=.ok (.tuple #[]) w')/\Kp w w' (fun k=>k=b)/\w'.heap.size=w.heap.size/\MapX n fr ob w' (some b) (fun j=>S j/\j ≠ k):=by
 rcases h with⟨h,_⟩|⟨b',DD,e,⟨m,h1⟩,h2,h3⟩
 ·cases h
 injection e with e;subst e;have hkey:=keyS nm (Nat.le_trans hs (by decide));obtain⟨w',hrun,hown,ht⟩:=h1.drop (Maps.string_keyed Tryz.underlying9) Tryz.underlying104 hkey 0;have hg:=ht.grown;have hne:∀ j,j < n->j ≠ k->¬ Lit.string (fr j).name=.string nm.data.toList:=fun j hj q e=>by
  injection e with e;exact q (nd j k hj hk (e.trans hnm))
 refine⟨w',fun ty=>hrun,(Kp.refl w _).grown hg (fun k _ e=>(Option.some.inj e).symm),?_,.inr ⟨b,_,rfl,⟨m,hown⟩,fun j hj=>?_,fun kl hkl=>?_⟩⟩
 ·obtain⟨es,cl,es',cl',hb,rfl⟩:=ht;simp[ChangeMaps.setBlock]
 ·by_cases q:j=k
  ·subst q;rw[<-hnm,Maps.has_del_same];exact⟨fun h=>(by cases h),fun h=>absurd rfl h.2⟩
  ·rw[Maps.has_del_other (hne j hj q),h2 j hj];exact⟨fun h=>⟨h,q⟩,fun h=>h.1⟩
 ·have hn:¬ kl=.string nm.data.toList:=by
   rintro rfl;rw[Maps.has_del_same] at hkl;cases hkl
  rw[Maps.has_del_other hn] at hkl;obtain⟨j,hj,e1,e2⟩:=h3 kl hkl;exact⟨j,hj,e1,fun zd=>by rw[Maps.atKey_del_other hn];exact e2 zd⟩
theorem MapX.put {b:Nat} (h:MapX n fr ob w (some b) S) (h30:n<=30) (nd:∀ i j,i < n->j < n->(fr i).name=(fr j).name->i=j) (k:Nat) (hk:k < n) (nm:ByteArray) (hnm:nm.data.toList=(fr k).name) (hs:nm.size<=1000):
  ∃ w',(Instr.mapUpdate 104 (.map (some b)) (.string nm) (pt (ob k))).run Tryz.prog w=.ok () w'/\Kp w w' (fun k=>k=b)/\MapX n fr ob w' (some b) (fun j=>S j\/j=k):=by
 rcases h with⟨h,_⟩|⟨b',DD,e,⟨m,h1⟩,h2,h3⟩
 ·cases h
 injection e with e;subst e;have hsz:nm.size<=maxLen:=Nat.le_trans hs (by decide);have hle:Maps.size DD<=((List.range n).map (fun j=>Lit.string (fr j).name)).length:=map_size_le h1 (Maps.string_keyed Tryz.underlying9) _ (fun kl hkl=>by
  obtain⟨j,hj,e1,_⟩:=h3 kl hkl;rw[e1];exact List.mem_map.2 ⟨j,List.mem_range.2 hj,rfl⟩)
 have hl30:Maps.size DD < maxLen:=by
  rw[List.length_map,List.length_range] at hle;have h30:(30:Nat) < maxLen:=by decide
  omega
 obtain⟨w2,hrun,hm2,hg⟩:=(own_tightG h1).update (Maps.string_keyed Tryz.underlying9) Tryz.underlying104 hl30 (key:=.string nm) (val:=pt (ob k)) (kl:=.string nm.data.toList) (d:=.held (pt (ob k))) (ps:=[]) (keyS nm hsz) rfl;have htd:=h1.tidy (Maps.string_keyed Tryz.underlying9);have hk0:WideAt.IsKeyLit (.string nm.data.toList):=trivial;have hne:∀ j,j < n->j ≠ k->¬ Lit.string (fr j).name=.string nm.data.toList:=fun j hj q e=>by
  injection e with e;exact q (nd j k hj hk (e.trans hnm))
 refine⟨w2,hrun,(Kp.refl w _).grown hg (fun k _ e=>(Option.some.inj e).symm),.inr ⟨b,_,rfl,⟨_,hm2⟩,fun j hj=>?_,fun kl hkl=>?_⟩⟩
 ·by_cases q:j=k
  ·subst q;rw[<-hnm,Maps.has_put_same htd.isMap hk0];exact⟨fun _=>.inr rfl,fun _=>rfl⟩
  ·rw[Maps.has_put_other (hne j hj q),h2 j hj];exact⟨.inl,fun h=>h.elim id (fun h=>absurd h q)⟩
 ·by_cases e:kl=.string nm.data.toList
  ·subst e;exact⟨k,hk,by rw[hnm],fun zd=>Maps.atKey_put_same htd.isMap hk0 _ _⟩
  ·rw[Maps.has_put_other e] at hkl;obtain⟨j,hj,e1,e2⟩:=h3 kl hkl;exact⟨j,hj,e1,fun zd=>by rw[Maps.atKey_put_other e];exact e2 zd⟩
end
structure EX (D:GD) (w:World) (bk n:Nat) (fr:Nat->Fr) (ob:Nat->Nat) (X:XV) (q:Nat->Prop):Prop where
 r:∀ k,k < n->D.r (ob k) (fr k)
 nd:∀ i j,i < n->j < n->(fr i).name=(fr j).name->i=j
 wc:∀ k,k < n->∃ c,WordC D w bk (ob k) (fr k) c/\c.fa=X.fa k/\c.ct=X.ct k/\MapX n fr ob w c.pm (X.P k)/\(¬ q k->MapX n fr ob w c.wm (fun j=>X.H j k))/\(q k->c.wm=none)
theorem MapOk.lt {D:GD} {w:World} {o:Option Nat} {tg:Nat × Nat} (h:MapOk D w o tg) {b:Nat} (hb:o=some b):b < w.heap.size:=by
 obtain⟨_,_,DD,h3⟩:=h b hb;exact h3.lt
section
variable {D D':GD} {w w':World} {bk n:Nat} {fr:Nat->Fr} {ob:Nat->Nat} {X X':XV} {q q':Nat->Prop}
theorem EX.inj (h:EX D w bk n fr ob X q) (hW:Wds D w bk) {i j:Nat} (hi:i < n) (hj:j < n) (e:ob i=ob j):i=j:=by
 have h1:=h.r i hi;rw[e] at h1;exact h.nd i j hi hj (congrArg Fr.name (hW.fn _ _ _ h1 (h.r j hj)))
theorem EX.frame {S:Nat->Prop} (h:EX D w bk n fr ob X q) (hk:Kp w w' S) (hl:GLe D D' w) (hd:∀ b t c,BD D.d w b t c->BD D'.d w' b t c) (hu:∀ k,D.u k->¬ S k):EX D' w' bk n fr ob X q:=by
 refine⟨fun k hk=>hl.r _ _ (h.r k hk),h.nd,fun k hkn=>?_⟩;obtain⟨c,hc,h1,h2,h3,h4,h5⟩:=h.wc k hkn;refine⟨c,hc.frame hk hl hd (hu _ hc.u) (fun b hb=>hu _ (hc.pm b hb).1) (fun b hb=>hu _ (hc.wm b hb).1),h1,h2,h3.same (fun b hb=>hk.block b (hc.pm.lt hb) (hu _ (hc.pm b hb).1)),fun e=>(h4 e).same (fun b hb=>hk.block b (hc.wm.lt hb) (hu _ (hc.wm b hb).1)),h5⟩
theorem EX.out {S:Nat->Prop} (h:EX D w bk n fr ob X q) (hk:Kp w w' S) (hu:∀ k,D.u k->¬ S k) (hd:∀ k,D.d k->¬ S k):EX D w' bk n fr ob X q:=
 h.frame hk (GLe.refl _ _) (BD_keep hk (fun b _ hb=>⟨hb,hd b hb⟩)) hu
theorem EX.kp (h:EX D w bk n fr ob X q) (hk:Kp w w' (fun _=>False)):EX D w' bk n fr ob X q:=h.out hk (fun _ _ e=>e) (fun _ _ e=>e)
theorem EX.iff (h:EX D w bk n fr ob X q) (h1:∀ k,k < n->X'.fa k=X.fa k) (h2:∀ k,k < n->X'.ct k=X.ct k) (h3:∀ k j,k < n->j < n->(X.P k j<->X'.P k j)) (h4:∀ k j,k < n->j < n->¬ q j->(X.H k j<->X'.H k j)):EX D w bk n fr ob X' q:=by
 refine⟨h.r,h.nd,fun k hk=>?_⟩;obtain⟨c,hc,a1,a2,a3,a4,a5⟩:=h.wc k hk;exact⟨c,hc,a1.trans (h1 k hk).symm,a2.trans (h2 k hk).symm,a3.iff (fun j hj=>h3 k j hk hj),fun e=>(a4 e).iff (fun j hj=>h4 j k hj hk e),a5⟩
theorem EX.word (h:EX D w bk n fr ob X q) (hW:Wds D w bk) {k:Nat} (hk:k < n) {c c':WC} (hc:WordC D w bk (ob k) (fr k) c) (hkp:Kp w w' (fun b=>b=ob k)) (hc':WordC D w' bk (ob k) (fr k) c') (h1:c'.fa=X'.fa k) (h2:c'.ct=X'.ct k) (h3:MapX n fr ob w' c'.pm (X'.P k)) (h4:¬ q' k->MapX n fr ob w' c'.wm (fun j=>X'.H j k)) (h5:q' k->c'.wm=none)
  (ho:∀ j,j < n->j ≠ k->X'.fa j=X.fa j/\X'.ct j=X.ct j/\(∀ i,i < n->(X.P j i<->X'.P j i))/\(∀ i,i < n->(X.H i j<->X'.H i j))/\(q' j<->q j)):EX D w' bk n fr ob X' q':=by
 refine⟨h.r,h.nd,fun j hj=>?_⟩;by_cases e:j=k
 ·subst e;exact⟨c',hc',h1,h2,h3,h4,h5⟩
 obtain⟨c0,hc0,a1,a2,a3,a4,a5⟩:=h.wc j hj;obtain⟨b1,b2,b3,b4,b5⟩:=ho j hj e;have hne:¬ ob j=ob k:=fun e2=>e (h.inj hW hj hk e2);have n1:∀ b,c0.pm=some b->¬ b=ob k:=fun b hb=>hc0.pm.neBlk hb hc.blk;have n2:∀ b,c0.wm=some b->¬ b=ob k:=fun b hb=>hc0.wm.neBlk hb hc.blk;refine⟨c0,hc0.frame hkp (GLe.refl _ _) (BD_u hW.ud (fun x e=>by rw[show x=ob k from e];exact hc.u) hkp) hne n1 n2,a1.trans b1.symm,a2.trans b2.symm,(a3.same (fun b hb=>hkp.block b (hc0.pm.lt hb) (n1 b hb))).iff b3,fun e=>((a4 (fun q=>e (b5.2 q))).same (fun b hb=>hkp.block b (hc0.wm.lt hb) (n2 b hb))).iff b4,fun e=>a5 (b5.1 e)⟩
theorem EX.wmap (h:EX D w bk n fr ob X q) (hW:Wds D w bk) {k:Nat} (hk:k < n) {c:WC} (hc:WordC D w bk (ob k) (fr k) c) {b:Nat} (hb:c.wm=some b) (hkp:Kp w w' (fun x=>x=b)) {S:Nat->Prop} (hm:MapX n fr ob w' (some b) S) (h1:X'.fa=X.fa) (h2:X'.ct=X.ct) (h3:X'.P=X.P) (hS:∀ i,i < n->(S i<->X'.H i k)) (hH:∀ i j,i < n->j < n->j ≠ k->(X.H i j<->X'.H i j)):EX D w' bk n fr ob X' q:=by
 obtain⟨hu,ht,DD0,hm0⟩:=hc.wm b hb;obtain⟨DD1,hm1⟩:=hm.mapB h.r;have hpr:=hW.wmap (h.r k hk) hc hb hkp hm1;refine⟨h.r,h.nd,fun j hj=>?_⟩;obtain⟨c0,hc0,a1,a2,a3,a4,a5⟩:=h.wc j hj;obtain⟨c1,-,-,-,-,-,hc1⟩:=hpr _ _ c0 (h.r j hj) hc0;have hbo:¬ ob j=b:=fun e=>hm0.ne hc0.blk e.symm;have:c1=c0:=WC.inj (hc1.blk.inj (hkp.blk hc0.blk hbo)).2;subst this;have n1:∀ b',c1.pm=some b'->¬ b'=b:=fun b' e e2=>by
  obtain⟨_,t,_⟩:=hc0.pm b' e;rw[e2,ht] at t;have t:=congrArg Prod.snd t;simp at t
 refine⟨c1,hc1,a1.trans (by rw[h1]),a2.trans (by rw[h2]),?_,fun e=>?_,a5⟩
 ·rw[h3];exact a3.same (fun b' e=>hkp.block b' (hc0.pm.lt e) (n1 b' e))
 ·by_cases ej:j=k
  ·subst ej;have:=hc0.inj hc;subst this;rw[hb];exact hm.iff hS
  ·refine ((a4 e).same (fun b' e=>hkp.block b' (hc0.wm.lt e) (fun e2=>?_))).iff (fun i hi=>hH i j hi hj ej);obtain⟨_,t,_⟩:=hc0.wm b' e;have e2:b'=b:=e2;rw[e2,ht] at t;injection t with t;exact ej (h.inj hW hj hk t.symm)
end
end
section
open Go.RowKit
theorem RdInv.other {w w':World} {sb bk mb:Nat} {known:Tok->Bool} {ws:List ByteArray} {lo b0:Nat} (h:RdInv w sb bk mb known ws lo) (hk:Kp w w' (fun b=>b=b0)) {c:Array Value} (hZ:Blk w b0 241 c) (h1:1 < b0):RdInv w' sb bk mb known ws lo:=by
 obtain⟨rv,hB,hT⟩:=h.blk;obtain⟨nn,DD,hm,hl⟩:=h.book.look;have hne:∀ b t c,Blk w b t c->t ≠ 241->¬ b=b0:=fun b t c hb ht e=>by subst e;exact ht (hb.inj hZ).1
 exact⟨⟨rv,hk.blk hB (hne sb _ _ hB (by decide)),TokAt_mono (fun b c hc=>⟨hc.1,hk.blk hc.2 (hne b 9 c hc.2 (by decide))⟩) hT⟩,h.book.kp hk (hne bk _ _ h.book.blk (by decide)) (fun e=>map_ne hm hZ e),h.len,h.ok,h.sp.kp hk (by show ¬ (1:Nat)=b0;omega),h.s1⟩
theorem Kp.own7 {w:World} (b:Nat) (v0 v1 v2 v3 v4 v5 v6:Value):
  Kp w (((((((w.setCell ⟨b,0,none⟩ v0).setCell ⟨b,1,none⟩ v1).setCell ⟨b,2,none⟩ v2).setCell ⟨b,3,none⟩ v3).setCell ⟨b,4,none⟩ v4).setCell ⟨b,5,none⟩ v5).setCell ⟨b,6,none⟩ v6) (fun k=>k=b):=
 (((((((Kp.refl w (fun k=>k=b)).set (a:=⟨b,0,none⟩) (fun _=>rfl) v0).set (a:=⟨b,1,none⟩) (fun _=>rfl) v1).set (a:=⟨b,2,none⟩) (fun _=>rfl) v2).set (a:=⟨b,3,none⟩) (fun _=>rfl) v3).set (a:=⟨b,4,none⟩) (fun _=>rfl) v4).set (a:=⟨b,5,none⟩) (fun _=>rfl) v5).set (a:=⟨b,6,none⟩) (fun _=>rfl) v6
theorem itm_long {M:Mem} {P:Value->List It->Prop} (k:Nat) (va vb:Value) (a b:List It) (hk:k=63\/k=117\/k=119\/k=100) (ha:P va a) (hb:P vb b):PItm M P ⟨k,0,[],a,b,[]⟩ 0 0 ⟨#[]⟩ (.slice none 0 0) va vb:=by
 refine⟨?_,fun h=>?_,fun h=>?_,fun h=>?_,⟨[],.inl ⟨rfl,rfl⟩,fun h=>?_⟩,ha,hb⟩
 ·rcases hk with h|h|h|h <;> simp[h]
 ·have h:k=110:=h
  exfalso;omega
 ·have h:k=112:=h
  exfalso;omega
 ·have h:k=99:=h
  exfalso;omega
 ·have h:k=123:=h
  exfalso;omega
theorem doQ (g:Nat) (hQ:QBody g) (w:World) (sb bk mb:Nat) (known:Tok->Bool) (ws:List ByteArray) (lo:Nat) (hlw:ws.length+lo+1<=1000) (res:PRes) (hres:pRead known (g+1) ⟨true,lo,[],kDo⟩ (texts ws)=some res) (h:RdInv w sb bk mb known ws lo):
  Calls Tryz.prog 240 #[pt sb] w fun x w'=>Kp w w' (fun b=>b=sb)/\QIt w sb bk mb known lo x w' res:=by
 obtain⟨rv,hB,hT⟩:=h.blk;have hsb:=hB.lt;have hcs:sb ≠ w.heap.size:=by omega
 have h1w:=h.sp.lt;have c2:w.cell? ⟨sb,2,none⟩=some (.int .i64 lo):=hB.cell rfl;have f2:=hB.free 2;have hlo:(lo:Int)<=1000:=by omega
 have hS0:RdInv ((w.setCell ⟨sb,2,none⟩ (.int .i64 ((lo:Int)+1))).alloc (.cells #[.int .i64 0,.int .i64 0,.int .i64 0,.string ⟨#[]⟩,.slice none 0 0,.slice none 0 0,.slice none 0 0] 241)) sb bk mb known ws (lo+1):=
  (h.to (Kp.one _ _ _ _) rv (hB.set 2 _) hT (by omega) h.ok).kp ((Kp.refl _ (fun _=>False)).alloc _)
 have hZ1:Blk ((w.setCell ⟨sb,2,none⟩ (.int .i64 ((lo:Int)+1))).alloc (.cells #[.int .i64 0,.int .i64 0,.int .i64 0,.string ⟨#[]⟩,.slice none 0 0,.slice none 0 0,.slice none 0 0] 241)) w.heap.size 241 #[.int .i64 0,.int .i64 0,.int .i64 0,.string ⟨#[]⟩,.slice none 0 0,.slice none 0 0,.slice none 0 0]:=by
  have:=Blk.new (w.setCell ⟨sb,2,none⟩ (.int .i64 ((lo:Int)+1))) #[.int .i64 0,.int .i64 0,.int .i64 0,.string ⟨#[]⟩,.slice none 0 0,.slice none 0 0,.slice none 0 0] 241;simpa using this
 have hk0:Kp w ((w.setCell ⟨sb,2,none⟩ (.int .i64 ((lo:Int)+1))).alloc (.cells #[.int .i64 0,.int .i64 0,.int .i64 0,.string ⟨#[]⟩,.slice none 0 0,.slice none 0 0,.slice none 0 0] 241)) (fun b=>b=sb):=(Kp.one w sb 2 _).alloc _;have hsz0:((w.setCell ⟨sb,2,none⟩ (.int .i64 ((lo:Int)+1))).alloc (.cells #[.int .i64 0,.int .i64 0,.int .i64 0,.string ⟨#[]⟩,.slice none 0 0,.slice none 0 0,.slice none 0 0] 241)).heap.size=w.heap.size+1:=by simp
 have hup:∃ resB,pRead known g ⟨false,lo+1,[kLoop],[]⟩ (texts ws)=some resB/\((∃ e,resB=.error e/\res=.error e)\/∃ a t1 r1,resB=.ok (a,t1,r1)/\res=.ok ([⟨100,0,[],a,[],[]⟩],[],r1)):=by
  rcases pI_do hres with⟨e,h1,h2⟩|⟨a,t1,r1,h1,h2⟩
  ·exact⟨_,h1,.inl ⟨e,rfl,h2⟩⟩
  ·exact⟨_,h1,.inr ⟨a,t1,r1,rfl,h2⟩⟩
 obtain⟨resB,hrB,hcase⟩:=hup;have HU:=hide (upToQ g hQ _ sb bk mb known ws (lo+1) kLoop 30 (by decide) (by decide) resB hrB hS0);have HC:=hide hcase;clear hQ hres hrB hS0 hcase hlw;go_enter Tryz.func240,Tryz.ntmps240
 go_wp2_with fail
 refine HU.out.mono ?_;rintro x w2 ⟨hk2,hq⟩;have hZ2:=hk2.blk hZ1 hcs.symm;have hkp2:=hk0.trans hk2;have hsz2:=hk2.size;rw[hsz0] at hsz2;have hcase:=HC.out;rcases resB with er|⟨l,t1,r1⟩
 ·obtain⟨her,a5,m5,p5,rv2,rfl,hB2'⟩:=hq;have hre:res=.error er:=by
   rcases hcase with⟨e,h1,h2⟩|⟨_,_,_,h1,_⟩
   ·injection h1 with h1;rw[h2,h1]
   ·cases h1
  have HR:=hide hre;have d2:w2.cell? ⟨sb,2,none⟩=some (.int .i64 ((lo:Int)+1)):=by have:=hB2'.cell (o:=2) (v:=.int .i64 ((lo+1:Nat):Int)) rfl;simpa using this
  have g2:=hB2'.free 2;have hB1:Blk (w2.setCell ⟨sb,2,none⟩ (.int .i64 lo)) sb 201 (rdArr rv2 bk lo):=hB2'.set 2 _;have hZ:=hZ2.setOther (a:=⟨sb,2,none⟩) hcs.symm (.int .i64 lo);have hkp:=hkp2.trans (Kp.one w2 sb 2 (.int .i64 lo));obtain⟨y0,y1,y2,y3,y4,y5,y6⟩:=hZ2.seven;obtain⟨z0,z1,z2,z3,z4,z5,z6⟩:=hZ2.sevenF;clear hcase hre HC HU hB2' hk0 hk2 hZ1 hkp2;go_wp2;have hC2:=hZ.set7 (.int .i64 6) (.int .i64 0) (.int .i64 0) (.string ⟨#[]⟩) (.slice none 0 0) (.slice a5 m5 p5) (.slice none 0 0);have hK2:=hkp.set7 (Nat.le_refl _) (.int .i64 6) (.int .i64 0) (.int .i64 0) (.string ⟨#[]⟩) (.slice none 0 0) (.slice a5 m5 p5) (.slice none 0 0);have hk3:=Kp.own7 (w:=(w2.setCell ⟨sb,2,none⟩ (.int .i64 lo))) w.heap.size (.int .i64 6) (.int .i64 0) (.int .i64 0) (.string ⟨#[]⟩) (.slice none 0 0) (.slice a5 m5 p5) (.slice none 0 0);have hB2:=hB1.other7 hcs (.int .i64 6) (.int .i64 0) (.int .i64 0) (.string ⟨#[]⟩) (.slice none 0 0) (.slice a5 m5 p5) (.slice none 0 0);generalize ((((((((w2.setCell ⟨sb,2,none⟩ (.int .i64 lo)).setCell ⟨w.heap.size,0,none⟩ (.int .i64 6)).setCell ⟨w.heap.size,1,none⟩ (.int .i64 0)).setCell ⟨w.heap.size,2,none⟩ (.int .i64 0)).setCell ⟨w.heap.size,3,none⟩ (.string ⟨#[]⟩)).setCell ⟨w.heap.size,4,none⟩ (.slice none 0 0)).setCell ⟨w.heap.size,5,none⟩ (.slice a5 m5 p5)).setCell ⟨w.heap.size,6,none⟩ (.slice none 0 0))=wf at hC2 hK2 hB2 hk3 ⊢;obtain⟨q0,q1,q2,q3,q4,q5,q6⟩:=hC2.seven;refine bodyPost_ret (v:=.tuple #[.agg #[.int .i64 6,.int .i64 0,.int .i64 0,.string ⟨#[]⟩,.slice none 0 0,.slice a5 m5 p5,.slice none 0 0],.int .i64 er]) (by simp[results,Tryz.results240,go_sem,q0,q1,q2,q3,q4,q5,q6]) rfl ?_;rw[HR.out];exact⟨hK2,her,_,_,_,_,_,_,_,_,_,_,_,_,_,_,rfl,hB2⟩
 ·obtain⟨v,ws',rfl,hI,htx,hS2⟩:=hq;have hre:res=.ok ([⟨100,0,[],l,[],[]⟩],[],r1):=by
   rcases hcase with⟨e,h1,_⟩|⟨a,t2,r2,h1,h2⟩
   ·cases h1
   ·injection h1 with h1;injection h1 with h3 h1;injection h1 with _ h4;rw[h2,h3,h4]
  have HR:=hide hre;obtain⟨xs,hrow,-⟩:=hI.out;obtain⟨a5,p5,rfl⟩:=hrow.form;obtain⟨rv2,hB2',hT2⟩:=hS2.blk;have d2:w2.cell? ⟨sb,2,none⟩=some (.int .i64 ((lo:Int)+1)):=by have:=hB2'.cell (o:=2) (v:=.int .i64 ((lo+1:Nat):Int)) rfl;simpa using this
  have g2:=hB2'.free 2;have hB1:Blk (w2.setCell ⟨sb,2,none⟩ (.int .i64 lo)) sb 201 (rdArr rv2 bk lo):=hB2'.set 2 _;have hZ:=hZ2.setOther (a:=⟨sb,2,none⟩) hcs.symm (.int .i64 lo);have hone:=Kp.one w2 sb 2 (.int .i64 lo);have hkp:=hkp2.trans hone;have hS3:RdInv (w2.setCell ⟨sb,2,none⟩ (.int .i64 lo)) sb bk mb known ws' lo:=hS2.to hone rv2 hB1 hT2 (by have:=hS2.len;omega) hS2.ok;have hka:=BD_keep (D:=New ((w.setCell ⟨sb,2,none⟩ (.int .i64 ((lo:Int)+1))).alloc (.cells #[.int .i64 0,.int .i64 0,.int .i64 0,.string ⟨#[]⟩,.slice none 0 0,.slice none 0 0,.slice none 0 0] 241))) (D':=fun b=>w.heap.size+1<=b) hone (fun b _ hb=>by
   have hb:((w.setCell ⟨sb,2,none⟩ (.int .i64 ((lo:Int)+1))).alloc (.cells #[.int .i64 0,.int .i64 0,.int .i64 0,.string ⟨#[]⟩,.slice none 0 0,.slice none 0 0,.slice none 0 0] 241)).heap.size<=b:=hb;rw[hsz0] at hb;exact⟨hb,by show ¬ b=sb;omega⟩)
  have hI2:=hI.mono hka;have HI2:=hide hI2;have HS3:=hide hS3;obtain⟨y0,y1,y2,y3,y4,y5,y6⟩:=hZ2.seven;obtain⟨z0,z1,z2,z3,z4,z5,z6⟩:=hZ2.sevenF;clear hcase hre HC HU hB2' hk0 hk2 hZ1 hkp2 hone hka hI hI2 hS2 hS3 hT2 hrow;go_wp2;have hC2:=hZ.set7 (.int .i64 6) (.int .i64 0) (.int .i64 0) (.string ⟨#[]⟩) (.slice none 0 0) (.slice a5 l.length p5) (.slice none 0 0);have hK2:=hkp.set7 (Nat.le_refl _) (.int .i64 6) (.int .i64 0) (.int .i64 0) (.string ⟨#[]⟩) (.slice none 0 0) (.slice a5 l.length p5) (.slice none 0 0);have hk3:=Kp.own7 (w:=(w2.setCell ⟨sb,2,none⟩ (.int .i64 lo))) w.heap.size (.int .i64 6) (.int .i64 0) (.int .i64 0) (.string ⟨#[]⟩) (.slice none 0 0) (.slice a5 l.length p5) (.slice none 0 0);have hB2:=hB1.other7 hcs (.int .i64 6) (.int .i64 0) (.int .i64 0) (.string ⟨#[]⟩) (.slice none 0 0) (.slice a5 l.length p5) (.slice none 0 0);generalize ((((((((w2.setCell ⟨sb,2,none⟩ (.int .i64 lo)).setCell ⟨w.heap.size,0,none⟩ (.int .i64 6)).setCell ⟨w.heap.size,1,none⟩ (.int .i64 0)).setCell ⟨w.heap.size,2,none⟩ (.int .i64 0)).setCell ⟨w.heap.size,3,none⟩ (.string ⟨#[]⟩)).setCell ⟨w.heap.size,4,none⟩ (.slice none 0 0)).setCell ⟨w.heap.size,5,none⟩ (.slice a5 l.length p5)).setCell ⟨w.heap.size,6,none⟩ (.slice none 0 0))=wf at hC2 hK2 hB2 hk3 ⊢;obtain⟨q0,q1,q2,q3,q4,q5,q6⟩:=hC2.seven;refine bodyPost_ret (v:=.tuple #[.agg #[.int .i64 6,.int .i64 0,.int .i64 0,.string ⟨#[]⟩,.slice none 0 0,.slice a5 l.length p5,.slice none 0 0],.int .i64 0]) (by simp[results,Tryz.results240,go_sem,q0,q1,q2,q3,q4,q5,q6]) rfl ?_;rw[HR.out];have hkb:=BD_keep (D:=fun b=>w.heap.size+1<=b) (D':=New w) hk3 (fun b _ hb=>⟨by show w.heap.size<=b;omega,by show ¬ b=w.heap.size;omega⟩);exact⟨hK2,_,_,_,_,_,_,_,ws',rfl,rfl,itm_long 100 _ _ l [] (by simp) (HI2.out.mono hkb) (Items.nil _),htx,HS3.out.other hk3 hZ h1w⟩
end
end Go.Proofs.YteainaiebcphlaaGreatDoor
