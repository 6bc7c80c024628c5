import Derived.WalkKit
import Derived.WalkSpells
import Derived.WalkLawsBesides
import Derived.Deep.RegionLaw
import Derived.Test.YteainaiebcphlaaGreatDoorProg
import Derived.Deep.QuietTactic
import Derived.BigQuiet
import Derived.Laws.OwnMore
import Derived.Lib.UnsafeStr
import Derived.Lib.SmallJoins
import Derived.Laws.CopyOwn
import Derived.BigRegion
namespace Go.Proofs.YteainaiebcphlaaGreatDoor
set_option maxRecDepth 1000000
set_option maxHeartbeats 4000000
set_option linter.all false
open Go.Proofs.Tryz
theorem af {c:Prop}{h:Decidable c}(q:¬c){α:Sort _}{t e:α}:ite c t e=e:=if_neg q
theorem ag {c:Prop}{h:Decidable c}(q:c){α:Sort _}{t e:α}:ite c t e=t:=if_pos q
theorem ah (n:Nat):n<=n:=Nat.le_refl n
theorem ai {n m k:Nat}(a:n<=m)(b:m<=k):n<=k:=Nat.le_trans a b
theorem aj {n m k:Nat}(a:n<m)(b:m<=k):n<k:=Nat.lt_of_lt_of_le a b
theorem aq {α:Type _}{a:α}{l:List α}:(a::l).length=l.length+1:=rfl
theorem au {α:Type _}{l:List α}:l.reverse.length=l.length:=List.length_reverse
theorem ax {a b:Prop}(p:a)(q:¬a):b:=absurd p q
section
open Go.RowKit
def aC (w:World)(b:Nat)(t:TypeId)(c:Array Value):Prop:=w.heap[b]? = some (.cells c t (0,0))
section
variable {w w':World}{b:Nat}{t:TypeId}{c:Array Value}
theorem aC.cell (h:aC w b t c){o:Nat}{v:Value}(hv:c[o]? = some v):w.cell? ⟨b,o,none⟩=some v:=by
 unfold aC at h;simp[World.cell?,h,hv]
theorem aC.free (h:aC w b t c)(o:Nat):w.frozen? ⟨b,o,none⟩=false:=by
 unfold aC at h;simp[World.frozen?,h]
theorem aC.lt (h:aC w b t c):b<w.heap.size:=lt_of_block h
theorem aC.set (h:aC w b t c)(o:Nat)(v:Value):aC (w.setCell ⟨b,o,none⟩ v) b t (c.setIfInBounds o v):=by
 have hlt:=h.lt;unfold aC at h ⊢;have h':w.heap[b]=.cells c t (0,0):=by simpa [Array.getElem?_eq_getElem hlt] using h
 show(w.heap.modify b _)[b]? = _;rw[Array.getElem?_eq_getElem (by simpa using hlt),Array.getElem_modify_self,h'];rfl
theorem aC.setOther (h:aC w b t c){a:Addr}(ha:b≠a.block)(v:Value):aC (w.setCell a v) b t c:=by
 unfold aC at h ⊢;rw[Below.heap_setCell _ _ _ _ ha];exact h
theorem aC.alloc (h:aC w b t c)(o:Obj):aC (w.alloc o) b t c:=by
 have hlt:=h.lt;unfold aC at h ⊢;rw[Below.heap_alloc _ _ _ hlt];exact h
theorem aC.new (w:World)(c:Array Value)(t:TypeId):aC (w.alloc (.cells c t)) w.heap.size t c:=heap_alloc_new w _
theorem aC.drew (h:aC w b t c):aC w.drew b t c:=h
theorem aC.same (h:aC w b t c)(e:w'.heap[b]? = w.heap[b]?):aC w' b t c:=by unfold aC at h ⊢;rw[e];exact h
theorem aC.inj {t':TypeId}{c':Array Value}(h:aC w b t c)(h':aC w b t' c'):t=t'/\c=c':=by
 unfold aC at h h';rw[h] at h';injection h' with h';injection h' with h1 h2;exact⟨h2,h1⟩
end
structure Kp (w w':World)(S:Nat->Prop):Prop where
 os:w'.os=w.os
 tape:w'.tape=w.tape
 output:w'.output=w.output
 size:w.heap.size<=w'.heap.size
 block:∀k,k<w.heap.size->¬S k->w'.heap[k]? = w.heap[k]?
theorem Kp.refl (w:World)(S:Nat->Prop):Kp w w S:=⟨rfl,rfl,rfl,ah _,λ_ _ _=>rfl⟩
theorem Kp.mono {w w':World}{S T:Nat->Prop}(h:Kp w w' S)(hs:∀k,k<w.heap.size->S k->T k):Kp w w' T:=
 ⟨h.os,h.tape,h.output,h.size,λk hk hn=>h.block k hk (λhk'=>hn (hs k hk hk'))⟩
theorem Kp.trans {w w1 w2:World}{S:Nat->Prop}(h:Kp w w1 S)(g:Kp w1 w2 S):Kp w w2 S:=
  ⟨g.os.trans h.os,g.tape.trans h.tape,g.output.trans h.output,ai h.size g.size,
   λk hk hn=>(g.block k (aj hk h.size) hn).trans (h.block k hk hn)⟩
theorem Kp.drew {w w':World}{S:Nat->Prop}(h:Kp w w' S):Kp w w'.drew S:=⟨h.os,h.tape,h.output,h.size,h.block⟩
theorem Kp.alloc {w w':World}{S:Nat->Prop}(h:Kp w w' S)(o:Obj):Kp w (w'.alloc o) S:=
 h.trans ⟨rfl,rfl,rfl,by simp,λk hk _=>Below.heap_alloc _ _ _ hk⟩
theorem Kp.set {w w':World}{S:Nat->Prop}(h:Kp w w' S){a:Addr}(ha:a.block<w.heap.size->S a.block)(v:Value):Kp w (w'.setCell a v) S:=
 ⟨h.os,h.tape,h.output,by simpa [World.setCell] using h.size,λk hk hn=>by
  rw[Below.heap_setCell _ _ _ _ (λe=>hn (by rw[e];exact ha (by omega)))];exact h.block k hk hn⟩
theorem Kp.grown {w w1 w':World}{S:Nat->Prop}{row:Option Nat}(h:Kp w w1 S)(hg:w1.grownBy w' row)(hr:∀k,k<w.heap.size->row=some k->S k):Kp w w' S:=
  ⟨hg.os.trans h.os,hg.tape.trans h.tape,hg.output.trans h.output,ai h.size hg.size,
   λk hk hn=>(hg.block k (aj hk h.size) (λe=>hn (hr k hk e.symm))).trans (h.block k hk hn)⟩
theorem Kp.below {w w':World}{S:Nat->Prop}{B:Nat}(h:Kp w w' S)(hB:B<=w.heap.size)(hs:∀k,k<B->¬S k):Below B w w':=
 ⟨h.os,h.tape,h.output,h.size,λk hk=>h.block k (by omega) (hs k hk)⟩
theorem Kp.mY {w w':World}{S:Nat->Prop}(h:Below w.heap.size w w'):Kp w w' S:=
 ⟨h.os,h.tape,h.output,h.size,λk hk _=>h.block k hk⟩
theorem Kp.blk {w w':World}{S:Nat->Prop}(h:Kp w w' S){b:Nat}{t:TypeId}{c:Array Value}(hb:aC w b t c)(hn:¬S b):aC w' b t c:=
 hb.same (h.block b hb.lt hn)
theorem Kp.row {w w':World}{S:Nat->Prop}(h:Kp w w' S){base:Nat}{e:TypeId}{size:Nat}{v:Value}{n:Nat}{xs:List Value}(ho:w.ownsRow base e size v n xs)(hn:∀k,v.ownBlock=some k->¬S k):w'.ownsRow base e size v n xs:=by
 refine⟨ho.1,?_⟩;rcases ho.2 with h0|⟨g,cap,cur,rfl,hb,hgg,rest⟩
 ·exact .inl h0
 ·exact .inr ⟨g,cap,cur,rfl,hb,(h.block g (lt_of_block hgg) (hn g rfl)).trans hgg,rest⟩
structure To (F:Nat->Prop)(w w':World)(V V':Nat->Prop):Prop where
 kp:Kp w w' (λk=>F k\/V k)
 nx:∀k,V' k->V k\/w.heap.size<=k
theorem To.refl (F:Nat->Prop)(w:World)(V:Nat->Prop):To F w w V V:=⟨Kp.refl _ _,λ_ h=>.inl h⟩
theorem To.trans {F:Nat->Prop}{w w1 w2:World}{V V1 V2:Nat->Prop}(h:To F w w1 V V1)(g:To F w1 w2 V1 V2):To F w w2 V V2:=by
 refine⟨⟨g.kp.os.trans h.kp.os,g.kp.tape.trans h.kp.tape,g.kp.output.trans h.kp.output,ai h.kp.size g.kp.size,λk hk hn=>?_⟩,λk hk=>?_⟩
 ·have h1:=h.kp.block k hk hn;refine(g.kp.block k (aj hk h.kp.size) ?_).trans h1;rintro (hf|hv)
  ·exact hn (.inl hf)
  ·rcases h.nx k hv with h2|h2
   ·exact hn (.inr h2)
   ·omega
 ·rcases g.nx k hk with h1|h1
  ·exact h.nx k h1
  ·right;have:=h.kp.size;omega
theorem To.blk {F:Nat->Prop}{w w':World}{V V':Nat->Prop}(h:To F w w' V V'){b:Nat}{t:TypeId}{c:Array Value}(hb:aC w b t c)(hf:¬F b)(hv:¬V b):aC w' b t c:=
 h.kp.blk hb (by rintro (h|h);exact hf h;exact hv h)
def own (v:Value)(k:Nat):Prop:=v.ownBlock=some k
theorem bw {w:World}{base:Nat}{e:TypeId}{size:Nat}{v:Value}{n:Nat}{xs:List Value}(h:w.ownsRow base e size v n xs){k:Nat}(hk:own v k):k<w.heap.size:=(h.lt k hk).2
theorem aH {w:World}{base:Nat}{e t:TypeId}{size:Nat}{v:Value}{n:Nat}{xs:List Value}{b:Nat}{c:Array Value}(h:w.ownsRow base e size v n xs)(hb:aC w b t c)(ht:e≠t):¬own v b:=by
 intro hk;rcases h.2 with⟨rfl,_⟩|⟨g,cap,cur,rfl,_,hgg,_⟩
 ·simp[own,Value.ownBlock] at hk
 ·simp[own,Value.ownBlock] at hk;subst hk;unfold aC at hb;rw[hb] at hgg;injection hgg with hgg;injection hgg with h1 h2;exact ht h2.symm
section
variable {P:Program}(w:World)
theorem od (t ty e:TypeId)(i:TypeInfo)(z:Value)(size bytes:Nat)(ht:P.underlying t=some (.slice e))(hi:P.info? e=some i)(hz:i.zero=some z)
  (hsize:i.size=size) (hby:i.bytes=bytes) (hzs:z.cells.size=size) (hsz:0<size)
  (v:Value) (n:Nat) (xs:List Value) (hown:w.ownsRow 0 e size v n xs)
  (a:Addr) (m c:Nat) (news:List Value) (hl:news.length=m*size) (hnews:∀j u,news[j]? = some u->w.cell? (a.add j)=some u) (h1:∀u∈news,u.oneCell'=true)
  (h63:n+m<=maxLen) (hbytes:(n+m)*bytes<=140737488355328):
  ∃v' w',(Builtin.append_ #[t,t] ty #[v,.slice (some a) m c]).run P w=.ok v' w'/\w'.ownsRow 0 e size v' (n+m) (xs++news)/\w.grownBy w' v.ownBlock /\
   (∀k,own v' k->own v k\/w.heap.size<=k):=by
 obtain⟨v',w',hr,ho,hg,hn⟩:=run_append_own (P:=P) w 0 t ty e i z size bytes ht hi hz hsize hby hzs hsz v n xs hown a m c news hl hnews h1 h63 hbytes (Nat.zero_le _);refine⟨v',w',hr,ho,hg,?_⟩;rcases hown.2 with⟨rfl,rfl⟩|⟨g,cap,cur,rfl,hbg,hgg,hnc,hcm,hcs,htake⟩
 ·have hx:xs=[]:=List.eq_nil_of_length_eq_zero (by simpa using hown.1);subst hx;obtain⟨v2,w2,hr2,og,_,_⟩:=run_append_own (P:=P) w w.heap.size t ty e i z size bytes ht hi hz hsize hby hzs hsz (.slice none 0 0) 0 [] (World.ownsRow_nil _ _ _ _) a m c news hl hnews h1 h63 hbytes (ah _);rw[hr] at hr2;injection hr2 with e1 e2;subst e1;intro k hk;exact .inr (og.lt k hk).1
 ·subst hsize hby;by_cases hroom:n+m<=cap
  ·have hfit:n*i.size+news.length<=cur.size:=by rw[hl,hcs,<-Nat.add_mul];exact Nat.mul_le_mul_right _ hroom
   have hr2:=run_append_room (P:=P) w t ty e i ht hi g n cap cur hgg a m c news hl hnews h1 hroom hfit;rw[hr] at hr2;injection hr2 with e1 e2;subst e1;intro k hk;exact .inl hk
  ·have holds:∀j u,xs[j]? = some u->w.cell? ((⟨g,0,none⟩:Addr).add j)=some u:=hown.cells (g:=g) rfl;have hr2:=run_append_grow (P:=P) w t ty e i z ht hi hz ⟨g,0,none⟩ n cap xs hown.1 holds a m c news hl hnews (by omega) (by simp only[maxLen] at h63;omega) (growslice_fits (by omega) hbytes);rw[hr] at hr2;injection hr2 with e1 e2;subst e1;intro k hk;simp[own,Value.ownBlock] at hk;exact .inr (by omega)
theorem pG {o:Oper}{a:Act}{K:Act->World->Prop}{Q:Exit->Act->World->Prop}(s x:Operand)(t:TypeId)
  (ho:o.op=.call {callee:=.builtin .append,args:=#[s,x],argTypes:=#[t,t]})
  (e:TypeId) (i:TypeInfo) (z:Value) (size bytes:Nat) (ht:P.underlying t=some (.slice e)) (hi:P.info? e=some i) (hz:i.zero=some z)
  (hsize:i.size=size) (hby:i.bytes=bytes) (hzs:z.cells.size=size) (hsz:0<size)
  (v:Value) (n:Nat) (xs:List Value) (hs:a.eval s=v) (hown:w.ownsRow 0 e size v n xs)
  (ad:Addr) (m c:Nat) (news:List Value) (hx:a.eval x=.slice (some ad) m c) (hl:news.length=m*size) (hnews:∀j u,news[j]? = some u->w.cell? (ad.add j)=some u) (h1:∀u∈news,u.oneCell'=true)
  (h63:n+m<=maxLen) (hbytes:(n+m)*bytes<=140737488355328)
  (h:∀v' w',w'.ownsRow 0 e size v' (n+m) (xs++news)->w.grownBy w' v.ownBlock->(∀k,own v' k->own v k\/w.heap.size<=k)->K (a.put o.dst v') w'):o.wp P a w K Q:=by
 obtain⟨v',w',hr,h2,h3,h4⟩:=od (P:=P) w t o.type e i z size bytes ht hi hz hsize hby hzs hsz v n xs hown ad m c news hl hnews h1 h63 hbytes;unfold Oper.wp execOp;simp only[ho,resolve,invoke,builtin,Sem.run_bind,Sem.run_pure,Result.andThen_ok,List.map_toArray,List.map_cons,List.map_nil,hs,hx,hr];exact h v' w' h2 h3 h4
theorem aP {ops:Array Oper}{rest:List Oper}{o:Oper}{a:Act}{Q:Exit->Act->World->Prop}(hgd:o.guard=none)(s x:Operand)(t:TypeId)
  (ho:o.op=.call {callee:=.builtin .append,args:=#[s,x],argTypes:=#[t,t]})
  (e:TypeId) (i:TypeInfo) (z:Value) (size bytes:Nat) (ht:P.underlying t=some (.slice e)) (hi:P.info? e=some i) (hz:i.zero=some z)
  (hsize:i.size=size) (hby:i.bytes=bytes) (hzs:z.cells.size=size) (hsz:0<size)
  (v:Value) (n:Nat) (xs:List Value) (hs:a.eval s=v) (hown:w.ownsRow 0 e size v n xs)
  (ad:Addr) (m c:Nat) (news:List Value) (hx:a.eval x=.slice (some ad) m c) (hl:news.length=m*size) (hnews:∀j u,news[j]? = some u->w.cell? (ad.add j)=some u) (h1:∀u∈news,u.oneCell'=true)
  (h63:n+m<=maxLen) (hbytes:(n+m)*bytes<=140737488355328)
  (h:∀v' w',w'.ownsRow 0 e size v' (n+m) (xs++news)->w.grownBy w' v.ownBlock->(∀k,own v' k->own v k\/w.heap.size<=k)->wpList P ops Q rest (a.put o.dst v') w'):wpList P ops Q (o::rest) a w:=
 wpList_plain hgd λ_ hK=>pG w s x t ho e i z size bytes ht hi hz hsize hby hzs hsz v n xs hs hown ad m c news hx hl hnews h1 h63 hbytes λv' w' h2 h3 h4=>hK _ _ (h v' w' h2 h3 h4)
theorem mq {ops:Array Oper}{o:Oper}{a:Act}{K:Act->World->Prop}{Q:Exit->Act->World->Prop}{E:Prop}
  (hg:o.guard=none) (s x:Operand) (t:TypeId) (ho:o.op=Op.call {callee:=Callee.builtin Builtin.append,args:=#[s,x],argTypes:=#[t,t]})
  (e:TypeId) (i:TypeInfo) (z:Value) (size bytes:Nat) (ht:P.underlying t=some (.slice e)) (hi:P.info? e=some i) (hz:i.zero=some z)
  (hsize:i.size=size) (hby:i.bytes=bytes) (hzs:z.cells.size=size) (hsz:0<size)
  (v:Value) (n:Nat) (xs:List Value) (hs:a.eval s=v) (hown:w.ownsRow 0 e size v n xs)
  (ad:Addr) (m c:Nat) (news:List Value) (hx:a.eval x=.slice (some ad) m c) (hl:news.length=m*size) (hnews:∀j u,news[j]? = some u->w.cell? (ad.add j)=some u) (h1:∀u∈news,u.oneCell'=true)
  (h63:n+m<=maxLen) (hbytes:(n+m)*bytes<=140737488355328)
  (h:∀v' w',w'.ownsRow 0 e size v' (n+m) (xs++news)->w.grownBy w' v.ownBlock->(∀k,own v' k->own v k\/w.heap.size<=k)->K (a.put o.dst v') w'):
  if Region.wanted o (yielded ops a.tmps)=true then Oper.wp P o a w K Q else E:=by
 have hw:Region.wanted o (yielded ops a.tmps)=true:=by simp[Region.wanted,hg]
 rw[ag hw];exact pG w s x t ho e i z size bytes ht hi hz hsize hby hzs hsz v n xs hs hown ad m c news hx hl hnews h1 h63 hbytes h
end
structure RD where
 dv:Value
 ids:Int
 hot:Int
 blt:Int
 dp:Int
structure RS where
 nv:Value
 mem:Nat->Int
 e:Int
 st:Int
 out:ByteArray
 d:RD
def RS.arr (s:RS):Array Value:=#[s.nv,.int .i64 (s.mem 0),.int .i64 (s.mem 1),.int .i64 (s.mem 2),.int .i64 (s.mem 3),.int .i64 (s.mem 4),.int .i64 (s.mem 5),.int .i64 (s.mem 6),.int .i64 (s.mem 7),
 .int .i64 (s.mem 8),.int .i64 (s.mem 9),.int .i64 (s.mem 10),.int .i64 (s.mem 11),.int .i64 (s.mem 12),.int .i64 (s.mem 13),.int .i64 (s.mem 14),.int .i64 (s.mem 15),
 s.d.dv,.int .i64 s.d.ids,.int .i64 s.d.hot,.int .i64 s.d.blt,.int .i64 s.e,.int .i64 s.st,.int .i64 s.d.dp,.string s.out]
def bD (ns:List Int):List Value:=ns.map (.int .i64)
structure aR (w:World)(yb:Nat)(s:RS)(ns:List Int):Prop where
 blk:aC w yb 67 s.arr
 row:w.ownsRow 0 3 1 s.nv ns.length (bD ns)
 len:ns.length<=32
abbrev lS (yb:Nat)(w w':World)(s s':RS):Prop:=To (λk=>k=yb) w w' (own s.nv) (own s'.nv)
theorem RS.upd (s:RS)(i:Nat)(v:Int)(hi:i<16):s.arr.setIfInBounds (1+i) (.int .i64 v)={s with mem:=λj=>if j=i then v else s.mem j}.arr:=by
 have:i=0\/i=1\/i=2\/i=3\/i=4\/i=5\/i=6\/i=7\/i=8\/i=9\/i=10\/i=11\/i=12\/i=13\/i=14\/i=15:=by omega
 rcases this with h|h|h|h|h|h|h|h|h|h|h|h|h|h|h|h <;> subst h <;> rfl
theorem RS.at (s:RS)(i:Nat)(hi:i<16):s.arr[1+i]? = some (.int .i64 (s.mem i)):=by
 have:i=0\/i=1\/i=2\/i=3\/i=4\/i=5\/i=6\/i=7\/i=8\/i=9\/i=10\/i=11\/i=12\/i=13\/i=14\/i=15:=by omega
 rcases this with h|h|h|h|h|h|h|h|h|h|h|h|h|h|h|h <;> subst h <;> rfl
theorem aR.ya {w:World}{yb:Nat}{s:RS}{ns:List Int}(h:aR w yb s ns)(e:Int):aR (w.setCell ⟨yb,21,none⟩ (.int .i64 e)) yb {s with e:=e} ns:=
 ⟨h.blk.set 21 _,ownsRow_setCell_other h.row (aH h.row h.blk (by decide)) _,h.len⟩
theorem aR.setSt {w:World}{yb:Nat}{s:RS}{ns:List Int}(h:aR w yb s ns)(e:Int):aR (w.setCell ⟨yb,22,none⟩ (.int .i64 e)) yb {s with st:=e} ns:=
 ⟨h.blk.set 22 _,ownsRow_setCell_other h.row (aH h.row h.blk (by decide)) _,h.len⟩
theorem aR.O8 {w:World}{yb:Nat}{s:RS}{ns:List Int}(h:aR w yb s ns)(t:ByteArray):aR (w.setCell ⟨yb,24,none⟩ (.string t)) yb {s with out:=t} ns:=
 ⟨h.blk.set 24 _,ownsRow_setCell_other h.row (aH h.row h.blk (by decide)) _,h.len⟩
theorem aR.Bh {w:World}{yb:Nat}{s:RS}{ns:List Int}(h:aR w yb s ns)(i:Nat)(hi:i<16)(v:Int):aR (w.setCell ⟨yb,1+i,none⟩ (.int .i64 v)) yb {s with mem:=λj=>if j=i then v else s.mem j} ns:=
 ⟨by have:=h.blk.set (1+i) (.int .i64 v);rw[RS.upd s i v hi] at this;exact this,ownsRow_setCell_other h.row (aH h.row h.blk (by decide)) _,h.len⟩
theorem aR.alloc {w:World}{yb:Nat}{s:RS}{ns:List Int}(h:aR w yb s ns)(o:Obj):aR (w.alloc o) yb s ns:=⟨h.blk.alloc o,h.row.alloc o,h.len⟩
theorem lS.set {yb:Nat}{w:World}{s s':RS}(sL:s'.nv=s.nv)(o:Nat)(v:Value):lS yb w (w.setCell ⟨yb,o,none⟩ v) s s':=
 ⟨(Kp.refl _ _).set (λ_=>.inl rfl) v,λk hk=>.inl (by rw[sL] at hk;exact hk)⟩
theorem Tf (w:World)(yb:Nat)(s:RS)(ns:List Int)(h:aR w yb s ns)(he:s.e=0)(h0:0<=s.st)(h1:s.st<2000):
  Calls prog 85 #[.pointer (some ⟨yb,0,none⟩)] w λe w'=>e=.returned (.bool true)/\aR w' yb {s with st:=s.st+1} ns/\lS yb w w' s {s with st:=s.st+1}:=by
 have c1:w.cell? ⟨yb,21,none⟩=some (.int .i64 0):=h.blk.cell (by rw[<-he];rfl);have c2:w.cell? ⟨yb,22,none⟩=some (.int .i64 s.st):=h.blk.cell rfl;have f2:=h.blk.free 22;go_enter func85,ntmps85;go_wp2;go_ret;exact⟨rfl,h.setSt _,lS.set rfl _ _⟩
theorem Tryz.info3:(prog.info? 3).map (λi=>(i.zero,i.size,i.bytes))=some (some (.int .i64 0),1,8):=by kernel_rfl
theorem qu (w:World)(yb:Nat)(s:RS)(ns:List Int)(n:Int)(h:aR w yb s ns)(he:s.e=0)(hl:ns.length=32):
  Calls prog 87 #[.pointer (some ⟨yb,0,none⟩),.int .i64 n] w λe w'=>e=.returned (.tuple #[])/\aR w' yb {s with e:=7} ns/\lS yb w w' s {s with e:=7}:=by
 have c1:w.cell? ⟨yb,21,none⟩=some (.int .i64 0):=h.blk.cell (by rw[<-he];rfl);have f1:=h.blk.free 21;have c0:w.cell? ⟨yb,0,none⟩=some s.nv:=h.blk.cell rfl;obtain⟨g,cap,hv⟩:∃g cap,s.nv=.slice (some ⟨g,0,none⟩) 32 cap:=by
  rcases h.row.2 with⟨_,h0⟩|⟨g,cap,_,hv,_⟩
  ·omega
  ·exact⟨g,cap,by rw[hv,hl]⟩
 rw[hv] at c0;have HV:Hid (s.nv=.slice (some ⟨g,0,none⟩) 32 cap):=hv;clear hv;go_enter func87,ntmps87;go_wp2
 go_end0
 exact⟨rfl,h.ya _,lS.set rfl _ _⟩
theorem K1 (w:World)(yb:Nat)(s:RS)(ns:List Int)(n:Int)(h:aR w yb s ns)(he:s.e=0)(hl:ns.length<32):
  Calls prog 87 #[.pointer (some ⟨yb,0,none⟩),.int .i64 n] w λe w'=>e=.returned (.tuple #[])/\∃v',aR w' yb {s with nv:=v'} (ns++[n])/\lS yb w w' s {s with nv:=v'}:=by
 have c1:w.cell? ⟨yb,21,none⟩=some (.int .i64 0):=h.blk.cell (by rw[<-he];rfl);have c0:w.cell? ⟨yb,0,none⟩=some s.nv:=h.blk.cell rfl;obtain⟨ao,cap,hv⟩:∃ao cap,s.nv=.slice ao ns.length cap:=by
  rcases h.row.2 with⟨hv,h0⟩|⟨g,cap,_,hv,_⟩
  ·exact⟨none,0,by rw[hv,h0]⟩
  ·exact⟨some ⟨g,0,none⟩,cap,hv⟩
 rw[hv] at c0;have hr:=h.row;rw[hv] at hr;have HV:Hid (s.nv=.slice ao ns.length cap):=hv;clear hv;obtain⟨i0,hi,hz0,hz1,hz2⟩:=info_parts Tryz.info3;go_enter func87,ntmps87
 go_wp2_with (first
  | (at_builtin;refine aP _ rfl _ _ 34 rfl 3 i0 (.int .i64 0) 1 8 underlying34 hi hz0 hz1 hz2 rfl (by decide) _ _ _ rfl (hr.alloc _) ⟨w.heap.size,0,none⟩ 1 1 [.int .i64 n] rfl rfl ?c1 ?c2 ?c3 ?c4 ?_)
  | go_in)
 case c1=>intro j u hj;match j,hj with|0,hj=>simp at hj;subst hj;simp[Addr.add]
 case c2=>intro u hu;simp at hu;subst hu;rfl
 case c3=>unfold maxLen;omega
 case c4=>omega
 intro v' w1 hown hgrow hnx;obtain⟨g,cap',rfl⟩:∃g cap',v'=.slice (some ⟨g,0,none⟩) (ns.length+1) cap':=by
  rcases hown.2 with⟨_,h0⟩|⟨g,cap',_,hv,_⟩
  ·omega
  ·exact⟨g,cap',hv⟩
 have hne:¬own (Value.slice ao ns.length cap) yb:=by have:=aH h.row h.blk (by decide);rw[HV.out] at this;exact this
 have hkp:Kp w w1 (λk=>k=yb\/own s.nv k):=((Kp.refl _ _).alloc _).grown hgrow (λk _ e=>.inr (by rw[HV.out];exact e));have hb1:aC w1 yb 67 s.arr:=(h.blk.alloc _).same (hgrow.block yb (by have:=h.blk.lt;simp;omega) (λe=>hne e.symm));have k0:w1.cell? ⟨yb,0,none⟩=some s.nv:=hb1.cell rfl;have e0:=hb1.free 0;rw[HV.out] at k0;go_wp2
 go_end0
 refine⟨rfl,_,⟨hb1.set 0 _,?_,by simp;omega⟩,⟨hkp.set (λ_=>.inl rfl) _,λk hk=>?_⟩⟩
 ·have:=ownsRow_setCell_other hown (a:=⟨yb,0,none⟩) (aH hown hb1 (by decide)) (.slice (some ⟨g,0,none⟩) (ns.length+1) cap')
  simpa [bD] using this
 ·rcases hnx k hk with h1|h1
  ·left;rw[HV.out];exact h1
  ·right;omega
theorem zl (w:World)(yb:Nat)(s:RS)(ns:List Int)(t:ByteArray)(h:aR w yb s ns)(ho:s.out.size<=300)(ht:t.size<=1000)(hl:300<s.out.size+t.size):
  Calls prog 171 #[.pointer (some ⟨yb,0,none⟩),.string t] w λe w'=>e=.returned (.tuple #[])/\aR w' yb {s with e:=11} ns/\lS yb w w' s {s with e:=11}:=by
 have c1:w.cell? ⟨yb,24,none⟩=some (.string s.out):=h.blk.cell rfl;have c2:w.cell? ⟨yb,21,none⟩=some (.int .i64 s.e):=h.blk.cell rfl;have f1:=h.blk.free 21;go_enter func171,ntmps171;go_wp2;refine bodyPost_ret (results_none rfl _ _ _) rfl ?_;exact⟨rfl,h.ya _,lS.set rfl _ _⟩
theorem DN (w:World)(yb:Nat)(s:RS)(ns:List Int)(t:ByteArray)(h:aR w yb s ns)(ho:s.out.size<=300)(ht:t.size<=1000)(hl:s.out.size+t.size<=300):
  Calls prog 171 #[.pointer (some ⟨yb,0,none⟩),.string t] w λe w'=>e=.returned (.tuple #[])/\aR w' yb {s with out:=s.out++t} ns/\lS yb w w' s {s with out:=s.out++t}:=by
 have c1:w.cell? ⟨yb,24,none⟩=some (.string s.out):=h.blk.cell rfl;have f1:=h.blk.free 24;go_enter func171,ntmps171;go_wp2
 go_end0
 exact⟨rfl,h.O8 _,lS.set rfl _ _⟩
structure MS where
 sv:Value
 mem:Nat->Int
 ov:Value
 st:Int
 out:ByteArray
 dp:Int
 bk:Nat
def nW (bk:Nat)(sv:Value)(mem:Nat->Int):Array Value:=#[sv,.int .i64 (mem 0),.int .i64 (mem 1),.int .i64 (mem 2),.int .i64 (mem 3),.int .i64 (mem 4),.int .i64 (mem 5),.int .i64 (mem 6),.int .i64 (mem 7),
 .int .i64 (mem 8),.int .i64 (mem 9),.int .i64 (mem 10),.int .i64 (mem 11),.int .i64 (mem 12),.int .i64 (mem 13),.int .i64 (mem 14),.int .i64 (mem 15),.pointer (some ⟨bk,0,none⟩)]
def DR (xb:Nat)(ov:Value)(st dp:Int):Array Value:=#[.pointer (some ⟨xb,0,none⟩),ov,.int .i64 st,.int .i64 dp]
theorem Gc (bk:Nat)(sv:Value)(mem:Nat->Int)(i:Nat)(v:Int)(hi:i<16):(nW bk sv mem).setIfInBounds (1+i) (.int .i64 v)=nW bk sv (λj=>if j=i then v else mem j):=by
 have:i=0\/i=1\/i=2\/i=3\/i=4\/i=5\/i=6\/i=7\/i=8\/i=9\/i=10\/i=11\/i=12\/i=13\/i=14\/i=15:=by omega
 rcases this with h|h|h|h|h|h|h|h|h|h|h|h|h|h|h|h <;> subst h <;> rfl
theorem yc (bk:Nat)(sv:Value)(mem:Nat->Int)(i:Nat)(hi:i<16):(nW bk sv mem)[1+i]? = some (.int .i64 (mem i)):=by
 have:i=0\/i=1\/i=2\/i=3\/i=4\/i=5\/i=6\/i=7\/i=8\/i=9\/i=10\/i=11\/i=12\/i=13\/i=14\/i=15:=by omega
 rcases this with h|h|h|h|h|h|h|h|h|h|h|h|h|h|h|h <;> subst h <;> rfl
structure aW (w:World)(xb rb:Nat)(m:MS)(ns:List Int):Prop where
 bJ:aC w xb 80 (nW m.bk m.sv m.mem)
 cF:aC w rb 100 (DR xb m.ov m.st m.dp)
 dc:w.ownsRow 0 2 1 m.sv ns.length (bD ns)
 dY:w.ownsRow 0 5 1 m.ov m.out.size (Lib.byteCells m.out.data.toList)
 len:ns.length<=32
abbrev gL (xb rb:Nat)(w w':World)(m m':MS):Prop:=To (λk=>k=xb\/k=rb) w w' (λk=>own m.sv k\/own m.ov k) (λk=>own m'.sv k\/own m'.ov k)
theorem aW.ne {w:World}{xb rb:Nat}{m:MS}{ns:List Int}(h:aW w xb rb m ns):xb≠rb:=by
 rintro rfl;exact ax (h.bJ.inj h.cF).1 (by decide)
theorem aW.kp {w w':World}{xb rb:Nat}{m:MS}{ns:List Int}(h:aW w xb rb m ns)(hk:Kp w w' (λ_=>False)):aW w' xb rb m ns:=
 ⟨hk.blk h.bJ (by simp),hk.blk h.cF (by simp),hk.row h.dc (by simp),hk.row h.dY (by simp),h.len⟩
theorem gL.kp {w w':World}{xb rb:Nat}{m:MS}(hk:Kp w w' (λ_=>False)):gL xb rb w w' m m:=⟨hk.mono (λ_ _ h=>h.elim),λ_ h=>.inl h⟩
theorem aW.drew {w:World}{xb rb:Nat}{m:MS}{ns:List Int}(h:aW w xb rb m ns):aW w.drew xb rb m ns:=⟨h.bJ,h.cF,h.dc,h.dY,h.len⟩
theorem aW.alloc {w:World}{xb rb:Nat}{m:MS}{ns:List Int}(h:aW w xb rb m ns)(o:Obj):aW (w.alloc o) xb rb m ns:=h.kp ((Kp.refl _ _).alloc o)
theorem To.Gd {F:Nat->Prop}{w w':World}{V V':Nat->Prop}(h:To F w.drew w' V V'):To F w w' V V':=⟨⟨h.kp.os,h.kp.tape,h.kp.output,h.kp.size,h.kp.block⟩,h.nx⟩
theorem Tryz.CS:(prog.info? 2).map (λi=>(i.zero,i.size,i.bytes))=some (some (.int .i64 0),1,8):=by kernel_rfl
theorem Tryz.N6:(prog.info? 5).map (λi=>(i.zero,i.size,i.bytes))=some (some (.int .u8 0),1,1):=by kernel_rfl
theorem iu {w:World}{b e z:Nat}{v:Value}{n:Nat}{xs:List Value}(h:w.ownsRow b e z v n xs):∃ao cap,v=.slice ao n cap:=by
 rcases h.2 with⟨hv,h0⟩|⟨g,cap,_,hv,_⟩
 ·exact⟨none,0,by rw[hv,h0]⟩
 ·exact⟨some ⟨g,0,none⟩,cap,hv⟩
theorem mZ {w:World}{b b':Nat}{e e':TypeId}{z z':Nat}{v v':Value}{n n':Nat}{xs xs':List Value}(h:w.ownsRow b e z v n xs)(h':w.ownsRow b' e' z' v' n' xs')(ht:e≠e'){k:Nat}(hk:own v k):¬own v' k:=by
 intro hk';rcases h.2 with⟨rfl,_⟩|⟨g,cap,cur,rfl,_,hgg,_⟩
 ·simp[own,Value.ownBlock] at hk
 ·rcases h'.2 with⟨rfl,_⟩|⟨g',cap',cur',rfl,_,DT,_⟩
  ·simp[own,Value.ownBlock] at hk'
  ·simp[own,Value.ownBlock] at hk hk';subst hk hk';rw[hgg] at DT;injection DT with DT;injection DT with h1 h2;exact ht h2
theorem aW.grown {w w1:World}{xb rb:Nat}{m:MS}{ns xs:List Int}{v':Value}(h:aW w xb rb m ns)(hl:ns.length+xs.length<=32)(hown:w1.ownsRow 0 2 1 v' (ns.length+xs.length) (bD ns++bD xs))(hg:w.grownBy w1 m.sv.ownBlock)(hnx:∀k,own v' k->own m.sv k\/w.heap.size<=k):
  aW (w1.setCell ⟨xb,0,none⟩ v') xb rb {m with sv:=v'} (ns++xs)/\gL xb rb w (w1.setCell ⟨xb,0,none⟩ v') m {m with sv:=v'}/\aC w1 xb 80 (nW m.bk m.sv m.mem)/\aC w1 rb 100 (DR xb m.ov m.st m.dp):=by
 have hx1:aC w1 xb 80 (nW m.bk m.sv m.mem):=h.bJ.same (hg.block xb h.bJ.lt (λe=>aH h.dc h.bJ (by decide) e.symm));have hr1:aC w1 rb 100 (DR xb m.ov m.st m.dp):=h.cF.same (hg.block rb h.cF.lt (λe=>aH h.dc h.cF (by decide) e.symm));have Ge:w1.ownsRow 0 5 1 m.ov m.out.size (Lib.byteCells m.out.data.toList):=h.dY.kept hg (by
  cases hv:m.ov.ownBlock with
  | none=>exact .inl rfl
  | some k=>right;intro e;exact mZ h.dY h.dc (by decide) hv e.symm)
 refine⟨⟨hx1.set 0 _,hr1.setOther h.ne.symm _,?_,ownsRow_setCell_other Ge (aH Ge hx1 (by decide)) _,by simpa using hl⟩,⟨?_,?_⟩,hx1,hr1⟩
 ·have:=ownsRow_setCell_other hown (a:=⟨xb,0,none⟩) (aH hown hx1 (by decide)) v'
  simpa [bD] using this
 ·exact((Kp.refl _ _).grown hg (λk _ e=>.inr (.inl e))).set (λ_=>.inl (.inl rfl)) _
 ·rintro k (hk|hk)
  ·rcases hnx k hk with h1|h1
   ·exact .inl (.inl h1)
   ·exact .inr h1
  ·exact .inl (.inr hk)
theorem xh (w:World)(xb rb:Nat)(m:MS)(ns:List Int)(ao:Option Addr)(n cap:Nat)(h:aW w xb rb m ns)(hn:n<=10)(hl:32<ns.length+n):
  Calls prog 96 #[.pointer (some ⟨rb,0,none⟩),.slice ao n cap] w λe w'=>e=.returned (.int .i64 7)/\w'=w:=by
 obtain⟨bo,c0,hv⟩:=iu h.dc;have k0:w.cell? ⟨rb,0,none⟩=some (.pointer (some ⟨xb,0,none⟩)):=h.cF.cell rfl;have k1:w.cell? ⟨xb,0,none⟩=some m.sv:=h.bJ.cell rfl;rw[hv] at k1;have hlen:=h.len;clear hv;go_enter func96,ntmps96;go_wp2;go_ret;exact⟨rfl,rfl⟩
theorem CU (w:World)(xb rb:Nat)(m:MS)(ns xs:List Int)(g cap:Nat)(h:aW w xb rb m ns)(hl:ns.length+xs.length<=32)(hnews:∀j u,(bD xs)[j]? = some u->w.cell? ((⟨g,0,none⟩:Addr).add j)=some u)(hpos:0<xs.length):
  Calls prog 96 #[.pointer (some ⟨rb,0,none⟩),.slice (some ⟨g,0,none⟩) xs.length cap] w λe w'=>e=.returned (.int .i64 0)/\∃v',aW w' xb rb {m with sv:=v'} (ns++xs)/\gL xb rb w w' m {m with sv:=v'}:=by
 obtain⟨bo,c0,hv⟩:=iu h.dc;have k0:w.cell? ⟨rb,0,none⟩=some (.pointer (some ⟨xb,0,none⟩)):=h.cF.cell rfl;have k1:w.cell? ⟨xb,0,none⟩=some m.sv:=h.bJ.cell rfl;have f1:=h.bJ.free 0;have hr:=h.dc;rw[hv] at k1 hr;have HV:Hid (m.sv=.slice bo ns.length c0):=hv;clear hv;have HN:Hid (∀j u,(bD xs)[j]? = some u->w.cell? ((⟨g,0,none⟩:Addr).add j)=some u):=hnews;clear hnews;have h1c:∀u∈bD xs,u.oneCell'=true:=by intro u hu;simp only[bD,List.mem_map] at hu;obtain⟨a,_,rfl⟩:=hu;rfl
 have H1:Hid (∀u∈bD xs,u.oneCell'=true):=h1c;clear h1c;obtain⟨i0,hi,hz0,hz1,hz2⟩:=info_parts Tryz.CS;go_enter func96,ntmps96;go_wp2
 go_region_law (refine mq _ rfl (.tmp 27) (.tmp 28) 74 rfl 2 i0 (.int .i64 0) 1 8 underlying74 hi hz0 hz1 hz2 rfl (by decide) _ _ _ rfl hr ⟨g,0,none⟩ _ _ (bD xs) rfl (by simp[bD]) HN.out H1.out (by unfold maxLen;omega) (by omega) ?_;intro v' w1 hown hgrow hnx;obtain⟨g',cap',rfl⟩:=Joins.ownsRow_form hown (by omega);have HG:=h.drew.grown hl hown (by rw[HV.out];exact hgrow) (by rw[HV.out];exact hnx);have q0:w1.cell? ⟨rb,0,none⟩=some (.pointer (some ⟨xb,0,none⟩)):=HG.2.2.2.cell rfl;have q1:w1.cell? ⟨xb,0,none⟩=some m.sv:=HG.2.2.1.cell rfl;have q2:=HG.2.2.1.free 0)
 all_goals go_wp2
 all_goals go_ret
 all_goals exact⟨rfl,_,HG.1,HG.2.1.Gd⟩
theorem sM {P:Program}{w:World}{ops:Array Oper}{o:Oper}{a:Act}{K:Act->World->Prop}{Q:Exit->Act->World->Prop}{E:Prop}
  (hg:o.guard=none) (s x:Operand) (t:TypeId) (ho:o.op=Op.call {callee:=Callee.builtin Builtin.append,args:=#[s,x],argTypes:=#[t,t]})
  (e:TypeId) (i:TypeInfo) (size:Nat) (ht:P.underlying t=some (.slice e)) (hi:P.info? e=some i)
  (v:Value) (n:Nat) (xs:List Value) (hs:a.eval s=v) (hown:w.ownsRow 0 e size v n xs) (hx:a.eval x=.slice none 0 0)
  (h:K (a.put o.dst v) w):if Region.wanted o (yielded ops a.tmps)=true then Oper.wp P o a w K Q else E:=by
 have hw:Region.wanted o (yielded ops a.tmps)=true:=by simp[Region.wanted,hg]
 rw[ag hw];have hrun:=run_append_owned_none (P:=P) (w:=w) 0 t o.type e i size ht hi v n xs hown;unfold Oper.wp;simp[execOp,ho,resolve,invoke,builtin,hs,hx,hrun,Result.andThen];exact h
theorem aW.same {w:World}{xb rb:Nat}{m:MS}{ns:List Int}(h:aW w xb rb m ns):aW (w.setCell ⟨xb,0,none⟩ m.sv) xb rb m ns/\gL xb rb w (w.setCell ⟨xb,0,none⟩ m.sv) m m:=
  ⟨⟨h.bJ.set 0 _,h.cF.setOther h.ne.symm _,ownsRow_setCell_other h.dc (aH h.dc h.bJ (by decide)) _,ownsRow_setCell_other h.dY (aH h.dY h.bJ (by decide)) _,h.len⟩,
   ⟨(Kp.refl _ _).set (λ_=>.inl (.inl rfl)) _,λ_ hk=>.inl hk⟩⟩
theorem Gg (w:World)(xb rb:Nat)(m:MS)(ns:List Int)(h:aW w xb rb m ns):
  Calls prog 96 #[.pointer (some ⟨rb,0,none⟩),.slice none 0 0] w λe w'=>e=.returned (.int .i64 0)/\aW w' xb rb m ns/\gL xb rb w w' m m:=by
 obtain⟨bo,c0,hv⟩:=iu h.dc;have k0:w.cell? ⟨rb,0,none⟩=some (.pointer (some ⟨xb,0,none⟩)):=h.cF.cell rfl;have k1:w.cell? ⟨xb,0,none⟩=some m.sv:=h.bJ.cell rfl;have f1:=h.bJ.free 0;have hr:=h.dc;have hlen:=h.len;have HS:=h.drew.same;rw[hv] at k1 hr HS;have HV:Hid (m.sv=.slice bo ns.length c0):=hv;clear hv;obtain⟨i0,hi,hz0,hz1,hz2⟩:=info_parts Tryz.CS;go_enter func96,ntmps96;go_wp2
 go_region_law (refine sM rfl (.tmp 27) (.tmp 28) 74 rfl 2 i0 1 underlying74 hi _ _ _ rfl hr rfl ?_)
 all_goals go_wp2
 all_goals go_ret
 all_goals exact⟨rfl,HS.1,HS.2.Gd⟩
theorem fU (w:World)(xb rb:Nat)(m:MS)(ns:List Int)(n:Int)(h:aW w xb rb m ns)(hlt:(ns.length:Int)<n)(hn:n<=10):
  Calls prog 149 #[.pointer (some ⟨rb,0,none⟩),.int .i64 n] w λe w'=>e=.returned (.tuple #[.agg #[.int .i64 0,.int .i64 0,.int .i64 0],.int .i64 6])/\Kp w w' (λ_=>False):=by
 obtain⟨bo,c0,hv⟩:=iu h.dc;have k0:w.cell? ⟨rb,0,none⟩=some (.pointer (some ⟨xb,0,none⟩)):=h.cF.cell rfl;have k1:w.cell? ⟨xb,0,none⟩=some m.sv:=h.bJ.cell rfl;rw[hv] at k1;have hlen:=h.len;have ld:=h.bJ.lt;have hl2:=h.cF.lt;clear hv;go_enter func149,ntmps149;go_wp2;refine bodyPost_ret (v:=.tuple #[.agg #[.int .i64 0,.int .i64 0,.int .i64 0],.int .i64 6]) (by simp[results,results149,go_sem]) rfl ⟨rfl,?_⟩;exact((Kp.refl _ _).alloc _).alloc _
def z3:List Value:=[.int .i64 0,.int .i64 0,.int .i64 0]
theorem DU (xs:List Int)(h:xs.length<=3):splice z3 0 (bD xs)=[.int .i64 (xs.getD 0 0),.int .i64 (xs.getD 1 0),.int .i64 (xs.getD 2 0)]:=by
 match xs,h with
 | [],_=>rfl
 | [a],_=>rfl
 | [a,b],_=>rfl
 | [a,b,c],_=>rfl
 | a::b::c::d::r,h=>simp at h
theorem Tryz.Tg:(prog.info? 2).map (·.size)=some 1:=by kernel_rfl
theorem K2 {cur:Array Value}{ns:List Int}(h:cur.toList.take (ns.length*1)=bD ns)(j:Nat)(hj:j<ns.length):cur[j]? = some (.int .i64 (ns.getD j 0)):=by
 have h1:(cur.toList.take (ns.length*1))[j]? = (bD ns)[j]?:=by rw[h]
 rw[List.getElem?_take,ag (by omega)] at h1
 simpa [bD,hj] using h1
theorem K3 {w:World}{g cap:Nat}{cur:Array Value}{r xs:List Int}(hb:aC w g 2 cur)(hc:(r++xs).length<=cap)(hm:cap<=maxLen)(hs:cur.size=cap*1)(ht:cur.toList.take ((r++xs).length*1)=bD (r++xs)):
  w.ownsRow 0 2 1 (.slice (some ⟨g,0,none⟩) r.length cap) r.length (bD r):=by
 simp only[List.length_append] at hc ht;refine⟨by simp[bD],.inr ⟨g,cap,cur,rfl,Nat.zero_le _,hb,by omega,hm,hs,?_⟩⟩;have:(cur.toList.take ((r.length+xs.length)*1)).take r.length=(bD (r++xs)).take r.length:=by rw[ht]
 rw[List.take_take,Nat.min_eq_left (by omega)] at this
 simpa [bD] using this
theorem Gh (w:World)(xb rb:Nat)(m:MS)(r xs:List Int)(h:aW w xb rb m (r++xs))(h1:1<=xs.length)(h3:xs.length<=3):
  Calls prog 149 #[.pointer (some ⟨rb,0,none⟩),.int .i64 xs.length] w λe w'=>∃v',e=.returned (.tuple #[.agg #[.int .i64 (xs.getD 0 0),.int .i64 (xs.getD 1 0),.int .i64 (xs.getD 2 0)],.int .i64 0]) /\
   aW w' xb rb {m with sv:=v'} r/\gL xb rb w w' m {m with sv:=v'}:=by
 have hlen:=h.len;have k0:w.cell? ⟨rb,0,none⟩=some (.pointer (some ⟨xb,0,none⟩)):=h.cF.cell rfl;have k1:w.cell? ⟨xb,0,none⟩=some m.sv:=h.bJ.cell rfl;have f1:=h.bJ.free 0;have ld:=h.bJ.lt;have hl2:=h.cF.lt;obtain⟨g0,cap,cur,hv,-,hg0,hnc,hcm,hcs,htake⟩:∃g cap cur,m.sv=.slice (some ⟨g,0,none⟩) (r++xs).length cap/\0<=g/\w.heap[g]? = some (.cells cur 2 (0,0))/\(r++xs).length<=cap/\cap<=maxLen/\cur.size=cap*1/\cur.toList.take ((r++xs).length*1)=bD (r++xs):=by
  rcases h.dc.2 with⟨_,h0⟩|h0
  ·simp only[List.length_append] at h0;omega
  ·exact h0
 rw[hv] at k1;have hx0:aC w xb 80 (nW m.bk (.slice (some ⟨g0,0,none⟩) (r.length+xs.length) cap) m.mem):=by have:=h.bJ;rw[hv,List.length_append] at this;exact this
 have DV:Hid (aC w xb 80 (nW m.bk (.slice (some ⟨g0,0,none⟩) (r.length+xs.length) cap) m.mem)):=hx0;clear hx0;have hb0:aC w g0 2 cur:=hg0;have hxg:xb≠g0:=by rintro rfl;exact ax (hb0.inj h.bJ).1 (by decide)
 have hrg:rb≠g0:=by rintro rfl;exact ax (hb0.inj h.cF).1 (by decide)
 have Yr:=hb0.lt;have HV:Hid (m.sv=.slice (some ⟨g0,0,none⟩) (r++xs).length cap):=hv;have HT:Hid (cur.toList.take ((r++xs).length*1)=bD (r++xs)):=htake;have HC:Hid (cur.size=cap*1):=hcs;have HB:Hid (aC w g0 2 cur):=hb0;clear htake hcs hv hg0 hb0;have HM:Hid (cap<=maxLen):=hcm;unfold maxLen at hcm;simp only[List.length_append] at hlen hnc k1;obtain⟨W,hW⟩:∃W,W=((w.alloc (.cells #[.int .i64 0,.int .i64 0,.int .i64 0] 195)).alloc (.cells #[.int .i64 0,.int .i64 0,.int .i64 0] 195)):=⟨_,rfl⟩;have HW:Hid (W=((w.alloc (.cells #[.int .i64 0,.int .i64 0,.int .i64 0] 195)).alloc (.cells #[.int .i64 0,.int .i64 0,.int .i64 0] 195))):=hW;have hsrc:∀j v,(bD xs)[j]? = some v->W.cell? ((⟨g0,r.length,none⟩:Addr).add j)=some v:=by
  intro j v hj;have hjl:j<xs.length:=by have:=(List.getElem?_eq_some_iff.1 hj).1;simpa [bD] using this
  have e:(⟨g0,r.length,none⟩:Addr).add j=⟨g0,r.length+j,none⟩:=by unfold Addr.add;split <;> simp_all
  have hc:=((HB.out.alloc (.cells #[.int .i64 0,.int .i64 0,.int .i64 0] 195)).alloc (.cells #[.int .i64 0,.int .i64 0,.int .i64 0] 195)).cell (K2 HT.out (r.length+j) (by simp;omega));rw[e,hW,hc];simp[bD,hjl] at hj;rw[<-hj];simp[List.getD,hjl]
 have hcut:aC W (w.heap.size+1) 195 z3.toArray:=by rw[hW];have:=aC.new (w.alloc (.cells #[.int .i64 0,.int .i64 0,.int .i64 0] 195)) #[.int .i64 0,.int .i64 0,.int .i64 0] 195;rw[World.size_alloc] at this;exact this
 have HCU:Hid (aC W (w.heap.size+1) 195 z3.toArray):=hcut;have HSR:Hid (∀j v,(bD xs)[j]? = some v->W.cell? ((⟨g0,r.length,none⟩:Addr).add j)=some v):=hsrc;have h1c:Hid (∀u∈bD xs,u.oneCell'=true):=by intro u hu;simp only[bD,List.mem_map] at hu;obtain⟨a,_,rfl⟩:=hu;rfl
 clear hW hcut hsrc;have b1:(r.length:Int)<=(r.length:Int)+(xs.length:Int):=by omega
 have b2:¬cap=r.length:=by omega
 go_enter func149,ntmps149;go_wp2;rw[<-HW.out];have j0:W.cell? ⟨rb,0,none⟩=some (.pointer (some ⟨xb,0,none⟩)):=by rw[HW.out];exact((h.cF.alloc _).alloc _).cell rfl
 have j1:W.cell? ⟨xb,0,none⟩=some (.slice (some ⟨g0,0,none⟩) (r.length+xs.length) cap):=by rw[HW.out];exact((DV.out.alloc _).alloc _).cell rfl
 go_region_law (refine step_copy_splice rfl (.tmp 21) (.tmp 30) 74 74 rfl 2 underlying74 Tryz.Tg _ _ 3 3 xs.length _ rfl rfl (w.heap.size+1) 0 z3 195 HCU.out (bD xs) (by show(bD xs).length=min xs.length 3;simp[bD];omega) (λ_=>⟨rfl,_,rfl,HSR.out⟩) (by simp[bD,z3];omega) h1c.out (w.heap.size+1) W (Below.refl _ _).drew (ah _) ?_;intro w4 hg4 hb4)
 have Gi:Below (w.heap.size+1) W w4:=hb4;have hA:aC w4 (w.heap.size+1) 195 #[.int .i64 (xs.getD 0 0),.int .i64 (xs.getD 1 0),.int .i64 (xs.getD 2 0)]:=by have:=hg4.out;rw[DU xs h3] at this;exact this
 have hZ:aC w4 w.heap.size 195 #[.int .i64 0,.int .i64 0,.int .i64 0]:=by
  refine aC.same (w:=W) ?_ (Gi.block _ (by omega));rw[HW.out];exact(aC.new w _ _).alloc _
 have hX:aC w4 xb 80 (nW m.bk (.slice (some ⟨g0,0,none⟩) (r.length+xs.length) cap) m.mem):=by
  refine aC.same (w:=W) ?_ (Gi.block _ (by omega));rw[HW.out];exact(DV.out.alloc _).alloc _
 have Yt:aC w4 rb 100 (DR xb m.ov m.st m.dp):=by
  refine aC.same (w:=W) ?_ (Gi.block _ (by omega));rw[HW.out];exact(h.cF.alloc _).alloc _
 have hG:aC w4 g0 2 cur:=by
  refine aC.same (w:=W) ?_ (Gi.block _ (by omega));rw[HW.out];exact(HB.out.alloc _).alloc _
 have hO:w4.ownsRow 0 5 1 m.ov m.out.size (Lib.byteCells m.out.data.toList):=by
  have hk:Kp w w4 (λ_=>False):=by
   refine Kp.mY ?_;have:Below w.heap.size w W:=by rw[HW.out];exact((Below.refl _ _).alloc (ah _) _).alloc (by simp) _
   exact this.trans (Gi.mono (by omega))
  exact hk.row h.dY (by simp)
 have hK:Kp w w4 (λ_=>False):=by
  refine Kp.mY ?_;have:Below w.heap.size w W:=by rw[HW.out];exact((Below.refl _ _).alloc (ah _) _).alloc (by simp) _
  exact this.trans (Gi.mono (by omega))
 have p0:w4.cell? ⟨rb,0,none⟩=some (.pointer (some ⟨xb,0,none⟩)):=Yt.cell rfl;have p1:w4.cell? ⟨xb,0,none⟩=some (.slice (some ⟨g0,0,none⟩) (r.length+xs.length) cap):=hX.cell rfl;have p2:=hX.free 0;have a0:w4.cell? ⟨w.heap.size+1,0,none⟩=some (.int .i64 (xs.getD 0 0)):=hA.cell rfl;have a1:w4.cell? ⟨w.heap.size+1,1,none⟩=some (.int .i64 (xs.getD 1 0)):=hA.cell rfl;have a2:w4.cell? ⟨w.heap.size+1,2,none⟩=some (.int .i64 (xs.getD 2 0)):=hA.cell rfl;obtain⟨x0,hx0⟩:∃x,x=xs.getD 0 0:=⟨_,rfl⟩;obtain⟨x1,hx1⟩:∃x,x=xs.getD 1 0:=⟨_,rfl⟩;obtain⟨x2,hx2⟩:∃x,x=xs.getD 2 0:=⟨_,rfl⟩;rw[<-hx0] at a0;rw[<-hx1] at a1;rw[<-hx2] at a2;have z0:w4.cell? ⟨w.heap.size,0,none⟩=some (.int .i64 0):=hZ.cell rfl;have z1:w4.cell? ⟨w.heap.size,1,none⟩=some (.int .i64 0):=hZ.cell rfl;have z2:w4.cell? ⟨w.heap.size,2,none⟩=some (.int .i64 0):=hZ.cell rfl;have y0:=hZ.free 0;have y1:=hZ.free 1;have y2:=hZ.free 2;have H0:Hid (x0=xs.getD 0 0):=hx0;have H1:Hid (x1=xs.getD 1 0):=hx1;have H2:Hid (x2=xs.getD 2 0):=hx2;clear hx0 hx1 hx2 hg4 hb4 j0 j1 k0 k1 f1;go_wp2
 go_region
 all_goals go_wp2
 have XK:aC (((((w4.setCell ⟨xb,0,none⟩ (.slice (some ⟨g0,0,none⟩) r.length cap)).setCell ⟨w.heap.size,0,none⟩ (.int .i64 x0)).setCell ⟨w.heap.size,1,none⟩ (.int .i64 x1)).setCell ⟨w.heap.size,2,none⟩ (.int .i64 x2)).drew) w.heap.size 195 #[.int .i64 x0,.int .i64 x1,.int .i64 x2]:=
  ((((hZ.setOther (a:=⟨xb,0,none⟩) (by show w.heap.size≠xb;omega) _).set 0 _).set 1 _).set 2 _)
 have e0:=XK.cell (o:=0) (v:=.int .i64 x0) rfl;have e1:=XK.cell (o:=1) (v:=.int .i64 x1) rfl;have e2:=XK.cell (o:=2) (v:=.int .i64 x2) rfl;have XL:=(((hX.set 0 (.slice (some ⟨g0,0,none⟩) r.length cap)).setOther (a:=⟨w.heap.size,0,none⟩) (by show xb≠w.heap.size;omega) (.int .i64 x0)).setOther (a:=⟨w.heap.size,1,none⟩) (by show xb≠w.heap.size;omega) (.int .i64 x1)).setOther (a:=⟨w.heap.size,2,none⟩) (by show xb≠w.heap.size;omega) (.int .i64 x2);have O9:=(((Yt.setOther (a:=⟨xb,0,none⟩) h.ne.symm (.slice (some ⟨g0,0,none⟩) r.length cap)).setOther (a:=⟨w.heap.size,0,none⟩) (by show rb≠w.heap.size;omega) (.int .i64 x0)).setOther (a:=⟨w.heap.size,1,none⟩) (by show rb≠w.heap.size;omega) (.int .i64 x1)).setOther (a:=⟨w.heap.size,2,none⟩) (by show rb≠w.heap.size;omega) (.int .i64 x2);have hG5:=(((hG.setOther (a:=⟨xb,0,none⟩) hxg.symm (.slice (some ⟨g0,0,none⟩) r.length cap)).setOther (a:=⟨w.heap.size,0,none⟩) (by show g0≠w.heap.size;omega) (.int .i64 x0)).setOther (a:=⟨w.heap.size,1,none⟩) (by show g0≠w.heap.size;omega) (.int .i64 x1)).setOther (a:=⟨w.heap.size,2,none⟩) (by show g0≠w.heap.size;omega) (.int .i64 x2);have XM:Kp w ((((w4.setCell ⟨xb,0,none⟩ (.slice (some ⟨g0,0,none⟩) r.length cap)).setCell ⟨w.heap.size,0,none⟩ (.int .i64 x0)).setCell ⟨w.heap.size,1,none⟩ (.int .i64 x1)).setCell ⟨w.heap.size,2,none⟩ (.int .i64 x2)) (λk=>k=xb):=
  ((((hK.mono (T:=λk=>k=xb) (λ_ _ h=>h.elim)).set (a:=⟨xb,0,none⟩) (λ_=>rfl) _).set (a:=⟨w.heap.size,0,none⟩) (λhh=>ax hh (Nat.lt_irrefl _)) _).set (a:=⟨w.heap.size,1,none⟩) (λhh=>ax hh (Nat.lt_irrefl _)) _).set (a:=⟨w.heap.size,2,none⟩) (λhh=>ax hh (Nat.lt_irrefl _)) _
 have hO5:=XM.row h.dY (λk hk e=>aH h.dY h.bJ (by decide) (by rw[<-e];exact hk));have aJ:=K3 hG5 (by simpa using hnc) HM.out HC.out HT.out;have Th:r.length<=32:=by omega
 clear hA hZ hX Yt hG hO hK p0 p1 p2 a0 a1 a2 z0 z1 z2 y0 y1 y2 XK;refine bodyPost_ret (v:=.tuple #[.agg #[.int .i64 x0,.int .i64 x1,.int .i64 x2],.int .i64 0]) (by simp[results,results149,go_sem,e0,e1,e2]) rfl ?_;refine⟨.slice (some ⟨g0,0,none⟩) r.length cap,by rw[H0.out,H1.out,H2.out],⟨XL,O9,aJ,hO5,Th⟩,⟨(XM.drew).mono (λk _ e=>.inl (.inl e)),?_⟩⟩;rintro k (hk|hk)
 ·left;left;rw[HV.out];exact hk
 ·exact .inl (.inr hk)
def jZ (a b:Int):Int:=
 if (a.tmod b != 0)=true/\(!decide (a<0)==decide (b<0))=true then wrap64 (wrap64 (a.tdiv b)-1) else wrap64 (a.tdiv b)
theorem zm {a b:Int}(h1:(a.tmod b != 0)=true)(h2:(!decide (a<0)==decide (b<0))=true):jZ a b=wrap64 (wrap64 (a.tdiv b)-1):=by
 unfold jZ;rw[ag ⟨h1,h2⟩]
theorem qq {a b:Int}(h:(a.tmod b != 0)=false\/(!decide (a<0)==decide (b<0))=false):jZ a b=wrap64 (a.tdiv b):=by
 unfold jZ;rw[af];rintro⟨h1,h2⟩;rcases h with h|h <;> simp_all
def jr (b:Bool):Int:=if b then -1 else 0
theorem ng {k:IntKind}{a b:Int}(h:a=b):Ending.returned (.int k a)=.returned (.int k b):=by rw[h]
theorem Gj (a b:Int)(w:World)(hb:¬b=0):
  Calls prog 140 #[.int .i64 a,.int .i64 b] w λe w'=>e=.returned (.int .i64 (jZ a b))/\w'=w:=by
 go_enter func140,ntmps140;go_wp2
 ·go_ret;exact⟨ng (qq (.inl (by simp[*]))).symm,rfl⟩
 ·go_ret;exact⟨ng (zm (by simp_all) (by simp_all)).symm,rfl⟩
 ·go_ret;exact⟨ng (qq (by assumption)).symm,rfl⟩
theorem soR (a:Bool)(w:World):
  Calls prog 141 #[.bool a] w λe w'=>e=.returned (.int .i64 (jr a))/\w'=w:=by
 go_enter func141,ntmps141;go_wp2
 all_goals go_ret
 all_goals simp[jr, *]
theorem N7 (a b:Int)(w:World)(hb:¬b=0):
  Calls prog 103 #[.int .i64 a,.int .i64 b] w λe w'=>e=.returned (.int .i64 (jZ a b))/\w'=w:=by
 go_enter func103,ntmps103;go_wp2
 ·go_ret;exact⟨ng (qq (.inl (by simp[*]))).symm,rfl⟩
 ·go_ret;exact⟨ng (zm (by simp_all) (by simp_all)).symm,rfl⟩
 ·go_ret;exact⟨ng (qq (by assumption)).symm,rfl⟩
theorem Ti (a b:Int)(w:World)(hb:¬b=0):
  Calls prog 104 #[.int .i64 a,.int .i64 b] w λe w'=>e=.returned (.int .i64 (wrap64 (a-wrap64 (b*jZ a b))))/\w'=w:=by
 go_enter func104,ntmps104
 go_wp2_with (go_at_call 103;refine(N7 _ _ _ hb).mono ?_;rintro e w' ⟨rfl,rfl⟩)
 go_ret;exact⟨rfl,rfl⟩
theorem Gk (a:Bool)(w:World):
  Calls prog 106 #[.bool a] w λe w'=>e=.returned (.int .i64 (jr a))/\w'=w:=by
 go_enter func106,ntmps106;go_wp2
 all_goals go_ret
 all_goals simp[jr, *]
theorem ni (a:Int)(w:World):
  Calls prog 66 #[.int .i64 a] w λe w'=>e=.returned (.bool (decide (0<=a/\a<16)))/\w'=w:=by
 go_enter func66,ntmps66;go_wp2
 all_goals go_ret
 all_goals (simp[*] <;> omega)
theorem Yu (a b:Int)(w:World):
  Calls prog 99 #[.int .i64 a,.int .i64 b] w λe w'=>e=.returned (.int .i64 (wrap64 (a+b)))/\w'=w:=by
 go_enter func99,ntmps99;go_wp2;go_ret;exact⟨rfl,rfl⟩
theorem Yv (a b:Int)(w:World):
  Calls prog 100 #[.int .i64 a,.int .i64 b] w λe w'=>e=.returned (.int .i64 (wrap64 (a-b)))/\w'=w:=by
 go_enter func100,ntmps100;go_wp2;go_ret;exact⟨rfl,rfl⟩
theorem abm (a b:Int)(w:World):
  Calls prog 101 #[.int .i64 a,.int .i64 b] w λe w'=>e=.returned (.int .i64 (wrap64 (a*b)))/\w'=w:=by
 go_enter func101,ntmps101;go_wp2;go_ret;exact⟨rfl,rfl⟩
theorem eqM (a b:Int)(w:World):
  Calls prog 105 #[.int .i64 a,.int .i64 b] w λe w'=>e=.returned (.int .i64 (jr (a==b)))/\w'=w:=by
 go_enter func105,ntmps105
 go_wp2_with (go_at_call 106;refine(Gk _ _).mono ?_;rintro e w' ⟨rfl,rfl⟩)
 go_ret;exact⟨rfl,rfl⟩
theorem ltM (a b:Int)(w:World):
  Calls prog 107 #[.int .i64 a,.int .i64 b] w λe w'=>e=.returned (.int .i64 (jr (decide (a<b))))/\w'=w:=by
 go_enter func107,ntmps107
 go_wp2_with (go_at_call 106;refine(Gk _ _).mono ?_;rintro e w' ⟨rfl,rfl⟩)
 go_ret;exact⟨rfl,rfl⟩
theorem gS (a:Int)(w:World):
  Calls prog 71 #[.int .i64 a] w λe w'=>e=.returned (.bool (decide (2<=a/\a<=17)))/\w'=w:=by
 go_enter func71,ntmps71;go_wp2
 all_goals go_ret
 all_goals (simp[*] <;> omega)
def tk (ns:List Int)(n j:Nat):Int:=if j<n then ns.getD (ns.length-1-j) 0 else 0
def rC (ns:List Int)(n:Nat):Array Value:=#[.int .i64 (tk ns n 0),.int .i64 (tk ns n 1),.int .i64 (tk ns n 2)]
theorem Pb {cur:Array Value}{ns:List Int}(h:cur.toList.take (ns.length*1)=bD ns)(j:Nat)(hj:j<ns.length):cur[j]? = some (.int .i64 (ns.getD j 0)):=by
 have h1:(cur.toList.take (ns.length*1))[j]? = (bD ns)[j]?:=by rw[h]
 rw[List.getElem?_take,ag (by omega)] at h1
 simpa [bD,hj] using h1
theorem Bi (ns:List Int)(k:Nat):(rC ns k).size=3:=rfl
theorem Bj (ns:List Int)(k:Nat)(hk:k<3):(rC ns k).setIfInBounds k (.int .i64 (ns.getD (ns.length-1-k) 0))=rC ns (k+1):=by
 have:k=0\/k=1\/k=2:=by omega
 rcases this with h|h|h <;> subst h <;> rfl
theorem Kv {w:World}{g cap:Nat}{cur:Array Value}{ns:List Int}(hb:aC w g 3 cur)(hc:ns.length<=cap)(hm:cap<=maxLen)(hs:cur.size=cap*1)(ht:cur.toList.take (ns.length*1)=bD ns)(m:Nat)(hm':m<=ns.length):
  w.ownsRow 0 3 1 (.slice (some ⟨g,0,none⟩) m cap) (ns.take m).length (bD (ns.take m)):=by
 have hl:(ns.take m).length=m:=by simp;omega
 rw[hl];refine⟨by simp[bD];omega,.inr ⟨g,cap,cur,rfl,Nat.zero_le _,hb,by omega,hm,hs,?_⟩⟩;have:(cur.toList.take (ns.length*1)).take m=(bD ns).take m:=by rw[ht]
 rw[List.take_take,Nat.min_eq_left (by omega)] at this
 simpa [bD,List.map_take] using this
theorem Gl (w:World)(yb:Nat)(s:RS)(ns:List Int)(n:Nat)(h:aR w yb s ns)(h1:1<=n)(h3:n<=3)(hle:n<=ns.length):
  Calls prog 139 #[.pointer (some ⟨yb,0,none⟩),.int .i64 n] w λe w'=>∃g v',e=.returned (.tuple #[.slice (some ⟨g,0,none⟩) 3 3,.bool true]) /\
   aC w' g 3 (rC ns n)/\w.heap.size<=g/\aR w' yb {s with nv:=v'} (ns.take (ns.length-n))/\lS yb w w' s {s with nv:=v'}/\¬own v' g:=by
 have hlen:=h.len;have c0:w.cell? ⟨yb,0,none⟩=some s.nv:=h.blk.cell rfl;obtain⟨g0,cap,cur,hv,-,hg0,hnc,hcm,hcs,htake⟩:∃g cap cur,s.nv=.slice (some ⟨g,0,none⟩) ns.length cap/\0<=g/\w.heap[g]? = some (.cells cur 3 (0,0))/\ns.length<=cap/\cap<=maxLen/\cur.size=cap*1/\cur.toList.take (ns.length*1)=bD ns:=by
  rcases h.row.2 with⟨_,h0⟩|h0
  ·omega
  ·exact h0
 rw[hv] at c0;have hb0:aC w g0 3 cur:=hg0;have Yw:yb≠g0:=by rintro rfl;exact ax (hb0.inj h.blk).1 (by decide)
 have hylt:=h.blk.lt;have Yr:=hb0.lt;have hmk:∀w,(Instr.makeSlice 34 (.int .i64 3) (.int .i64 3)).run prog w=.ok (.slice (some ⟨w.heap.size,0,none⟩) 3 3) (w.alloc (.cells #[.int .i64 0,.int .i64 0,.int .i64 0] 3)):=λ_=>by kernel_rfl
 have HV:Hid (s.nv=.slice (some ⟨g0,0,none⟩) ns.length cap):=hv;clear hv;have HT:Hid (cur.toList.take (ns.length*1)=bD ns):=htake;have HC:Hid (cur.size=cap*1):=hcs;clear htake hcs;unfold maxLen at hcm;go_enter func139,ntmps139;go_wp2
 go_loopw [7] (λi wr=>∃k:Nat,k<=n/\i=.int .i64 k/\aC wr yb 67 {s with nv:=.slice (some ⟨g0,0,none⟩) (ns.length-k) cap}.arr/\aC wr g0 3 cur/\aC wr w.heap.size 3 (rC ns k)/\Kp w wr (λb=>b=yb))
  (λi _=>n-(intOf i).toNat)
 case atStart => 
  refine⟨0,by omega,rfl,?_,hb0.alloc _,?_,(Kp.refl _ _).alloc _⟩
  ·have:=h.blk.alloc (.cells #[.int .i64 0,.int .i64 0,.int .i64 0] 3);rw[RS.arr,HV.out] at this;exact this
  ·exact aC.new w _ _
 case round=>
  obtain⟨k,hk,rfl,hbs,hbg,l8,hkp⟩:=hrel;by_cases hlt:k<n
  ·have d0:wr.cell? ⟨yb,0,none⟩=some (.slice (some ⟨g0,0,none⟩) (ns.length-k) cap):=hbs.cell rfl;have d1:=hbs.free 0;have d2:wr.cell? ⟨g0,ns.length-k-1,none⟩=some (.int .i64 (ns.getD (ns.length-1-k) 0)):=by
    have:=hbg.cell (Pb HT.out (ns.length-1-k) (by omega));rw[show ns.length-k-1=ns.length-1-k from by omega];exact this
   obtain⟨u,d3⟩:∃u,wr.cell? ⟨w.heap.size,k,none⟩=some u:=⟨_,l8.cell (Array.getElem?_eq_getElem (by rw[Bi];omega))⟩;have d4:=l8.free k;obtain⟨x,hx⟩:∃x,x=ns.getD (ns.length-1-k) 0:=⟨_,rfl⟩;rw[<-hx] at d2;have HX:Hid (x=ns.getD (ns.length-1-k) 0):=hx;clear hx;go_wp2
   go_region
   go_wp2
   go_region
   go_wp2
   go_roundw
   case rel=>
    refine⟨k+1,by omega,by go_num,?_,?_,?_,?_⟩
    ·exact(((hbs.setOther (a:=⟨w.heap.size,k,none⟩) (by simp;omega) _).set 0 _).drew).drew
    ·exact(((hbg.setOther (a:=⟨w.heap.size,k,none⟩) (by simp;omega) _).setOther (a:=⟨yb,0,none⟩) (by simp;omega) _).drew).drew
    ·have:=(((l8.set k (.int .i64 x)).setOther (a:=⟨yb,0,none⟩) (by simp;omega) (.slice (some ⟨g0,0,none⟩) (ns.length-k-1) cap)).drew).drew;rw[HX.out,Bj _ _ (by omega),<-HX.out] at this;exact this
    ·exact(((hkp.set (a:=⟨w.heap.size,k,none⟩) (by simp) _).set (a:=⟨yb,0,none⟩) (λ_=>rfl) _).drew).drew
   case measure=>simp[intOf];omega
  ·have hkn:k=n:=by omega
   subst hkn;go_wp2;go_ret2;refine⟨_,_,rfl,l8,ah _,⟨hbs,Kv hbg hnc hcm HC.out HT.out _ (by omega),by simp;omega⟩,⟨hkp.mono (λ_ _=>.inl),λb hb=>.inl ?_⟩,?_⟩
   ·rw[HV.out];exact hb
   ·simp[own,Value.ownBlock];omega
theorem qw (rs:List Int)(n j:Nat)(h:j<n)(h':j<rs.length):tk rs.reverse n j=rs.getD j 0:=by
 unfold tk;rw[ag h];simp only[au,List.getD_eq_getElem?_getD];rw[List.getElem?_reverse (by omega)]
 congr 2;omega
theorem tF (xs r:List Int):((xs++r).reverse).take ((xs++r).reverse.length-xs.length)=r.reverse:=by
 simp[List.reverse_append]
theorem bO (w:World)(yb:Nat)(s:RS)(ns:List Int)(n:Int)(h:aR w yb s ns)(hlt:(ns.length:Int)<n):
  Calls prog 139 #[.pointer (some ⟨yb,0,none⟩),.int .i64 n] w λe w'=>∃v,e=.returned (.tuple #[v,.bool false])/\aR w' yb {s with e:=6} ns/\lS yb w w' s {s with e:=6}:=by
 have c0:w.cell? ⟨yb,0,none⟩=some s.nv:=h.blk.cell rfl;obtain⟨ao,cap,hv⟩:∃ao cap,s.nv=.slice ao ns.length cap:=by
  rcases h.row.2 with⟨hv,h0⟩|⟨g,cap,_,hv,_⟩
  ·exact⟨none,0,by rw[hv,h0]⟩
  ·exact⟨some ⟨g,0,none⟩,cap,hv⟩
 rw[hv] at c0;have HV:Hid (s.nv=.slice ao ns.length cap):=hv;clear hv;have c1:w.cell? ⟨yb,21,none⟩=some (.int .i64 s.e):=h.blk.cell rfl;have f1:=h.blk.free 21;have hylt:=h.blk.lt;have hmk:∀w,(Instr.makeSlice 34 (.int .i64 3) (.int .i64 3)).run prog w=.ok (.slice (some ⟨w.heap.size,0,none⟩) 3 3) (w.alloc (.cells #[.int .i64 0,.int .i64 0,.int .i64 0] 3)):=λ_=>by kernel_rfl
 go_enter func139,ntmps139;go_wp2;go_ret2;refine⟨_,rfl,(h.ya _).alloc _,⟨((Kp.refl _ _).set (λ_=>.inl rfl) _).alloc _,λk hk=>.inl hk⟩⟩
structure Pc (w w':World)(yb:Nat)(s:RS)(x0 x1 x2:Int)(r:List Int)(g:Nat)(v':Value):Prop where
 blk:aC w' g 3 #[.int .i64 x0,.int .i64 x1,.int .i64 x2]
 new:w.heap.size<=g
 inv:aR w' yb {s with nv:=v'} r.reverse
 to:lS yb w w' s {s with nv:=v'}
 apart:¬own v' g
theorem mz (w:World)(yb:Nat)(s:RS)(a:Int)(r:List Int)(h:aR w yb s (a::r).reverse):
  Calls prog 139 #[.pointer (some ⟨yb,0,none⟩),.int .i64 1] w λe w'=>∃g v',e=.returned (.tuple #[.slice (some ⟨g,0,none⟩) 3 3,.bool true])/\Pc w w' yb s a 0 0 r g v':=by
 refine(Gl w yb s _ 1 h (by omega) (by omega) (by simp)).mono ?_;rintro e w' ⟨g,v',rfl,hb,hn,hi,ht,ha⟩;refine⟨g,v',rfl,?_,hn,?_,ht,ha⟩
 ·have:=hb;unfold rC at this;rw[qw _ _ _ (by omega) (by simp)] at this;exact this
 ·have:=tF [a] r;simp only[List.cons_append,List.nil_append,aq,List.length_nil] at this;rw[this] at hi;exact hi
theorem gD (w:World)(yb:Nat)(s:RS)(b a:Int)(r:List Int)(h:aR w yb s (b::a::r).reverse):
  Calls prog 139 #[.pointer (some ⟨yb,0,none⟩),.int .i64 2] w λe w'=>∃g v',e=.returned (.tuple #[.slice (some ⟨g,0,none⟩) 3 3,.bool true])/\Pc w w' yb s b a 0 r g v':=by
 refine(Gl w yb s _ 2 h (by omega) (by omega) (by simp)).mono ?_;rintro e w' ⟨g,v',rfl,hb,hn,hi,ht,ha⟩;refine⟨g,v',rfl,?_,hn,?_,ht,ha⟩
 ·have:=hb;unfold rC at this;rw[qw _ _ _ (by omega) (by simp),qw _ _ _ (by omega) (by simp)] at this;exact this
 ·have:=tF [b,a] r;simp only[List.cons_append,List.nil_append,aq,List.length_nil] at this;rw[this] at hi;exact hi
theorem Pf (w:World)(yb:Nat)(s:RS)(c b a:Int)(r:List Int)(h:aR w yb s (c::b::a::r).reverse):
  Calls prog 139 #[.pointer (some ⟨yb,0,none⟩),.int .i64 3] w λe w'=>∃g v',e=.returned (.tuple #[.slice (some ⟨g,0,none⟩) 3 3,.bool true])/\Pc w w' yb s c b a r g v':=by
 refine(Gl w yb s _ 3 h (by omega) (by omega) (by simp)).mono ?_;rintro e w' ⟨g,v',rfl,hb,hn,hi,ht,ha⟩;refine⟨g,v',rfl,?_,hn,?_,ht,ha⟩
 ·have:=hb;unfold rC at this;rw[qw _ _ _ (by omega) (by simp),qw _ _ _ (by omega) (by simp),qw _ _ _ (by omega) (by simp)] at this;exact this
 ·have:=tF [c,b,a] r;simp only[List.cons_append,List.nil_append,aq,List.length_nil] at this;rw[this] at hi;exact hi
theorem gz (w:World)(yb:Nat)(s:RS)(r:List Int)(n:Int)(h:aR w yb s r.reverse)(he:s.e=0)(hl:r.length<32):
  Calls prog 87 #[.pointer (some ⟨yb,0,none⟩),.int .i64 n] w λe w'=>e=.returned (.tuple #[])/\∃v',aR w' yb {s with nv:=v'} (n::r).reverse/\lS yb w w' s {s with nv:=v'}:=by
 refine(K1 w yb s _ n h he (by simpa using hl)).mono ?_;rintro e w' ⟨rfl,v',hi,ht⟩;exact⟨rfl,v',by rw[List.reverse_cons];exact hi,ht⟩
structure sN where
 e:Int
 rs:List Int
 mem:Nat->Int
 out:ByteArray
structure aS (w w':World)(yb:Nat)(s:RS)(R:sN):Prop where
 ex:∃s' ns,aR w' yb s' ns/\lS yb w w' s s'/\s'.e=R.e/\s'.mem=R.mem/\s'.out=R.out/\(s'.st,s'.d)=(s.st,s.d)/\(R.e=0->ns=R.rs.reverse)
end
end Go.Proofs.YteainaiebcphlaaGreatDoor
