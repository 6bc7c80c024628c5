import Derived.WalkKit
import Derived.WalkSpells
import Derived.WalkLawsBesides
import Derived.Deep.RegionLaw
import Derived.Test.YteainaiebcphlaaGreatDoorProg
import Derived.Deep.QuietTactic
import Derived.BigQuiet
import Derived.Laws.OwnMore
import Derived.Lib.UnsafeStr
import Derived.Lib.SmallJoins
import Derived.Laws.CopyOwn
import Derived.BigRegion
import Derived.Lib.ItoaNum
import Derived.Laws.BytesArg
namespace Go.Proofs.YteainaiebcphlaaGreatDoor
set_option maxRecDepth 1000000
set_option maxHeartbeats 4000000
set_option linter.all false
section
open Go.RowKit
def Blk (w:World) (b:Nat) (t:TypeId) (c:Array Value):Prop:=w.heap[b]? = some (.cells c t (0,0))
section
variable {w w':World} {b:Nat} {t:TypeId} {c:Array Value}
theorem Blk.cell (h:Blk w b t c) {o:Nat} {v:Value} (hv:c[o]? = some v):w.cell? ⟨b,o,none⟩=some v:=by
 unfold Blk at h;simp[World.cell?,h,hv]
theorem Blk.free (h:Blk w b t c) (o:Nat):w.frozen? ⟨b,o,none⟩=false:=by
 unfold Blk at h;simp[World.frozen?,h]
theorem Blk.lt (h:Blk w b t c):b < w.heap.size:=lt_of_block h
theorem Blk.set (h:Blk w b t c) (o:Nat) (v:Value):Blk (w.setCell ⟨b,o,none⟩ v) b t (c.setIfInBounds o v):=by
 have hlt:=h.lt;unfold Blk at h ⊢;have h':w.heap[b]=.cells c t (0,0):=by simpa [Array.getElem?_eq_getElem hlt] using h
 show (w.heap.modify b _)[b]? = _;rw[Array.getElem?_eq_getElem (by simpa using hlt),Array.getElem_modify_self,h'];rfl
theorem Blk.setOther (h:Blk w b t c) {a:Addr} (ha:b ≠ a.block) (v:Value):Blk (w.setCell a v) b t c:=by
 unfold Blk at h ⊢;rw[Below.heap_setCell _ _ _ _ ha];exact h
theorem Blk.alloc (h:Blk w b t c) (o:Obj):Blk (w.alloc o) b t c:=by
 have hlt:=h.lt;unfold Blk at h ⊢;rw[Below.heap_alloc _ _ _ hlt];exact h
theorem Blk.new (w:World) (c:Array Value) (t:TypeId):Blk (w.alloc (.cells c t)) w.heap.size t c:=heap_alloc_new w _
theorem Blk.drew (h:Blk w b t c):Blk w.drew b t c:=h
theorem Blk.same (h:Blk w b t c) (e:w'.heap[b]? = w.heap[b]?):Blk w' b t c:=by unfold Blk at h ⊢;rw[e];exact h
theorem Blk.inj {t':TypeId} {c':Array Value} (h:Blk w b t c) (h':Blk w b t' c'):t=t'/\c=c':=by
 unfold Blk at h h';rw[h] at h';injection h' with h';injection h' with h1 h2;exact⟨h2,h1⟩
end
structure Kp (w w':World) (S:Nat->Prop):Prop where
 os:w'.os=w.os
 tape:w'.tape=w.tape
 output:w'.output=w.output
 size:w.heap.size<=w'.heap.size
 block:∀ k,k < w.heap.size->¬ S k->w'.heap[k]? = w.heap[k]?
theorem Kp.refl (w:World) (S:Nat->Prop):Kp w w S:=⟨rfl,rfl,rfl,Nat.le_refl _,fun _ _ _=>rfl⟩
theorem Kp.mono {w w':World} {S T:Nat->Prop} (h:Kp w w' S) (hs:∀ k,k < w.heap.size->S k->T k):Kp w w' T:=
 ⟨h.os,h.tape,h.output,h.size,fun k hk hn=>h.block k hk (fun hk'=>hn (hs k hk hk'))⟩
theorem Kp.trans {w w1 w2:World} {S:Nat->Prop} (h:Kp w w1 S) (g:Kp w1 w2 S):Kp w w2 S:=
  ⟨g.os.trans h.os,g.tape.trans h.tape,g.output.trans h.output,Nat.le_trans h.size g.size,
   fun k hk hn=>(g.block k (Nat.lt_of_lt_of_le hk h.size) hn).trans (h.block k hk hn)⟩
theorem Kp.drew {w w':World} {S:Nat->Prop} (h:Kp w w' S):Kp w w'.drew S:=⟨h.os,h.tape,h.output,h.size,h.block⟩
theorem Kp.alloc {w w':World} {S:Nat->Prop} (h:Kp w w' S) (o:Obj):Kp w (w'.alloc o) S:=
 h.trans ⟨rfl,rfl,rfl,by simp,fun k hk _=>Below.heap_alloc _ _ _ hk⟩
theorem Kp.set {w w':World} {S:Nat->Prop} (h:Kp w w' S) {a:Addr} (ha:a.block < w.heap.size->S a.block) (v:Value):Kp w (w'.setCell a v) S:=
 ⟨h.os,h.tape,h.output,by simpa [World.setCell] using h.size,fun k hk hn=>by
  rw[Below.heap_setCell _ _ _ _ (fun e=>hn (by rw[e];exact ha (by omega)))];exact h.block k hk hn⟩
theorem Kp.grown {w w1 w':World} {S:Nat->Prop} {row:Option Nat} (h:Kp w w1 S) (hg:w1.grownBy w' row) (hr:∀ k,k < w.heap.size->row=some k->S k):Kp w w' S:=
  ⟨hg.os.trans h.os,hg.tape.trans h.tape,hg.output.trans h.output,Nat.le_trans h.size hg.size,
   fun k hk hn=>(hg.block k (Nat.lt_of_lt_of_le hk h.size) (fun e=>hn (hr k hk e.symm))).trans (h.block k hk hn)⟩
theorem Kp.below {w w':World} {S:Nat->Prop} {B:Nat} (h:Kp w w' S) (hB:B<=w.heap.size) (hs:∀ k,k < B->¬ S k):Below B w w':=
 ⟨h.os,h.tape,h.output,h.size,fun k hk=>h.block k (by omega) (hs k hk)⟩
theorem Kp.ofBelow {w w':World} {S:Nat->Prop} (h:Below w.heap.size w w'):Kp w w' S:=
 ⟨h.os,h.tape,h.output,h.size,fun k hk _=>h.block k hk⟩
theorem Kp.blk {w w':World} {S:Nat->Prop} (h:Kp w w' S) {b:Nat} {t:TypeId} {c:Array Value} (hb:Blk w b t c) (hn:¬ S b):Blk w' b t c:=
 hb.same (h.block b hb.lt hn)
theorem Kp.row {w w':World} {S:Nat->Prop} (h:Kp w w' S) {base:Nat} {e:TypeId} {size:Nat} {v:Value} {n:Nat} {xs:List Value} (ho:w.ownsRow base e size v n xs) (hn:∀ k,v.ownBlock=some k->¬ S k):w'.ownsRow base e size v n xs:=by
 refine⟨ho.1,?_⟩;rcases ho.2 with h0|⟨g,cap,cur,rfl,hb,hgg,rest⟩
 ·exact .inl h0
 ·exact .inr ⟨g,cap,cur,rfl,hb,(h.block g (lt_of_block hgg) (hn g rfl)).trans hgg,rest⟩
structure To (F:Nat->Prop) (w w':World) (V V':Nat->Prop):Prop where
 kp:Kp w w' (fun k=>F k\/V k)
 nx:∀ k,V' k->V k\/w.heap.size<=k
theorem To.refl (F:Nat->Prop) (w:World) (V:Nat->Prop):To F w w V V:=⟨Kp.refl _ _,fun _ h=>.inl h⟩
theorem To.trans {F:Nat->Prop} {w w1 w2:World} {V V1 V2:Nat->Prop} (h:To F w w1 V V1) (g:To F w1 w2 V1 V2):To F w w2 V V2:=by
 refine⟨⟨g.kp.os.trans h.kp.os,g.kp.tape.trans h.kp.tape,g.kp.output.trans h.kp.output,Nat.le_trans h.kp.size g.kp.size,fun k hk hn=>?_⟩,fun k hk=>?_⟩
 ·have h1:=h.kp.block k hk hn;refine (g.kp.block k (Nat.lt_of_lt_of_le hk h.kp.size) ?_).trans h1;rintro (hf|hv)
  ·exact hn (.inl hf)
  ·rcases h.nx k hv with h2|h2
   ·exact hn (.inr h2)
   ·omega
 ·rcases g.nx k hk with h1|h1
  ·exact h.nx k h1
  ·right;have:=h.kp.size;omega
theorem To.blk {F:Nat->Prop} {w w':World} {V V':Nat->Prop} (h:To F w w' V V') {b:Nat} {t:TypeId} {c:Array Value} (hb:Blk w b t c) (hf:¬ F b) (hv:¬ V b):Blk w' b t c:=
 h.kp.blk hb (by rintro (h|h);exact hf h;exact hv h)
def own (v:Value) (k:Nat):Prop:=v.ownBlock=some k
theorem own_lt {w:World} {base:Nat} {e:TypeId} {size:Nat} {v:Value} {n:Nat} {xs:List Value} (h:w.ownsRow base e size v n xs) {k:Nat} (hk:own v k):k < w.heap.size:=(h.lt k hk).2
theorem own_ne {w:World} {base:Nat} {e t:TypeId} {size:Nat} {v:Value} {n:Nat} {xs:List Value} {b:Nat} {c:Array Value} (h:w.ownsRow base e size v n xs) (hb:Blk w b t c) (ht:e ≠ t):¬ own v b:=by
 intro hk;rcases h.2 with⟨rfl,_⟩|⟨g,cap,cur,rfl,_,hgg,_⟩
 ·simp[own,Value.ownBlock] at hk
 ·simp[own,Value.ownBlock] at hk;subst hk;unfold Blk at hb;rw[hb] at hgg;injection hgg with hgg;injection hgg with h1 h2;exact ht h2.symm
section
variable {P:Program} (w:World)
theorem run_append_to (t ty e:TypeId) (i:TypeInfo) (z:Value) (size bytes:Nat) (ht:P.underlying t=some (.slice e)) (hi:P.info? e=some i) (hz:i.zero=some z)
  (hsize:i.size=size) (hby:i.bytes=bytes) (hzs:z.cells.size=size) (hsz:0 < size)
  (v:Value) (n:Nat) (xs:List Value) (hown:w.ownsRow 0 e size v n xs)
  (a:Addr) (m c:Nat) (news:List Value) (hl:news.length=m * size) (hnews:∀ j u,news[j]? = some u->w.cell? (a.add j)=some u) (h1:∀ u∈news,u.oneCell'=true)
  (h63:n+m<=maxLen) (hbytes:(n+m) * bytes<=140737488355328):
  ∃ v' w',(Builtin.append_ #[t,t] ty #[v,.slice (some a) m c]).run P w=.ok v' w'/\w'.ownsRow 0 e size v' (n+m) (xs ++ news)/\w.grownBy w' v.ownBlock /\
   (∀ k,own v' k->own v k\/w.heap.size<=k):=by
 obtain⟨v',w',hr,ho,hg,hn⟩:=run_append_own (P:=P) w 0 t ty e i z size bytes ht hi hz hsize hby hzs hsz v n xs hown a m c news hl hnews h1 h63 hbytes (Nat.zero_le _);refine⟨v',w',hr,ho,hg,?_⟩;rcases hown.2 with⟨rfl,rfl⟩|⟨g,cap,cur,rfl,hbg,hgg,hnc,hcm,hcs,htake⟩
 ·have hx:xs=[]:=List.eq_nil_of_length_eq_zero (by simpa using hown.1);subst hx;obtain⟨v2,w2,hr2,ho2,_,_⟩:=run_append_own (P:=P) w w.heap.size t ty e i z size bytes ht hi hz hsize hby hzs hsz (.slice none 0 0) 0 [] (World.ownsRow_nil _ _ _ _) a m c news hl hnews h1 h63 hbytes (Nat.le_refl _);rw[hr] at hr2;injection hr2 with e1 e2;subst e1;intro k hk;exact .inr (ho2.lt k hk).1
 ·subst hsize;subst hby;by_cases hroom:n+m<=cap
  ·have hfit:n * i.size+news.length<=cur.size:=by rw[hl,hcs,<-Nat.add_mul];exact Nat.mul_le_mul_right _ hroom
   have hr2:=run_append_room (P:=P) w t ty e i ht hi g n cap cur hgg a m c news hl hnews h1 hroom hfit;rw[hr] at hr2;injection hr2 with e1 e2;subst e1;intro k hk;exact .inl hk
  ·have holds:∀ j u,xs[j]? = some u->w.cell? ((⟨g,0,none⟩:Addr).add j)=some u:=hown.cells (g:=g) rfl;have hr2:=run_append_grow (P:=P) w t ty e i z ht hi hz ⟨g,0,none⟩ n cap xs hown.1 holds a m c news hl hnews (by omega) (by simp only[maxLen] at h63;omega) (growslice_fits (by omega) hbytes);rw[hr] at hr2;injection hr2 with e1 e2;subst e1;intro k hk;simp[own,Value.ownBlock] at hk;exact .inr (by omega)
theorem wp_append_to {o:Oper} {a:Act} {K:Act->World->Prop} {Q:Exit->Act->World->Prop} (s x:Operand) (t:TypeId)
  (ho:o.op=.call { callee:=.builtin .append,args:=#[s,x],argTypes:=#[t,t] })
  (e:TypeId) (i:TypeInfo) (z:Value) (size bytes:Nat) (ht:P.underlying t=some (.slice e)) (hi:P.info? e=some i) (hz:i.zero=some z)
  (hsize:i.size=size) (hby:i.bytes=bytes) (hzs:z.cells.size=size) (hsz:0 < size)
  (v:Value) (n:Nat) (xs:List Value) (hs:a.eval s=v) (hown:w.ownsRow 0 e size v n xs)
  (ad:Addr) (m c:Nat) (news:List Value) (hx:a.eval x=.slice (some ad) m c) (hl:news.length=m * size) (hnews:∀ j u,news[j]? = some u->w.cell? (ad.add j)=some u) (h1:∀ u∈news,u.oneCell'=true)
  (h63:n+m<=maxLen) (hbytes:(n+m) * bytes<=140737488355328)
  (h:∀ v' w',w'.ownsRow 0 e size v' (n+m) (xs ++ news)->w.grownBy w' v.ownBlock->(∀ k,own v' k->own v k\/w.heap.size<=k)->K (a.put o.dst v') w'):o.wp P a w K Q:=by
 obtain⟨v',w',hr,h2,h3,h4⟩:=run_append_to (P:=P) w t o.type e i z size bytes ht hi hz hsize hby hzs hsz v n xs hown ad m c news hl hnews h1 h63 hbytes;unfold Oper.wp execOp;simp only[ho,resolve,invoke,builtin,Sem.run_bind,Sem.run_pure,Result.andThen_ok,List.map_toArray,List.map_cons,List.map_nil,hs,hx,hr];exact h v' w' h2 h3 h4
theorem wpList_append_to {ops:Array Oper} {rest:List Oper} {o:Oper} {a:Act} {Q:Exit->Act->World->Prop} (hgd:o.guard=none) (s x:Operand) (t:TypeId)
  (ho:o.op=.call { callee:=.builtin .append,args:=#[s,x],argTypes:=#[t,t] })
  (e:TypeId) (i:TypeInfo) (z:Value) (size bytes:Nat) (ht:P.underlying t=some (.slice e)) (hi:P.info? e=some i) (hz:i.zero=some z)
  (hsize:i.size=size) (hby:i.bytes=bytes) (hzs:z.cells.size=size) (hsz:0 < size)
  (v:Value) (n:Nat) (xs:List Value) (hs:a.eval s=v) (hown:w.ownsRow 0 e size v n xs)
  (ad:Addr) (m c:Nat) (news:List Value) (hx:a.eval x=.slice (some ad) m c) (hl:news.length=m * size) (hnews:∀ j u,news[j]? = some u->w.cell? (ad.add j)=some u) (h1:∀ u∈news,u.oneCell'=true)
  (h63:n+m<=maxLen) (hbytes:(n+m) * bytes<=140737488355328)
  (h:∀ v' w',w'.ownsRow 0 e size v' (n+m) (xs ++ news)->w.grownBy w' v.ownBlock->(∀ k,own v' k->own v k\/w.heap.size<=k)->wpList P ops Q rest (a.put o.dst v') w'):wpList P ops Q (o :: rest) a w:=
 wpList_plain hgd fun _ hK=>wp_append_to w s x t ho e i z size bytes ht hi hz hsize hby hzs hsz v n xs hs hown ad m c news hx hl hnews h1 h63 hbytes fun v' w' h2 h3 h4=>hK _ _ (h v' w' h2 h3 h4)
theorem step_append_to {ops:Array Oper} {o:Oper} {a:Act} {K:Act->World->Prop} {Q:Exit->Act->World->Prop} {E:Prop}
  (hg:o.guard=none) (s x:Operand) (t:TypeId) (ho:o.op=Op.call { callee:=Callee.builtin Builtin.append,args:=#[s,x],argTypes:=#[t,t] })
  (e:TypeId) (i:TypeInfo) (z:Value) (size bytes:Nat) (ht:P.underlying t=some (.slice e)) (hi:P.info? e=some i) (hz:i.zero=some z)
  (hsize:i.size=size) (hby:i.bytes=bytes) (hzs:z.cells.size=size) (hsz:0 < size)
  (v:Value) (n:Nat) (xs:List Value) (hs:a.eval s=v) (hown:w.ownsRow 0 e size v n xs)
  (ad:Addr) (m c:Nat) (news:List Value) (hx:a.eval x=.slice (some ad) m c) (hl:news.length=m * size) (hnews:∀ j u,news[j]? = some u->w.cell? (ad.add j)=some u) (h1:∀ u∈news,u.oneCell'=true)
  (h63:n+m<=maxLen) (hbytes:(n+m) * bytes<=140737488355328)
  (h:∀ v' w',w'.ownsRow 0 e size v' (n+m) (xs ++ news)->w.grownBy w' v.ownBlock->(∀ k,own v' k->own v k\/w.heap.size<=k)->K (a.put o.dst v') w'):
  if Region.wanted o (yielded ops a.tmps)=true then Oper.wp P o a w K Q else E:=by
 have hw:Region.wanted o (yielded ops a.tmps)=true:=by simp[Region.wanted,hg]
 rw[if_pos hw];exact wp_append_to w s x t ho e i z size bytes ht hi hz hsize hby hzs hsz v n xs hs hown ad m c news hx hl hnews h1 h63 hbytes h
end
end
section
open Go.RowKit
structure RD where
 dv:Value
 ids:Int
 hot:Int
 blt:Int
 dp:Int
structure RS where
 nv:Value
 mem:Nat->Int
 e:Int
 st:Int
 out:ByteArray
 d:RD
def RS.arr (s:RS):Array Value:=#[s.nv,.int .i64 (s.mem 0),.int .i64 (s.mem 1),.int .i64 (s.mem 2),.int .i64 (s.mem 3),.int .i64 (s.mem 4),.int .i64 (s.mem 5),.int .i64 (s.mem 6),.int .i64 (s.mem 7),
 .int .i64 (s.mem 8),.int .i64 (s.mem 9),.int .i64 (s.mem 10),.int .i64 (s.mem 11),.int .i64 (s.mem 12),.int .i64 (s.mem 13),.int .i64 (s.mem 14),.int .i64 (s.mem 15),
 s.d.dv,.int .i64 s.d.ids,.int .i64 s.d.hot,.int .i64 s.d.blt,.int .i64 s.e,.int .i64 s.st,.int .i64 s.d.dp,.string s.out]
def ints (ns:List Int):List Value:=ns.map (.int .i64)
theorem RS.at (s:RS) (i:Nat) (hi:i < 16):s.arr[1+i]? = some (.int .i64 (s.mem i)):=by
 have:i=0\/i=1\/i=2\/i=3\/i=4\/i=5\/i=6\/i=7\/i=8\/i=9\/i=10\/i=11\/i=12\/i=13\/i=14\/i=15:=by omega
 rcases this with h|h|h|h|h|h|h|h|h|h|h|h|h|h|h|h <;> subst h <;> rfl
end
section
open Go.RowKit
structure MS where
 sv:Value
 mem:Nat->Int
 ov:Value
 st:Int
 out:ByteArray
 dp:Int
 bk:Nat
def marr (bk:Nat) (sv:Value) (mem:Nat->Int):Array Value:=#[sv,.int .i64 (mem 0),.int .i64 (mem 1),.int .i64 (mem 2),.int .i64 (mem 3),.int .i64 (mem 4),.int .i64 (mem 5),.int .i64 (mem 6),.int .i64 (mem 7),
 .int .i64 (mem 8),.int .i64 (mem 9),.int .i64 (mem 10),.int .i64 (mem 11),.int .i64 (mem 12),.int .i64 (mem 13),.int .i64 (mem 14),.int .i64 (mem 15),.pointer (some ⟨bk,0,none⟩)]
def rarr (xb:Nat) (ov:Value) (st dp:Int):Array Value:=#[.pointer (some ⟨xb,0,none⟩),ov,.int .i64 st,.int .i64 dp]
theorem marr_upd (bk:Nat) (sv:Value) (mem:Nat->Int) (i:Nat) (v:Int) (hi:i < 16):(marr bk sv mem).setIfInBounds (1+i) (.int .i64 v)=marr bk sv (fun j=>if j=i then v else mem j):=by
 have:i=0\/i=1\/i=2\/i=3\/i=4\/i=5\/i=6\/i=7\/i=8\/i=9\/i=10\/i=11\/i=12\/i=13\/i=14\/i=15:=by omega
 rcases this with h|h|h|h|h|h|h|h|h|h|h|h|h|h|h|h <;> subst h <;> rfl
theorem marr_at (bk:Nat) (sv:Value) (mem:Nat->Int) (i:Nat) (hi:i < 16):(marr bk sv mem)[1+i]? = some (.int .i64 (mem i)):=by
 have:i=0\/i=1\/i=2\/i=3\/i=4\/i=5\/i=6\/i=7\/i=8\/i=9\/i=10\/i=11\/i=12\/i=13\/i=14\/i=15:=by omega
 rcases this with h|h|h|h|h|h|h|h|h|h|h|h|h|h|h|h <;> subst h <;> rfl
structure MInv (w:World) (xb rb:Nat) (m:MS) (ns:List Int):Prop where
 xblk:Blk w xb 80 (marr m.bk m.sv m.mem)
 rblk:Blk w rb 100 (rarr xb m.ov m.st m.dp)
 srow:w.ownsRow 0 2 1 m.sv ns.length (ints ns)
 orow:w.ownsRow 0 5 1 m.ov m.out.size (Lib.byteCells m.out.data.toList)
 len:ns.length<=32
abbrev MTo (xb rb:Nat) (w w':World) (m m':MS):Prop:=To (fun k=>k=xb\/k=rb) w w' (fun k=>own m.sv k\/own m.ov k) (fun k=>own m'.sv k\/own m'.ov k)
theorem MInv.ne {w:World} {xb rb:Nat} {m:MS} {ns:List Int} (h:MInv w xb rb m ns):xb ≠ rb:=by
 rintro rfl;exact absurd (h.xblk.inj h.rblk).1 (by decide)
theorem MInv.kp {w w':World} {xb rb:Nat} {m:MS} {ns:List Int} (h:MInv w xb rb m ns) (hk:Kp w w' (fun _=>False)):MInv w' xb rb m ns:=
 ⟨hk.blk h.xblk (by simp),hk.blk h.rblk (by simp),hk.row h.srow (by simp),hk.row h.orow (by simp),h.len⟩
theorem MTo.kp {w w':World} {xb rb:Nat} {m:MS} (hk:Kp w w' (fun _=>False)):MTo xb rb w w' m m:=⟨hk.mono (fun _ _ h=>h.elim),fun _ h=>.inl h⟩
theorem MInv.drew {w:World} {xb rb:Nat} {m:MS} {ns:List Int} (h:MInv w xb rb m ns):MInv w.drew xb rb m ns:=⟨h.xblk,h.rblk,h.srow,h.orow,h.len⟩
theorem MInv.alloc {w:World} {xb rb:Nat} {m:MS} {ns:List Int} (h:MInv w xb rb m ns) (o:Obj):MInv (w.alloc o) xb rb m ns:=h.kp ((Kp.refl _ _).alloc o)
theorem To.undrew {F:Nat->Prop} {w w':World} {V V':Nat->Prop} (h:To F w.drew w' V V'):To F w w' V V':=⟨⟨h.kp.os,h.kp.tape,h.kp.output,h.kp.size,h.kp.block⟩,h.nx⟩
theorem Tryz.info2:(Tryz.prog.info? 2).map (fun i=>(i.zero,i.size,i.bytes))=some (some (.int .i64 0),1,8):=by kernel_rfl
theorem Tryz.info5:(Tryz.prog.info? 5).map (fun i=>(i.zero,i.size,i.bytes))=some (some (.int .u8 0),1,1):=by kernel_rfl
theorem form_of {w:World} {b e z:Nat} {v:Value} {n:Nat} {xs:List Value} (h:w.ownsRow b e z v n xs):∃ ao cap,v=.slice ao n cap:=by
 rcases h.2 with⟨hv,h0⟩|⟨g,cap,_,hv,_⟩
 ·exact⟨none,0,by rw[hv,h0]⟩
 ·exact⟨some ⟨g,0,none⟩,cap,hv⟩
theorem own_disj2 {w:World} {b b':Nat} {e e':TypeId} {z z':Nat} {v v':Value} {n n':Nat} {xs xs':List Value} (h:w.ownsRow b e z v n xs) (h':w.ownsRow b' e' z' v' n' xs') (ht:e ≠ e') {k:Nat} (hk:own v k):¬ own v' k:=by
 intro hk';rcases h.2 with⟨rfl,_⟩|⟨g,cap,cur,rfl,_,hgg,_⟩
 ·simp[own,Value.ownBlock] at hk
 ·rcases h'.2 with⟨rfl,_⟩|⟨g',cap',cur',rfl,_,hgg',_⟩
  ·simp[own,Value.ownBlock] at hk'
  ·simp[own,Value.ownBlock] at hk hk';subst hk;subst hk';rw[hgg] at hgg';injection hgg' with hgg';injection hgg' with h1 h2;exact ht h2
theorem MInv.grown {w w1:World} {xb rb:Nat} {m:MS} {ns xs:List Int} {v':Value} (h:MInv w xb rb m ns) (hl:ns.length+xs.length<=32) (hown:w1.ownsRow 0 2 1 v' (ns.length+xs.length) (ints ns ++ ints xs)) (hg:w.grownBy w1 m.sv.ownBlock) (hnx:∀ k,own v' k->own m.sv k\/w.heap.size<=k):
  MInv (w1.setCell ⟨xb,0,none⟩ v') xb rb { m with sv:=v' } (ns ++ xs)/\MTo xb rb w (w1.setCell ⟨xb,0,none⟩ v') m { m with sv:=v' }/\Blk w1 xb 80 (marr m.bk m.sv m.mem)/\Blk w1 rb 100 (rarr xb m.ov m.st m.dp):=by
 have hx1:Blk w1 xb 80 (marr m.bk m.sv m.mem):=h.xblk.same (hg.block xb h.xblk.lt (fun e=>own_ne h.srow h.xblk (by decide) e.symm));have hr1:Blk w1 rb 100 (rarr xb m.ov m.st m.dp):=h.rblk.same (hg.block rb h.rblk.lt (fun e=>own_ne h.srow h.rblk (by decide) e.symm));have ho1:w1.ownsRow 0 5 1 m.ov m.out.size (Lib.byteCells m.out.data.toList):=h.orow.kept hg (by
  cases hv:m.ov.ownBlock with
  | none=>exact .inl rfl
  | some k=>right;intro e;exact own_disj2 h.orow h.srow (by decide) hv e.symm)
 refine⟨⟨hx1.set 0 _,hr1.setOther h.ne.symm _,?_,ownsRow_setCell_other ho1 (own_ne ho1 hx1 (by decide)) _,by simpa using hl⟩,⟨?_,?_⟩,hx1,hr1⟩
 ·have:=ownsRow_setCell_other hown (a:=⟨xb,0,none⟩) (own_ne hown hx1 (by decide)) v'
  simpa [ints] using this
 ·exact ((Kp.refl _ _).grown hg (fun k _ e=>.inr (.inl e))).set (fun _=>.inl (.inl rfl)) _
 ·rintro k (hk|hk)
  ·rcases hnx k hk with h1|h1
   ·exact .inl (.inl h1)
   ·exact .inr h1
  ·exact .inl (.inr hk)
theorem putM_full (w:World) (xb rb:Nat) (m:MS) (ns:List Int) (ao:Option Addr) (n cap:Nat) (h:MInv w xb rb m ns) (hn:n<=10) (hl:32 < ns.length+n):
  Calls Tryz.prog 96 #[.pointer (some ⟨rb,0,none⟩),.slice ao n cap] w fun e w'=>e=.returned (.int .i64 7)/\w'=w:=by
 obtain⟨bo,c0,hv⟩:=form_of h.srow;have k0:w.cell? ⟨rb,0,none⟩=some (.pointer (some ⟨xb,0,none⟩)):=h.rblk.cell rfl;have k1:w.cell? ⟨xb,0,none⟩=some m.sv:=h.xblk.cell rfl;rw[hv] at k1;have hlen:=h.len;clear hv;go_enter Tryz.func96,Tryz.ntmps96;go_wp2;go_ret;exact⟨rfl,rfl⟩
theorem putM_ok (w:World) (xb rb:Nat) (m:MS) (ns xs:List Int) (g cap:Nat) (h:MInv w xb rb m ns) (hl:ns.length+xs.length<=32) (hnews:∀ j u,(ints xs)[j]? = some u->w.cell? ((⟨g,0,none⟩:Addr).add j)=some u) (hpos:0 < xs.length):
  Calls Tryz.prog 96 #[.pointer (some ⟨rb,0,none⟩),.slice (some ⟨g,0,none⟩) xs.length cap] w fun e w'=>e=.returned (.int .i64 0)/\∃ v',MInv w' xb rb { m with sv:=v' } (ns ++ xs)/\MTo xb rb w w' m { m with sv:=v' }:=by
 obtain⟨bo,c0,hv⟩:=form_of h.srow;have k0:w.cell? ⟨rb,0,none⟩=some (.pointer (some ⟨xb,0,none⟩)):=h.rblk.cell rfl;have k1:w.cell? ⟨xb,0,none⟩=some m.sv:=h.xblk.cell rfl;have f1:=h.xblk.free 0;have hr:=h.srow;rw[hv] at k1 hr;have HV:Hid (m.sv=.slice bo ns.length c0):=hv;clear hv;have HN:Hid (∀ j u,(ints xs)[j]? = some u->w.cell? ((⟨g,0,none⟩:Addr).add j)=some u):=hnews;clear hnews;have h1c:∀ u∈ints xs,u.oneCell'=true:=by intro u hu;simp only[ints,List.mem_map] at hu;obtain⟨a,_,rfl⟩:=hu;rfl
 have H1:Hid (∀ u∈ints xs,u.oneCell'=true):=h1c;clear h1c;obtain⟨i0,hi,hz0,hz1,hz2⟩:=info_parts Tryz.info2;go_enter Tryz.func96,Tryz.ntmps96;go_wp2
 go_region_law (refine step_append_to _ rfl (.tmp 27) (.tmp 28) 74 rfl 2 i0 (.int .i64 0) 1 8 Tryz.underlying74 hi hz0 hz1 hz2 rfl (by decide) _ _ _ rfl hr ⟨g,0,none⟩ _ _ (ints xs) rfl (by simp[ints]) HN.out H1.out (by unfold maxLen;omega) (by omega) ?_;intro v' w1 hown hgrow hnx;obtain⟨g',cap',rfl⟩:=Joins.ownsRow_form hown (by omega);have HG:=h.drew.grown hl hown (by rw[HV.out];exact hgrow) (by rw[HV.out];exact hnx);have q0:w1.cell? ⟨rb,0,none⟩=some (.pointer (some ⟨xb,0,none⟩)):=HG.2.2.2.cell rfl;have q1:w1.cell? ⟨xb,0,none⟩=some m.sv:=HG.2.2.1.cell rfl;have q2:=HG.2.2.1.free 0)
 all_goals go_wp2
 all_goals go_ret
 all_goals exact⟨rfl,_,HG.1,HG.2.1.undrew⟩
theorem step_append_nil {P:Program} {w:World} {ops:Array Oper} {o:Oper} {a:Act} {K:Act->World->Prop} {Q:Exit->Act->World->Prop} {E:Prop}
  (hg:o.guard=none) (s x:Operand) (t:TypeId) (ho:o.op=Op.call { callee:=Callee.builtin Builtin.append,args:=#[s,x],argTypes:=#[t,t] })
  (e:TypeId) (i:TypeInfo) (size:Nat) (ht:P.underlying t=some (.slice e)) (hi:P.info? e=some i)
  (v:Value) (n:Nat) (xs:List Value) (hs:a.eval s=v) (hown:w.ownsRow 0 e size v n xs) (hx:a.eval x=.slice none 0 0)
  (h:K (a.put o.dst v) w):if Region.wanted o (yielded ops a.tmps)=true then Oper.wp P o a w K Q else E:=by
 have hw:Region.wanted o (yielded ops a.tmps)=true:=by simp[Region.wanted,hg]
 rw[if_pos hw];have hrun:=run_append_owned_none (P:=P) (w:=w) 0 t o.type e i size ht hi v n xs hown;unfold Oper.wp;simp[execOp,ho,resolve,invoke,builtin,hs,hx,hrun,Result.andThen];exact h
theorem MInv.same {w:World} {xb rb:Nat} {m:MS} {ns:List Int} (h:MInv w xb rb m ns):MInv (w.setCell ⟨xb,0,none⟩ m.sv) xb rb m ns/\MTo xb rb w (w.setCell ⟨xb,0,none⟩ m.sv) m m:=
  ⟨⟨h.xblk.set 0 _,h.rblk.setOther h.ne.symm _,ownsRow_setCell_other h.srow (own_ne h.srow h.xblk (by decide)) _,ownsRow_setCell_other h.orow (own_ne h.orow h.xblk (by decide)) _,h.len⟩,
   ⟨(Kp.refl _ _).set (fun _=>.inl (.inl rfl)) _,fun _ hk=>.inl hk⟩⟩
theorem putM_nil (w:World) (xb rb:Nat) (m:MS) (ns:List Int) (h:MInv w xb rb m ns):
  Calls Tryz.prog 96 #[.pointer (some ⟨rb,0,none⟩),.slice none 0 0] w fun e w'=>e=.returned (.int .i64 0)/\MInv w' xb rb m ns/\MTo xb rb w w' m m:=by
 obtain⟨bo,c0,hv⟩:=form_of h.srow;have k0:w.cell? ⟨rb,0,none⟩=some (.pointer (some ⟨xb,0,none⟩)):=h.rblk.cell rfl;have k1:w.cell? ⟨xb,0,none⟩=some m.sv:=h.xblk.cell rfl;have f1:=h.xblk.free 0;have hr:=h.srow;have hlen:=h.len;have HS:=h.drew.same;rw[hv] at k1 hr HS;have HV:Hid (m.sv=.slice bo ns.length c0):=hv;clear hv;obtain⟨i0,hi,hz0,hz1,hz2⟩:=info_parts Tryz.info2;go_enter Tryz.func96,Tryz.ntmps96;go_wp2
 go_region_law (refine step_append_nil rfl (.tmp 27) (.tmp 28) 74 rfl 2 i0 1 Tryz.underlying74 hi _ _ _ rfl hr rfl ?_)
 all_goals go_wp2
 all_goals go_ret
 all_goals exact⟨rfl,HS.1,HS.2.undrew⟩
end
section
open Go.RowKit
theorem takeM_under (w:World) (xb rb:Nat) (m:MS) (ns:List Int) (n:Int) (h:MInv w xb rb m ns) (hlt:(ns.length:Int) < n) (hn:n<=10):
  Calls Tryz.prog 149 #[.pointer (some ⟨rb,0,none⟩),.int .i64 n] w fun e w'=>e=.returned (.tuple #[.agg #[.int .i64 0,.int .i64 0,.int .i64 0],.int .i64 6])/\Kp w w' (fun _=>False):=by
 obtain⟨bo,c0,hv⟩:=form_of h.srow;have k0:w.cell? ⟨rb,0,none⟩=some (.pointer (some ⟨xb,0,none⟩)):=h.rblk.cell rfl;have k1:w.cell? ⟨xb,0,none⟩=some m.sv:=h.xblk.cell rfl;rw[hv] at k1;have hlen:=h.len;have hl1:=h.xblk.lt;have hl2:=h.rblk.lt;clear hv;go_enter Tryz.func149,Tryz.ntmps149;go_wp2;refine bodyPost_ret (v:=.tuple #[.agg #[.int .i64 0,.int .i64 0,.int .i64 0],.int .i64 6]) (by simp[results,Tryz.results149,go_sem]) rfl ⟨rfl,?_⟩;exact ((Kp.refl _ _).alloc _).alloc _
def z3:List Value:=[.int .i64 0,.int .i64 0,.int .i64 0]
theorem splice_z3 (xs:List Int) (h:xs.length<=3):splice z3 0 (ints xs)=[.int .i64 (xs.getD 0 0),.int .i64 (xs.getD 1 0),.int .i64 (xs.getD 2 0)]:=by
 match xs,h with
 | [],_=>rfl
 | [a],_=>rfl
 | [a,b],_=>rfl
 | [a,b,c],_=>rfl
 | a :: b :: c :: d :: r,h=>simp at h
theorem Tryz.size2:(Tryz.prog.info? 2).map (·.size)=some 1:=by kernel_rfl
theorem row_at2 {cur:Array Value} {ns:List Int} (h:cur.toList.take (ns.length * 1)=ints ns) (j:Nat) (hj:j < ns.length):cur[j]? = some (.int .i64 (ns.getD j 0)):=by
 have h1:(cur.toList.take (ns.length * 1))[j]? = (ints ns)[j]?:=by rw[h]
 rw[List.getElem?_take,if_pos (by omega)] at h1
 simpa [ints,hj] using h1
theorem row_cut {w:World} {g cap:Nat} {cur:Array Value} {r xs:List Int} (hb:Blk w g 2 cur) (hc:(r ++ xs).length<=cap) (hm:cap<=maxLen) (hs:cur.size=cap * 1) (ht:cur.toList.take ((r ++ xs).length * 1)=ints (r ++ xs)):
  w.ownsRow 0 2 1 (.slice (some ⟨g,0,none⟩) r.length cap) r.length (ints r):=by
 simp only[List.length_append] at hc ht;refine⟨by simp[ints],.inr ⟨g,cap,cur,rfl,Nat.zero_le _,hb,by omega,hm,hs,?_⟩⟩;have:(cur.toList.take ((r.length+xs.length) * 1)).take r.length=(ints (r ++ xs)).take r.length:=by rw[ht]
 rw[List.take_take,Nat.min_eq_left (by omega)] at this
 simpa [ints] using this
theorem takeM (w:World) (xb rb:Nat) (m:MS) (r xs:List Int) (h:MInv w xb rb m (r ++ xs)) (h1:1<=xs.length) (h3:xs.length<=3):
  Calls Tryz.prog 149 #[.pointer (some ⟨rb,0,none⟩),.int .i64 xs.length] w fun e w'=>∃ v',e=.returned (.tuple #[.agg #[.int .i64 (xs.getD 0 0),.int .i64 (xs.getD 1 0),.int .i64 (xs.getD 2 0)],.int .i64 0]) /\
   MInv w' xb rb { m with sv:=v' } r/\MTo xb rb w w' m { m with sv:=v' }:=by
 have hlen:=h.len;have k0:w.cell? ⟨rb,0,none⟩=some (.pointer (some ⟨xb,0,none⟩)):=h.rblk.cell rfl;have k1:w.cell? ⟨xb,0,none⟩=some m.sv:=h.xblk.cell rfl;have f1:=h.xblk.free 0;have hl1:=h.xblk.lt;have hl2:=h.rblk.lt;obtain⟨g0,cap,cur,hv,-,hg0,hnc,hcm,hcs,htake⟩:∃ g cap cur,m.sv=.slice (some ⟨g,0,none⟩) (r ++ xs).length cap/\0<=g/\w.heap[g]? = some (.cells cur 2 (0,0))/\(r ++ xs).length<=cap/\cap<=maxLen/\cur.size=cap * 1/\cur.toList.take ((r ++ xs).length * 1)=ints (r ++ xs):=by
  rcases h.srow.2 with⟨_,h0⟩|h0
  ·simp only[List.length_append] at h0;omega
  ·exact h0
 rw[hv] at k1;have hx0:Blk w xb 80 (marr m.bk (.slice (some ⟨g0,0,none⟩) (r.length+xs.length) cap) m.mem):=by have:=h.xblk;rw[hv,List.length_append] at this;exact this
 have HX0:Hid (Blk w xb 80 (marr m.bk (.slice (some ⟨g0,0,none⟩) (r.length+xs.length) cap) m.mem)):=hx0;clear hx0;have hb0:Blk w g0 2 cur:=hg0;have hxg:xb ≠ g0:=by rintro rfl;exact absurd (hb0.inj h.xblk).1 (by decide)
 have hrg:rb ≠ g0:=by rintro rfl;exact absurd (hb0.inj h.rblk).1 (by decide)
 have hglt:=hb0.lt;have HV:Hid (m.sv=.slice (some ⟨g0,0,none⟩) (r ++ xs).length cap):=hv;have HT:Hid (cur.toList.take ((r ++ xs).length * 1)=ints (r ++ xs)):=htake;have HC:Hid (cur.size=cap * 1):=hcs;have HB:Hid (Blk w g0 2 cur):=hb0;clear htake hcs hv hg0 hb0;have HM:Hid (cap<=maxLen):=hcm;unfold maxLen at hcm;simp only[List.length_append] at hlen hnc k1;obtain⟨W,hW⟩:∃ W,W=((w.alloc (.cells #[.int .i64 0,.int .i64 0,.int .i64 0] 195)).alloc (.cells #[.int .i64 0,.int .i64 0,.int .i64 0] 195)):=⟨_,rfl⟩;have HW:Hid (W=((w.alloc (.cells #[.int .i64 0,.int .i64 0,.int .i64 0] 195)).alloc (.cells #[.int .i64 0,.int .i64 0,.int .i64 0] 195))):=hW;have hsrc:∀ j v,(ints xs)[j]? = some v->W.cell? ((⟨g0,r.length,none⟩:Addr).add j)=some v:=by
  intro j v hj;have hjl:j < xs.length:=by have:=(List.getElem?_eq_some_iff.1 hj).1;simpa [ints] using this
  have e:(⟨g0,r.length,none⟩:Addr).add j=⟨g0,r.length+j,none⟩:=by unfold Addr.add;split <;> simp_all
  have hc:=((HB.out.alloc (.cells #[.int .i64 0,.int .i64 0,.int .i64 0] 195)).alloc (.cells #[.int .i64 0,.int .i64 0,.int .i64 0] 195)).cell (row_at2 HT.out (r.length+j) (by simp;omega));rw[e,hW,hc];simp[ints,hjl] at hj;rw[<-hj];simp[List.getD,hjl]
 have hcut:Blk W (w.heap.size+1) 195 z3.toArray:=by rw[hW];have:=Blk.new (w.alloc (.cells #[.int .i64 0,.int .i64 0,.int .i64 0] 195)) #[.int .i64 0,.int .i64 0,.int .i64 0] 195;rw[World.size_alloc] at this;exact this
 have HCU:Hid (Blk W (w.heap.size+1) 195 z3.toArray):=hcut;have HSR:Hid (∀ j v,(ints xs)[j]? = some v->W.cell? ((⟨g0,r.length,none⟩:Addr).add j)=some v):=hsrc;have h1c:Hid (∀ u∈ints xs,u.oneCell'=true):=by intro u hu;simp only[ints,List.mem_map] at hu;obtain⟨a,_,rfl⟩:=hu;rfl
 clear hW hcut hsrc;have b1:(r.length:Int)<=(r.length:Int)+(xs.length:Int):=by omega
 have b2:¬ cap=r.length:=by omega
 go_enter Tryz.func149,Tryz.ntmps149;go_wp2;rw[<-HW.out];have j0:W.cell? ⟨rb,0,none⟩=some (.pointer (some ⟨xb,0,none⟩)):=by rw[HW.out];exact ((h.rblk.alloc _).alloc _).cell rfl
 have j1:W.cell? ⟨xb,0,none⟩=some (.slice (some ⟨g0,0,none⟩) (r.length+xs.length) cap):=by rw[HW.out];exact ((HX0.out.alloc _).alloc _).cell rfl
 go_region_law (refine step_copy_splice rfl (.tmp 21) (.tmp 30) 74 74 rfl 2 Tryz.underlying74 Tryz.size2 _ _ 3 3 xs.length _ rfl rfl (w.heap.size+1) 0 z3 195 HCU.out (ints xs) (by show (ints xs).length=min xs.length 3;simp[ints];omega) (fun _=>⟨rfl,_,rfl,HSR.out⟩) (by simp[ints,z3];omega) h1c.out (w.heap.size+1) W (Below.refl _ _).drew (Nat.le_refl _) ?_;intro w4 hg4 hb4)
 have hb5:Below (w.heap.size+1) W w4:=hb4;have hA:Blk w4 (w.heap.size+1) 195 #[.int .i64 (xs.getD 0 0),.int .i64 (xs.getD 1 0),.int .i64 (xs.getD 2 0)]:=by have:=hg4.out;rw[splice_z3 xs h3] at this;exact this
 have hZ:Blk w4 w.heap.size 195 #[.int .i64 0,.int .i64 0,.int .i64 0]:=by
  refine Blk.same (w:=W) ?_ (hb5.block _ (by omega));rw[HW.out];exact (Blk.new w _ _).alloc _
 have hX:Blk w4 xb 80 (marr m.bk (.slice (some ⟨g0,0,none⟩) (r.length+xs.length) cap) m.mem):=by
  refine Blk.same (w:=W) ?_ (hb5.block _ (by omega));rw[HW.out];exact (HX0.out.alloc _).alloc _
 have hRb:Blk w4 rb 100 (rarr xb m.ov m.st m.dp):=by
  refine Blk.same (w:=W) ?_ (hb5.block _ (by omega));rw[HW.out];exact (h.rblk.alloc _).alloc _
 have hG:Blk w4 g0 2 cur:=by
  refine Blk.same (w:=W) ?_ (hb5.block _ (by omega));rw[HW.out];exact (HB.out.alloc _).alloc _
 have hO:w4.ownsRow 0 5 1 m.ov m.out.size (Lib.byteCells m.out.data.toList):=by
  have hk:Kp w w4 (fun _=>False):=by
   refine Kp.ofBelow ?_;have:Below w.heap.size w W:=by rw[HW.out];exact ((Below.refl _ _).alloc (Nat.le_refl _) _).alloc (by simp) _
   exact this.trans (hb5.mono (by omega))
  exact hk.row h.orow (by simp)
 have hK:Kp w w4 (fun _=>False):=by
  refine Kp.ofBelow ?_;have:Below w.heap.size w W:=by rw[HW.out];exact ((Below.refl _ _).alloc (Nat.le_refl _) _).alloc (by simp) _
  exact this.trans (hb5.mono (by omega))
 have p0:w4.cell? ⟨rb,0,none⟩=some (.pointer (some ⟨xb,0,none⟩)):=hRb.cell rfl;have p1:w4.cell? ⟨xb,0,none⟩=some (.slice (some ⟨g0,0,none⟩) (r.length+xs.length) cap):=hX.cell rfl;have p2:=hX.free 0;have a0:w4.cell? ⟨w.heap.size+1,0,none⟩=some (.int .i64 (xs.getD 0 0)):=hA.cell rfl;have a1:w4.cell? ⟨w.heap.size+1,1,none⟩=some (.int .i64 (xs.getD 1 0)):=hA.cell rfl;have a2:w4.cell? ⟨w.heap.size+1,2,none⟩=some (.int .i64 (xs.getD 2 0)):=hA.cell rfl;obtain⟨x0,hx0⟩:∃ x,x=xs.getD 0 0:=⟨_,rfl⟩;obtain⟨x1,hx1⟩:∃ x,x=xs.getD 1 0:=⟨_,rfl⟩;obtain⟨x2,hx2⟩:∃ x,x=xs.getD 2 0:=⟨_,rfl⟩;rw[<-hx0] at a0;rw[<-hx1] at a1;rw[<-hx2] at a2;have z0:w4.cell? ⟨w.heap.size,0,none⟩=some (.int .i64 0):=hZ.cell rfl;have z1:w4.cell? ⟨w.heap.size,1,none⟩=some (.int .i64 0):=hZ.cell rfl;have z2:w4.cell? ⟨w.heap.size,2,none⟩=some (.int .i64 0):=hZ.cell rfl;have y0:=hZ.free 0;have y1:=hZ.free 1;have y2:=hZ.free 2;have H0:Hid (x0=xs.getD 0 0):=hx0;have H1:Hid (x1=xs.getD 1 0):=hx1;have H2:Hid (x2=xs.getD 2 0):=hx2;clear hx0 hx1 hx2 hg4 hb4 j0 j1 k0 k1 f1;go_wp2
 go_region
 all_goals go_wp2
 have hZ5:Blk (((((w4.setCell ⟨xb,0,none⟩ (.slice (some ⟨g0,0,none⟩) r.length cap)).setCell ⟨w.heap.size,0,none⟩ (.int .i64 x0)).setCell ⟨w.heap.size,1,none⟩ (.int .i64 x1)).setCell ⟨w.heap.size,2,none⟩ (.int .i64 x2)).drew) w.heap.size 195 #[.int .i64 x0,.int .i64 x1,.int .i64 x2]:=
  ((((hZ.setOther (a:=⟨xb,0,none⟩) (by show w.heap.size ≠ xb;omega) _).set 0 _).set 1 _).set 2 _)
 have e0:=hZ5.cell (o:=0) (v:=.int .i64 x0) rfl;have e1:=hZ5.cell (o:=1) (v:=.int .i64 x1) rfl;have e2:=hZ5.cell (o:=2) (v:=.int .i64 x2) rfl;have hX5:=(((hX.set 0 (.slice (some ⟨g0,0,none⟩) r.length cap)).setOther (a:=⟨w.heap.size,0,none⟩) (by show xb ≠ w.heap.size;omega) (.int .i64 x0)).setOther (a:=⟨w.heap.size,1,none⟩) (by show xb ≠ w.heap.size;omega) (.int .i64 x1)).setOther (a:=⟨w.heap.size,2,none⟩) (by show xb ≠ w.heap.size;omega) (.int .i64 x2);have hR5:=(((hRb.setOther (a:=⟨xb,0,none⟩) h.ne.symm (.slice (some ⟨g0,0,none⟩) r.length cap)).setOther (a:=⟨w.heap.size,0,none⟩) (by show rb ≠ w.heap.size;omega) (.int .i64 x0)).setOther (a:=⟨w.heap.size,1,none⟩) (by show rb ≠ w.heap.size;omega) (.int .i64 x1)).setOther (a:=⟨w.heap.size,2,none⟩) (by show rb ≠ w.heap.size;omega) (.int .i64 x2);have hG5:=(((hG.setOther (a:=⟨xb,0,none⟩) hxg.symm (.slice (some ⟨g0,0,none⟩) r.length cap)).setOther (a:=⟨w.heap.size,0,none⟩) (by show g0 ≠ w.heap.size;omega) (.int .i64 x0)).setOther (a:=⟨w.heap.size,1,none⟩) (by show g0 ≠ w.heap.size;omega) (.int .i64 x1)).setOther (a:=⟨w.heap.size,2,none⟩) (by show g0 ≠ w.heap.size;omega) (.int .i64 x2);have hK5:Kp w ((((w4.setCell ⟨xb,0,none⟩ (.slice (some ⟨g0,0,none⟩) r.length cap)).setCell ⟨w.heap.size,0,none⟩ (.int .i64 x0)).setCell ⟨w.heap.size,1,none⟩ (.int .i64 x1)).setCell ⟨w.heap.size,2,none⟩ (.int .i64 x2)) (fun k=>k=xb):=
  ((((hK.mono (T:=fun k=>k=xb) (fun _ _ h=>h.elim)).set (a:=⟨xb,0,none⟩) (fun _=>rfl) _).set (a:=⟨w.heap.size,0,none⟩) (fun hh=>absurd hh (Nat.lt_irrefl _)) _).set (a:=⟨w.heap.size,1,none⟩) (fun hh=>absurd hh (Nat.lt_irrefl _)) _).set (a:=⟨w.heap.size,2,none⟩) (fun hh=>absurd hh (Nat.lt_irrefl _)) _
 have hO5:=hK5.row h.orow (fun k hk e=>own_ne h.orow h.xblk (by decide) (by rw[<-e];exact hk));have hrow:=row_cut hG5 (by simpa using hnc) HM.out HC.out HT.out;have hlen5:r.length<=32:=by omega
 clear hA hZ hX hRb hG hO hK p0 p1 p2 a0 a1 a2 z0 z1 z2 y0 y1 y2 hZ5;refine bodyPost_ret (v:=.tuple #[.agg #[.int .i64 x0,.int .i64 x1,.int .i64 x2],.int .i64 0]) (by simp[results,Tryz.results149,go_sem,e0,e1,e2]) rfl ?_;refine⟨.slice (some ⟨g0,0,none⟩) r.length cap,by rw[H0.out,H1.out,H2.out],⟨hX5,hR5,hrow,hO5,hlen5⟩,⟨(hK5.drew).mono (fun k _ e=>.inl (.inl e)),?_⟩⟩;rintro k (hk|hk)
 ·left;left;rw[HV.out];exact hk
 ·exact .inl (.inr hk)
end
section
open Go.RowKit
def fdiv (a b:Int):Int:=
 if (a.tmod b != 0)=true/\(!decide (a < 0) == decide (b < 0))=true then wrap64 (wrap64 (a.tdiv b) - 1) else wrap64 (a.tdiv b)
theorem fdiv_pos {a b:Int} (h1:(a.tmod b != 0)=true) (h2:(!decide (a < 0) == decide (b < 0))=true):fdiv a b=wrap64 (wrap64 (a.tdiv b) - 1):=by
 unfold fdiv;rw[if_pos ⟨h1,h2⟩]
theorem fdiv_neg {a b:Int} (h:(a.tmod b != 0)=false\/(!decide (a < 0) == decide (b < 0))=false):fdiv a b=wrap64 (a.tdiv b):=by
 unfold fdiv;rw[if_neg];rintro⟨h1,h2⟩;rcases h with h|h <;> simp_all
def sonum (b:Bool):Int:=if b then -1 else 0
theorem ret_int {k:IntKind} {a b:Int} (h:a=b):Ending.returned (.int k a)=.returned (.int k b):=by rw[h]
end
section
open Go.RowKit
theorem quotM (a b:Int) (w:World) (hb:¬ b=0):
  Calls Tryz.prog 103 #[.int .i64 a,.int .i64 b] w fun e w'=>e=.returned (.int .i64 (fdiv a b))/\w'=w:=by
 go_enter Tryz.func103,Tryz.ntmps103;go_wp2
 ·go_ret;exact⟨ret_int (fdiv_neg (.inl (by simp[*]))).symm,rfl⟩
 ·go_ret;exact⟨ret_int (fdiv_pos (by simp_all) (by simp_all)).symm,rfl⟩
 ·go_ret;exact⟨ret_int (fdiv_neg (by assumption)).symm,rfl⟩
theorem remM (a b:Int) (w:World) (hb:¬ b=0):
  Calls Tryz.prog 104 #[.int .i64 a,.int .i64 b] w fun e w'=>e=.returned (.int .i64 (wrap64 (a - wrap64 (b * fdiv a b))))/\w'=w:=by
 go_enter Tryz.func104,Tryz.ntmps104
 go_wp2_with (go_at_call 103;refine (quotM _ _ _ hb).mono ?_;rintro e w' ⟨rfl,rfl⟩)
 go_ret;exact⟨rfl,rfl⟩
theorem truthM (a:Bool) (w:World):
  Calls Tryz.prog 106 #[.bool a] w fun e w'=>e=.returned (.int .i64 (sonum a))/\w'=w:=by
 go_enter Tryz.func106,Tryz.ntmps106;go_wp2
 all_goals go_ret
 all_goals simp[sonum, *]
theorem isCellM (a:Int) (w:World):
  Calls Tryz.prog 66 #[.int .i64 a] w fun e w'=>e=.returned (.bool (decide (0<=a/\a < 16)))/\w'=w:=by
 go_enter Tryz.func66,Tryz.ntmps66;go_wp2
 all_goals go_ret
 all_goals (simp[*] <;> omega)
theorem addM (a b:Int) (w:World):
  Calls Tryz.prog 99 #[.int .i64 a,.int .i64 b] w fun e w'=>e=.returned (.int .i64 (wrap64 (a+b)))/\w'=w:=by
 go_enter Tryz.func99,Tryz.ntmps99;go_wp2;go_ret;exact⟨rfl,rfl⟩
theorem subM (a b:Int) (w:World):
  Calls Tryz.prog 100 #[.int .i64 a,.int .i64 b] w fun e w'=>e=.returned (.int .i64 (wrap64 (a - b)))/\w'=w:=by
 go_enter Tryz.func100,Tryz.ntmps100;go_wp2;go_ret;exact⟨rfl,rfl⟩
theorem mulM (a b:Int) (w:World):
  Calls Tryz.prog 101 #[.int .i64 a,.int .i64 b] w fun e w'=>e=.returned (.int .i64 (wrap64 (a * b)))/\w'=w:=by
 go_enter Tryz.func101,Tryz.ntmps101;go_wp2;go_ret;exact⟨rfl,rfl⟩
theorem eqM (a b:Int) (w:World):
  Calls Tryz.prog 105 #[.int .i64 a,.int .i64 b] w fun e w'=>e=.returned (.int .i64 (sonum (a == b)))/\w'=w:=by
 go_enter Tryz.func105,Tryz.ntmps105
 go_wp2_with (go_at_call 106;refine (truthM _ _).mono ?_;rintro e w' ⟨rfl,rfl⟩)
 go_ret;exact⟨rfl,rfl⟩
theorem ltM (a b:Int) (w:World):
  Calls Tryz.prog 107 #[.int .i64 a,.int .i64 b] w fun e w'=>e=.returned (.int .i64 (sonum (decide (a < b))))/\w'=w:=by
 go_enter Tryz.func107,Tryz.ntmps107
 go_wp2_with (go_at_call 106;refine (truthM _ _).mono ?_;rintro e w' ⟨rfl,rfl⟩)
 go_ret;exact⟨rfl,rfl⟩
theorem kindPlain (a:Int) (w:World):
  Calls Tryz.prog 71 #[.int .i64 a] w fun e w'=>e=.returned (.bool (decide (2<=a/\a<=17)))/\w'=w:=by
 go_enter Tryz.func71,Tryz.ntmps71;go_wp2
 all_goals go_ret
 all_goals (simp[*] <;> omega)
end
section
open Go.RowKit
def tk (ns:List Int) (n j:Nat):Int:=if j < n then ns.getD (ns.length - 1 - j) 0 else 0
end
section
open Go.RowKit
structure Res where
 e:Int
 rs:List Int
 mem:Nat->Int
 out:ByteArray
end
section
open Go.RowKit
theorem nDigits_le:∀ (k u:Nat),u < 10 ^ (k+1)->Lib.nDigits u<=k+1
 | 0,u,h=>by rw[Lib.nDigits_small (by simpa using h)];omega
 | k+1,u,h=>by
  by_cases hu:u < 10
  ·rw[Lib.nDigits_small hu];omega
  ·rw[Lib.nDigits_big hu];have:=nDigits_le k (u / 10) (by rw[Nat.pow_succ] at h;omega);omega
def laid (m:Nat):List UInt8:=if m < 10 then [] else Lib.decDigits (m / 10)
end
section
open Go.RowKit
def dot (a:Int):ByteArray:=⟨(Lib.itoa a ++ [32]).toArray⟩
theorem itoa_len (a:Int) (h0:-9223372036854775808<=a) (h1:a<=9223372036854775807):(Lib.itoa a).length<=21:=by
 unfold Lib.itoa
 split
 ·simp only[List.length_cons];rw[Lib.decDigits_length];have:=nDigits_le 19 a.natAbs (by omega);omega
 ·rw[Lib.decDigits_length];have:=nDigits_le 19 a.toNat (by omega);omega
def prt (s:RS) (r:List Int) (t:ByteArray):Res:=if 300 < s.out.size+t.size then ⟨11,[],s.mem,s.out⟩ else ⟨0,r,s.mem,s.out ++ t⟩
def chR (a:Int):ByteArray:=⟨#[UInt8.ofNat (wrap64 (wrap64 (32+a) - wrap64 (95 * fdiv a 95)) % 256).toNat]⟩
end
end Go.Proofs.YteainaiebcphlaaGreatDoor
