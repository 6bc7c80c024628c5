import Derived.Test.YteainaiebcphlaaGreatDoorQ1
import Derived.Test.YteainaiebcphlaaGreatDoorQ2
import Derived.Test.YteainaiebcphlaaGreatDoorQShelf
import Derived.Deep.RegionWith
namespace Go.Proofs.YteainaiebcphlaaGreatDoor
set_option maxRecDepth 1000000
set_option maxHeartbeats 4000000
set_option linter.all false
open Go.Proofs.Tryz
open Go.RowKit
theorem sF (w:World)(xb rb:Nat)(m:MS)(ns:List Int)(ao:Option Addr)(n cap:Nat)(h:aW w xb rb m ns)(ho:m.out.size<=300)(hn:n<=1000)(hl:300<m.out.size+n):
  Calls prog 153 #[.pointer (some ⟨rb,0,none⟩),.slice ao n cap] w λe w'=>e=.returned (.int .i64 11)/\w'=w:=by
 obtain⟨bo,c0,hv⟩:=iu h.dY;have k1:w.cell? ⟨rb,1,none⟩=some m.ov:=h.cF.cell rfl;rw[hv] at k1;clear hv;go_enter func153,ntmps153;go_wp2;go_ret;exact⟨rfl,rfl⟩
theorem aW.printed {w w1:World}{xb rb:Nat}{m:MS}{ns:List Int}{t:ByteArray}{v':Value}(h:aW w xb rb m ns)(hown:w1.ownsRow 0 5 1 v' (m.out.size+t.size) (Lib.byteCells m.out.data.toList++Lib.byteCells t.data.toList))(hg:w.grownBy w1 m.ov.ownBlock)(hnx:∀k,own v' k->own m.ov k\/w.heap.size<=k):
  aW (w1.setCell ⟨rb,1,none⟩ v') xb rb {m with ov:=v',out:=m.out++t} ns/\gL xb rb w (w1.setCell ⟨rb,1,none⟩ v') m {m with ov:=v',out:=m.out++t}/\aC w1 rb 100 (DR xb m.ov m.st m.dp):=by
 have hx1:aC w1 xb 80 (nW m.bk m.sv m.mem):=h.bJ.same (hg.block xb h.bJ.lt (λe=>aH h.dY h.bJ (by decide) e.symm));have hr1:aC w1 rb 100 (DR xb m.ov m.st m.dp):=h.cF.same (hg.block rb h.cF.lt (λe=>aH h.dY h.cF (by decide) e.symm));have hs1:w1.ownsRow 0 2 1 m.sv ns.length (bD ns):=h.dc.kept hg (by
  cases hv:m.sv.ownBlock with
  | none=>exact .inl rfl
  | some k=>right;intro e;exact mZ h.dc h.dY (by decide) hv e.symm)
 refine⟨⟨hx1.setOther h.ne _,hr1.set 1 _,ownsRow_setCell_other hs1 (aH hs1 hr1 (by decide)) _,?_,h.len⟩,⟨?_,?_⟩,hr1⟩
 ·have:=ownsRow_setCell_other hown (a:=⟨rb,1,none⟩) (aH hown hr1 (by decide)) v';have e1:(m.out++t).size=m.out.size+t.size:=ByteArray.size_append;have e2:(m.out++t).data.toList=m.out.data.toList++t.data.toList:=by rw[ByteArray.data_append,Array.toList_append]
  show World.ownsRow _ 0 5 1 v' (m.out++t).size (Lib.byteCells (m.out++t).data.toList);rw[e1,e2]
  simpa [Lib.byteCells] using this
 ·exact((Kp.refl _ _).grown hg (λk _ e=>.inr (.inr e))).set (λ_=>.inl (.inr rfl)) _
 ·rintro k (hk|hk)
  ·exact .inl (.inl hk)
  ·rcases hnx k hk with h1|h1
   ·exact .inl (.inr h1)
   ·exact .inr h1
theorem xU (w:World)(xb rb:Nat)(m:MS)(ns:List Int)(g cap:Nat)(t:ByteArray)(h:aW w xb rb m ns)(hpos:0<t.size)(hl:m.out.size+t.size<=300)(hnews:∀j u,(Lib.byteCells t.data.toList)[j]? = some u->w.cell? ((⟨g,0,none⟩:Addr).add j)=some u):
  Calls prog 153 #[.pointer (some ⟨rb,0,none⟩),.slice (some ⟨g,0,none⟩) t.size cap] w λe w'=>e=.returned (.int .i64 0)/\∃v',aW w' xb rb {m with ov:=v',out:=m.out++t} ns/\gL xb rb w w' m {m with ov:=v',out:=m.out++t}:=by
 obtain⟨bo,c0,hv⟩:=iu h.dY;have k1:w.cell? ⟨rb,1,none⟩=some m.ov:=h.cF.cell rfl;have hr:=h.dY;rw[hv] at k1 hr;have HV:Hid (m.ov=.slice bo m.out.size c0):=hv;clear hv;have HN:Hid (∀j u,(Lib.byteCells t.data.toList)[j]? = some u->w.cell? ((⟨g,0,none⟩:Addr).add j)=some u):=hnews;clear hnews;have h1c:Hid (∀u∈Lib.byteCells t.data.toList,u.oneCell'=true):=by intro u hu;simp only[Lib.byteCells,List.mem_map] at hu;obtain⟨a,_,rfl⟩:=hu;rfl
 have hlb:Hid ((Lib.byteCells t.data.toList).length=t.size*1):=by unfold Hid;rw[Lib.byteCells_length,Nat.mul_one];rfl
 obtain⟨i0,hi,hz0,hz1,hz2⟩:=info_parts Tryz.N6;go_enter func153,ntmps153
 go_wp2_with (first
  | (at_builtin;refine aP _ rfl _ _ 85 rfl 5 i0 (.int .u8 0) 1 1 underlying85 hi hz0 hz1 hz2 rfl (by decide) _ _ _ rfl hr ⟨g,0,none⟩ _ _ (Lib.byteCells t.data.toList) rfl hlb.out HN.out h1c.out ?c3 ?c4 ?_)
  | go_in)
 case c3=>unfold maxLen;omega
 case c4=>omega
 intro v' w1 hown hgrow hnx;obtain⟨g',cap',rfl⟩:=Joins.ownsRow_form hown (by omega);have HG:=h.printed hown (by rw[HV.out];exact hgrow) (by rw[HV.out];exact hnx);have q1:w1.cell? ⟨rb,1,none⟩=some m.ov:=HG.2.2.cell rfl;have q2:=HG.2.2.free 1;clear hown hgrow hnx;go_wp2;go_ret;exact⟨rfl,_,HG.1,HG.2.1⟩
theorem MP (w : World) (a : Int) (h0 : -9223372036854775808 ≤ a) (h1 : a ≤ 9223372036854775807) (ht : Lib.TabIs prog w "internal/strconv.uint64pow10" .u64 Lib.pow10Tab) :
  Calls prog 110 #[.int .i64 a] w λe w'=>∃g cap,e=.returned (.slice (some ⟨g,0,none⟩) (dot a).size cap)/\(∀j u,(Lib.byteCells (dot a).data.toList)[j]? = some u->w'.cell? ((⟨g,0,none⟩:Addr).add j)=some u)/\Kp w w' (λ_=>False):=by
 have hC:=Tryz.strconv_AppendInt_10 w.heap.size 0 a h0 h1 (.slice none 0 0) [] w (World.ownsRow_nil _ _ _ _) (ah _) (by omega) (Lib.tabBelow_of_tabIs ht);have hll:=pS a h0 h1;have hds:(dot a).size=(Lib.itoa a).length+1:=by show(dot a).data.size=_;simp[dot]
 have HD:Hid ((dot a).size=(Lib.itoa a).length+1):=hds;have HE:Hid ((dot a).data.toList=Lib.itoa a++[32]):=by unfold Hid;simp[dot]
 have HC:Hid (Calls prog 154 #[.slice none 0 0,.int .i64 a,.int .i64 10] w λe w'=>∃v',e=.returned v'/\w'.ownsRow w.heap.size 5 1 v' (0+(Lib.itoa a).length) ([]++Lib.byteCells (Lib.itoa a))/\Below w.heap.size w w'/\Lib.OthersKept 5 none w w'):=hC;clear hC ht h0 h1 hds;obtain⟨i0,hi,hz0,hz1,hz2⟩:=info_parts Tryz.N6;go_enter func110,ntmps110
 go_wp2_with fail
 refine HC.out.mono ?_;rintro e w1 ⟨v1,rfl,hown,hb,_⟩;simp only[Nat.zero_add,List.nil_append] at hown;obtain⟨ao,jd,rfl⟩:=iu hown;have hsz:=hb.size
 go_wp2_with (first
  | (at_builtin;refine wpList_append_own _ rfl _ _ 85 rfl w.heap.size 5 i0 (.int .u8 0) 1 1 underlying85 hi hz0 hz1 hz2 rfl (by decide) _ _ _ rfl (hown.alloc _) ⟨w1.heap.size,0,none⟩ 1 1 [.int .u8 32] rfl rfl ?c1 ?c2 ?c3 ?c4 ?c5 ?_)
  | go_in)
 case c1=>intro j u hj;match j,hj with|0,hj=>simp at hj;subst hj;simp[Addr.add]
 case c2=>intro u hu;simp at hu;subst hu;rfl
 case c3=>unfold maxLen;omega
 case c4=>omega
 case c5=>simp;omega
 intro v2 w2 hown2 hgrow _;obtain⟨g,cap,rfl⟩:=Joins.ownsRow_form hown2 (by omega);have hk:Kp w w2 (λ_=>False):=((Kp.mY hb).alloc _).grown hgrow (λk hk e=>by have:=(hown.lt k e).1;omega);have hc:=hown2.cells (g:=g) rfl;have G7:Hid (∀j u,(Lib.byteCells (Lib.itoa a)++[Value.int .u8 32])[j]? = some u->w2.cell? ((⟨g,0,none⟩:Addr).add j)=some u):=hc;clear hown hown2 hgrow hc hb;go_wp2;go_ret;refine⟨g,cap,by rw[HD.out];rfl,?_,hk⟩;rw[HE.out];intro j u hj;refine G7.out j u ?_;rw[<-hj];simp[Lib.byteCells]
theorem Wj (a:Int):(wrap64 (32+wrap64 (a-wrap64 (95*jZ a 95)))) % 256=(wrap64 (wrap64 (32+a)-wrap64 (95*jZ a 95))) % 256:=by
 unfold wrap64;omega
theorem MQ (a:Int):Lib.byteCells (BV a).data.toList=[.int .u8 (wrap64 (32+wrap64 (a-wrap64 (95*jZ a 95))) % 256)]:=by
 rw[Wj];unfold BV Lib.byteCells;generalize wrap64 (wrap64 (32+a)-wrap64 (95*jZ a 95))=x;have h:((UInt8.ofNat (x % 256).toNat).toNat:Int)=x % 256:=by
  rw[UInt8.toNat_ofNat'];omega
 simp only[List.map_cons,List.map_nil,h]
theorem Wk (w:World)(a:Int):
  Calls prog 111 #[.int .i64 a] w λe w'=>∃g cap,e=.returned (.slice (some ⟨g,0,none⟩) (BV a).size cap)/\(∀j u,(Lib.byteCells (BV a).data.toList)[j]? = some u->w'.cell? ((⟨g,0,none⟩:Addr).add j)=some u)/\Kp w w' (λ_=>False):=by
 go_enter func111,ntmps111
 go_wp2_with fail
 refine(Ti _ _ _ (by decide)).mono ?_;rintro e w' ⟨rfl,hw⟩;rw[hw];clear hw;go_wp2;go_ret;refine⟨_,_,rfl,?_,(Kp.refl _ _).alloc _⟩;intro j u hj;rw[MQ] at hj
 match j,hj with
 | 0,hj=>simp at hj;subst hj;simp[Addr.add]
def bL (w w':World)(xb rb:Nat)(m:MS)(R:sN):Prop:=
 ∃m' ns,aW w' xb rb m' ns/\gL xb rb w w' m m'/\m'.mem=R.mem/\m'.out=R.out/\(m'.st,m'.dp,m'.bk)=(m.st,m.dp,m.bk)/\(R.e=0->ns=R.rs.reverse)
theorem bL.err {w w1:World}{xb rb:Nat}{m m1:MS}{ns:List Int}(ht:gL xb rb w w1 m m1)(hi:aW w1 xb rb m1 ns)(hs:(m1.st,m1.dp,m1.bk)=(m.st,m.dp,m.bk))(hm:m1.mem=m.mem)(ho:m1.out=m.out){e:Int}(he:e≠0):bL w w1 xb rb m ⟨e,[],m.mem,m.out⟩:=
 ⟨m1,ns,hi,ht,hm,ho,hs,λh=>ax h he⟩
theorem u9 (w:World)(xb rb:Nat)(m:MS)(a:Int)(r:List Int)(h:aW w xb rb m (a::r).reverse):
  Calls prog 149 #[.pointer (some ⟨rb,0,none⟩),.int .i64 1] w λe w'=>∃v',e=.returned (.tuple #[.agg #[.int .i64 a,.int .i64 0,.int .i64 0],.int .i64 0])/\aW w' xb rb {m with sv:=v'} r.reverse/\gL xb rb w w' m {m with sv:=v'}:=
 Gh w xb rb m r.reverse [a] (by simpa using h) (by simp) (by simp)
theorem jT (w:World)(xb rb:Nat)(m:MS)(b a:Int)(r:List Int)(h:aW w xb rb m (b::a::r).reverse):
  Calls prog 149 #[.pointer (some ⟨rb,0,none⟩),.int .i64 2] w λe w'=>∃v',e=.returned (.tuple #[.agg #[.int .i64 a,.int .i64 b,.int .i64 0],.int .i64 0])/\aW w' xb rb {m with sv:=v'} r.reverse/\gL xb rb w w' m {m with sv:=v'}:=
 Gh w xb rb m r.reverse [a,b] (by simpa using h) (by simp) (by simp)
theorem qQ (g j:Nat):(⟨g,0,none⟩:Addr).add j=⟨g,j,none⟩:=by unfold Addr.add;split <;> simp_all
theorem p8 (w:World)(xb rb:Nat)(m:MS)(r:List Int)(n:Int)(g cap:Nat)(h:aW w xb rb m r.reverse)(hl:r.length<32)(hc:w.cell? ⟨g,0,none⟩=some (.int .i64 n)):
  Calls prog 96 #[.pointer (some ⟨rb,0,none⟩),.slice (some ⟨g,0,none⟩) 1 cap] w λe w'=>e=.returned (.int .i64 0)/\∃v',aW w' xb rb {m with sv:=v'} (n::r).reverse/\gL xb rb w w' m {m with sv:=v'}:=by
 refine(CU w xb rb m r.reverse [n] g cap h (by simp;omega) ?_ (by simp)).mono ?_
 ·intro j u hj
  match j,hj with
  | 0,hj=>simp[bD] at hj;subst hj;rw[qQ];exact hc
 ·rintro e w' ⟨rfl,v',hi,ht⟩;exact⟨rfl,v',by rw[List.reverse_cons];exact hi,ht⟩
theorem Rq (w:World)(xb rb fb:Nat)(m:MS)(b a:Int)(r:List Int)(h:aW w xb rb m (b::a::r).reverse)(hf:aC w fb 150 #[.func (.func 99) #[] #[]]):
  Calls prog 148 #[.pointer (some ⟨rb,0,none⟩),.pointer (some ⟨fb,0,none⟩)] w λe w'=>e=.returned (.int .i64 0)/\bL w w' xb rb m ⟨0,wrap64 (a+b)::r,m.mem,m.out⟩:=by
 have hl:=h.len;simp only[au,aq] at hl;go_enter func148,ntmps148
 go_wp2_with fail
 refine(jT _ _ _ _ _ _ _ h).mono ?_;rintro e w1 ⟨v',rfl,hi1,ht1⟩;have cY:=ht1.blk hf (by rintro (h1|h1);exact ax (hf.inj (h1▸h.bJ)).1 (by decide);exact ax (hf.inj (h1▸h.cF)).1 (by decide)) (by rintro (h1|h1);exact aH h.dc hf (by decide) h1;exact aH h.dY hf (by decide) h1);have c1:w1.cell? ⟨fb,0,none⟩=some (.func (.func 99) #[] #[]):=cY.cell rfl;have hfl:=cY.lt
 go_wp2_with fail
 refine(Yu _ _ _).mono ?_;rintro e w' ⟨rfl,hw⟩;rw[hw];clear hw
 go_wp2_with fail
 refine(p8 _ _ _ _ r (wrap64 (a+b)) _ _ ((hi1.alloc _).alloc _) (by omega) (by simp)).mono ?_;rintro e w2 ⟨rfl,v2,hi2,ht2⟩;go_wp2;go_ret;exact⟨rfl,_,_,hi2,ht1.trans ((gL.kp (((Kp.refl _ _).alloc _).alloc _)).trans ht2),rfl,rfl,rfl,λ_=>rfl⟩
theorem Rs (w:World)(xb rb fb:Nat)(m:MS)(b a:Int)(r:List Int)(h:aW w xb rb m (b::a::r).reverse)(hf:aC w fb 150 #[.func (.func 100) #[] #[]]):
  Calls prog 148 #[.pointer (some ⟨rb,0,none⟩),.pointer (some ⟨fb,0,none⟩)] w λe w'=>e=.returned (.int .i64 0)/\bL w w' xb rb m ⟨0,wrap64 (a-b)::r,m.mem,m.out⟩:=by
 have hl:=h.len;simp only[au,aq] at hl;go_enter func148,ntmps148
 go_wp2_with fail
 refine(jT _ _ _ _ _ _ _ h).mono ?_;rintro e w1 ⟨v',rfl,hi1,ht1⟩;have cY:=ht1.blk hf (by rintro (h1|h1);exact ax (hf.inj (h1▸h.bJ)).1 (by decide);exact ax (hf.inj (h1▸h.cF)).1 (by decide)) (by rintro (h1|h1);exact aH h.dc hf (by decide) h1;exact aH h.dY hf (by decide) h1);have c1:w1.cell? ⟨fb,0,none⟩=some (.func (.func 100) #[] #[]):=cY.cell rfl;have hfl:=cY.lt
 go_wp2_with fail
 refine(Yv _ _ _).mono ?_;rintro e w' ⟨rfl,hw⟩;rw[hw];clear hw
 go_wp2_with fail
 refine(p8 _ _ _ _ r (wrap64 (a-b)) _ _ ((hi1.alloc _).alloc _) (by omega) (by simp)).mono ?_;rintro e w2 ⟨rfl,v2,hi2,ht2⟩;go_wp2;go_ret;exact⟨rfl,_,_,hi2,ht1.trans ((gL.kp (((Kp.refl _ _).alloc _).alloc _)).trans ht2),rfl,rfl,rfl,λ_=>rfl⟩
theorem Rt (w:World)(xb rb fb:Nat)(m:MS)(b a:Int)(r:List Int)(h:aW w xb rb m (b::a::r).reverse)(hf:aC w fb 150 #[.func (.func 101) #[] #[]]):
  Calls prog 148 #[.pointer (some ⟨rb,0,none⟩),.pointer (some ⟨fb,0,none⟩)] w λe w'=>e=.returned (.int .i64 0)/\bL w w' xb rb m ⟨0,wrap64 (a*b)::r,m.mem,m.out⟩:=by
 have hl:=h.len;simp only[au,aq] at hl;go_enter func148,ntmps148
 go_wp2_with fail
 refine(jT _ _ _ _ _ _ _ h).mono ?_;rintro e w1 ⟨v',rfl,hi1,ht1⟩;have cY:=ht1.blk hf (by rintro (h1|h1);exact ax (hf.inj (h1▸h.bJ)).1 (by decide);exact ax (hf.inj (h1▸h.cF)).1 (by decide)) (by rintro (h1|h1);exact aH h.dc hf (by decide) h1;exact aH h.dY hf (by decide) h1);have c1:w1.cell? ⟨fb,0,none⟩=some (.func (.func 101) #[] #[]):=cY.cell rfl;have hfl:=cY.lt
 go_wp2_with fail
 refine(abm _ _ _).mono ?_;rintro e w' ⟨rfl,hw⟩;rw[hw];clear hw
 go_wp2_with fail
 refine(p8 _ _ _ _ r (wrap64 (a*b)) _ _ ((hi1.alloc _).alloc _) (by omega) (by simp)).mono ?_;rintro e w2 ⟨rfl,v2,hi2,ht2⟩;go_wp2;go_ret;exact⟨rfl,_,_,hi2,ht1.trans ((gL.kp (((Kp.refl _ _).alloc _).alloc _)).trans ht2),rfl,rfl,rfl,λ_=>rfl⟩
theorem Wl (w:World)(xb rb fb:Nat)(m:MS)(b a:Int)(r:List Int)(h:aW w xb rb m (b::a::r).reverse)(hf:aC w fb 150 #[.func (.func 105) #[] #[]]):
  Calls prog 148 #[.pointer (some ⟨rb,0,none⟩),.pointer (some ⟨fb,0,none⟩)] w λe w'=>e=.returned (.int .i64 0)/\bL w w' xb rb m ⟨0,jr (a==b)::r,m.mem,m.out⟩:=by
 have hl:=h.len;simp only[au,aq] at hl;go_enter func148,ntmps148
 go_wp2_with fail
 refine(jT _ _ _ _ _ _ _ h).mono ?_;rintro e w1 ⟨v',rfl,hi1,ht1⟩;have cY:=ht1.blk hf (by rintro (h1|h1);exact ax (hf.inj (h1▸h.bJ)).1 (by decide);exact ax (hf.inj (h1▸h.cF)).1 (by decide)) (by rintro (h1|h1);exact aH h.dc hf (by decide) h1;exact aH h.dY hf (by decide) h1);have c1:w1.cell? ⟨fb,0,none⟩=some (.func (.func 105) #[] #[]):=cY.cell rfl;have hfl:=cY.lt
 go_wp2_with fail
 refine(eqM _ _ _).mono ?_;rintro e w' ⟨rfl,hw⟩;rw[hw];clear hw
 go_wp2_with fail
 refine(p8 _ _ _ _ r (jr (a==b)) _ _ ((hi1.alloc _).alloc _) (by omega) (by simp)).mono ?_;rintro e w2 ⟨rfl,v2,hi2,ht2⟩;go_wp2;go_ret;exact⟨rfl,_,_,hi2,ht1.trans ((gL.kp (((Kp.refl _ _).alloc _).alloc _)).trans ht2),rfl,rfl,rfl,λ_=>rfl⟩
theorem Wm (w:World)(xb rb fb:Nat)(m:MS)(b a:Int)(r:List Int)(h:aW w xb rb m (b::a::r).reverse)(hf:aC w fb 150 #[.func (.func 107) #[] #[]]):
  Calls prog 148 #[.pointer (some ⟨rb,0,none⟩),.pointer (some ⟨fb,0,none⟩)] w λe w'=>e=.returned (.int .i64 0)/\bL w w' xb rb m ⟨0,jr (decide (a<b))::r,m.mem,m.out⟩:=by
 have hl:=h.len;simp only[au,aq] at hl;go_enter func148,ntmps148
 go_wp2_with fail
 refine(jT _ _ _ _ _ _ _ h).mono ?_;rintro e w1 ⟨v',rfl,hi1,ht1⟩;have cY:=ht1.blk hf (by rintro (h1|h1);exact ax (hf.inj (h1▸h.bJ)).1 (by decide);exact ax (hf.inj (h1▸h.cF)).1 (by decide)) (by rintro (h1|h1);exact aH h.dc hf (by decide) h1;exact aH h.dY hf (by decide) h1);have c1:w1.cell? ⟨fb,0,none⟩=some (.func (.func 107) #[] #[]):=cY.cell rfl;have hfl:=cY.lt
 go_wp2_with fail
 refine(ltM _ _ _).mono ?_;rintro e w' ⟨rfl,hw⟩;rw[hw];clear hw
 go_wp2_with fail
 refine(p8 _ _ _ _ r (jr (decide (a<b))) _ _ ((hi1.alloc _).alloc _) (by omega) (by simp)).mono ?_;rintro e w2 ⟨rfl,v2,hi2,ht2⟩;go_wp2;go_ret;exact⟨rfl,_,_,hi2,ht1.trans ((gL.kp (((Kp.refl _ _).alloc _).alloc _)).trans ht2),rfl,rfl,rfl,λ_=>rfl⟩
theorem oC (w:World)(xb rb fb:Nat)(m:MS)(ns:List Int)(h:aW w xb rb m ns)(hl:ns.length<2):
  Calls prog 148 #[.pointer (some ⟨rb,0,none⟩),.pointer (some ⟨fb,0,none⟩)] w λe w'=>e=.returned (.int .i64 6)/\bL w w' xb rb m ⟨6,[],m.mem,m.out⟩:=by
 go_enter func148,ntmps148
 go_wp2_with fail
 refine(fU _ _ _ _ _ _ h (by omega) (by omega)).mono ?_;rintro e w1 ⟨rfl,hk⟩;go_wp2;go_ret;exact⟨rfl,bL.err (gL.kp (hk.alloc _)) (h.kp (hk.alloc _)) rfl rfl rfl (by decide)⟩
theorem Dz (w:World)(xb rb fb:Nat)(m:MS)(ns:List Int)(h:aW w xb rb m ns)(hl:ns.length<2):
  Calls prog 150 #[.pointer (some ⟨rb,0,none⟩),.pointer (some ⟨fb,0,none⟩)] w λe w'=>e=.returned (.int .i64 6)/\bL w w' xb rb m ⟨6,[],m.mem,m.out⟩:=by
 go_enter func150,ntmps150
 go_wp2_with fail
 refine(fU _ _ _ _ _ _ h (by omega) (by omega)).mono ?_;rintro e w1 ⟨rfl,hk⟩;go_wp2;go_ret;exact⟨rfl,bL.err (gL.kp (hk.alloc _)) (h.kp (hk.alloc _)) rfl rfl rfl (by decide)⟩
theorem JA (w:World)(xb rb fb:Nat)(m:MS)(ns:List Int)(h:aW w xb rb m ns)(hl:ns.length<1):
  Calls prog 152 #[.pointer (some ⟨rb,0,none⟩),.pointer (some ⟨fb,0,none⟩)] w λe w'=>e=.returned (.int .i64 6)/\bL w w' xb rb m ⟨6,[],m.mem,m.out⟩:=by
 go_enter func152,ntmps152
 go_wp2_with fail
 refine(fU _ _ _ _ _ _ h (by omega) (by omega)).mono ?_;rintro e w1 ⟨rfl,hk⟩;go_wp2;go_ret;exact⟨rfl,bL.err (gL.kp (hk.alloc _)) (h.kp (hk.alloc _)) rfl rfl rfl (by decide)⟩
theorem Wn (w:World)(xb rb:Nat)(m:MS)(ns:List Int)(h:aW w xb rb m ns)(hl:ns.length<1):
  Calls prog 112 #[.pointer (some ⟨rb,0,none⟩)] w λe w'=>e=.returned (.int .i64 6)/\bL w w' xb rb m ⟨6,[],m.mem,m.out⟩:=by
 go_enter func112,ntmps112
 go_wp2_with fail
 refine(fU _ _ _ _ _ _ h (by omega) (by omega)).mono ?_;rintro e w1 ⟨rfl,hk⟩;go_wp2;go_ret;exact⟨rfl,bL.err (gL.kp (hk.alloc _)) (h.kp (hk.alloc _)) rfl rfl rfl (by decide)⟩
theorem O4 (w:World)(xb rb:Nat)(m:MS)(ns:List Int)(h:aW w xb rb m ns)(hl:ns.length<2):
  Calls prog 113 #[.pointer (some ⟨rb,0,none⟩)] w λe w'=>e=.returned (.int .i64 6)/\bL w w' xb rb m ⟨6,[],m.mem,m.out⟩:=by
 go_enter func113,ntmps113
 go_wp2_with fail
 refine(fU _ _ _ _ _ _ h (by omega) (by omega)).mono ?_;rintro e w1 ⟨rfl,hk⟩;go_wp2;go_ret;exact⟨rfl,bL.err (gL.kp (hk.alloc _)) (h.kp (hk.alloc _)) rfl rfl rfl (by decide)⟩
theorem Ru (w:World)(xb rb fb:Nat)(m:MS)(b a:Int)(r:List Int)(h:aW w xb rb m (b::a::r).reverse)(hf:aC w fb 150 #[.func (.func 103) #[] #[]])(hb:¬b=0):
  Calls prog 150 #[.pointer (some ⟨rb,0,none⟩),.pointer (some ⟨fb,0,none⟩)] w λe w'=>e=.returned (.int .i64 0)/\bL w w' xb rb m ⟨0,jZ a b::r,m.mem,m.out⟩:=by
 have hl:=h.len;simp only[au,aq] at hl;go_enter func150,ntmps150
 go_wp2_with fail
 refine(jT _ _ _ _ _ _ _ h).mono ?_;rintro e w1 ⟨v',rfl,hi1,ht1⟩;have cY:=ht1.blk hf (by rintro (h1|h1);exact ax (hf.inj (h1▸h.bJ)).1 (by decide);exact ax (hf.inj (h1▸h.cF)).1 (by decide)) (by rintro (h1|h1);exact aH h.dc hf (by decide) h1;exact aH h.dY hf (by decide) h1);have c1:w1.cell? ⟨fb,0,none⟩=some (.func (.func 103) #[] #[]):=cY.cell rfl;have hfl:=cY.lt
 go_wp2_with fail
 refine(N7 _ _ _ hb).mono ?_;rintro e w' ⟨rfl,hw⟩;rw[hw];clear hw
 go_wp2_with fail
 refine(p8 _ _ _ _ r (jZ a b) _ _ ((hi1.alloc _).alloc _) (by omega) (by simp)).mono ?_;rintro e w2 ⟨rfl,v2,hi2,ht2⟩;go_wp2;go_ret;exact⟨rfl,_,_,hi2,ht1.trans ((gL.kp (((Kp.refl _ _).alloc _).alloc _)).trans ht2),rfl,rfl,rfl,λ_=>rfl⟩
theorem Rv (w:World)(xb rb fb:Nat)(m:MS)(b a:Int)(r:List Int)(h:aW w xb rb m (b::a::r).reverse)(hf:aC w fb 150 #[.func (.func 104) #[] #[]])(hb:¬b=0):
  Calls prog 150 #[.pointer (some ⟨rb,0,none⟩),.pointer (some ⟨fb,0,none⟩)] w λe w'=>e=.returned (.int .i64 0)/\bL w w' xb rb m ⟨0,wrap64 (a-wrap64 (b*jZ a b))::r,m.mem,m.out⟩:=by
 have hl:=h.len;simp only[au,aq] at hl;go_enter func150,ntmps150
 go_wp2_with fail
 refine(jT _ _ _ _ _ _ _ h).mono ?_;rintro e w1 ⟨v',rfl,hi1,ht1⟩;have cY:=ht1.blk hf (by rintro (h1|h1);exact ax (hf.inj (h1▸h.bJ)).1 (by decide);exact ax (hf.inj (h1▸h.cF)).1 (by decide)) (by rintro (h1|h1);exact aH h.dc hf (by decide) h1;exact aH h.dY hf (by decide) h1);have c1:w1.cell? ⟨fb,0,none⟩=some (.func (.func 104) #[] #[]):=cY.cell rfl;have hfl:=cY.lt
 go_wp2_with fail
 refine(Ti _ _ _ hb).mono ?_;rintro e w' ⟨rfl,hw⟩;rw[hw];clear hw
 go_wp2_with fail
 refine(p8 _ _ _ _ r (wrap64 (a-wrap64 (b*jZ a b))) _ _ ((hi1.alloc _).alloc _) (by omega) (by simp)).mono ?_;rintro e w2 ⟨rfl,v2,hi2,ht2⟩;go_wp2;go_ret;exact⟨rfl,_,_,hi2,ht1.trans ((gL.kp (((Kp.refl _ _).alloc _).alloc _)).trans ht2),rfl,rfl,rfl,λ_=>rfl⟩
theorem DA (w:World)(xb rb fb:Nat)(m:MS)(a:Int)(r:List Int)(h:aW w xb rb m (0::a::r).reverse):
  Calls prog 150 #[.pointer (some ⟨rb,0,none⟩),.pointer (some ⟨fb,0,none⟩)] w λe w'=>e=.returned (.int .i64 9)/\bL w w' xb rb m ⟨9,[],m.mem,m.out⟩:=by
 go_enter func150,ntmps150
 go_wp2_with fail
 refine(jT _ _ _ _ _ _ _ h).mono ?_;rintro e w1 ⟨v',rfl,hi1,ht1⟩;go_wp2;go_ret;exact⟨rfl,bL.err (ht1.trans (gL.kp ((Kp.refl _ _).alloc _))) (hi1.alloc _) rfl rfl rfl (by decide)⟩
theorem VT (w:World)(xb rb nb:Nat)(m:MS)(n:Int)(r:List Int)(h:aW w xb rb m r.reverse)(hn:w.cell? ⟨nb,0,none⟩=some (.int .i64 n))(hl:r.length<32):
  Calls prog 95 #[.pointer (some ⟨rb,0,none⟩),.pointer (some ⟨nb,0,none⟩)] w λe w'=>e=.returned (.int .i64 0)/\bL w w' xb rb m ⟨0,n::r,m.mem,m.out⟩:=by
 go_enter func95,ntmps95
 go_wp2_with fail
 refine(p8 _ _ _ _ r n _ _ (h.alloc _) hl (by simp)).mono ?_;rintro e w2 ⟨rfl,v2,hi2,ht2⟩;go_wp2;go_ret;exact⟨rfl,_,_,hi2,(gL.kp ((Kp.refl _ _).alloc _)).trans ht2,rfl,rfl,rfl,λ_=>rfl⟩
theorem MC (w:World)(xb rb nb:Nat)(m:MS)(n:Int)(r:List Int)(h:aW w xb rb m r.reverse)(hn:w.cell? ⟨nb,0,none⟩=some (.int .i64 n))(hl:¬r.length<32):
  Calls prog 95 #[.pointer (some ⟨rb,0,none⟩),.pointer (some ⟨nb,0,none⟩)] w λe w'=>e=.returned (.int .i64 7)/\bL w w' xb rb m ⟨7,[],m.mem,m.out⟩:=by
 go_enter func95,ntmps95
 go_wp2_with fail
 refine(xh _ _ _ _ _ _ _ _ (h.alloc _) (by omega) (by simp;omega)).mono ?_;rintro e w' ⟨rfl,hw⟩;rw[hw];clear hw;go_wp2;go_ret;exact⟨rfl,bL.err (gL.kp ((Kp.refl _ _).alloc _)) (h.alloc _) rfl rfl rfl (by decide)⟩
theorem Wo (w:World)(xb rb:Nat)(m:MS)(a:Int)(r:List Int)(h:aW w xb rb m (a::r).reverse)(h0:0<=a)(h1:a<16):
  Calls prog 112 #[.pointer (some ⟨rb,0,none⟩)] w λe w'=>e=.returned (.int .i64 0)/\bL w w' xb rb m ⟨0,m.mem a.toNat::r,m.mem,m.out⟩:=by
 have hl:=h.len;simp only[au,aq] at hl;have hd:decide (0<=a/\a<16)=true:=decide_eq_true ⟨h0,h1⟩;go_enter func112,ntmps112
 go_wp2_with fail
 refine(u9 _ _ _ _ _ _ h).mono ?_;rintro e w1 ⟨v',rfl,hi1,ht1⟩;have c0:w1.cell? ⟨rb,0,none⟩=some (.pointer (some ⟨xb,0,none⟩)):=hi1.cF.cell rfl;have c1:w1.cell? ⟨xb,1+a.toNat,none⟩=some (.int .i64 (m.mem a.toNat)):=hi1.bJ.cell (yc _ _ _ _ (by omega));have l1:=hi1.cF.lt;have l2:=hi1.bJ.lt
 go_wp2_with fail
 refine(ni _ _).mono ?_;rintro e w' ⟨rfl,hw⟩;rw[hw,hd];clear hw
 go_wp2_with fail
 go_region_with (go_at_call 96;refine(p8 _ xb _ {m with sv:=v'} r (m.mem a.toNat) _ _ (by exact((hi1.alloc _).alloc _).drew) (by omega) (by simp)).mono ?_;rintro e w2 ⟨rfl,v2,hi2,ht2⟩)
 all_goals go_wp2
 all_goals go_ret
 all_goals exact⟨rfl,_,_,hi2,ht1.trans ((gL.kp ((((Kp.refl _ _).alloc _).alloc _).drew)).trans ht2),rfl,rfl,rfl,λ_=>rfl⟩
theorem Wp (w:World)(xb rb:Nat)(m:MS)(a:Int)(r:List Int)(h:aW w xb rb m (a::r).reverse)(h0:¬(0<=a/\a<16)):
  Calls prog 112 #[.pointer (some ⟨rb,0,none⟩)] w λe w'=>e=.returned (.int .i64 10)/\bL w w' xb rb m ⟨10,[],m.mem,m.out⟩:=by
 have hd:decide (0<=a/\a<16)=false:=decide_eq_false h0;clear h0;go_enter func112,ntmps112
 go_wp2_with fail
 refine(u9 _ _ _ _ _ _ h).mono ?_;rintro e w1 ⟨v',rfl,hi1,ht1⟩
 go_wp2_with fail
 refine(ni _ _).mono ?_;rintro e w' ⟨rfl,hw⟩;rw[hw,hd];clear hw;go_wp2;go_ret;exact⟨rfl,bL.err (ht1.trans (gL.kp ((Kp.refl _ _).alloc _))) (hi1.alloc _) rfl rfl rfl (by decide)⟩
theorem aW.Bh {w:World}{xb rb:Nat}{m:MS}{ns:List Int}(h:aW w xb rb m ns)(i:Nat)(hi:i<16)(v:Int):
    aW (w.setCell ⟨xb,1+i,none⟩ (.int .i64 v)) xb rb {m with mem:=λj=>if j=i then v else m.mem j} ns/\gL xb rb w (w.setCell ⟨xb,1+i,none⟩ (.int .i64 v)) m {m with mem:=λj=>if j=i then v else m.mem j}:=
  ⟨⟨by have:=h.bJ.set (1+i) (.int .i64 v);rw[Gc _ _ _ i v hi] at this;exact this,h.cF.setOther h.ne.symm _,ownsRow_setCell_other h.dc (aH h.dc h.bJ (by decide)) _,ownsRow_setCell_other h.dY (aH h.dY h.bJ (by decide)) _,h.len⟩,
   ⟨(Kp.refl _ _).set (λ_=>.inl (.inl rfl)) _,λ_ hk=>.inl hk⟩⟩
theorem Wq (w:World)(xb rb:Nat)(m:MS)(b a:Int)(r:List Int)(h:aW w xb rb m (b::a::r).reverse)(h0:0<=b)(h1:b<16):
  Calls prog 113 #[.pointer (some ⟨rb,0,none⟩)] w λe w'=>e=.returned (.int .i64 0)/\bL w w' xb rb m ⟨0,r,λj=>if j=b.toNat then a else m.mem j,m.out⟩:=by
 have hd:decide (0<=b/\b<16)=true:=decide_eq_true ⟨h0,h1⟩;go_enter func113,ntmps113
 go_wp2_with fail
 refine(jT _ _ _ _ _ _ _ h).mono ?_;rintro e w1 ⟨v',rfl,hi1,ht1⟩;have c0:w1.cell? ⟨rb,0,none⟩=some (.pointer (some ⟨xb,0,none⟩)):=hi1.cF.cell rfl;have c1:w1.cell? ⟨xb,1+b.toNat,none⟩=some (.int .i64 (m.mem b.toNat)):=hi1.bJ.cell (yc _ _ _ _ (by omega));have f1:=hi1.bJ.free (1+b.toNat);have l1:=hi1.cF.lt;have l2:=hi1.bJ.lt;have HM:=hi1.Bh b.toNat (by omega) a
 go_wp2_with fail
 refine(ni _ _).mono ?_;rintro e w' ⟨rfl,hw⟩;rw[hw,hd];clear hw;go_wp2
 go_region
 all_goals go_wp2
 all_goals go_ret
 all_goals exact⟨rfl,_,_,(HM.1.alloc _).drew,ht1.trans (HM.2.trans (gL.kp (((Kp.refl _ _).alloc _).drew))),rfl,rfl,rfl,λ_=>rfl⟩
theorem Ws (w:World)(xb rb:Nat)(m:MS)(b a:Int)(r:List Int)(h:aW w xb rb m (b::a::r).reverse)(h0:¬(0<=b/\b<16)):
  Calls prog 113 #[.pointer (some ⟨rb,0,none⟩)] w λe w'=>e=.returned (.int .i64 10)/\bL w w' xb rb m ⟨10,[],m.mem,m.out⟩:=by
 have hd:decide (0<=b/\b<16)=false:=decide_eq_false h0;clear h0;go_enter func113,ntmps113
 go_wp2_with fail
 refine(jT _ _ _ _ _ _ _ h).mono ?_;rintro e w1 ⟨v',rfl,hi1,ht1⟩
 go_wp2_with fail
 refine(ni _ _).mono ?_;rintro e w' ⟨rfl,hw⟩;rw[hw,hd];clear hw;go_wp2;go_ret;exact⟨rfl,bL.err (ht1.trans (gL.kp ((Kp.refl _ _).alloc _))) (hi1.alloc _) rfl rfl rfl (by decide)⟩
theorem MR (w:World)(yb:Nat)(s:RS)(b a:Int)(r:List Int)(h:aR w yb s (b::a::r).reverse)(he:s.e=0):
  Calls prog 88 #[.pointer (some ⟨yb,0,none⟩),.string {data:=#[43]}] w λe w'=>e=.returned (.tuple #[])/\aS w w' yb s ⟨0,wrap64 (a+b)::r,s.mem,s.out⟩:=by
 have hl:=h.len;simp only[au,aq] at hl;go_enter func88,ntmps88
 go_wp2_with fail
 refine(gD _ _ _ _ _ _ h).mono ?_;rintro e w1 ⟨g,v',rfl,hT⟩;have k0:=hT.blk.cell (o:=0) rfl;have k1:=hT.blk.cell (o:=1) rfl
 go_wp2_with fail
 refine(gz _ _ _ _ _ hT.inv he (by omega)).mono ?_;rintro e w2 ⟨rfl,v2,hi2,ht2⟩;go_wp2
 go_end0
 exact⟨rfl,⟨_,_,hi2,hT.to.trans ht2,he,rfl,rfl,rfl,λ_=>rfl⟩⟩
theorem MT (w:World)(yb:Nat)(s:RS)(b a:Int)(r:List Int)(h:aR w yb s (b::a::r).reverse)(he:s.e=0):
  Calls prog 88 #[.pointer (some ⟨yb,0,none⟩),.string {data:=#[45]}] w λe w'=>e=.returned (.tuple #[])/\aS w w' yb s ⟨0,wrap64 (a-b)::r,s.mem,s.out⟩:=by
 have hl:=h.len;simp only[au,aq] at hl;go_enter func88,ntmps88
 go_wp2_with fail
 refine(gD _ _ _ _ _ _ h).mono ?_;rintro e w1 ⟨g,v',rfl,hT⟩;have k0:=hT.blk.cell (o:=0) rfl;have k1:=hT.blk.cell (o:=1) rfl
 go_wp2_with fail
 refine(gz _ _ _ _ _ hT.inv he (by omega)).mono ?_;rintro e w2 ⟨rfl,v2,hi2,ht2⟩;go_wp2
 go_end0
 exact⟨rfl,⟨_,_,hi2,hT.to.trans ht2,he,rfl,rfl,rfl,λ_=>rfl⟩⟩
theorem MU (w:World)(yb:Nat)(s:RS)(b a:Int)(r:List Int)(h:aR w yb s (b::a::r).reverse)(he:s.e=0):
  Calls prog 88 #[.pointer (some ⟨yb,0,none⟩),.string {data:=#[42]}] w λe w'=>e=.returned (.tuple #[])/\aS w w' yb s ⟨0,wrap64 (a*b)::r,s.mem,s.out⟩:=by
 have hl:=h.len;simp only[au,aq] at hl;go_enter func88,ntmps88
 go_wp2_with fail
 refine(gD _ _ _ _ _ _ h).mono ?_;rintro e w1 ⟨g,v',rfl,hT⟩;have k0:=hT.blk.cell (o:=0) rfl;have k1:=hT.blk.cell (o:=1) rfl
 go_wp2_with fail
 refine(gz _ _ _ _ _ hT.inv he (by omega)).mono ?_;rintro e w2 ⟨rfl,v2,hi2,ht2⟩;go_wp2
 go_end0
 exact⟨rfl,⟨_,_,hi2,hT.to.trans ht2,he,rfl,rfl,rfl,λ_=>rfl⟩⟩
theorem Rw (w:World)(yb:Nat)(s:RS)(b a:Int)(r:List Int)(h:aR w yb s (b::a::r).reverse)(he:s.e=0):
  Calls prog 88 #[.pointer (some ⟨yb,0,none⟩),.string {data:=#[61]}] w λe w'=>e=.returned (.tuple #[])/\aS w w' yb s ⟨0,jr (a==b)::r,s.mem,s.out⟩:=by
 have hl:=h.len;simp only[au,aq] at hl;go_enter func88,ntmps88
 go_wp2_with fail
 refine(gD _ _ _ _ _ _ h).mono ?_;rintro e w1 ⟨g,v',rfl,hT⟩;have k0:=hT.blk.cell (o:=0) rfl;have k1:=hT.blk.cell (o:=1) rfl
 go_wp2_with fail
 refine(soR _ _).mono ?_;rintro e w' ⟨rfl,hw⟩;rw[hw];clear hw
 go_wp2_with fail
 refine(gz _ _ _ _ _ hT.inv he (by omega)).mono ?_;rintro e w2 ⟨rfl,v2,hi2,ht2⟩;go_wp2
 go_end0
 exact⟨rfl,⟨_,_,hi2,hT.to.trans ht2,he,rfl,rfl,rfl,λ_=>rfl⟩⟩
theorem Rx (w:World)(yb:Nat)(s:RS)(b a:Int)(r:List Int)(h:aR w yb s (b::a::r).reverse)(he:s.e=0):
  Calls prog 88 #[.pointer (some ⟨yb,0,none⟩),.string {data:=#[60]}] w λe w'=>e=.returned (.tuple #[])/\aS w w' yb s ⟨0,jr (decide (a<b))::r,s.mem,s.out⟩:=by
 have hl:=h.len;simp only[au,aq] at hl;go_enter func88,ntmps88
 go_wp2_with fail
 refine(gD _ _ _ _ _ _ h).mono ?_;rintro e w1 ⟨g,v',rfl,hT⟩;have k0:=hT.blk.cell (o:=0) rfl;have k1:=hT.blk.cell (o:=1) rfl
 go_wp2_with fail
 refine(soR _ _).mono ?_;rintro e w' ⟨rfl,hw⟩;rw[hw];clear hw
 go_wp2_with fail
 refine(gz _ _ _ _ _ hT.inv he (by omega)).mono ?_;rintro e w2 ⟨rfl,v2,hi2,ht2⟩;go_wp2
 go_end0
 exact⟨rfl,⟨_,_,hi2,hT.to.trans ht2,he,rfl,rfl,rfl,λ_=>rfl⟩⟩
theorem MV (w:World)(yb:Nat)(s:RS)(b a:Int)(r:List Int)(h:aR w yb s (b::a::r).reverse)(he:s.e=0)(hb:¬b=0):
  Calls prog 88 #[.pointer (some ⟨yb,0,none⟩),.string {data:=#[47]}] w λe w'=>e=.returned (.tuple #[])/\aS w w' yb s ⟨0,jZ a b::r,s.mem,s.out⟩:=by
 have hl:=h.len;simp only[au,aq] at hl;go_enter func88,ntmps88
 go_wp2_with fail
 refine(gD _ _ _ _ _ _ h).mono ?_;rintro e w1 ⟨g,v',rfl,hT⟩;have k0:=hT.blk.cell (o:=0) rfl;have k1:=hT.blk.cell (o:=1) rfl
 go_wp2_with fail
 refine(Gj _ _ _ hb).mono ?_;rintro e w' ⟨rfl,hw⟩;rw[hw];clear hw
 go_wp2_with fail
 refine(gz _ _ _ _ _ hT.inv he (by omega)).mono ?_;rintro e w2 ⟨rfl,v2,hi2,ht2⟩;go_wp2
 go_end0
 exact⟨rfl,⟨_,_,hi2,hT.to.trans ht2,he,rfl,rfl,rfl,λ_=>rfl⟩⟩
theorem yP (w:World)(yb:Nat)(s:RS)(a:Int)(r:List Int)(h:aR w yb s (0::a::r).reverse)(he:s.e=0):
  Calls prog 88 #[.pointer (some ⟨yb,0,none⟩),.string {data:=#[47]}] w λe w'=>e=.returned (.tuple #[])/\aS w w' yb s ⟨9,[],s.mem,s.out⟩:=by
 have hl:=h.len;simp only[au,aq] at hl;go_enter func88,ntmps88
 go_wp2_with fail
 refine(gD _ _ _ _ _ _ h).mono ?_;rintro e w1 ⟨g,v',rfl,hT⟩;have k0:=hT.blk.cell (o:=0) rfl;have k1:=hT.blk.cell (o:=1) rfl;have c1:=hT.inv.blk.cell (o:=21) rfl;have f1:=hT.inv.blk.free 21;go_wp2;refine bodyPost_ret (results_none rfl _ _ _) rfl ?_;exact⟨rfl,⟨_,_,hT.inv.ya _,hT.to.trans (lS.set rfl _ _),rfl,rfl,rfl,rfl,λh=>by cases h⟩⟩
theorem MW (w:World)(yb:Nat)(s:RS)(b a:Int)(r:List Int)(h:aR w yb s (b::a::r).reverse)(he:s.e=0)(hb:¬b=0):
  Calls prog 88 #[.pointer (some ⟨yb,0,none⟩),.string {data:=#[109,111,100]}] w λe w'=>e=.returned (.tuple #[])/\aS w w' yb s ⟨0,wrap64 (a-wrap64 (b*jZ a b))::r,s.mem,s.out⟩:=by
 have hl:=h.len;simp only[au,aq] at hl;go_enter func88,ntmps88
 go_wp2_with fail
 refine(gD _ _ _ _ _ _ h).mono ?_;rintro e w1 ⟨g,v',rfl,hT⟩;have k0:=hT.blk.cell (o:=0) rfl;have k1:=hT.blk.cell (o:=1) rfl
 go_wp2_with fail
 refine(Gj _ _ _ hb).mono ?_;rintro e w' ⟨rfl,hw⟩;rw[hw];clear hw
 go_wp2_with fail
 refine(gz _ _ _ _ _ hT.inv he (by omega)).mono ?_;rintro e w2 ⟨rfl,v2,hi2,ht2⟩;go_wp2
 go_end0
 exact⟨rfl,⟨_,_,hi2,hT.to.trans ht2,he,rfl,rfl,rfl,λ_=>rfl⟩⟩
theorem yQ (w:World)(yb:Nat)(s:RS)(a:Int)(r:List Int)(h:aR w yb s (0::a::r).reverse)(he:s.e=0):
  Calls prog 88 #[.pointer (some ⟨yb,0,none⟩),.string {data:=#[109,111,100]}] w λe w'=>e=.returned (.tuple #[])/\aS w w' yb s ⟨9,[],s.mem,s.out⟩:=by
 have hl:=h.len;simp only[au,aq] at hl;go_enter func88,ntmps88
 go_wp2_with fail
 refine(gD _ _ _ _ _ _ h).mono ?_;rintro e w1 ⟨g,v',rfl,hT⟩;have k0:=hT.blk.cell (o:=0) rfl;have k1:=hT.blk.cell (o:=1) rfl;have c1:=hT.inv.blk.cell (o:=21) rfl;have f1:=hT.inv.blk.free 21;go_wp2;refine bodyPost_ret (results_none rfl _ _ _) rfl ?_;exact⟨rfl,⟨_,_,hT.inv.ya _,hT.to.trans (lS.set rfl _ _),rfl,rfl,rfl,rfl,λh=>by cases h⟩⟩
theorem JD (w:World)(yb:Nat)(s:RS)(b a:Int)(r:List Int)(h:aR w yb s (b::a::r).reverse)(he:s.e=0):
  Calls prog 88 #[.pointer (some ⟨yb,0,none⟩),.string {data:=#[115,119,97,112]}] w λe w'=>e=.returned (.tuple #[])/\aS w w' yb s ⟨0,a::b::r,s.mem,s.out⟩:=by
 have hl:=h.len;simp only[au,aq] at hl;go_enter func88,ntmps88
 go_wp2_with fail
 refine(gD _ _ _ _ _ _ h).mono ?_;rintro e w1 ⟨g,v',rfl,hT⟩;have k0:=hT.blk.cell (o:=0) rfl;have k1:=hT.blk.cell (o:=1) rfl
 go_wp2_with fail
 refine(gz _ _ _ _ _ hT.inv he (by omega)).mono ?_;rintro e w2 ⟨rfl,v2,hi2,ht2⟩
 go_wp2_with fail
 refine(gz _ _ _ _ _ hi2 he (by simp;omega)).mono ?_;rintro e w3 ⟨rfl,v3,oc,kg⟩;go_wp2
 go_end0
 exact⟨rfl,⟨_,_,oc,(hT.to.trans ht2).trans kg,he,rfl,rfl,rfl,λ_=>rfl⟩⟩
theorem JE (w:World)(yb:Nat)(s:RS)(b a:Int)(r:List Int)(h:aR w yb s (b::a::r).reverse)(he:s.e=0)(hr:r.length<30):
  Calls prog 88 #[.pointer (some ⟨yb,0,none⟩),.string {data:=#[111,118,101,114]}] w λe w'=>e=.returned (.tuple #[])/\aS w w' yb s ⟨0,a::b::a::r,s.mem,s.out⟩:=by
 have hl:=h.len;simp only[au,aq] at hl;go_enter func88,ntmps88
 go_wp2_with fail
 refine(gD _ _ _ _ _ _ h).mono ?_;rintro e w1 ⟨g,v',rfl,hT⟩;have k0:=hT.blk.cell (o:=0) rfl;have k1:=hT.blk.cell (o:=1) rfl
 go_wp2_with fail
 refine(gz _ _ _ _ _ hT.inv he (by omega)).mono ?_;rintro e w2 ⟨rfl,v2,hi2,ht2⟩
 go_wp2_with fail
 refine(gz _ _ _ _ _ hi2 he (by simp;omega)).mono ?_;rintro e w3 ⟨rfl,v3,oc,kg⟩
 go_wp2_with fail
 refine(gz _ _ _ _ _ oc he (by simp;omega)).mono ?_;rintro e w4 ⟨rfl,v4,hi4,KY⟩;go_wp2
 go_end0
 exact⟨rfl,⟨_,_,hi4,((hT.to.trans ht2).trans kg).trans KY,he,rfl,rfl,rfl,λ_=>rfl⟩⟩
theorem wR (w:World)(yb:Nat)(s:RS)(b a:Int)(r:List Int)(h:aR w yb s (b::a::r).reverse)(he:s.e=0)(hr:r.length=30):
  Calls prog 88 #[.pointer (some ⟨yb,0,none⟩),.string {data:=#[111,118,101,114]}] w λe w'=>e=.returned (.tuple #[])/\aS w w' yb s ⟨7,[],s.mem,s.out⟩:=by
 have hl:=h.len;simp only[au,aq] at hl;go_enter func88,ntmps88
 go_wp2_with fail
 refine(gD _ _ _ _ _ _ h).mono ?_;rintro e w1 ⟨g,v',rfl,hT⟩;have k0:=hT.blk.cell (o:=0) rfl;have k1:=hT.blk.cell (o:=1) rfl
 go_wp2_with fail
 refine(gz _ _ _ _ _ hT.inv he (by omega)).mono ?_;rintro e w2 ⟨rfl,v2,hi2,ht2⟩
 go_wp2_with fail
 refine(gz _ _ _ _ _ hi2 he (by simp;omega)).mono ?_;rintro e w3 ⟨rfl,v3,oc,kg⟩
 go_wp2_with fail
 refine(qu _ _ _ _ _ oc he (by simp;omega)).mono ?_;rintro e w4 ⟨rfl,hi4,KY⟩;go_wp2
 go_end0
 exact⟨rfl,⟨_,_,hi4,((hT.to.trans ht2).trans kg).trans KY,rfl,rfl,rfl,rfl,λh=>by cases h⟩⟩
theorem MX (w:World)(yb:Nat)(s:RS)(c b a:Int)(r:List Int)(h:aR w yb s (c::b::a::r).reverse)(he:s.e=0):
  Calls prog 88 #[.pointer (some ⟨yb,0,none⟩),.string {data:=#[114,111,116]}] w λe w'=>e=.returned (.tuple #[])/\aS w w' yb s ⟨0,a::c::b::r,s.mem,s.out⟩:=by
 have hl:=h.len;simp only[au,aq] at hl;go_enter func88,ntmps88
 go_wp2_with fail
 refine(Pf _ _ _ _ _ _ _ h).mono ?_;rintro e w1 ⟨g,v',rfl,hT⟩;have k0:=hT.blk.cell (o:=0) rfl;have k1:=hT.blk.cell (o:=1) rfl
 go_wp2_with fail
 refine(gz _ _ _ _ _ hT.inv he (by omega)).mono ?_;rintro e w2 ⟨rfl,v2,hi2,ht2⟩
 go_wp2_with fail
 refine(gz _ _ _ _ _ hi2 he (by simp;omega)).mono ?_;rintro e w3 ⟨rfl,v3,oc,kg⟩;have YV:¬g=yb:=by rintro rfl;exact ax (hT.blk.inj hT.inv.blk).1 (by decide)
 have hb2:=ht2.blk hT.blk YV hT.apart;have ha2:¬own v2 g:=λho=>by rcases ht2.nx g ho with h1|h1;exact hT.apart h1;have:=hT.blk.lt;omega
 have hb3:=kg.blk hb2 YV ha2;have k2:=hb3.cell (o:=2) rfl
 go_wp2_with fail
 refine(gz _ _ _ _ _ oc he (by simp;omega)).mono ?_;rintro e w4 ⟨rfl,v4,hi4,KY⟩;go_wp2
 go_end0
 exact⟨rfl,⟨_,_,hi4,((hT.to.trans ht2).trans kg).trans KY,he,rfl,rfl,rfl,λ_=>rfl⟩⟩
theorem Fm (w:World)(yb:Nat)(s:RS)(b a:Int)(r:List Int)(h:aR w yb s (b::a::r).reverse)(he:s.e=0)(h0:0<=b)(h1:b<16):
  Calls prog 88 #[.pointer (some ⟨yb,0,none⟩),.string {data:=#[33]}] w λe w'=>e=.returned (.tuple #[])/\aS w w' yb s ⟨0,r,λj=>if j=b.toNat then a else s.mem j,s.out⟩:=by
 have hl:=h.len;simp only[au,aq] at hl;go_enter func88,ntmps88
 go_wp2_with fail
 refine(gD _ _ _ _ _ _ h).mono ?_;rintro e w1 ⟨g,v',rfl,hT⟩;have k0:=hT.blk.cell (o:=0) rfl;have k1:=hT.blk.cell (o:=1) rfl;have c1:w1.cell? ⟨yb,1+b.toNat,none⟩=some (.int .i64 (s.mem b.toNat)):=hT.inv.blk.cell (RS.at _ _ (by omega));have f1:=hT.inv.blk.free (1+b.toNat);go_wp2
 go_end0
 exact⟨rfl,⟨_,_,hT.inv.Bh _ (by omega) _,hT.to.trans (lS.set rfl _ _),he,rfl,rfl,rfl,λ_=>rfl⟩⟩
theorem wS (w:World)(yb:Nat)(s:RS)(b a:Int)(r:List Int)(h:aR w yb s (b::a::r).reverse)(he:s.e=0)(h0:b<0):
  Calls prog 88 #[.pointer (some ⟨yb,0,none⟩),.string {data:=#[33]}] w λe w'=>e=.returned (.tuple #[])/\aS w w' yb s ⟨10,[],s.mem,s.out⟩:=by
 have hl:=h.len;simp only[au,aq] at hl;go_enter func88,ntmps88
 go_wp2_with fail
 refine(gD _ _ _ _ _ _ h).mono ?_;rintro e w1 ⟨g,v',rfl,hT⟩;have k0:=hT.blk.cell (o:=0) rfl;have k1:=hT.blk.cell (o:=1) rfl;have c1:=hT.inv.blk.cell (o:=21) rfl;have f1:=hT.inv.blk.free 21;go_wp2;refine bodyPost_ret (results_none rfl _ _ _) rfl ?_;exact⟨rfl,⟨_,_,hT.inv.ya _,hT.to.trans (lS.set rfl _ _),rfl,rfl,rfl,rfl,λh=>by cases h⟩⟩
theorem wT (w:World)(yb:Nat)(s:RS)(b a:Int)(r:List Int)(h:aR w yb s (b::a::r).reverse)(he:s.e=0)(h0:0<=b)(h1:16<=b):
  Calls prog 88 #[.pointer (some ⟨yb,0,none⟩),.string {data:=#[33]}] w λe w'=>e=.returned (.tuple #[])/\aS w w' yb s ⟨10,[],s.mem,s.out⟩:=by
 have hl:=h.len;simp only[au,aq] at hl;go_enter func88,ntmps88
 go_wp2_with fail
 refine(gD _ _ _ _ _ _ h).mono ?_;rintro e w1 ⟨g,v',rfl,hT⟩;have k0:=hT.blk.cell (o:=0) rfl;have k1:=hT.blk.cell (o:=1) rfl;have c1:=hT.inv.blk.cell (o:=21) rfl;have f1:=hT.inv.blk.free 21;go_wp2;refine bodyPost_ret (results_none rfl _ _ _) rfl ?_;exact⟨rfl,⟨_,_,hT.inv.ya _,hT.to.trans (lS.set rfl _ _),rfl,rfl,rfl,rfl,λh=>by cases h⟩⟩
theorem MZ (w:World)(yb:Nat)(s:RS)(a:Int)(r:List Int)(h:aR w yb s (a::r).reverse)(he:s.e=0)(hr:r.length<31):
  Calls prog 88 #[.pointer (some ⟨yb,0,none⟩),.string {data:=#[100,117,112]}] w λe w'=>e=.returned (.tuple #[])/\aS w w' yb s ⟨0,a::a::r,s.mem,s.out⟩:=by
 have hl:=h.len;simp only[au,aq] at hl;go_enter func88,ntmps88
 go_wp2_with fail
 refine(mz _ _ _ _ _ h).mono ?_;rintro e w1 ⟨g,v',rfl,hT⟩;have k0:=hT.blk.cell (o:=0) rfl;have k1:=hT.blk.cell (o:=1) rfl
 go_wp2_with fail
 refine(LQ _ _ _ _ _ hT.inv he hr).mono ?_;rintro e w2 ⟨rfl,hp⟩;go_wp2
 go_end0
 exact⟨rfl,aS.LR hT.to rfl hp⟩
theorem yR (w:World)(yb:Nat)(s:RS)(a:Int)(r:List Int)(h:aR w yb s (a::r).reverse)(he:s.e=0)(hr:r.length=31):
  Calls prog 88 #[.pointer (some ⟨yb,0,none⟩),.string {data:=#[100,117,112]}] w λe w'=>e=.returned (.tuple #[])/\aS w w' yb s ⟨7,[],s.mem,s.out⟩:=by
 have hl:=h.len;simp only[au,aq] at hl;go_enter func88,ntmps88
 go_wp2_with fail
 refine(mz _ _ _ _ _ h).mono ?_;rintro e w1 ⟨g,v',rfl,hT⟩;have k0:=hT.blk.cell (o:=0) rfl;have k1:=hT.blk.cell (o:=1) rfl
 go_wp2_with fail
 refine(yB _ _ _ _ _ hT.inv he hr).mono ?_;rintro e w2 ⟨rfl,hp⟩;go_wp2
 go_end0
 exact⟨rfl,aS.LR hT.to rfl hp⟩
theorem JF (w:World)(yb:Nat)(s:RS)(a:Int)(r:List Int)(h:aR w yb s (a::r).reverse)(he:s.e=0):
  Calls prog 88 #[.pointer (some ⟨yb,0,none⟩),.string {data:=#[100,114,111,112]}] w λe w'=>e=.returned (.tuple #[])/\aS w w' yb s ⟨0,r,s.mem,s.out⟩:=by
 have hl:=h.len;simp only[au,aq] at hl;go_enter func88,ntmps88
 go_wp2_with fail
 refine(mz _ _ _ _ _ h).mono ?_;rintro e w1 ⟨g,v',rfl,hT⟩;have k0:=hT.blk.cell (o:=0) rfl;have k1:=hT.blk.cell (o:=1) rfl
 go_wp2_with fail
 refine(Hz _ _ _ _ _ hT.inv he).mono ?_;rintro e w2 ⟨rfl,hp⟩;go_wp2
 go_end0
 exact⟨rfl,aS.LR hT.to rfl hp⟩
theorem M0 (w:World)(yb:Nat)(s:RS)(a:Int)(r:List Int)(h:aR w yb s (a::r).reverse)(he:s.e=0)(ho:s.out.size<=300)(h0:-9223372036854775808<=a)(h1:a<=9223372036854775807):
  Calls prog 88 #[.pointer (some ⟨yb,0,none⟩),.string {data:=#[46]}] w λe w'=>e=.returned (.tuple #[])/\aS w w' yb s (prt s r (dot a)):=by
 have hl:=h.len;simp only[au,aq] at hl;go_enter func88,ntmps88
 go_wp2_with fail
 refine(mz _ _ _ _ _ h).mono ?_;rintro e w1 ⟨g,v',rfl,hT⟩;have k0:=hT.blk.cell (o:=0) rfl;have k1:=hT.blk.cell (o:=1) rfl
 go_wp2_with fail
 refine(LS _ _ _ _ _ hT.inv he ho h0 h1).mono ?_;rintro e w2 ⟨rfl,hp⟩;go_wp2
 go_end0
 exact⟨rfl,aS.LR hT.to rfl hp⟩
theorem JG (w:World)(yb:Nat)(s:RS)(a:Int)(r:List Int)(h:aR w yb s (a::r).reverse)(he:s.e=0)(ho:s.out.size<=300):
  Calls prog 88 #[.pointer (some ⟨yb,0,none⟩),.string {data:=#[101,109,105,116]}] w λe w'=>e=.returned (.tuple #[])/\aS w w' yb s (prt s r (BV a)):=by
 have hl:=h.len;simp only[au,aq] at hl;go_enter func88,ntmps88
 go_wp2_with fail
 refine(mz _ _ _ _ _ h).mono ?_;rintro e w1 ⟨g,v',rfl,hT⟩;have k0:=hT.blk.cell (o:=0) rfl;have k1:=hT.blk.cell (o:=1) rfl
 go_wp2_with fail
 refine(Ib _ _ _ _ _ hT.inv he ho).mono ?_;rintro e w2 ⟨rfl,hp⟩;go_wp2
 go_end0
 exact⟨rfl,aS.LR hT.to rfl hp⟩
theorem Fp (w:World)(yb:Nat)(s:RS)(a:Int)(r:List Int)(h:aR w yb s (a::r).reverse)(he:s.e=0)(h0:0<=a)(h1:a<16):
  Calls prog 88 #[.pointer (some ⟨yb,0,none⟩),.string {data:=#[64]}] w λe w'=>e=.returned (.tuple #[])/\aS w w' yb s ⟨0,s.mem a.toNat::r,s.mem,s.out⟩:=by
 have hl:=h.len;simp only[au,aq] at hl;go_enter func88,ntmps88
 go_wp2_with fail
 refine(mz _ _ _ _ _ h).mono ?_;rintro e w1 ⟨g,v',rfl,hT⟩;have k0:=hT.blk.cell (o:=0) rfl;have k1:=hT.blk.cell (o:=1) rfl
 go_wp2_with fail
 refine(EN _ _ _ _ _ hT.inv he (by omega) h0 h1).mono ?_;rintro e w2 ⟨rfl,hp⟩;go_wp2
 go_end0
 exact⟨rfl,aS.LR hT.to rfl hp⟩
theorem yS (w:World)(yb:Nat)(s:RS)(a:Int)(r:List Int)(h:aR w yb s (a::r).reverse)(he:s.e=0)(h0:¬(0<=a/\a<16)):
  Calls prog 88 #[.pointer (some ⟨yb,0,none⟩),.string {data:=#[64]}] w λe w'=>e=.returned (.tuple #[])/\aS w w' yb s ⟨10,[],s.mem,s.out⟩:=by
 have hl:=h.len;simp only[au,aq] at hl;go_enter func88,ntmps88
 go_wp2_with fail
 refine(mz _ _ _ _ _ h).mono ?_;rintro e w1 ⟨g,v',rfl,hT⟩;have k0:=hT.blk.cell (o:=0) rfl;have k1:=hT.blk.cell (o:=1) rfl
 go_wp2_with fail
 refine(yC _ _ _ _ _ hT.inv he h0).mono ?_;rintro e w2 ⟨rfl,hp⟩;go_wp2
 go_end0
 exact⟨rfl,aS.LR hT.to rfl hp⟩
theorem oD (w:World)(yb:Nat)(s:RS)(ns:List Int)(h:aR w yb s ns)(hl:ns.length<2):
  Calls prog 88 #[.pointer (some ⟨yb,0,none⟩),.string {data:=#[43]}] w λe w'=>e=.returned (.tuple #[])/\aS w w' yb s ⟨6,[],s.mem,s.out⟩:=by
 go_enter func88,ntmps88
 go_wp2_with fail
 refine(bO _ _ _ _ _ h (by omega)).mono ?_;rintro e w1 ⟨v,rfl,hi,ht⟩;go_wp2;refine bodyPost_ret (results_none rfl _ _ _) rfl ?_;exact⟨rfl,⟨_,_,hi,ht,rfl,rfl,rfl,rfl,λh=>by cases h⟩⟩
theorem oF (w:World)(yb:Nat)(s:RS)(ns:List Int)(h:aR w yb s ns)(hl:ns.length<2):
  Calls prog 88 #[.pointer (some ⟨yb,0,none⟩),.string {data:=#[45]}] w λe w'=>e=.returned (.tuple #[])/\aS w w' yb s ⟨6,[],s.mem,s.out⟩:=by
 go_enter func88,ntmps88
 go_wp2_with fail
 refine(bO _ _ _ _ _ h (by omega)).mono ?_;rintro e w1 ⟨v,rfl,hi,ht⟩;go_wp2;refine bodyPost_ret (results_none rfl _ _ _) rfl ?_;exact⟨rfl,⟨_,_,hi,ht,rfl,rfl,rfl,rfl,λh=>by cases h⟩⟩
theorem oG (w:World)(yb:Nat)(s:RS)(ns:List Int)(h:aR w yb s ns)(hl:ns.length<2):
  Calls prog 88 #[.pointer (some ⟨yb,0,none⟩),.string {data:=#[42]}] w λe w'=>e=.returned (.tuple #[])/\aS w w' yb s ⟨6,[],s.mem,s.out⟩:=by
 go_enter func88,ntmps88
 go_wp2_with fail
 refine(bO _ _ _ _ _ h (by omega)).mono ?_;rintro e w1 ⟨v,rfl,hi,ht⟩;go_wp2;refine bodyPost_ret (results_none rfl _ _ _) rfl ?_;exact⟨rfl,⟨_,_,hi,ht,rfl,rfl,rfl,rfl,λh=>by cases h⟩⟩
theorem oH (w:World)(yb:Nat)(s:RS)(ns:List Int)(h:aR w yb s ns)(hl:ns.length<2):
  Calls prog 88 #[.pointer (some ⟨yb,0,none⟩),.string {data:=#[47]}] w λe w'=>e=.returned (.tuple #[])/\aS w w' yb s ⟨6,[],s.mem,s.out⟩:=by
 go_enter func88,ntmps88
 go_wp2_with fail
 refine(bO _ _ _ _ _ h (by omega)).mono ?_;rintro e w1 ⟨v,rfl,hi,ht⟩;go_wp2;refine bodyPost_ret (results_none rfl _ _ _) rfl ?_;exact⟨rfl,⟨_,_,hi,ht,rfl,rfl,rfl,rfl,λh=>by cases h⟩⟩
theorem oI (w:World)(yb:Nat)(s:RS)(ns:List Int)(h:aR w yb s ns)(hl:ns.length<2):
  Calls prog 88 #[.pointer (some ⟨yb,0,none⟩),.string {data:=#[109,111,100]}] w λe w'=>e=.returned (.tuple #[])/\aS w w' yb s ⟨6,[],s.mem,s.out⟩:=by
 go_enter func88,ntmps88
 go_wp2_with fail
 refine(bO _ _ _ _ _ h (by omega)).mono ?_;rintro e w1 ⟨v,rfl,hi,ht⟩;go_wp2;refine bodyPost_ret (results_none rfl _ _ _) rfl ?_;exact⟨rfl,⟨_,_,hi,ht,rfl,rfl,rfl,rfl,λh=>by cases h⟩⟩
theorem qa (w:World)(yb:Nat)(s:RS)(ns:List Int)(h:aR w yb s ns)(hl:ns.length<2):
  Calls prog 88 #[.pointer (some ⟨yb,0,none⟩),.string {data:=#[61]}] w λe w'=>e=.returned (.tuple #[])/\aS w w' yb s ⟨6,[],s.mem,s.out⟩:=by
 go_enter func88,ntmps88
 go_wp2_with fail
 refine(bO _ _ _ _ _ h (by omega)).mono ?_;rintro e w1 ⟨v,rfl,hi,ht⟩;go_wp2;refine bodyPost_ret (results_none rfl _ _ _) rfl ?_;exact⟨rfl,⟨_,_,hi,ht,rfl,rfl,rfl,rfl,λh=>by cases h⟩⟩
theorem qb (w:World)(yb:Nat)(s:RS)(ns:List Int)(h:aR w yb s ns)(hl:ns.length<2):
  Calls prog 88 #[.pointer (some ⟨yb,0,none⟩),.string {data:=#[60]}] w λe w'=>e=.returned (.tuple #[])/\aS w w' yb s ⟨6,[],s.mem,s.out⟩:=by
 go_enter func88,ntmps88
 go_wp2_with fail
 refine(bO _ _ _ _ _ h (by omega)).mono ?_;rintro e w1 ⟨v,rfl,hi,ht⟩;go_wp2;refine bodyPost_ret (results_none rfl _ _ _) rfl ?_;exact⟨rfl,⟨_,_,hi,ht,rfl,rfl,rfl,rfl,λh=>by cases h⟩⟩
theorem wU (w:World)(yb:Nat)(s:RS)(ns:List Int)(h:aR w yb s ns)(hl:ns.length<1):
  Calls prog 88 #[.pointer (some ⟨yb,0,none⟩),.string {data:=#[100,117,112]}] w λe w'=>e=.returned (.tuple #[])/\aS w w' yb s ⟨6,[],s.mem,s.out⟩:=by
 go_enter func88,ntmps88
 go_wp2_with fail
 refine(bO _ _ _ _ _ h (by omega)).mono ?_;rintro e w1 ⟨v,rfl,hi,ht⟩;go_wp2;refine bodyPost_ret (results_none rfl _ _ _) rfl ?_;exact⟨rfl,⟨_,_,hi,ht,rfl,rfl,rfl,rfl,λh=>by cases h⟩⟩
theorem vC (w:World)(yb:Nat)(s:RS)(ns:List Int)(h:aR w yb s ns)(hl:ns.length<1):
  Calls prog 88 #[.pointer (some ⟨yb,0,none⟩),.string {data:=#[100,114,111,112]}] w λe w'=>e=.returned (.tuple #[])/\aS w w' yb s ⟨6,[],s.mem,s.out⟩:=by
 go_enter func88,ntmps88
 go_wp2_with fail
 refine(bO _ _ _ _ _ h (by omega)).mono ?_;rintro e w1 ⟨v,rfl,hi,ht⟩;go_wp2;refine bodyPost_ret (results_none rfl _ _ _) rfl ?_;exact⟨rfl,⟨_,_,hi,ht,rfl,rfl,rfl,rfl,λh=>by cases h⟩⟩
theorem mP (w:World)(yb:Nat)(s:RS)(ns:List Int)(h:aR w yb s ns)(hl:ns.length<2):
  Calls prog 88 #[.pointer (some ⟨yb,0,none⟩),.string {data:=#[115,119,97,112]}] w λe w'=>e=.returned (.tuple #[])/\aS w w' yb s ⟨6,[],s.mem,s.out⟩:=by
 go_enter func88,ntmps88
 go_wp2_with fail
 refine(bO _ _ _ _ _ h (by omega)).mono ?_;rintro e w1 ⟨v,rfl,hi,ht⟩;go_wp2;refine bodyPost_ret (results_none rfl _ _ _) rfl ?_;exact⟨rfl,⟨_,_,hi,ht,rfl,rfl,rfl,rfl,λh=>by cases h⟩⟩
theorem mQ (w:World)(yb:Nat)(s:RS)(ns:List Int)(h:aR w yb s ns)(hl:ns.length<2):
  Calls prog 88 #[.pointer (some ⟨yb,0,none⟩),.string {data:=#[111,118,101,114]}] w λe w'=>e=.returned (.tuple #[])/\aS w w' yb s ⟨6,[],s.mem,s.out⟩:=by
 go_enter func88,ntmps88
 go_wp2_with fail
 refine(bO _ _ _ _ _ h (by omega)).mono ?_;rintro e w1 ⟨v,rfl,hi,ht⟩;go_wp2;refine bodyPost_ret (results_none rfl _ _ _) rfl ?_;exact⟨rfl,⟨_,_,hi,ht,rfl,rfl,rfl,rfl,λh=>by cases h⟩⟩
theorem kE (w:World)(yb:Nat)(s:RS)(ns:List Int)(h:aR w yb s ns)(hl:ns.length<3):
  Calls prog 88 #[.pointer (some ⟨yb,0,none⟩),.string {data:=#[114,111,116]}] w λe w'=>e=.returned (.tuple #[])/\aS w w' yb s ⟨6,[],s.mem,s.out⟩:=by
 go_enter func88,ntmps88
 go_wp2_with fail
 refine(bO _ _ _ _ _ h (by omega)).mono ?_;rintro e w1 ⟨v,rfl,hi,ht⟩;go_wp2;refine bodyPost_ret (results_none rfl _ _ _) rfl ?_;exact⟨rfl,⟨_,_,hi,ht,rfl,rfl,rfl,rfl,λh=>by cases h⟩⟩
theorem wV (w:World)(yb:Nat)(s:RS)(ns:List Int)(h:aR w yb s ns)(hl:ns.length<1):
  Calls prog 88 #[.pointer (some ⟨yb,0,none⟩),.string {data:=#[46]}] w λe w'=>e=.returned (.tuple #[])/\aS w w' yb s ⟨6,[],s.mem,s.out⟩:=by
 go_enter func88,ntmps88
 go_wp2_with fail
 refine(bO _ _ _ _ _ h (by omega)).mono ?_;rintro e w1 ⟨v,rfl,hi,ht⟩;go_wp2;refine bodyPost_ret (results_none rfl _ _ _) rfl ?_;exact⟨rfl,⟨_,_,hi,ht,rfl,rfl,rfl,rfl,λh=>by cases h⟩⟩
theorem vD (w:World)(yb:Nat)(s:RS)(ns:List Int)(h:aR w yb s ns)(hl:ns.length<1):
  Calls prog 88 #[.pointer (some ⟨yb,0,none⟩),.string {data:=#[101,109,105,116]}] w λe w'=>e=.returned (.tuple #[])/\aS w w' yb s ⟨6,[],s.mem,s.out⟩:=by
 go_enter func88,ntmps88
 go_wp2_with fail
 refine(bO _ _ _ _ _ h (by omega)).mono ?_;rintro e w1 ⟨v,rfl,hi,ht⟩;go_wp2;refine bodyPost_ret (results_none rfl _ _ _) rfl ?_;exact⟨rfl,⟨_,_,hi,ht,rfl,rfl,rfl,rfl,λh=>by cases h⟩⟩
theorem s8 (w:World)(yb:Nat)(s:RS)(ns:List Int)(h:aR w yb s ns)(hl:ns.length<1):
  Calls prog 88 #[.pointer (some ⟨yb,0,none⟩),.string {data:=#[64]}] w λe w'=>e=.returned (.tuple #[])/\aS w w' yb s ⟨6,[],s.mem,s.out⟩:=by
 go_enter func88,ntmps88
 go_wp2_with fail
 refine(bO _ _ _ _ _ h (by omega)).mono ?_;rintro e w1 ⟨v,rfl,hi,ht⟩;go_wp2;refine bodyPost_ret (results_none rfl _ _ _) rfl ?_;exact⟨rfl,⟨_,_,hi,ht,rfl,rfl,rfl,rfl,λh=>by cases h⟩⟩
theorem lZ (w:World)(yb:Nat)(s:RS)(ns:List Int)(h:aR w yb s ns)(hl:ns.length<2):
  Calls prog 88 #[.pointer (some ⟨yb,0,none⟩),.string {data:=#[33]}] w λe w'=>e=.returned (.tuple #[])/\aS w w' yb s ⟨6,[],s.mem,s.out⟩:=by
 go_enter func88,ntmps88
 go_wp2_with fail
 refine(bO _ _ _ _ _ h (by omega)).mono ?_;rintro e w1 ⟨v,rfl,hi,ht⟩;go_wp2;refine bodyPost_ret (results_none rfl _ _ _) rfl ?_;exact⟨rfl,⟨_,_,hi,ht,rfl,rfl,rfl,rfl,λh=>by cases h⟩⟩
end Go.Proofs.YteainaiebcphlaaGreatDoor
