import Derived.Test.YteainaiebcphlaaGreatDoorY1
import Derived.Test.YteainaiebcphlaaGreatDoorYShelf
import Derived.Deep.RegionWith
import Derived.WalkKit
import Derived.Lib.ItoaNum
import Derived.Lib.IndexBytes
import Derived.Lib.Fields
namespace Go.Proofs.YteainaiebcphlaaGreatDoor
set_option maxRecDepth 1000000
set_option maxHeartbeats 4000000
set_option linter.all false
section
open Go.RowKit
theorem printM_full (w:World) (xb rb:Nat) (m:MS) (ns:List Int) (ao:Option Addr) (n cap:Nat) (h:MInv w xb rb m ns) (ho:m.out.size<=300) (hn:n<=1000) (hl:300 < m.out.size+n):
  Calls Tryz.prog 153 #[.pointer (some ⟨rb,0,none⟩),.slice ao n cap] w fun e w'=>e=.returned (.int .i64 11)/\w'=w:=by
 obtain⟨bo,c0,hv⟩:=form_of h.orow;have k1:w.cell? ⟨rb,1,none⟩=some m.ov:=h.rblk.cell rfl;rw[hv] at k1;clear hv;go_enter Tryz.func153,Tryz.ntmps153;go_wp2;go_ret;exact⟨rfl,rfl⟩
theorem MInv.printed {w w1:World} {xb rb:Nat} {m:MS} {ns:List Int} {t:ByteArray} {v':Value} (h:MInv w xb rb m ns) (hown:w1.ownsRow 0 5 1 v' (m.out.size+t.size) (Lib.byteCells m.out.data.toList ++ Lib.byteCells t.data.toList)) (hg:w.grownBy w1 m.ov.ownBlock) (hnx:∀ k,own v' k->own m.ov k\/w.heap.size<=k):
  MInv (w1.setCell ⟨rb,1,none⟩ v') xb rb { m with ov:=v',out:=m.out ++ t } ns/\MTo xb rb w (w1.setCell ⟨rb,1,none⟩ v') m { m with ov:=v',out:=m.out ++ t }/\Blk w1 rb 100 (rarr xb m.ov m.st m.dp):=by
 have hx1:Blk w1 xb 80 (marr m.bk m.sv m.mem):=h.xblk.same (hg.block xb h.xblk.lt (fun e=>own_ne h.orow h.xblk (by decide) e.symm));have hr1:Blk w1 rb 100 (rarr xb m.ov m.st m.dp):=h.rblk.same (hg.block rb h.rblk.lt (fun e=>own_ne h.orow h.rblk (by decide) e.symm));have hs1:w1.ownsRow 0 2 1 m.sv ns.length (ints ns):=h.srow.kept hg (by
  cases hv:m.sv.ownBlock with
  | none=>exact .inl rfl
  | some k=>right;intro e;exact own_disj2 h.srow h.orow (by decide) hv e.symm)
 refine⟨⟨hx1.setOther h.ne _,hr1.set 1 _,ownsRow_setCell_other hs1 (own_ne hs1 hr1 (by decide)) _,?_,h.len⟩,⟨?_,?_⟩,hr1⟩
 ·have:=ownsRow_setCell_other hown (a:=⟨rb,1,none⟩) (own_ne hown hr1 (by decide)) v';have e1:(m.out ++ t).size=m.out.size+t.size:=ByteArray.size_append;have e2:(m.out ++ t).data.toList=m.out.data.toList ++ t.data.toList:=by rw[ByteArray.data_append,Array.toList_append]
  show World.ownsRow _ 0 5 1 v' (m.out ++ t).size (Lib.byteCells (m.out ++ t).data.toList);rw[e1,e2]
  simpa [Lib.byteCells] using this
 ·exact ((Kp.refl _ _).grown hg (fun k _ e=>.inr (.inr e))).set (fun _=>.inl (.inr rfl)) _
 ·rintro k (hk|hk)
  ·exact .inl (.inl hk)
  ·rcases hnx k hk with h1|h1
   ·exact .inl (.inr h1)
   ·exact .inr h1
theorem printM_ok (w:World) (xb rb:Nat) (m:MS) (ns:List Int) (g cap:Nat) (t:ByteArray) (h:MInv w xb rb m ns) (hpos:0 < t.size) (hl:m.out.size+t.size<=300) (hnews:∀ j u,(Lib.byteCells t.data.toList)[j]? = some u->w.cell? ((⟨g,0,none⟩:Addr).add j)=some u):
  Calls Tryz.prog 153 #[.pointer (some ⟨rb,0,none⟩),.slice (some ⟨g,0,none⟩) t.size cap] w fun e w'=>e=.returned (.int .i64 0)/\∃ v',MInv w' xb rb { m with ov:=v',out:=m.out ++ t } ns/\MTo xb rb w w' m { m with ov:=v',out:=m.out ++ t }:=by
 obtain⟨bo,c0,hv⟩:=form_of h.orow;have k1:w.cell? ⟨rb,1,none⟩=some m.ov:=h.rblk.cell rfl;have hr:=h.orow;rw[hv] at k1 hr;have HV:Hid (m.ov=.slice bo m.out.size c0):=hv;clear hv;have HN:Hid (∀ j u,(Lib.byteCells t.data.toList)[j]? = some u->w.cell? ((⟨g,0,none⟩:Addr).add j)=some u):=hnews;clear hnews;have h1c:Hid (∀ u∈Lib.byteCells t.data.toList,u.oneCell'=true):=by intro u hu;simp only[Lib.byteCells,List.mem_map] at hu;obtain⟨a,_,rfl⟩:=hu;rfl
 have hlb:Hid ((Lib.byteCells t.data.toList).length=t.size * 1):=by unfold Hid;rw[Lib.byteCells_length,Nat.mul_one];rfl
 obtain⟨i0,hi,hz0,hz1,hz2⟩:=info_parts Tryz.info5;go_enter Tryz.func153,Tryz.ntmps153
 go_wp2_with (first
  | (at_builtin;refine wpList_append_to _ rfl _ _ 85 rfl 5 i0 (.int .u8 0) 1 1 Tryz.underlying85 hi hz0 hz1 hz2 rfl (by decide) _ _ _ rfl hr ⟨g,0,none⟩ _ _ (Lib.byteCells t.data.toList) rfl hlb.out HN.out h1c.out ?c3 ?c4 ?_)
  | go_in)
 case c3=>unfold maxLen;omega
 case c4=>omega
 intro v' w1 hown hgrow hnx;obtain⟨g',cap',rfl⟩:=Joins.ownsRow_form hown (by omega);have HG:=h.printed hown (by rw[HV.out];exact hgrow) (by rw[HV.out];exact hnx);have q1:w1.cell? ⟨rb,1,none⟩=some m.ov:=HG.2.2.cell rfl;have q2:=HG.2.2.free 1;clear hown hgrow hnx;go_wp2;go_ret;exact⟨rfl,_,HG.1,HG.2.1⟩
theorem digitsM (w : World) (a : Int) (h0 : -9223372036854775808 ≤ a) (h1 : a ≤ 9223372036854775807) (ht : Lib.TabIs Tryz.prog w "internal/strconv.uint64pow10" .u64 Lib.pow10Tab) :
  Calls Tryz.prog 110 #[.int .i64 a] w fun e w'=>∃ g cap,e=.returned (.slice (some ⟨g,0,none⟩) (dot a).size cap)/\(∀ j u,(Lib.byteCells (dot a).data.toList)[j]? = some u->w'.cell? ((⟨g,0,none⟩:Addr).add j)=some u)/\Kp w w' (fun _=>False):=by
 have hC:=Tryz.strconv_AppendInt_10 w.heap.size 0 a h0 h1 (.slice none 0 0) [] w (World.ownsRow_nil _ _ _ _) (Nat.le_refl _) (by omega) (Lib.tabBelow_of_tabIs ht);have hll:=itoa_len a h0 h1;have hds:(dot a).size=(Lib.itoa a).length+1:=by show (dot a).data.size=_;simp[dot]
 have HD:Hid ((dot a).size=(Lib.itoa a).length+1):=hds;have HE:Hid ((dot a).data.toList=Lib.itoa a ++ [32]):=by unfold Hid;simp[dot]
 have HC:Hid (Calls Tryz.prog 154 #[.slice none 0 0,.int .i64 a,.int .i64 10] w fun e w'=>∃ v',e=.returned v'/\w'.ownsRow w.heap.size 5 1 v' (0+(Lib.itoa a).length) ([] ++ Lib.byteCells (Lib.itoa a))/\Below w.heap.size w w'/\Lib.OthersKept 5 none w w'):=hC;clear hC ht h0 h1 hds;obtain⟨i0,hi,hz0,hz1,hz2⟩:=info_parts Tryz.info5;go_enter Tryz.func110,Tryz.ntmps110
 go_wp2_with fail
 refine HC.out.mono ?_;rintro e w1 ⟨v1,rfl,hown,hb,_⟩;simp only[Nat.zero_add,List.nil_append] at hown;obtain⟨ao,cap1,rfl⟩:=form_of hown;have hsz:=hb.size
 go_wp2_with (first
  | (at_builtin;refine wpList_append_own _ rfl _ _ 85 rfl w.heap.size 5 i0 (.int .u8 0) 1 1 Tryz.underlying85 hi hz0 hz1 hz2 rfl (by decide) _ _ _ rfl (hown.alloc _) ⟨w1.heap.size,0,none⟩ 1 1 [.int .u8 32] rfl rfl ?c1 ?c2 ?c3 ?c4 ?c5 ?_)
  | go_in)
 case c1=>intro j u hj;match j,hj with|0,hj=>simp at hj;subst hj;simp[Addr.add]
 case c2=>intro u hu;simp at hu;subst hu;rfl
 case c3=>unfold maxLen;omega
 case c4=>omega
 case c5=>simp;omega
 intro v2 w2 hown2 hgrow _;obtain⟨g,cap,rfl⟩:=Joins.ownsRow_form hown2 (by omega);have hk:Kp w w2 (fun _=>False):=((Kp.ofBelow hb).alloc _).grown hgrow (fun k hk e=>by have:=(hown.lt k e).1;omega);have hc:=hown2.cells (g:=g) rfl;have HCC:Hid (∀ j u,(Lib.byteCells (Lib.itoa a) ++ [Value.int .u8 32])[j]? = some u->w2.cell? ((⟨g,0,none⟩:Addr).add j)=some u):=hc;clear hown hown2 hgrow hc hb;go_wp2;go_ret;refine⟨g,cap,by rw[HD.out];rfl,?_,hk⟩;rw[HE.out];intro j u hj;refine HCC.out j u ?_;rw[<-hj];simp[Lib.byteCells]
theorem ch_eq (a:Int):(wrap64 (32+wrap64 (a - wrap64 (95 * fdiv a 95)))) % 256=(wrap64 (wrap64 (32+a) - wrap64 (95 * fdiv a 95))) % 256:=by
 unfold wrap64;omega
theorem ch_cell (a:Int):Lib.byteCells (chR a).data.toList=[.int .u8 (wrap64 (32+wrap64 (a - wrap64 (95 * fdiv a 95))) % 256)]:=by
 rw[ch_eq];unfold chR Lib.byteCells;generalize wrap64 (wrap64 (32+a) - wrap64 (95 * fdiv a 95))=x;have h:((UInt8.ofNat (x % 256).toNat).toNat:Int)=x % 256:=by
  rw[UInt8.toNat_ofNat'];omega
 simp only[List.map_cons,List.map_nil,h]
theorem charM (w:World) (a:Int):
  Calls Tryz.prog 111 #[.int .i64 a] w fun e w'=>∃ g cap,e=.returned (.slice (some ⟨g,0,none⟩) (chR a).size cap)/\(∀ j u,(Lib.byteCells (chR a).data.toList)[j]? = some u->w'.cell? ((⟨g,0,none⟩:Addr).add j)=some u)/\Kp w w' (fun _=>False):=by
 go_enter Tryz.func111,Tryz.ntmps111
 go_wp2_with fail
 refine (remM _ _ _ (by decide)).mono ?_;rintro e w' ⟨rfl,hw⟩;rw[hw];clear hw;go_wp2;go_ret;refine⟨_,_,rfl,?_,(Kp.refl _ _).alloc _⟩;intro j u hj;rw[ch_cell] at hj
 match j,hj with
 | 0,hj=>simp at hj;subst hj;simp[Addr.add]
end
section
open Go.RowKit
def MPost (w w':World) (xb rb:Nat) (m:MS) (R:Res):Prop:=
 ∃ m' ns,MInv w' xb rb m' ns/\MTo xb rb w w' m m'/\m'.mem=R.mem/\m'.out=R.out/\(m'.st,m'.dp,m'.bk)=(m.st,m.dp,m.bk)/\(R.e=0->ns=R.rs.reverse)
theorem MPost.err {w w1:World} {xb rb:Nat} {m m1:MS} {ns:List Int} (ht:MTo xb rb w w1 m m1) (hi:MInv w1 xb rb m1 ns) (hs:(m1.st,m1.dp,m1.bk)=(m.st,m.dp,m.bk)) (hm:m1.mem=m.mem) (ho:m1.out=m.out) {e:Int} (he:e ≠ 0):MPost w w1 xb rb m ⟨e,[],m.mem,m.out⟩:=
 ⟨m1,ns,hi,ht,hm,ho,hs,fun h=>absurd h he⟩
theorem takeM1 (w:World) (xb rb:Nat) (m:MS) (a:Int) (r:List Int) (h:MInv w xb rb m (a :: r).reverse):
  Calls Tryz.prog 149 #[.pointer (some ⟨rb,0,none⟩),.int .i64 1] w fun e w'=>∃ v',e=.returned (.tuple #[.agg #[.int .i64 a,.int .i64 0,.int .i64 0],.int .i64 0])/\MInv w' xb rb { m with sv:=v' } r.reverse/\MTo xb rb w w' m { m with sv:=v' }:=
 takeM w xb rb m r.reverse [a] (by simpa using h) (by simp) (by simp)
theorem takeM2 (w:World) (xb rb:Nat) (m:MS) (b a:Int) (r:List Int) (h:MInv w xb rb m (b :: a :: r).reverse):
  Calls Tryz.prog 149 #[.pointer (some ⟨rb,0,none⟩),.int .i64 2] w fun e w'=>∃ v',e=.returned (.tuple #[.agg #[.int .i64 a,.int .i64 b,.int .i64 0],.int .i64 0])/\MInv w' xb rb { m with sv:=v' } r.reverse/\MTo xb rb w w' m { m with sv:=v' }:=
 takeM w xb rb m r.reverse [a,b] (by simpa using h) (by simp) (by simp)
theorem addr_add2 (g j:Nat):(⟨g,0,none⟩:Addr).add j=⟨g,j,none⟩:=by unfold Addr.add;split <;> simp_all
theorem putM1 (w:World) (xb rb:Nat) (m:MS) (r:List Int) (n:Int) (g cap:Nat) (h:MInv w xb rb m r.reverse) (hl:r.length < 32) (hc:w.cell? ⟨g,0,none⟩=some (.int .i64 n)):
  Calls Tryz.prog 96 #[.pointer (some ⟨rb,0,none⟩),.slice (some ⟨g,0,none⟩) 1 cap] w fun e w'=>e=.returned (.int .i64 0)/\∃ v',MInv w' xb rb { m with sv:=v' } (n :: r).reverse/\MTo xb rb w w' m { m with sv:=v' }:=by
 refine (putM_ok w xb rb m r.reverse [n] g cap h (by simp;omega) ?_ (by simp)).mono ?_
 ·intro j u hj
  match j,hj with
  | 0,hj=>simp[ints] at hj;subst hj;rw[addr_add2];exact hc
 ·rintro e w' ⟨rfl,v',hi,ht⟩;exact⟨rfl,v',by rw[List.reverse_cons];exact hi,ht⟩
theorem cp_add (w:World) (xb rb fb:Nat) (m:MS) (b a:Int) (r:List Int) (h:MInv w xb rb m (b :: a :: r).reverse) (hf:Blk w fb 150 #[.func (.func 99) #[] #[]]):
  Calls Tryz.prog 148 #[.pointer (some ⟨rb,0,none⟩),.pointer (some ⟨fb,0,none⟩)] w fun e w'=>e=.returned (.int .i64 0)/\MPost w w' xb rb m ⟨0,wrap64 (a+b) :: r,m.mem,m.out⟩:=by
 have hl:=h.len;simp only[List.length_reverse,List.length_cons] at hl;go_enter Tryz.func148,Tryz.ntmps148
 go_wp2_with fail
 refine (takeM2 _ _ _ _ _ _ _ h).mono ?_;rintro e w1 ⟨v',rfl,hi1,ht1⟩;have hf1:=ht1.blk hf (by rintro (h1|h1);exact absurd (hf.inj (h1 ▸ h.xblk)).1 (by decide);exact absurd (hf.inj (h1 ▸ h.rblk)).1 (by decide)) (by rintro (h1|h1);exact own_ne h.srow hf (by decide) h1;exact own_ne h.orow hf (by decide) h1);have c1:w1.cell? ⟨fb,0,none⟩=some (.func (.func 99) #[] #[]):=hf1.cell rfl;have hfl:=hf1.lt
 go_wp2_with fail
 refine (addM _ _ _).mono ?_;rintro e w' ⟨rfl,hw⟩;rw[hw];clear hw
 go_wp2_with fail
 refine (putM1 _ _ _ _ r (wrap64 (a+b)) _ _ ((hi1.alloc _).alloc _) (by omega) (by simp)).mono ?_;rintro e w2 ⟨rfl,v2,hi2,ht2⟩;go_wp2;go_ret;exact⟨rfl,_,_,hi2,ht1.trans ((MTo.kp (((Kp.refl _ _).alloc _).alloc _)).trans ht2),rfl,rfl,rfl,fun _=>rfl⟩
theorem cp_sub (w:World) (xb rb fb:Nat) (m:MS) (b a:Int) (r:List Int) (h:MInv w xb rb m (b :: a :: r).reverse) (hf:Blk w fb 150 #[.func (.func 100) #[] #[]]):
  Calls Tryz.prog 148 #[.pointer (some ⟨rb,0,none⟩),.pointer (some ⟨fb,0,none⟩)] w fun e w'=>e=.returned (.int .i64 0)/\MPost w w' xb rb m ⟨0,wrap64 (a - b) :: r,m.mem,m.out⟩:=by
 have hl:=h.len;simp only[List.length_reverse,List.length_cons] at hl;go_enter Tryz.func148,Tryz.ntmps148
 go_wp2_with fail
 refine (takeM2 _ _ _ _ _ _ _ h).mono ?_;rintro e w1 ⟨v',rfl,hi1,ht1⟩;have hf1:=ht1.blk hf (by rintro (h1|h1);exact absurd (hf.inj (h1 ▸ h.xblk)).1 (by decide);exact absurd (hf.inj (h1 ▸ h.rblk)).1 (by decide)) (by rintro (h1|h1);exact own_ne h.srow hf (by decide) h1;exact own_ne h.orow hf (by decide) h1);have c1:w1.cell? ⟨fb,0,none⟩=some (.func (.func 100) #[] #[]):=hf1.cell rfl;have hfl:=hf1.lt
 go_wp2_with fail
 refine (subM _ _ _).mono ?_;rintro e w' ⟨rfl,hw⟩;rw[hw];clear hw
 go_wp2_with fail
 refine (putM1 _ _ _ _ r (wrap64 (a - b)) _ _ ((hi1.alloc _).alloc _) (by omega) (by simp)).mono ?_;rintro e w2 ⟨rfl,v2,hi2,ht2⟩;go_wp2;go_ret;exact⟨rfl,_,_,hi2,ht1.trans ((MTo.kp (((Kp.refl _ _).alloc _).alloc _)).trans ht2),rfl,rfl,rfl,fun _=>rfl⟩
theorem cp_mul (w:World) (xb rb fb:Nat) (m:MS) (b a:Int) (r:List Int) (h:MInv w xb rb m (b :: a :: r).reverse) (hf:Blk w fb 150 #[.func (.func 101) #[] #[]]):
  Calls Tryz.prog 148 #[.pointer (some ⟨rb,0,none⟩),.pointer (some ⟨fb,0,none⟩)] w fun e w'=>e=.returned (.int .i64 0)/\MPost w w' xb rb m ⟨0,wrap64 (a * b) :: r,m.mem,m.out⟩:=by
 have hl:=h.len;simp only[List.length_reverse,List.length_cons] at hl;go_enter Tryz.func148,Tryz.ntmps148
 go_wp2_with fail
 refine (takeM2 _ _ _ _ _ _ _ h).mono ?_;rintro e w1 ⟨v',rfl,hi1,ht1⟩;have hf1:=ht1.blk hf (by rintro (h1|h1);exact absurd (hf.inj (h1 ▸ h.xblk)).1 (by decide);exact absurd (hf.inj (h1 ▸ h.rblk)).1 (by decide)) (by rintro (h1|h1);exact own_ne h.srow hf (by decide) h1;exact own_ne h.orow hf (by decide) h1);have c1:w1.cell? ⟨fb,0,none⟩=some (.func (.func 101) #[] #[]):=hf1.cell rfl;have hfl:=hf1.lt
 go_wp2_with fail
 refine (mulM _ _ _).mono ?_;rintro e w' ⟨rfl,hw⟩;rw[hw];clear hw
 go_wp2_with fail
 refine (putM1 _ _ _ _ r (wrap64 (a * b)) _ _ ((hi1.alloc _).alloc _) (by omega) (by simp)).mono ?_;rintro e w2 ⟨rfl,v2,hi2,ht2⟩;go_wp2;go_ret;exact⟨rfl,_,_,hi2,ht1.trans ((MTo.kp (((Kp.refl _ _).alloc _).alloc _)).trans ht2),rfl,rfl,rfl,fun _=>rfl⟩
theorem cp_eq (w:World) (xb rb fb:Nat) (m:MS) (b a:Int) (r:List Int) (h:MInv w xb rb m (b :: a :: r).reverse) (hf:Blk w fb 150 #[.func (.func 105) #[] #[]]):
  Calls Tryz.prog 148 #[.pointer (some ⟨rb,0,none⟩),.pointer (some ⟨fb,0,none⟩)] w fun e w'=>e=.returned (.int .i64 0)/\MPost w w' xb rb m ⟨0,sonum (a == b) :: r,m.mem,m.out⟩:=by
 have hl:=h.len;simp only[List.length_reverse,List.length_cons] at hl;go_enter Tryz.func148,Tryz.ntmps148
 go_wp2_with fail
 refine (takeM2 _ _ _ _ _ _ _ h).mono ?_;rintro e w1 ⟨v',rfl,hi1,ht1⟩;have hf1:=ht1.blk hf (by rintro (h1|h1);exact absurd (hf.inj (h1 ▸ h.xblk)).1 (by decide);exact absurd (hf.inj (h1 ▸ h.rblk)).1 (by decide)) (by rintro (h1|h1);exact own_ne h.srow hf (by decide) h1;exact own_ne h.orow hf (by decide) h1);have c1:w1.cell? ⟨fb,0,none⟩=some (.func (.func 105) #[] #[]):=hf1.cell rfl;have hfl:=hf1.lt
 go_wp2_with fail
 refine (eqM _ _ _).mono ?_;rintro e w' ⟨rfl,hw⟩;rw[hw];clear hw
 go_wp2_with fail
 refine (putM1 _ _ _ _ r (sonum (a == b)) _ _ ((hi1.alloc _).alloc _) (by omega) (by simp)).mono ?_;rintro e w2 ⟨rfl,v2,hi2,ht2⟩;go_wp2;go_ret;exact⟨rfl,_,_,hi2,ht1.trans ((MTo.kp (((Kp.refl _ _).alloc _).alloc _)).trans ht2),rfl,rfl,rfl,fun _=>rfl⟩
theorem cp_lt (w:World) (xb rb fb:Nat) (m:MS) (b a:Int) (r:List Int) (h:MInv w xb rb m (b :: a :: r).reverse) (hf:Blk w fb 150 #[.func (.func 107) #[] #[]]):
  Calls Tryz.prog 148 #[.pointer (some ⟨rb,0,none⟩),.pointer (some ⟨fb,0,none⟩)] w fun e w'=>e=.returned (.int .i64 0)/\MPost w w' xb rb m ⟨0,sonum (decide (a < b)) :: r,m.mem,m.out⟩:=by
 have hl:=h.len;simp only[List.length_reverse,List.length_cons] at hl;go_enter Tryz.func148,Tryz.ntmps148
 go_wp2_with fail
 refine (takeM2 _ _ _ _ _ _ _ h).mono ?_;rintro e w1 ⟨v',rfl,hi1,ht1⟩;have hf1:=ht1.blk hf (by rintro (h1|h1);exact absurd (hf.inj (h1 ▸ h.xblk)).1 (by decide);exact absurd (hf.inj (h1 ▸ h.rblk)).1 (by decide)) (by rintro (h1|h1);exact own_ne h.srow hf (by decide) h1;exact own_ne h.orow hf (by decide) h1);have c1:w1.cell? ⟨fb,0,none⟩=some (.func (.func 107) #[] #[]):=hf1.cell rfl;have hfl:=hf1.lt
 go_wp2_with fail
 refine (ltM _ _ _).mono ?_;rintro e w' ⟨rfl,hw⟩;rw[hw];clear hw
 go_wp2_with fail
 refine (putM1 _ _ _ _ r (sonum (decide (a < b))) _ _ ((hi1.alloc _).alloc _) (by omega) (by simp)).mono ?_;rintro e w2 ⟨rfl,v2,hi2,ht2⟩;go_wp2;go_ret;exact⟨rfl,_,_,hi2,ht1.trans ((MTo.kp (((Kp.refl _ _).alloc _).alloc _)).trans ht2),rfl,rfl,rfl,fun _=>rfl⟩
theorem un_96 (w:World) (xb rb fb:Nat) (m:MS) (ns:List Int) (h:MInv w xb rb m ns) (hl:ns.length < 2):
  Calls Tryz.prog 148 #[.pointer (some ⟨rb,0,none⟩),.pointer (some ⟨fb,0,none⟩)] w fun e w'=>e=.returned (.int .i64 6)/\MPost w w' xb rb m ⟨6,[],m.mem,m.out⟩:=by
 go_enter Tryz.func148,Tryz.ntmps148
 go_wp2_with fail
 refine (takeM_under _ _ _ _ _ _ h (by omega) (by omega)).mono ?_;rintro e w1 ⟨rfl,hk⟩;go_wp2;go_ret;exact⟨rfl,MPost.err (MTo.kp (hk.alloc _)) (h.kp (hk.alloc _)) rfl rfl rfl (by decide)⟩
theorem un_98 (w:World) (xb rb fb:Nat) (m:MS) (ns:List Int) (h:MInv w xb rb m ns) (hl:ns.length < 2):
  Calls Tryz.prog 150 #[.pointer (some ⟨rb,0,none⟩),.pointer (some ⟨fb,0,none⟩)] w fun e w'=>e=.returned (.int .i64 6)/\MPost w w' xb rb m ⟨6,[],m.mem,m.out⟩:=by
 go_enter Tryz.func150,Tryz.ntmps150
 go_wp2_with fail
 refine (takeM_under _ _ _ _ _ _ h (by omega) (by omega)).mono ?_;rintro e w1 ⟨rfl,hk⟩;go_wp2;go_ret;exact⟨rfl,MPost.err (MTo.kp (hk.alloc _)) (h.kp (hk.alloc _)) rfl rfl rfl (by decide)⟩
theorem un_100 (w:World) (xb rb fb:Nat) (m:MS) (ns:List Int) (h:MInv w xb rb m ns) (hl:ns.length < 1):
  Calls Tryz.prog 152 #[.pointer (some ⟨rb,0,none⟩),.pointer (some ⟨fb,0,none⟩)] w fun e w'=>e=.returned (.int .i64 6)/\MPost w w' xb rb m ⟨6,[],m.mem,m.out⟩:=by
 go_enter Tryz.func152,Tryz.ntmps152
 go_wp2_with fail
 refine (takeM_under _ _ _ _ _ _ h (by omega) (by omega)).mono ?_;rintro e w1 ⟨rfl,hk⟩;go_wp2;go_ret;exact⟨rfl,MPost.err (MTo.kp (hk.alloc _)) (h.kp (hk.alloc _)) rfl rfl rfl (by decide)⟩
theorem un_85 (w:World) (xb rb:Nat) (m:MS) (ns:List Int) (h:MInv w xb rb m ns) (hl:ns.length < 1):
  Calls Tryz.prog 112 #[.pointer (some ⟨rb,0,none⟩)] w fun e w'=>e=.returned (.int .i64 6)/\MPost w w' xb rb m ⟨6,[],m.mem,m.out⟩:=by
 go_enter Tryz.func112,Tryz.ntmps112
 go_wp2_with fail
 refine (takeM_under _ _ _ _ _ _ h (by omega) (by omega)).mono ?_;rintro e w1 ⟨rfl,hk⟩;go_wp2;go_ret;exact⟨rfl,MPost.err (MTo.kp (hk.alloc _)) (h.kp (hk.alloc _)) rfl rfl rfl (by decide)⟩
theorem un_86 (w:World) (xb rb:Nat) (m:MS) (ns:List Int) (h:MInv w xb rb m ns) (hl:ns.length < 2):
  Calls Tryz.prog 113 #[.pointer (some ⟨rb,0,none⟩)] w fun e w'=>e=.returned (.int .i64 6)/\MPost w w' xb rb m ⟨6,[],m.mem,m.out⟩:=by
 go_enter Tryz.func113,Tryz.ntmps113
 go_wp2_with fail
 refine (takeM_under _ _ _ _ _ _ h (by omega) (by omega)).mono ?_;rintro e w1 ⟨rfl,hk⟩;go_wp2;go_ret;exact⟨rfl,MPost.err (MTo.kp (hk.alloc _)) (h.kp (hk.alloc _)) rfl rfl rfl (by decide)⟩
end
section
open Go.RowKit
theorem dv_quo (w:World) (xb rb fb:Nat) (m:MS) (b a:Int) (r:List Int) (h:MInv w xb rb m (b :: a :: r).reverse) (hf:Blk w fb 150 #[.func (.func 103) #[] #[]]) (hb:¬ b=0):
  Calls Tryz.prog 150 #[.pointer (some ⟨rb,0,none⟩),.pointer (some ⟨fb,0,none⟩)] w fun e w'=>e=.returned (.int .i64 0)/\MPost w w' xb rb m ⟨0,fdiv a b :: r,m.mem,m.out⟩:=by
 have hl:=h.len;simp only[List.length_reverse,List.length_cons] at hl;go_enter Tryz.func150,Tryz.ntmps150
 go_wp2_with fail
 refine (takeM2 _ _ _ _ _ _ _ h).mono ?_;rintro e w1 ⟨v',rfl,hi1,ht1⟩;have hf1:=ht1.blk hf (by rintro (h1|h1);exact absurd (hf.inj (h1 ▸ h.xblk)).1 (by decide);exact absurd (hf.inj (h1 ▸ h.rblk)).1 (by decide)) (by rintro (h1|h1);exact own_ne h.srow hf (by decide) h1;exact own_ne h.orow hf (by decide) h1);have c1:w1.cell? ⟨fb,0,none⟩=some (.func (.func 103) #[] #[]):=hf1.cell rfl;have hfl:=hf1.lt
 go_wp2_with fail
 refine (quotM _ _ _ hb).mono ?_;rintro e w' ⟨rfl,hw⟩;rw[hw];clear hw
 go_wp2_with fail
 refine (putM1 _ _ _ _ r (fdiv a b) _ _ ((hi1.alloc _).alloc _) (by omega) (by simp)).mono ?_;rintro e w2 ⟨rfl,v2,hi2,ht2⟩;go_wp2;go_ret;exact⟨rfl,_,_,hi2,ht1.trans ((MTo.kp (((Kp.refl _ _).alloc _).alloc _)).trans ht2),rfl,rfl,rfl,fun _=>rfl⟩
theorem dv_mod (w:World) (xb rb fb:Nat) (m:MS) (b a:Int) (r:List Int) (h:MInv w xb rb m (b :: a :: r).reverse) (hf:Blk w fb 150 #[.func (.func 104) #[] #[]]) (hb:¬ b=0):
  Calls Tryz.prog 150 #[.pointer (some ⟨rb,0,none⟩),.pointer (some ⟨fb,0,none⟩)] w fun e w'=>e=.returned (.int .i64 0)/\MPost w w' xb rb m ⟨0,wrap64 (a - wrap64 (b * fdiv a b)) :: r,m.mem,m.out⟩:=by
 have hl:=h.len;simp only[List.length_reverse,List.length_cons] at hl;go_enter Tryz.func150,Tryz.ntmps150
 go_wp2_with fail
 refine (takeM2 _ _ _ _ _ _ _ h).mono ?_;rintro e w1 ⟨v',rfl,hi1,ht1⟩;have hf1:=ht1.blk hf (by rintro (h1|h1);exact absurd (hf.inj (h1 ▸ h.xblk)).1 (by decide);exact absurd (hf.inj (h1 ▸ h.rblk)).1 (by decide)) (by rintro (h1|h1);exact own_ne h.srow hf (by decide) h1;exact own_ne h.orow hf (by decide) h1);have c1:w1.cell? ⟨fb,0,none⟩=some (.func (.func 104) #[] #[]):=hf1.cell rfl;have hfl:=hf1.lt
 go_wp2_with fail
 refine (remM _ _ _ hb).mono ?_;rintro e w' ⟨rfl,hw⟩;rw[hw];clear hw
 go_wp2_with fail
 refine (putM1 _ _ _ _ r (wrap64 (a - wrap64 (b * fdiv a b))) _ _ ((hi1.alloc _).alloc _) (by omega) (by simp)).mono ?_;rintro e w2 ⟨rfl,v2,hi2,ht2⟩;go_wp2;go_ret;exact⟨rfl,_,_,hi2,ht1.trans ((MTo.kp (((Kp.refl _ _).alloc _).alloc _)).trans ht2),rfl,rfl,rfl,fun _=>rfl⟩
theorem dv_zero (w:World) (xb rb fb:Nat) (m:MS) (a:Int) (r:List Int) (h:MInv w xb rb m (0 :: a :: r).reverse):
  Calls Tryz.prog 150 #[.pointer (some ⟨rb,0,none⟩),.pointer (some ⟨fb,0,none⟩)] w fun e w'=>e=.returned (.int .i64 9)/\MPost w w' xb rb m ⟨9,[],m.mem,m.out⟩:=by
 go_enter Tryz.func150,Tryz.ntmps150
 go_wp2_with fail
 refine (takeM2 _ _ _ _ _ _ _ h).mono ?_;rintro e w1 ⟨v',rfl,hi1,ht1⟩;go_wp2;go_ret;exact⟨rfl,MPost.err (ht1.trans (MTo.kp ((Kp.refl _ _).alloc _))) (hi1.alloc _) rfl rfl rfl (by decide)⟩
theorem ly_ok (w:World) (xb rb nb:Nat) (m:MS) (n:Int) (r:List Int) (h:MInv w xb rb m r.reverse) (hn:w.cell? ⟨nb,0,none⟩=some (.int .i64 n)) (hl:r.length < 32):
  Calls Tryz.prog 95 #[.pointer (some ⟨rb,0,none⟩),.pointer (some ⟨nb,0,none⟩)] w fun e w'=>e=.returned (.int .i64 0)/\MPost w w' xb rb m ⟨0,n :: r,m.mem,m.out⟩:=by
 go_enter Tryz.func95,Tryz.ntmps95
 go_wp2_with fail
 refine (putM1 _ _ _ _ r n _ _ (h.alloc _) hl (by simp)).mono ?_;rintro e w2 ⟨rfl,v2,hi2,ht2⟩;go_wp2;go_ret;exact⟨rfl,_,_,hi2,(MTo.kp ((Kp.refl _ _).alloc _)).trans ht2,rfl,rfl,rfl,fun _=>rfl⟩
theorem ly_full (w:World) (xb rb nb:Nat) (m:MS) (n:Int) (r:List Int) (h:MInv w xb rb m r.reverse) (hn:w.cell? ⟨nb,0,none⟩=some (.int .i64 n)) (hl:¬ r.length < 32):
  Calls Tryz.prog 95 #[.pointer (some ⟨rb,0,none⟩),.pointer (some ⟨nb,0,none⟩)] w fun e w'=>e=.returned (.int .i64 7)/\MPost w w' xb rb m ⟨7,[],m.mem,m.out⟩:=by
 go_enter Tryz.func95,Tryz.ntmps95
 go_wp2_with fail
 refine (putM_full _ _ _ _ _ _ _ _ (h.alloc _) (by omega) (by simp;omega)).mono ?_;rintro e w' ⟨rfl,hw⟩;rw[hw];clear hw;go_wp2;go_ret;exact⟨rfl,MPost.err (MTo.kp ((Kp.refl _ _).alloc _)) (h.alloc _) rfl rfl rfl (by decide)⟩
theorem fe_ok (w:World) (xb rb:Nat) (m:MS) (a:Int) (r:List Int) (h:MInv w xb rb m (a :: r).reverse) (h0:0<=a) (h1:a < 16):
  Calls Tryz.prog 112 #[.pointer (some ⟨rb,0,none⟩)] w fun e w'=>e=.returned (.int .i64 0)/\MPost w w' xb rb m ⟨0,m.mem a.toNat :: r,m.mem,m.out⟩:=by
 have hl:=h.len;simp only[List.length_reverse,List.length_cons] at hl;have hd:decide (0<=a/\a < 16)=true:=decide_eq_true ⟨h0,h1⟩;go_enter Tryz.func112,Tryz.ntmps112
 go_wp2_with fail
 refine (takeM1 _ _ _ _ _ _ h).mono ?_;rintro e w1 ⟨v',rfl,hi1,ht1⟩;have c0:w1.cell? ⟨rb,0,none⟩=some (.pointer (some ⟨xb,0,none⟩)):=hi1.rblk.cell rfl;have c1:w1.cell? ⟨xb,1+a.toNat,none⟩=some (.int .i64 (m.mem a.toNat)):=hi1.xblk.cell (marr_at _ _ _ _ (by omega));have l1:=hi1.rblk.lt;have l2:=hi1.xblk.lt
 go_wp2_with fail
 refine (isCellM _ _).mono ?_;rintro e w' ⟨rfl,hw⟩;rw[hw,hd];clear hw
 go_wp2_with fail
 go_region_with (go_at_call 96;refine (putM1 _ xb _ { m with sv:=v' } r (m.mem a.toNat) _ _ (by exact ((hi1.alloc _).alloc _).drew) (by omega) (by simp)).mono ?_;rintro e w2 ⟨rfl,v2,hi2,ht2⟩)
 all_goals go_wp2
 all_goals go_ret
 all_goals exact⟨rfl,_,_,hi2,ht1.trans ((MTo.kp ((((Kp.refl _ _).alloc _).alloc _).drew)).trans ht2),rfl,rfl,rfl,fun _=>rfl⟩
theorem fe_no (w:World) (xb rb:Nat) (m:MS) (a:Int) (r:List Int) (h:MInv w xb rb m (a :: r).reverse) (h0:¬ (0<=a/\a < 16)):
  Calls Tryz.prog 112 #[.pointer (some ⟨rb,0,none⟩)] w fun e w'=>e=.returned (.int .i64 10)/\MPost w w' xb rb m ⟨10,[],m.mem,m.out⟩:=by
 have hd:decide (0<=a/\a < 16)=false:=decide_eq_false h0;clear h0;go_enter Tryz.func112,Tryz.ntmps112
 go_wp2_with fail
 refine (takeM1 _ _ _ _ _ _ h).mono ?_;rintro e w1 ⟨v',rfl,hi1,ht1⟩
 go_wp2_with fail
 refine (isCellM _ _).mono ?_;rintro e w' ⟨rfl,hw⟩;rw[hw,hd];clear hw;go_wp2;go_ret;exact⟨rfl,MPost.err (ht1.trans (MTo.kp ((Kp.refl _ _).alloc _))) (hi1.alloc _) rfl rfl rfl (by decide)⟩
theorem MInv.setMem {w:World} {xb rb:Nat} {m:MS} {ns:List Int} (h:MInv w xb rb m ns) (i:Nat) (hi:i < 16) (v:Int):
    MInv (w.setCell ⟨xb,1+i,none⟩ (.int .i64 v)) xb rb { m with mem:=fun j=>if j=i then v else m.mem j } ns/\MTo xb rb w (w.setCell ⟨xb,1+i,none⟩ (.int .i64 v)) m { m with mem:=fun j=>if j=i then v else m.mem j }:=
  ⟨⟨by have:=h.xblk.set (1+i) (.int .i64 v);rw[marr_upd _ _ _ i v hi] at this;exact this,h.rblk.setOther h.ne.symm _,ownsRow_setCell_other h.srow (own_ne h.srow h.xblk (by decide)) _,ownsRow_setCell_other h.orow (own_ne h.orow h.xblk (by decide)) _,h.len⟩,
   ⟨(Kp.refl _ _).set (fun _=>.inl (.inl rfl)) _,fun _ hk=>.inl hk⟩⟩
theorem st_ok (w:World) (xb rb:Nat) (m:MS) (b a:Int) (r:List Int) (h:MInv w xb rb m (b :: a :: r).reverse) (h0:0<=b) (h1:b < 16):
  Calls Tryz.prog 113 #[.pointer (some ⟨rb,0,none⟩)] w fun e w'=>e=.returned (.int .i64 0)/\MPost w w' xb rb m ⟨0,r,fun j=>if j=b.toNat then a else m.mem j,m.out⟩:=by
 have hd:decide (0<=b/\b < 16)=true:=decide_eq_true ⟨h0,h1⟩;go_enter Tryz.func113,Tryz.ntmps113
 go_wp2_with fail
 refine (takeM2 _ _ _ _ _ _ _ h).mono ?_;rintro e w1 ⟨v',rfl,hi1,ht1⟩;have c0:w1.cell? ⟨rb,0,none⟩=some (.pointer (some ⟨xb,0,none⟩)):=hi1.rblk.cell rfl;have c1:w1.cell? ⟨xb,1+b.toNat,none⟩=some (.int .i64 (m.mem b.toNat)):=hi1.xblk.cell (marr_at _ _ _ _ (by omega));have f1:=hi1.xblk.free (1+b.toNat);have l1:=hi1.rblk.lt;have l2:=hi1.xblk.lt;have HM:=hi1.setMem b.toNat (by omega) a
 go_wp2_with fail
 refine (isCellM _ _).mono ?_;rintro e w' ⟨rfl,hw⟩;rw[hw,hd];clear hw;go_wp2
 go_region
 all_goals go_wp2
 all_goals go_ret
 all_goals exact⟨rfl,_,_,(HM.1.alloc _).drew,ht1.trans (HM.2.trans (MTo.kp (((Kp.refl _ _).alloc _).drew))),rfl,rfl,rfl,fun _=>rfl⟩
theorem st_no (w:World) (xb rb:Nat) (m:MS) (b a:Int) (r:List Int) (h:MInv w xb rb m (b :: a :: r).reverse) (h0:¬ (0<=b/\b < 16)):
  Calls Tryz.prog 113 #[.pointer (some ⟨rb,0,none⟩)] w fun e w'=>e=.returned (.int .i64 10)/\MPost w w' xb rb m ⟨10,[],m.mem,m.out⟩:=by
 have hd:decide (0<=b/\b < 16)=false:=decide_eq_false h0;clear h0;go_enter Tryz.func113,Tryz.ntmps113
 go_wp2_with fail
 refine (takeM2 _ _ _ _ _ _ _ h).mono ?_;rintro e w1 ⟨v',rfl,hi1,ht1⟩
 go_wp2_with fail
 refine (isCellM _ _).mono ?_;rintro e w' ⟨rfl,hw⟩;rw[hw,hd];clear hw;go_wp2;go_ret;exact⟨rfl,MPost.err (ht1.trans (MTo.kp ((Kp.refl _ _).alloc _))) (hi1.alloc _) rfl rfl rfl (by decide)⟩
end
section
open Go.RowKit
def plainL:List (List UInt8):=[[43],[45],[42],[47],[109,111,100],[61],[60],[100,117,112],[100,114,111,112],[115,119,97,112],[111,118,101,114],[114,111,116],[46],[101,109,105,116],[64],[33]]
def keptL:List (List UInt8):=[[105,102],[101,108,115,101],[116,104,101,110],[98,101,103,105,110],[117,110,116,105,108],[119,104,105,108,101],[114,101,112,101,97,116],[100,111],[108,111,111,112],[105],[114,101,99,117,114,115,101],[101,120,105,116]]
def digB (c:UInt8):Bool:=decide (48<=c.toNat/\c.toNat<=57)
def valD (l:List UInt8):Nat:=l.foldl (fun n c=>10 * n+(c.toNat - 48)) 0
def digitsB (r:List UInt8):Bool:=decide (1<=r.length/\r.length<=18) && r.all digB
def numP:List UInt8->Option Int
 | []=>none
 | c :: r=>if c=45 then (if digitsB r=true then some (-(valD r:Int)) else none) else (if digitsB (c :: r)=true then some (valD (c :: r):Int) else none)
theorem valD_snoc (l:List UInt8) (c:UInt8):valD (l ++ [c])=10 * valD l+(c.toNat - 48):=by simp[valD,List.foldl_append]
theorem valD_lt:∀ (l:List UInt8),l.all digB=true->valD l < 10 ^ l.length:=by
 intro l;generalize hn:l.length=n
 induction n generalizing l with
 | zero=>intro _;have:l=[]:=List.eq_nil_of_length_eq_zero hn;subst this;decide
 | succ n ih=>
  intro h;rcases List.eq_nil_or_concat l with rfl|⟨l',c,hlc⟩
  ·simp at hn
  ·rw[List.concat_eq_append] at hlc;subst hlc;simp only[List.length_append,List.length_cons,List.length_nil] at hn;simp only[List.all_append,List.all_cons,List.all_nil,Bool.and_true,Bool.and_eq_true] at h;have h1:=ih l' (by omega) h.1;have h2:=of_decide_eq_true h.2;rw[valD_snoc,Nat.pow_succ];omega
theorem pow_le18 {k:Nat} (h:k<=18):(10:Nat) ^ k<=1000000000000000000:=by
 have:=Nat.pow_le_pow_right (show 0 < 10 by decide) h
 simpa using this
theorem take_snoc (s:ByteArray) (k:Nat) (h:k < s.size):s.data.toList.take (k+1)=s.data.toList.take k ++ [s[k]]:=by
 rw[List.take_succ_eq_append_getElem (by simpa using h)];rfl
theorem numP_range {l:List UInt8} {n:Int} (h:numP l=some n):-9223372036854775808<=n/\n<=9223372036854775807:=by
 have key:∀ r,digitsB r=true->(valD r:Int) < 1000000000000000000:=by
  intro r hr;simp only[digitsB,Bool.and_eq_true,decide_eq_true_eq] at hr;have h1:=valD_lt r hr.2;have h2:=pow_le18 hr.1.2;omega
 cases l with
 | nil=>simp[numP] at h
 | cons c r=>
  simp only[numP] at h
  split at h
  ·split at h
   ·rename_i hd;injection h with h;have:=key _ hd;omega
   ·cases h
  ·split at h
   ·rename_i hd;injection h with h;have:=key _ hd;omega
   ·cases h
end
section
open Go.RowKit
theorem digitsB_bad {l:List UInt8} {k:Nat} (hk:k < l.length) (hb:digB l[k]=false):digitsB l=false:=by
 simp only[digitsB,Bool.and_eq_false_iff]
 right
 rw[List.all_eq_false];exact⟨l[k],List.getElem_mem hk,by rw[hb];decide⟩
end
section
open Go.RowKit
def okB (c:UInt8):Bool:=decide (32<=c.toNat/\c.toNat<=126)
def validB (l:List UInt8):Bool:=decide (l.length<=400) && l.all okB
theorem Tryz.info9:(Tryz.prog.info? 9).map (fun i=>(i.zero,i.size,i.bytes))=some (some (.string ByteArray.empty),1,16):=by kernel_rfl
theorem all_snoc {s:ByteArray} {k:Nat} (hlt:k < s.size) (h:(s.data.toList.take k).all okB=true) (ho:32<=s[k].toNat/\s[k].toNat<=126):(s.data.toList.take (k+1)).all okB=true:=by
 rw[take_snoc s k hlt,List.all_append,h];simp[okB,ho]
theorem validB_of {s:ByteArray} (hs:s.size<=400) (h:(s.data.toList.take s.size).all okB=true):validB s.data.toList=true:=by
 have hl:s.data.toList.length=s.size:=rfl;rw[List.take_of_length_le (by omega)] at h;unfold validB;rw[h,hl];simpa using hs
theorem validB_bad {s:ByteArray} {k:Nat} (hlt:k < s.size) (h:¬ (32<=s[k].toNat/\s[k].toNat<=126)):validB s.data.toList=false:=by
 unfold validB;rw[Bool.and_eq_false_iff];right;rw[List.all_eq_false];refine⟨s[k],?_,by simp[okB];omega⟩;have:s.data.toList[k]'hlt=s[k]:=rfl;rw[<-this];exact List.getElem_mem _
end
section
open Go.RowKit
def prtP (mem:Nat->Int) (out:ByteArray) (r:List Int) (t:ByteArray):Res:=if 300 < out.size+t.size then ⟨11,[],mem,out⟩ else ⟨0,r,mem,out ++ t⟩
def under (mem:Nat->Int) (out:ByteArray):Res:=⟨6,[],mem,out⟩
def p_add (mem:Nat->Int) (out:ByteArray):List Int->Res
 | b :: a :: r=>⟨0,wrap64 (a+b) :: r,mem,out⟩
 | _=>under mem out
def p_sub (mem:Nat->Int) (out:ByteArray):List Int->Res
 | b :: a :: r=>⟨0,wrap64 (a - b) :: r,mem,out⟩
 | _=>under mem out
def p_mul (mem:Nat->Int) (out:ByteArray):List Int->Res
 | b :: a :: r=>⟨0,wrap64 (a * b) :: r,mem,out⟩
 | _=>under mem out
def p_quo (mem:Nat->Int) (out:ByteArray):List Int->Res
 | b :: a :: r=>if b=0 then ⟨9,[],mem,out⟩ else ⟨0,fdiv a b :: r,mem,out⟩
 | _=>under mem out
def p_mod (mem:Nat->Int) (out:ByteArray):List Int->Res
 | b :: a :: r=>if b=0 then ⟨9,[],mem,out⟩ else ⟨0,wrap64 (a - wrap64 (b * fdiv a b)) :: r,mem,out⟩
 | _=>under mem out
def p_eq (mem:Nat->Int) (out:ByteArray):List Int->Res
 | b :: a :: r=>⟨0,sonum (a == b) :: r,mem,out⟩
 | _=>under mem out
def p_lt (mem:Nat->Int) (out:ByteArray):List Int->Res
 | b :: a :: r=>⟨0,sonum (decide (a < b)) :: r,mem,out⟩
 | _=>under mem out
def p_dup (mem:Nat->Int) (out:ByteArray):List Int->Res
 | a :: r=>if r.length < 31 then ⟨0,a :: a :: r,mem,out⟩ else ⟨7,[],mem,out⟩
 | _=>under mem out
def p_drop (mem:Nat->Int) (out:ByteArray):List Int->Res
 | _ :: r=>⟨0,r,mem,out⟩
 | _=>under mem out
def p_swap (mem:Nat->Int) (out:ByteArray):List Int->Res
 | b :: a :: r=>⟨0,a :: b :: r,mem,out⟩
 | _=>under mem out
def p_over (mem:Nat->Int) (out:ByteArray):List Int->Res
 | b :: a :: r=>if r.length < 30 then ⟨0,a :: b :: a :: r,mem,out⟩ else ⟨7,[],mem,out⟩
 | _=>under mem out
def p_rot (mem:Nat->Int) (out:ByteArray):List Int->Res
 | c :: b :: a :: r=>⟨0,a :: c :: b :: r,mem,out⟩
 | _=>under mem out
def p_dot (mem:Nat->Int) (out:ByteArray):List Int->Res
 | a :: r=>prtP mem out r (dot a)
 | _=>under mem out
def p_emit (mem:Nat->Int) (out:ByteArray):List Int->Res
 | a :: r=>prtP mem out r (chR a)
 | _=>under mem out
def p_fetch (mem:Nat->Int) (out:ByteArray):List Int->Res
 | a :: r=>if 0<=a/\a < 16 then ⟨0,mem a.toNat :: r,mem,out⟩ else ⟨10,[],mem,out⟩
 | _=>under mem out
def p_store (mem:Nat->Int) (out:ByteArray):List Int->Res
 | b :: a :: r=>if 0<=b/\b < 16 then ⟨0,r,fun j=>if j=b.toNat then a else mem j,out⟩ else ⟨10,[],mem,out⟩
 | _=>under mem out
def plainP (k:Nat) (rs:List Int) (mem:Nat->Int) (out:ByteArray):Res:=
 match k with
 | 0=>p_add mem out rs
 | 1=>p_sub mem out rs
 | 2=>p_mul mem out rs
 | 3=>p_quo mem out rs
 | 4=>p_mod mem out rs
 | 5=>p_eq mem out rs
 | 6=>p_lt mem out rs
 | 7=>p_dup mem out rs
 | 8=>p_drop mem out rs
 | 9=>p_swap mem out rs
 | 10=>p_over mem out rs
 | 11=>p_rot mem out rs
 | 12=>p_dot mem out rs
 | 13=>p_emit mem out rs
 | 14=>p_fetch mem out rs
 | _=>p_store mem out rs
def In (a:Int):Prop:=-9223372036854775808<=a/\a<=9223372036854775807
theorem In_wrap (x:Int):In (wrap64 x):=by unfold In wrap64;omega
theorem In_so (b:Bool):In (sonum b):=by cases b <;> simp[sonum,In]
theorem In_fdiv (a b:Int):In (fdiv a b):=by unfold fdiv;split <;> exact In_wrap _
structure Good (rs:List Int) (mem:Nat->Int) (out:ByteArray):Prop where
 ins:∀ a∈rs,In a
 mems:∀ i,In (mem i)
 len:rs.length<=32
 osz:out.size<=300
def Fine (R:Res):Prop:=Good R.rs R.mem R.out
theorem Fine.err {rs:List Int} {mem:Nat->Int} {out:ByteArray} (h:Good rs mem out) (e:Int):Fine ⟨e,[],mem,out⟩:=⟨by simp,h.mems,by simp,h.osz⟩
theorem Fine.prt {rs:List Int} {mem:Nat->Int} {out:ByteArray} (h:Good rs mem out) (r:List Int) (t:ByteArray) (hr:∀ a∈r,In a) (hl:r.length<=32):Fine (prtP mem out r t):=by
 unfold prtP
 split
 ·exact Fine.err h 11
 ·exact⟨hr,h.mems,hl,by show (out ++ t).size<=300;rw[ByteArray.size_append];omega⟩
theorem plain_fine (k:Nat) {rs:List Int} {mem:Nat->Int} {out:ByteArray} (h:Good rs mem out):Fine (plainP k rs mem out):=by
 have hu:Fine (under mem out):=Fine.err h 6;have hw:=In_wrap;have hs:=In_so;have hf:=In_fdiv;have hm:=h.mems;unfold plainP
 split
 ·unfold p_add
  split
  ·have hi:=h.ins;have hl:=h.len;simp only[List.mem_cons,forall_eq_or_imp,List.length_cons] at hi hl
   skip
   refine⟨?_,hm,by simp only[List.length_cons];omega,h.osz⟩;simp only[List.mem_cons,forall_eq_or_imp];exact⟨hw _,hi.2.2⟩
  ·exact hu
 ·unfold p_sub
  split
  ·have hi:=h.ins;have hl:=h.len;simp only[List.mem_cons,forall_eq_or_imp,List.length_cons] at hi hl
   skip
   refine⟨?_,hm,by simp only[List.length_cons];omega,h.osz⟩;simp only[List.mem_cons,forall_eq_or_imp];exact⟨hw _,hi.2.2⟩
  ·exact hu
 ·unfold p_mul
  split
  ·have hi:=h.ins;have hl:=h.len;simp only[List.mem_cons,forall_eq_or_imp,List.length_cons] at hi hl
   skip
   refine⟨?_,hm,by simp only[List.length_cons];omega,h.osz⟩;simp only[List.mem_cons,forall_eq_or_imp];exact⟨hw _,hi.2.2⟩
  ·exact hu
 ·unfold p_quo
  split
  ·have hi:=h.ins;have hl:=h.len;simp only[List.mem_cons,forall_eq_or_imp,List.length_cons] at hi hl
   split <;> first|exact Fine.err h _|skip
   refine⟨?_,hm,by simp only[List.length_cons];omega,h.osz⟩;simp only[List.mem_cons,forall_eq_or_imp];exact⟨hf _ _,hi.2.2⟩
  ·exact hu
 ·unfold p_mod
  split
  ·have hi:=h.ins;have hl:=h.len;simp only[List.mem_cons,forall_eq_or_imp,List.length_cons] at hi hl
   split <;> first|exact Fine.err h _|skip
   refine⟨?_,hm,by simp only[List.length_cons];omega,h.osz⟩;simp only[List.mem_cons,forall_eq_or_imp];exact⟨hw _,hi.2.2⟩
  ·exact hu
 ·unfold p_eq
  split
  ·have hi:=h.ins;have hl:=h.len;simp only[List.mem_cons,forall_eq_or_imp,List.length_cons] at hi hl
   skip
   refine⟨?_,hm,by simp only[List.length_cons];omega,h.osz⟩;simp only[List.mem_cons,forall_eq_or_imp];exact⟨hs _,hi.2.2⟩
  ·exact hu
 ·unfold p_lt
  split
  ·have hi:=h.ins;have hl:=h.len;simp only[List.mem_cons,forall_eq_or_imp,List.length_cons] at hi hl
   skip
   refine⟨?_,hm,by simp only[List.length_cons];omega,h.osz⟩;simp only[List.mem_cons,forall_eq_or_imp];exact⟨hs _,hi.2.2⟩
  ·exact hu
 ·unfold p_dup
  split
  ·have hi:=h.ins;have hl:=h.len;simp only[List.mem_cons,forall_eq_or_imp,List.length_cons] at hi hl
   split <;> first|exact Fine.err h _|skip
   refine⟨?_,hm,by simp only[List.length_cons];omega,h.osz⟩;simp only[List.mem_cons,forall_eq_or_imp];exact⟨hi.1,hi.1,hi.2⟩
  ·exact hu
 ·unfold p_drop
  split
  ·have hi:=h.ins;have hl:=h.len;simp only[List.mem_cons,forall_eq_or_imp,List.length_cons] at hi hl
   skip
   exact⟨hi.2,hm,by dsimp only;omega,h.osz⟩
  ·exact hu
 ·unfold p_swap
  split
  ·have hi:=h.ins;have hl:=h.len;simp only[List.mem_cons,forall_eq_or_imp,List.length_cons] at hi hl
   skip
   refine⟨?_,hm,by simp only[List.length_cons];omega,h.osz⟩;simp only[List.mem_cons,forall_eq_or_imp];exact⟨hi.2.1,hi.1,hi.2.2⟩
  ·exact hu
 ·unfold p_over
  split
  ·have hi:=h.ins;have hl:=h.len;simp only[List.mem_cons,forall_eq_or_imp,List.length_cons] at hi hl
   split <;> first|exact Fine.err h _|skip
   refine⟨?_,hm,by simp only[List.length_cons];omega,h.osz⟩;simp only[List.mem_cons,forall_eq_or_imp];exact⟨hi.2.1,hi.1,hi.2.1,hi.2.2⟩
  ·exact hu
 ·unfold p_rot
  split
  ·have hi:=h.ins;have hl:=h.len;simp only[List.mem_cons,forall_eq_or_imp,List.length_cons] at hi hl
   skip
   refine⟨?_,hm,by simp only[List.length_cons];omega,h.osz⟩;simp only[List.mem_cons,forall_eq_or_imp];exact⟨hi.2.2.1,hi.1,hi.2.1,hi.2.2.2⟩
  ·exact hu
 ·unfold p_dot
  split
  ·have hi:=h.ins;have hl:=h.len;simp only[List.mem_cons,forall_eq_or_imp,List.length_cons] at hi hl
   skip
   exact Fine.prt h _ _ hi.2 (by omega)
  ·exact hu
 ·unfold p_emit
  split
  ·have hi:=h.ins;have hl:=h.len;simp only[List.mem_cons,forall_eq_or_imp,List.length_cons] at hi hl
   skip
   exact Fine.prt h _ _ hi.2 (by omega)
  ·exact hu
 ·unfold p_fetch
  split
  ·have hi:=h.ins;have hl:=h.len;simp only[List.mem_cons,forall_eq_or_imp,List.length_cons] at hi hl
   split <;> first|exact Fine.err h _|skip
   refine⟨?_,hm,by simp only[List.length_cons];omega,h.osz⟩;simp only[List.mem_cons,forall_eq_or_imp];exact⟨hm _,hi.2⟩
  ·exact hu
 ·unfold p_store
  split
  ·have hi:=h.ins;have hl:=h.len;simp only[List.mem_cons,forall_eq_or_imp,List.length_cons] at hi hl
   split <;> first|exact Fine.err h _|skip
   refine⟨hi.2.2,?_,by dsimp only;omega,h.osz⟩;intro i;show In (if _ then _ else _);split
   ·exact hi.2.1
   ·exact hm i
  ·exact hu
end
end Go.Proofs.YteainaiebcphlaaGreatDoor
