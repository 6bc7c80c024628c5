import Derived.Test.YteainaiebcphlaaGreatDoorV41
import Derived.Test.YteainaiebcphlaaGreatDoorV42
import Derived.WalkSmall
import Derived.Test.YteainaiebcphlaaGreatDoorV39
import Derived.Deep.DeepWitnessRowRef
import Derived.SizedLaws
import Derived.Deep.Slices
import Derived.Test.YteainaiebcphlaaGreatDoorCards
import Derived.Test.YteainaiebcphlaaGreatDoorTie
import Derived.SevenTiedAt
import Derived.Handy
namespace Go.Proofs.YteainaiebcphlaaGreatDoor
set_option maxRecDepth 1000000
set_option maxHeartbeats 4000000
set_option linter.all false
section
open Go.RowKit
theorem cell_kpK {w w':World} {S:Nat->Prop} {q j:Nat} {u:Value} (hk:Kp w w' S) (hq:¬ S q) (hc:w.cell? ⟨q,j,none⟩=some u):w'.cell? ⟨q,j,none⟩=some u:=by
 have hlt:q < w.heap.size:=by
  rcases Nat.lt_or_ge q w.heap.size with h|h
  ·exact h
  ·unfold World.cell? at hc;rw[Array.getElem?_eq_none h] at hc;cases hc
 have e:=hk.block q hlt hq;unfold World.cell? at hc ⊢;rw[e];exact hc
def textB (ts:List Tok):ByteArray:=⟨(textOf ts).toArray⟩
theorem textB_app (a b:List Tok):textB (a ++ b)=textB a ++ textB b:=by
 unfold textB;rw[ba_app,textOf_app];simp
theorem textB_num (ts:List Tok) (n:Int):textB (ts ++ [Lib.itoa n])=textB ts ++ numB n ++ ⟨#[32]⟩:=by
 unfold textB numB;rw[ba_app,ba_app,textOf_app];simp[textOf]
theorem textB_size (ts:List Tok):(textB ts).size=(textOf ts).length:=by
 show (textOf ts).toArray.size=_;simp
theorem pick_natK (c:Int) (n:Nat) (hn:1<=n):∃ p:Nat,pkV c n=p/\p < n:=by
 have:=pkV_lt c n (by omega);exact⟨(pkV c n).toNat,by omega,by omega⟩
theorem tmod_bounds (c:Int):-1000000 < c.tmod 1000000/\c.tmod 1000000 < 1000000:=by
 rcases Int.le_total 0 c with h|h
 ·rw[Int.tmod_eq_emod_of_nonneg h];omega
 ·have e:c.tmod 1000000 = -((-c) % 1000000):=by
   rw[<-Int.tmod_eq_emod_of_nonneg (by omega:0<=-c),Int.neg_tmod];omega
  omega
theorem row_capK {w:World} {g n cap:Nat} {xs:List Value} (h:w.ownsRow 0 3 1 (.slice (some ⟨g,0,none⟩) n cap) n xs):n<=cap:=by
 rcases h.2 with⟨h0,_⟩|⟨g',cap',cur,hv,_,_,hn,_⟩
 ·cases h0
 ·cases hv;exact hn
theorem Kp.past {w w1 w2:World} {S:Nat->Prop} (h:Kp w w1 (fun _=>False)) (h2:Kp w1 w2 S) (hs:∀ k,S k->w.heap.size<=k):Kp w w2 (fun _=>False):=
 ⟨h2.os.trans h.os,h2.tape.trans h.tape,h2.output.trans h.output,Nat.le_trans h.size h2.size,fun k hk _=>(h2.block k (Nat.lt_of_lt_of_le hk h.size) (fun e=>by have:=hs k e;omega)).trans (h.block k hk (fun e=>e))⟩
structure ArAt (w wr:World) (v:Value) (ts:List Tok) (rs:List Int) (k:Nat):Prop where
 inv:ArInv ts rs k
 row:wr.ownsRow 0 3 1 v rs.length (ints rs.reverse)
 new:∀ q,own v q->w.heap.size<=q
 kp:Kp w wr (fun _=>False)
theorem ArAt.next {w wx w1:World} {v1 v':Value} {ts':List Tok} {rs':List Int} {k:Nat} (hi:ArInv ts' rs' k) (hkp:Kp w wx (fun _=>False)) (hnew:∀ q,own v1 q->w.heap.size<=q) (hr:w1.ownsRow 0 3 1 v' rs'.length (ints rs'.reverse)) (hg:wx.grownBy w1 v1.ownBlock) (hnx:∀ q,own v' q->own v1 q\/wx.heap.size<=q):ArAt w w1 v' ts' rs' k:=
 ⟨hi,hr,fun q hq=>(hnx q hq).elim (hnew q) (fun h=>Nat.le_trans hkp.size h),Kp.past hkp ((Kp.refl wx (fun k=>own v1 k)).grown hg (fun _ _ e=>e)) hnew⟩
theorem ArInv.mono {ts:List Tok} {rs:List Int} {i j:Nat} (h:ArInv ts rs i) (hij:i<=j):ArInv ts rs j:=⟨by have:=h.len;omega,h.rl,by have:=h.tx;omega,h.good,h.run⟩
theorem arithK (w:World) (ra:Option Addr) (len cap:Nat) (hraw:∀ i,i < len->∃ rb off c,ra=some ⟨rb,off,none⟩/\w.cell? ⟨rb,off+i,none⟩=some (.int .i64 c)/\In c):
  Calls Tryz.prog 17 #[.slice ra len cap,.slice none 0 0] w fun e w'=>∃ ts rs v,e=.returned (.tuple #[.string (textB ts),v])/\ArAt w w' v ts rs 40:=by
 obtain⟨i0,hi,hz0,hz1,hz2⟩:=info_parts Tryz.info3;have HR:=hide hraw;clear hraw;go_enter Tryz.func17,Tryz.ntmps17;go_wp2
 go_loopw [1,6,7] (fun v s i wr=>∃ (k:Nat) (ts:List Tok) (rs:List Int),k<=40/\k<=len/\i=.int .i64 k/\s=.string (textB ts)/\ArAt w wr v ts rs k) (fun _ _ i _=>40 - (intOf i).toNat)
 case atStart=>exact⟨0,[],[],by omega,by omega,rfl,rfl,ArInv.first,World.ownsRow_nil _ _ _ _,fun q hq=>by simp[own,Value.ownBlock] at hq,Kp.refl _ _⟩
 case round=>
  obtain⟨k,ts,rs,hk40,hkl,rfl,rfl,hA⟩:=hrel;obtain⟨ao,cp,hv⟩:=row_slice hA.row;subst hv;by_cases hlt1:k < len
  ·by_cases hlt2:k < 40
   case neg=>
    have hE:ArAt w wr (.slice ao rs.length cp) ts rs 40:=⟨hA.inv.mono hk40,hA.row,hA.new,hA.kp⟩;have HE:=hide hE;clear hE hA;go_wp2;go_ret2;exact⟨_,_,_,rfl,HE.out⟩
   obtain⟨rb,off,c,rfl,hc,hin⟩:=HR.out k hlt1;have d:wr.cell? ⟨rb,off+k,none⟩=some (.int .i64 c):=cell_kpK hA.kp (fun h=>h) hc;clear hc;obtain⟨p,hp,hpl⟩:=pick_natK c 12 (by decide);have HP:=hide (fun w=>pickK c 12 w hin.1 hin.2 (by decide) (by decide));simp only[show ((12:Nat):Int)=12 from rfl] at hp;simp only[hp] at HP;clear hp;have hts:(textB ts).size<=1600:=by rw[textB_size];have:=hA.inv.tx;omega
   have hrl:=hA.inv.rl;have HA:=hide hA;clear hA;by_cases hpush:rs.length < 2\/(p < 4/\rs.length < 20)
   ·have hl20:rs.length < 20:=by omega
    have hb:=tmod_bounds c;have hns:=numB_size (c.tmod 1000000) (by omega) (by omega)
    go_wp2_with fail
    refine (HP.out _).mono ?_;rintro e w' ⟨rfl,rfl⟩;by_cases hl2:rs.length < 2
    ·go_wp2_with fail
     refine (digitsK _ _ (by omega) (by omega)).mono ?_;rintro e w2 ⟨rfl,hk2⟩;have hr2:=hk2.row HA.out.row (fun _ _ h=>h);have HK2:=hide hk2;clear hk2
     go_wp2_with (first
      | (at_builtin;refine wpList_append_to _ rfl _ _ 34 rfl 3 i0 (.int .i64 0) 1 8 Tryz.underlying34 hi hz0 hz1 hz2 rfl (by decide) _ _ _ rfl (hr2.alloc _) ⟨w2.heap.size,0,none⟩ 1 1 [.int .i64 (c.tmod 1000000)] rfl rfl ?c1 ?c2 ?c3 ?c4 ?_)
      | go_in)
     case c1=>
      intro j u hj
      match j,hj with
      | 0,hj=>simp at hj;subst hj;simp[Addr.add]
     case c2=>intro u hu;simp at hu;subst hu;rfl
     case c3=>unfold maxLen;omega
     case c4=>omega
     intro v' w3 hown hgrow hnx;have HN:Hid (ArAt w w3 v' (ts ++ [Lib.itoa (c.tmod 1000000)]) (c.tmod 1000000 :: rs) (k+1)):=ArAt.next (HA.out.inv.num _ (by omega) (by omega) hl20) ((HA.out.kp.trans HK2.out).alloc _) HA.out.new (by simpa [ints] using hown) hgrow (fun q hq=>(hnx q hq).imp id (fun h=>by simpa using h));clear hr2;clear hown hgrow hnx;go_wp2
     go_roundw
     case rel=>exact⟨k+1,_,_,by omega,by omega,by go_num,by rw[textB_num],HN.out⟩
     case measure=>simp[intOf];omega
    ·have hp4:p < 4:=by omega
     go_wp2_with fail
     refine (digitsK _ _ (by omega) (by omega)).mono ?_;rintro e w2 ⟨rfl,hk2⟩;have hr2:=hk2.row HA.out.row (fun _ _ h=>h);have HK2:=hide hk2;clear hk2
     go_wp2_with (first
      | (at_builtin;refine wpList_append_to _ rfl _ _ 34 rfl 3 i0 (.int .i64 0) 1 8 Tryz.underlying34 hi hz0 hz1 hz2 rfl (by decide) _ _ _ rfl (hr2.alloc _) ⟨w2.heap.size,0,none⟩ 1 1 [.int .i64 (c.tmod 1000000)] rfl rfl ?c1 ?c2 ?c3 ?c4 ?_)
      | go_in)
     case c1=>
      intro j u hj
      match j,hj with
      | 0,hj=>simp at hj;subst hj;simp[Addr.add]
     case c2=>intro u hu;simp at hu;subst hu;rfl
     case c3=>unfold maxLen;omega
     case c4=>omega
     intro v' w3 hown hgrow hnx;have HN:Hid (ArAt w w3 v' (ts ++ [Lib.itoa (c.tmod 1000000)]) (c.tmod 1000000 :: rs) (k+1)):=ArAt.next (HA.out.inv.num _ (by omega) (by omega) hl20) ((HA.out.kp.trans HK2.out).alloc _) HA.out.new (by simpa [ints] using hown) hgrow (fun q hq=>(hnx q hq).imp id (fun h=>by simpa using h));clear hr2;clear hown hgrow hnx;go_wp2
     go_roundw
     case rel=>exact⟨k+1,_,_,by omega,by omega,by go_num,by rw[textB_num],HN.out⟩
     case measure=>simp[intOf];omega
   ·obtain⟨b,a,r,rfl⟩:∃ b a r,rs=b :: a :: r:=by
     match rs,hpush with
     | [],h=>exact absurd (.inl (by simp)) h
     | [_],h=>exact absurd (.inl (by simp)) h
     | b :: a :: r,_=>exact⟨b,a,r,rfl⟩
    obtain⟨m,hm⟩:∃ m,m=r.length:=⟨_,rfl⟩;have hlen:(b :: a :: r).length=m+2:=by simp[hm]
    have hrow:wr.ownsRow 0 3 1 (.slice ao (m+2) cp) (m+2) (ints (b :: a :: r).reverse):=by have h:=HA.out.row;rw[hlen] at h;exact h
    have hrv:ints (b :: a :: r).reverse=(ints r.reverse ++ [.int .i64 a]) ++ [.int .i64 b]:=by simp[ints]
    obtain⟨g,cp',e1,hcl⟩:=row_cell hrow (by omega);injection e1 with e1 e2 e3;have ca:=hcl m (.int .i64 a) (by rw[hrv];simp[ints,hm]);have cb:=hcl (m+1) (.int .i64 b) (by rw[hrv];simp[ints,hm]);subst e1;clear e2 e3 hcl;have hcap:=row_capK hrow;have hgl:=lt_of_cell ca;have hr0:wr.ownsRow 0 3 1 (.slice (some ⟨g,0,none⟩) m cp) m (ints r.reverse):=by
     rw[hrv] at hrow;exact ownsRow_pop (by simp[ints,hm]) (ownsRow_pop (n:=m+1) (by simp[ints,hm]) hrow)
    clear hrow hrv;simp only[hlen] at hrl hpush ⊢;have HM:=hide hm;clear hm hlen
    go_wp2_with fail
    refine (HP.out _).mono ?_;rintro e w' ⟨rfl,rfl⟩;clear HP d;rcases (show p=4\/p=5\/p=6\/p=7\/p=8\/p=9\/p=10\/p=11\/p=0\/p=1\/p=2\/p=3 by omega) with rfl|rfl|rfl|rfl|rfl|rfl|rfl|rfl|rfl|rfl|rfl|rfl
    ·go_wp2_with (first
      | (at_builtin;refine wpList_append_to _ rfl _ _ 34 rfl 3 i0 (.int .i64 0) 1 8 Tryz.underlying34 hi hz0 hz1 hz2 rfl (by decide) _ _ _ rfl (hr0.alloc _) ⟨w'.heap.size,0,none⟩ 1 1 [.int .i64 (wrap64 (a+b))] rfl rfl ?c1 ?c2 ?c3 ?c4 ?_)
      | go_in)
     case c1=>
      intro j u hj
      match j,hj with
      | 0,hj=>simp at hj;subst hj;simp[Addr.add]
     case c2=>intro u hu;simp at hu;subst hu;rfl
     case c3=>unfold maxLen;omega
     case c4=>omega
     intro v' w3 hown hgrow hnx;have hi':=HA.out.inv.add;have HN:Hid (ArAt w w3 v' (ts ++ [kPlus]) (wrap64 (a+b) :: r) (k+1)):=ArAt.next hi' (HA.out.kp.alloc _) HA.out.new (by have h:=hown;rw[HM.out] at h;simpa [ints] using h) hgrow (fun q hq=>(hnx q hq).imp id (fun h=>by simpa using h));clear hi';clear hown hgrow hnx;go_wp2
     go_roundw
     case rel=>exact⟨k+1,_,_,by omega,by omega,by go_num,by rw[textB_app];rfl,HN.out⟩
     case measure=>simp[intOf];omega
    ·go_wp2_with (first
      | (at_builtin;refine wpList_append_to _ rfl _ _ 34 rfl 3 i0 (.int .i64 0) 1 8 Tryz.underlying34 hi hz0 hz1 hz2 rfl (by decide) _ _ _ rfl (hr0.alloc _) ⟨w'.heap.size,0,none⟩ 1 1 [.int .i64 (wrap64 (a - b))] rfl rfl ?c1 ?c2 ?c3 ?c4 ?_)
      | go_in)
     case c1=>
      intro j u hj
      match j,hj with
      | 0,hj=>simp at hj;subst hj;simp[Addr.add]
     case c2=>intro u hu;simp at hu;subst hu;rfl
     case c3=>unfold maxLen;omega
     case c4=>omega
     intro v' w3 hown hgrow hnx;have hi':=HA.out.inv.sub;have HN:Hid (ArAt w w3 v' (ts ++ [kMinus]) (wrap64 (a - b) :: r) (k+1)):=ArAt.next hi' (HA.out.kp.alloc _) HA.out.new (by have h:=hown;rw[HM.out] at h;simpa [ints] using h) hgrow (fun q hq=>(hnx q hq).imp id (fun h=>by simpa using h));clear hi';clear hown hgrow hnx;go_wp2
     go_roundw
     case rel=>exact⟨k+1,_,_,by omega,by omega,by go_num,by rw[textB_app];rfl,HN.out⟩
     case measure=>simp[intOf];omega
    ·go_wp2_with (first
      | (at_builtin;refine wpList_append_to _ rfl _ _ 34 rfl 3 i0 (.int .i64 0) 1 8 Tryz.underlying34 hi hz0 hz1 hz2 rfl (by decide) _ _ _ rfl (hr0.alloc _) ⟨w'.heap.size,0,none⟩ 1 1 [.int .i64 (wrap64 (a * b))] rfl rfl ?c1 ?c2 ?c3 ?c4 ?_)
      | go_in)
     case c1=>
      intro j u hj
      match j,hj with
      | 0,hj=>simp at hj;subst hj;simp[Addr.add]
     case c2=>intro u hu;simp at hu;subst hu;rfl
     case c3=>unfold maxLen;omega
     case c4=>omega
     intro v' w3 hown hgrow hnx;have hi':=HA.out.inv.mul;have HN:Hid (ArAt w w3 v' (ts ++ [kTimes]) (wrap64 (a * b) :: r) (k+1)):=ArAt.next hi' (HA.out.kp.alloc _) HA.out.new (by have h:=hown;rw[HM.out] at h;simpa [ints] using h) hgrow (fun q hq=>(hnx q hq).imp id (fun h=>by simpa using h));clear hi';clear hown hgrow hnx;go_wp2
     go_roundw
     case rel=>exact⟨k+1,_,_,by omega,by omega,by go_num,by rw[textB_app];rfl,HN.out⟩
     case measure=>simp[intOf];omega
    ·go_wp2_with (first
      | (at_builtin;refine wpList_append_to _ rfl _ _ 34 rfl 3 i0 (.int .i64 0) 1 8 Tryz.underlying34 hi hz0 hz1 hz2 rfl (by decide) _ _ _ rfl (hr0.alloc _) ⟨w'.heap.size,0,none⟩ 2 2 [.int .i64 (b),.int .i64 (a)] rfl rfl ?c1 ?c2 ?c3 ?c4 ?_)
      | go_in)
     case c1=>
      intro j u hj
      match j,hj with
      | 0,hj=>simp at hj;subst hj;simp[Addr.add]
      | 1,hj=>simp at hj;subst hj;simp[Addr.add]
     case c2=>intro u hu;simp at hu;rcases hu with rfl|rfl <;> rfl
     case c3=>unfold maxLen;omega
     case c4=>omega
     intro v' w3 hown hgrow hnx;have hi':=HA.out.inv.swap;have HN:Hid (ArAt w w3 v' (ts ++ [kSwap]) (a :: b :: r) (k+1)):=ArAt.next hi' (HA.out.kp.alloc _) HA.out.new (by have h:=hown;rw[HM.out] at h;simpa [ints] using h) hgrow (fun q hq=>(hnx q hq).imp id (fun h=>by simpa using h));clear hi';clear hown hgrow hnx;go_wp2
     go_roundw
     case rel=>exact⟨k+1,_,_,by omega,by omega,by go_num,by rw[textB_app];rfl,HN.out⟩
     case measure=>simp[intOf];omega
    ·go_wp2_with (first
      | (at_builtin;refine wpList_append_to _ rfl _ _ 34 rfl 3 i0 (.int .i64 0) 1 8 Tryz.underlying34 hi hz0 hz1 hz2 rfl (by decide) _ _ _ rfl (hr0.alloc _) ⟨w'.heap.size,0,none⟩ 2 2 [.int .i64 (a),.int .i64 (b)] rfl rfl ?c1 ?c2 ?c3 ?c4 ?_)
      | go_in)
     case c1=>
      intro j u hj
      match j,hj with
      | 0,hj=>simp at hj;subst hj;simp[Addr.add]
      | 1,hj=>simp at hj;subst hj;simp[Addr.add]
     case c2=>intro u hu;simp at hu;rcases hu with rfl|rfl <;> rfl
     case c3=>unfold maxLen;omega
     case c4=>omega
     intro v' w3 hown hgrow hnx;have hi':=HA.out.inv.over;have HN:Hid (ArAt w w3 v' (ts ++ [kOver,kDrop,kDup,kDrop]) (b :: a :: r) (k+1)):=ArAt.next hi' (HA.out.kp.alloc _) HA.out.new (by have h:=hown;rw[HM.out] at h;simpa [ints] using h) hgrow (fun q hq=>(hnx q hq).imp id (fun h=>by simpa using h));clear hi';clear hown hgrow hnx;go_wp2
     go_roundw
     case rel=>exact⟨k+1,_,_,by omega,by omega,by go_num,by rw[textB_app];rfl,HN.out⟩
     case measure=>simp[intOf];omega
    ·by_cases hab:a < b
     ·go_wp2_with (first
       | (at_builtin;refine wpList_append_to _ rfl _ _ 34 rfl 3 i0 (.int .i64 0) 1 8 Tryz.underlying34 hi hz0 hz1 hz2 rfl (by decide) _ _ _ rfl (hr0.alloc _) ⟨w'.heap.size,0,none⟩ 1 1 [.int .i64 (-1)] rfl rfl ?c1 ?c2 ?c3 ?c4 ?_)
       | go_in)
      case c1=>
       intro j u hj
       match j,hj with
       | 0,hj=>simp at hj;subst hj;simp[Addr.add]
      case c2=>intro u hu;simp at hu;subst hu;rfl
      case c3=>unfold maxLen;omega
      case c4=>omega
      intro v' w3 hown hgrow hnx;have hi':=HA.out.inv.lt;rw[show sonum (decide (a < b)) = -1 by simp[sonum,hab]] at hi';have HN:Hid (ArAt w w3 v' (ts ++ [kLt]) (-1 :: r) (k+1)):=ArAt.next hi' (HA.out.kp.alloc _) HA.out.new (by have h:=hown;rw[HM.out] at h;simpa [ints] using h) hgrow (fun q hq=>(hnx q hq).imp id (fun h=>by simpa using h));clear hi';clear hown hgrow hnx;go_wp2
      go_roundw
      case rel=>exact⟨k+1,_,_,by omega,by omega,by go_num,by rw[textB_app];rfl,HN.out⟩
      case measure=>simp[intOf];omega
     ·go_wp2_with (first
       | (at_builtin;refine wpList_append_to _ rfl _ _ 34 rfl 3 i0 (.int .i64 0) 1 8 Tryz.underlying34 hi hz0 hz1 hz2 rfl (by decide) _ _ _ rfl (hr0.alloc _) ⟨w'.heap.size,0,none⟩ 1 1 [.int .i64 (0)] rfl rfl ?c1 ?c2 ?c3 ?c4 ?_)
       | go_in)
      case c1=>
       intro j u hj
       match j,hj with
       | 0,hj=>simp at hj;subst hj;simp[Addr.add]
      case c2=>intro u hu;simp at hu;subst hu;rfl
      case c3=>unfold maxLen;omega
      case c4=>omega
      intro v' w3 hown hgrow hnx;have hi':=HA.out.inv.lt;rw[show sonum (decide (a < b))=0 by simp[sonum,hab]] at hi';have HN:Hid (ArAt w w3 v' (ts ++ [kLt]) (0 :: r) (k+1)):=ArAt.next hi' (HA.out.kp.alloc _) HA.out.new (by have h:=hown;rw[HM.out] at h;simpa [ints] using h) hgrow (fun q hq=>(hnx q hq).imp id (fun h=>by simpa using h));clear hi';clear hown hgrow hnx;go_wp2
      go_roundw
      case rel=>exact⟨k+1,_,_,by omega,by omega,by go_num,by rw[textB_app];rfl,HN.out⟩
      case measure=>simp[intOf];omega
    ·by_cases hab:a=b
     ·go_wp2_with (first
       | (at_builtin;refine wpList_append_to _ rfl _ _ 34 rfl 3 i0 (.int .i64 0) 1 8 Tryz.underlying34 hi hz0 hz1 hz2 rfl (by decide) _ _ _ rfl (hr0.alloc _) ⟨w'.heap.size,0,none⟩ 1 1 [.int .i64 (-1)] rfl rfl ?c1 ?c2 ?c3 ?c4 ?_)
       | go_in)
      case c1=>
       intro j u hj
       match j,hj with
       | 0,hj=>simp at hj;subst hj;simp[Addr.add]
      case c2=>intro u hu;simp at hu;subst hu;rfl
      case c3=>unfold maxLen;omega
      case c4=>omega
      intro v' w3 hown hgrow hnx;have hi':=HA.out.inv.eq;rw[show sonum (a == b) = -1 by simp[sonum,hab]] at hi';have HN:Hid (ArAt w w3 v' (ts ++ [kEq]) (-1 :: r) (k+1)):=ArAt.next hi' (HA.out.kp.alloc _) HA.out.new (by have h:=hown;rw[HM.out] at h;simpa [ints] using h) hgrow (fun q hq=>(hnx q hq).imp id (fun h=>by simpa using h));clear hi';clear hown hgrow hnx;go_wp2
      go_roundw
      case rel=>exact⟨k+1,_,_,by omega,by omega,by go_num,by rw[textB_app];rfl,HN.out⟩
      case measure=>simp[intOf];omega
     ·go_wp2_with (first
       | (at_builtin;refine wpList_append_to _ rfl _ _ 34 rfl 3 i0 (.int .i64 0) 1 8 Tryz.underlying34 hi hz0 hz1 hz2 rfl (by decide) _ _ _ rfl (hr0.alloc _) ⟨w'.heap.size,0,none⟩ 1 1 [.int .i64 (0)] rfl rfl ?c1 ?c2 ?c3 ?c4 ?_)
       | go_in)
      case c1=>
       intro j u hj
       match j,hj with
       | 0,hj=>simp at hj;subst hj;simp[Addr.add]
      case c2=>intro u hu;simp at hu;subst hu;rfl
      case c3=>unfold maxLen;omega
      case c4=>omega
      intro v' w3 hown hgrow hnx;have hi':=HA.out.inv.eq;rw[show sonum (a == b)=0 by simp[sonum,hab]] at hi';have HN:Hid (ArAt w w3 v' (ts ++ [kEq]) (0 :: r) (k+1)):=ArAt.next hi' (HA.out.kp.alloc _) HA.out.new (by have h:=hown;rw[HM.out] at h;simpa [ints] using h) hgrow (fun q hq=>(hnx q hq).imp id (fun h=>by simpa using h));clear hi';clear hown hgrow hnx;go_wp2
      go_roundw
      case rel=>exact⟨k+1,_,_,by omega,by omega,by go_num,by rw[textB_app];rfl,HN.out⟩
      case measure=>simp[intOf];omega
    ·go_wp2_with (first
      | (at_builtin;refine wpList_append_to _ rfl _ _ 34 rfl 3 i0 (.int .i64 0) 1 8 Tryz.underlying34 hi hz0 hz1 hz2 rfl (by decide) _ _ _ rfl (hr0.alloc _) ⟨w'.heap.size,0,none⟩ 1 1 [.int .i64 (a)] rfl rfl ?c1 ?c2 ?c3 ?c4 ?_)
      | go_in)
     case c1=>
      intro j u hj
      match j,hj with
      | 0,hj=>simp at hj;subst hj;simp[Addr.add]
     case c2=>intro u hu;simp at hu;subst hu;rfl
     case c3=>unfold maxLen;omega
     case c4=>omega
     intro v' w3 hown hgrow hnx;have hi':=HA.out.inv.drop;have HN:Hid (ArAt w w3 v' (ts ++ [kDrop]) (a :: r) (k+1)):=ArAt.next hi' (HA.out.kp.alloc _) HA.out.new (by have h:=hown;rw[HM.out] at h;simpa [ints] using h) hgrow (fun q hq=>(hnx q hq).imp id (fun h=>by simpa using h));clear hi';clear hown hgrow hnx;go_wp2
     go_roundw
     case rel=>exact⟨k+1,_,_,by omega,by omega,by go_num,by rw[textB_app];rfl,HN.out⟩
     case measure=>simp[intOf];omega
    ·have hge:¬ m+2 < 20:=by omega
     go_wp2_with (first
      | (at_builtin;refine wpList_append_to _ rfl _ _ 34 rfl 3 i0 (.int .i64 0) 1 8 Tryz.underlying34 hi hz0 hz1 hz2 rfl (by decide) _ _ _ rfl (hr0.alloc _) ⟨w'.heap.size,0,none⟩ 1 1 [.int .i64 (a)] rfl rfl ?c1 ?c2 ?c3 ?c4 ?_)
      | go_in)
     case c1=>
      intro j u hj
      match j,hj with
      | 0,hj=>simp at hj;subst hj;simp[Addr.add]
     case c2=>intro u hu;simp at hu;subst hu;rfl
     case c3=>unfold maxLen;omega
     case c4=>omega
     intro v' w3 hown hgrow hnx;have hi':=HA.out.inv.drop;have HN:Hid (ArAt w w3 v' (ts ++ [kDrop]) (a :: r) (k+1)):=ArAt.next hi' (HA.out.kp.alloc _) HA.out.new (by have h:=hown;rw[HM.out] at h;simpa [ints] using h) hgrow (fun q hq=>(hnx q hq).imp id (fun h=>by simpa using h));clear hi';clear hown hgrow hnx;go_wp2
     go_roundw
     case rel=>exact⟨k+1,_,_,by omega,by omega,by go_num,by rw[textB_app];rfl,HN.out⟩
     case measure=>simp[intOf];omega
    ·have hge:¬ m+2 < 20:=by omega
     go_wp2_with (first
      | (at_builtin;refine wpList_append_to _ rfl _ _ 34 rfl 3 i0 (.int .i64 0) 1 8 Tryz.underlying34 hi hz0 hz1 hz2 rfl (by decide) _ _ _ rfl (hr0.alloc _) ⟨w'.heap.size,0,none⟩ 1 1 [.int .i64 (a)] rfl rfl ?c1 ?c2 ?c3 ?c4 ?_)
      | go_in)
     case c1=>
      intro j u hj
      match j,hj with
      | 0,hj=>simp at hj;subst hj;simp[Addr.add]
     case c2=>intro u hu;simp at hu;subst hu;rfl
     case c3=>unfold maxLen;omega
     case c4=>omega
     intro v' w3 hown hgrow hnx;have hi':=HA.out.inv.drop;have HN:Hid (ArAt w w3 v' (ts ++ [kDrop]) (a :: r) (k+1)):=ArAt.next hi' (HA.out.kp.alloc _) HA.out.new (by have h:=hown;rw[HM.out] at h;simpa [ints] using h) hgrow (fun q hq=>(hnx q hq).imp id (fun h=>by simpa using h));clear hi';clear hown hgrow hnx;go_wp2
     go_roundw
     case rel=>exact⟨k+1,_,_,by omega,by omega,by go_num,by rw[textB_app];rfl,HN.out⟩
     case measure=>simp[intOf];omega
    ·have hge:¬ m+2 < 20:=by omega
     go_wp2_with (first
      | (at_builtin;refine wpList_append_to _ rfl _ _ 34 rfl 3 i0 (.int .i64 0) 1 8 Tryz.underlying34 hi hz0 hz1 hz2 rfl (by decide) _ _ _ rfl (hr0.alloc _) ⟨w'.heap.size,0,none⟩ 1 1 [.int .i64 (a)] rfl rfl ?c1 ?c2 ?c3 ?c4 ?_)
      | go_in)
     case c1=>
      intro j u hj
      match j,hj with
      | 0,hj=>simp at hj;subst hj;simp[Addr.add]
     case c2=>intro u hu;simp at hu;subst hu;rfl
     case c3=>unfold maxLen;omega
     case c4=>omega
     intro v' w3 hown hgrow hnx;have hi':=HA.out.inv.drop;have HN:Hid (ArAt w w3 v' (ts ++ [kDrop]) (a :: r) (k+1)):=ArAt.next hi' (HA.out.kp.alloc _) HA.out.new (by have h:=hown;rw[HM.out] at h;simpa [ints] using h) hgrow (fun q hq=>(hnx q hq).imp id (fun h=>by simpa using h));clear hi';clear hown hgrow hnx;go_wp2
     go_roundw
     case rel=>exact⟨k+1,_,_,by omega,by omega,by go_num,by rw[textB_app];rfl,HN.out⟩
     case measure=>simp[intOf];omega
    ·have hge:¬ m+2 < 20:=by omega
     go_wp2_with (first
      | (at_builtin;refine wpList_append_to _ rfl _ _ 34 rfl 3 i0 (.int .i64 0) 1 8 Tryz.underlying34 hi hz0 hz1 hz2 rfl (by decide) _ _ _ rfl (hr0.alloc _) ⟨w'.heap.size,0,none⟩ 1 1 [.int .i64 (a)] rfl rfl ?c1 ?c2 ?c3 ?c4 ?_)
      | go_in)
     case c1=>
      intro j u hj
      match j,hj with
      | 0,hj=>simp at hj;subst hj;simp[Addr.add]
     case c2=>intro u hu;simp at hu;subst hu;rfl
     case c3=>unfold maxLen;omega
     case c4=>omega
     intro v' w3 hown hgrow hnx;have hi':=HA.out.inv.drop;have HN:Hid (ArAt w w3 v' (ts ++ [kDrop]) (a :: r) (k+1)):=ArAt.next hi' (HA.out.kp.alloc _) HA.out.new (by have h:=hown;rw[HM.out] at h;simpa [ints] using h) hgrow (fun q hq=>(hnx q hq).imp id (fun h=>by simpa using h));clear hi';clear hown hgrow hnx;go_wp2
     go_roundw
     case rel=>exact⟨k+1,_,_,by omega,by omega,by go_num,by rw[textB_app];rfl,HN.out⟩
     case measure=>simp[intOf];omega
  ·have hE:ArAt w wr (.slice ao rs.length cp) ts rs 40:=⟨hA.inv.mono hk40,hA.row,hA.new,hA.kp⟩;have HE:=hide hE;clear hE hA;go_wp2;go_ret2;exact⟨_,_,_,rfl,HE.out⟩
end
section
open Go.RowKit
def wB (ts:List Tok):ByteArray:=⟨#[58,32,119,32]⟩ ++ textB ts ++ ⟨#[32,59,32,119]⟩
theorem wB_list (ts:List Tok):(wB ts).data.toList=textOf [kColon,kW] ++ (textOf ts ++ 32 :: (textOf [kSemi] ++ kW)):=by
 unfold wB textB;rw[ba_app,ba_app];simp[textOf,kColon,kW,kSemi]
theorem wB_fields {ts:List Tok} (h:∀ t∈ts,GoodT t):Lib.fields (wB ts).data.toList=kColon :: kW :: (ts ++ [kSemi,kW]):=by
 rw[wB_list,fields_texts [kColon,kW] _ (by intro t ht;simp only[List.mem_cons,List.not_mem_nil,or_false] at ht;rcases ht with rfl|rfl <;> exact⟨by decide,by decide⟩),
  fields_texts ts _ (good_tok h),fields_sp,fields_texts [kSemi] _ (by intro t ht;simp only[List.mem_cons,List.not_mem_nil,or_false] at ht;subst ht;exact⟨by decide,by decide⟩),fields_end kW (by decide) (by decide)]
 rfl
theorem wB_valid {ts:List Tok} (h:∀ t∈ts,GoodT t) (hl:(textOf ts).length<=380):validB (wB ts).data.toList=true:=by
 have h1:(wB ts).data.toList.length<=400:=by
  rw[wB_list];simp only[List.length_append,List.length_cons];have e1:(textOf [kColon,kW]).length=4:=by decide
  have e2:(textOf [kSemi]).length=2:=by decide
  have e3:kW.length=1:=by decide
  omega
 unfold validB;rw[decide_eq_true h1,wB_list,List.all_append,List.all_append,List.all_cons,texts_okB ts (good_tok h)]
 decide
theorem tB_valid {ts:List Tok} (h:∀ t∈ts,GoodT t) (hl:(textOf ts).length<=380):validB (textB ts).data.toList=true:=by
 have e:(textB ts).data.toList=textOf ts:=by unfold textB;simp
 rw[e];unfold validB;rw[decide_eq_true (by omega),texts_okB ts (good_tok h)];rfl
section
variable {PS:World->Nat->(Nat->Prop)->St->Prop} {B:Nat} {W0:World} (P:PCon B W0 PS)
include P
theorem lineT (w:World) (xb:Nat) (V:Nat->Prop) (ts:List Tok) (rs:List Int) (inw:Bool) (hA:ArInv ts rs 40) (hl:(textOf ts).length<=380) (hx:PS w xb V fsC) (hw:WFs fsC):
  Calls Tryz.prog 18 #[.pointer (some ⟨xb,0,none⟩),.string (if inw=true then wB ts else textB ts)] w fun e w'=>e=.returned (.tuple #[.string ⟨#[]⟩,.int .i64 0])/\∃ V' s1,PS w' xb V' s1/\WFs s1/\s1.rs=rs/\To (fun _=>False) w w' V V':=by
 have key:∀ (t:ByteArray) (s1:St),validB t.data.toList=true->XR (jToks (Lib.fields t.data.toList)) (freshL fsC) s1->s1.e=0->s1.out=⟨#[]⟩->s1.rs=rs ->
   Calls Tryz.prog 18 #[.pointer (some ⟨xb,0,none⟩),.string t] w fun e w'=>e=.returned (.tuple #[.string ⟨#[]⟩,.int .i64 0])/\∃ V' s1,PS w' xb V' s1/\WFs s1/\s1.rs=rs/\To (fun _=>False) w w' V V':=by
  intro t s1 hv ⟨g,hr⟩ he ho hrs;refine (P.line w xb V fsC s1 false g t hx hw hw.g hv hr).mono ?_;rintro e w1 ⟨rfl,V',hx1,hto⟩;have q:endL s1=s1:=if_pos he;have hwf:=run_wf hw hv hr;rw[q] at hwf hx1;exact⟨by rw[ho,he],V',s1,hx1,hwf,hrs,hto⟩
 cases inw with
 | true=>
  obtain⟨s1,hr,he,ho,hrs⟩:=reck_word fsC fsC_ok hA;rw[<-wB_fields hA.good] at hr;exact key (wB ts) s1 (wB_valid hA.good hl) hr he ho hrs
 | false=>
  obtain⟨s1,hr,he,ho,hrs⟩:=reck_line fsC fsC_ok hA;have e:(textB ts).data.toList=textOf ts:=by unfold textB;simp
  rw[<-e] at hr;exact key (textB ts) s1 (tB_valid hA.good hl) hr he ho hrs
end
section
variable {PS:World->Nat->(Nat->Prop)->St->Prop}
theorem reckonedL (W:World) (P:PCon W.heap.size W PS) (ra:Option Addr) (len cap:Nat) (inw:Bool) (hraw:∀ i,i < len->∃ rb off c,ra=some ⟨rb,off,none⟩/\W.cell? ⟨rb,off+i,none⟩=some (.int .i64 c)/\In c):
  Calls Tryz.prog 5 #[.slice ra len cap,.bool inw] W fun e w'=>e=.returned (.bool true)/\Below W.heap.size W w':=by
 have HF:=hide (freshK P W (Below.refl _ _) (Nat.le_refl _));have HR:=hide hraw;clear hraw;go_enter Tryz.func5,Tryz.ntmps5
 go_wp2_with fail
 refine HF.out.mono ?_;rintro e w1 ⟨xb,rfl,V,hx,hw,hk,hV⟩;have hlt:=P.lt _ _ _ _ hx;have hAK:=arithK w1 ra len cap (fun i hi=>by
  obtain⟨rb,off,c,e,hc,hin⟩:=HR.out i hi;exact⟨rb,off,c,e,cell_kpK hk (fun h=>h) hc,hin⟩)
 have HX:=hide hx;have HW:=hide hw;have HK:=hide hk;have HAK:=hide hAK;have HLT:=hide hlt;have HV:=hide hV;clear hx hw hk hV hAK hlt HF HR
 go_wp2_with fail
 refine HAK.out.mono ?_;rintro e w2 ⟨ts,rs,v,rfl,hA⟩;obtain⟨ao,cp,hv⟩:=row_slice hA.row;subst hv;have hts:(textB ts).size<=1600:=by rw[textB_size];have:=hA.inv.tx;omega
 have hrl:=hA.inv.rl;by_cases h380:380 < (textB ts).size
 ·have HB:Hid (Below W.heap.size W w2):=(HK.out.trans hA.kp).below (Nat.le_refl _) (fun _ _ h=>h);clear hA HX HW HK HAK HLT HV;go_wp2;go_ret;exact⟨rfl,HB.out⟩
 ·have hx2:=P.frame _ _ _ _ _ _ HX.out hA.kp (fun _ _ h=>h) (fun _ _ h=>h) (Nat.le_trans (Nat.le_refl _) HK.out.size);have hL:=lineT P w2 xb V ts rs inw hA.inv (by rw[<-textB_size];omega) hx2 HW.out;have HL:=hide hL;have HA:=hide hA;clear hx2 hL hA HX HW HAK;have key:Hid (∀ w3 V' s1,PS w3 xb V' s1->WFs s1->s1.rs=rs->To (fun _=>False) w2 w3 V V' ->
    Calls Tryz.prog 19 #[.pointer (some ⟨xb,0,none⟩)] w3 fun e w4=>∃ al cl,e=.returned (.slice al rs.length cl)/\Below W.heap.size W w4/\∀ i (hi:i < rs.length),∃ g g2,al=some ⟨g,0,none⟩/\ao=some ⟨g2,0,none⟩/\g < w4.heap.size/\g2 < w4.heap.size/\w4.cell? ⟨g,i,none⟩=some (.int .i64 (rs.reverse[i]'(by simpa using hi)))/\w4.cell? ⟨g2,i,none⟩=some (.int .i64 (rs.reverse[i]'(by simpa using hi)))):=by
   unfold Hid;intro w3 V' s1 hx3 hwf hrs hto;refine (P.stack w3 xb V' s1 hx3 hwf.g).mono ?_;rintro e w4 ⟨vl,rfl,hrow,V'',hx4,hto2,_⟩;rw[hrs,<-List.length_reverse] at hrow;obtain⟨al,cl,rfl,hc⟩:=row_ints hrow;have hq:∀ q,own (Value.slice ao rs.length cp) q->w1.heap.size<=q/\q < w2.heap.size:=fun q hq=>⟨HA.out.new q hq,own_lt HA.out.row hq⟩;have hnV:∀ q,own (Value.slice ao rs.length cp) q->¬ V q:=fun q h1 h2=>by have:=(hq q h1).1;have:=HLT.out q h2;omega
   have hnV':∀ q,own (Value.slice ao rs.length cp) q->¬ V' q:=fun q h1 h2=>by
    rcases hto.nx q h2 with h3|h3
    ·exact hnV q h1 h3
    ·have:=(hq q h1).2;omega
   have r3:=hto.kp.row HA.out.row (fun q h1 h2=>by rcases h2 with h2|h2;exact h2;exact hnV q h1 h2);have r4:=hto2.kp.row r3 (fun q h1 h2=>by rcases h2 with h2|h2;exact h2;exact hnV' q h1 h2);have r4':w4.ownsRow 0 3 1 (.slice ao rs.length cp) rs.reverse.length (ints rs.reverse):=by rw[List.length_reverse];exact r4
   obtain⟨ao',cp',e1,hc2⟩:=row_ints r4';injection e1 with e1 _ _;subst e1;refine⟨al,cl,by rw[List.length_reverse],?_,fun i hi=>?_⟩
   ·have K3:=Kp.two (HK.out.trans HA.out.kp) HV.out hto;exact (Kp.two K3.1 K3.2 hto2).1.below (Nat.le_refl _) (fun _ _ h=>h)
   ·obtain⟨g,e1,h1,h2⟩:=hc i (by simpa using hi);obtain⟨g2,e3,h3,h4⟩:=hc2 i (by simpa using hi);exact⟨g,g2,e1,e3,h1,h3,h2,h4⟩
  cases inw with
  | true=>
   simp only[if_true,wB] at HL
   go_wp2_with fail
   refine HL.out.mono ?_;rintro e w3 ⟨rfl,V',s1,hx3,hwf,hrs,hto⟩;have HS:=hide (key.out w3 V' s1 hx3 hwf hrs hto);clear hx3 hwf hrs hto key HL HA HK HLT HV
   go_wp2_with fail
   refine HS.out.mono ?_;rintro e w4 ⟨al,cl,rfl,hB4,hc⟩;have HC:=hide hc;have HB4:=hide hB4;clear hB4 hc HS;go_wp2
   go_loopw [11] (fun i wr=>∃ k:Nat,k<=rs.length/\i=.int .i64 k/\Kp w4 wr (fun _=>False)) (fun i _=>rs.length - (intOf i).toNat)
   case atStart=>exact⟨0,Nat.zero_le _,rfl,Kp.refl _ _⟩
   case round=>
    obtain⟨k,hk,rfl,hkp⟩:=hrel;by_cases hlt:k < rs.length
    ·obtain⟨g,g2,rfl,rfl,hg,hg2,c1,c2⟩:=HC.out k hlt;have d1:=cell_kpK hkp (fun h=>h) c1;have d2:=cell_kpK hkp (fun h=>h) c2;have hsz:=hkp.size;have hg':g < wr.heap.size:=by omega
     have hg2':g2 < wr.heap.size:=by omega
     have HKP:=hide hkp;clear hkp c1 c2 HC;go_wp2
     go_quiet (fail)
     go_wp2
     go_roundw
     case rel=>exact⟨k+1,by omega,by go_num,HKP.out.drewN _⟩
     case measure=>simp[intOf];omega
    ·have HB5:Hid (Below W.heap.size W wr):=HB4.out.trans (hkp.below HB4.out.size (fun _ _ h=>h));clear hkp;go_wp2;go_ret;exact⟨rfl,HB5.out⟩
  | false=>
   simp only[Bool.false_eq_true,if_false] at HL
   go_wp2_with fail
   refine HL.out.mono ?_;rintro e w3 ⟨rfl,V',s1,hx3,hwf,hrs,hto⟩;have HS:=hide (key.out w3 V' s1 hx3 hwf hrs hto);clear hx3 hwf hrs hto key HL HA HK HLT HV
   go_wp2_with fail
   refine HS.out.mono ?_;rintro e w4 ⟨al,cl,rfl,hB4,hc⟩;have HC:=hide hc;have HB4:=hide hB4;clear hB4 hc HS;go_wp2
   go_loopw [11] (fun i wr=>∃ k:Nat,k<=rs.length/\i=.int .i64 k/\Kp w4 wr (fun _=>False)) (fun i _=>rs.length - (intOf i).toNat)
   case atStart=>exact⟨0,Nat.zero_le _,rfl,Kp.refl _ _⟩
   case round=>
    obtain⟨k,hk,rfl,hkp⟩:=hrel;by_cases hlt:k < rs.length
    ·obtain⟨g,g2,rfl,rfl,hg,hg2,c1,c2⟩:=HC.out k hlt;have d1:=cell_kpK hkp (fun h=>h) c1;have d2:=cell_kpK hkp (fun h=>h) c2;have hsz:=hkp.size;have hg':g < wr.heap.size:=by omega
     have hg2':g2 < wr.heap.size:=by omega
     have HKP:=hide hkp;clear hkp c1 c2 HC;go_wp2
     go_quiet (fail)
     go_wp2
     go_roundw
     case rel=>exact⟨k+1,by omega,by go_num,HKP.out.drewN _⟩
     case measure=>simp[intOf];omega
    ·have HB5:Hid (Below W.heap.size W wr):=HB4.out.trans (hkp.below HB4.out.size (fun _ _ h=>h));clear hkp;go_wp2;go_ret;exact⟨rfl,HB5.out⟩
end
end
section
open Go.ChangeShapes Go.WideShapes Go.ChangeAt Go.RowKit
theorem reckoned_met (os:Os) (args:Array Value):laidMetH Tryz.prog Rows.reckonedRow.laid ((World.doorLaid Tryz.prog 400 os).forCall (fun _ _=>0) ⟨#[],args,[]⟩).memory:=
 laidMetH_of_parts3 (fuel:=8) (laidMet_of_run' 8 (by kernel_rfl) (by kernel_rfl)) (by kernel_rfl) (by kernel_rfl)
theorem bool_in {W:World} {base:Nat} {v:Value} (h:Value.okWide Tryz.prog W .any base 4 v):∃ b:Bool,v=.bool b:=okWide_bool Tryz.underlying4 h
theorem raw_in {H:Type} {enc:TypeId × Value->H} {W:World} {base:Nat} {v0:Value} {d0:DataW H} {p:List MemPlace} (hv:Value.okWide Tryz.prog W .any base 34 v0) (h0:DataW.Trod enc Tryz.prog W 0 (fun _=>true) true 34 v0 d0 p):
  ∃ ra len cap,v0=.slice ra len cap/\∀ i,i < len->∃ rb off c,ra=some ⟨rb,off,none⟩/\W.cell? ⟨rb,off+i,none⟩=some (.int .i64 c)/\In c:=by
 obtain⟨a0,len,cap,rfl⟩:=okWide_slice Tryz.underlying34 hv;refine⟨a0,len,cap,rfl,?_⟩;obtain⟨fuel,hf⟩:=h0;rcases Go.Deep.open_slice Tryz.underlying34 hf with⟨hcs,_⟩|⟨a,len',cap',m,n,D,Pl,hcs,_,hl,hm,hmm,hx,hel⟩
 ·simp[Value.cells] at hcs;obtain⟨rfl,rfl,rfl⟩:=hcs;intro i hi;omega
 ·simp[Value.cells] at hcs;obtain⟨rfl,rfl,rfl⟩:=hcs;rw[Tryz.cells3] at hel;simp only[if_true] at hmm;subst hmm;intro i hi;obtain⟨cs,h1,h2⟩:=hel i (by omega);obtain⟨_,hlen,hc⟩:=World.cells?_some h1;have g0:=hc 0 (by omega);obtain⟨c,e,_,hw⟩:=DataW.trod_int Tryz.underlying3 h2;subst e;obtain⟨b,off,spot⟩:=a
  cases spot with
  | some sp=>
   exfalso
   obtain⟨cs0,hc0,_⟩:=hel 0 (by omega);have hfirst:=(World.cells?_some hc0).2.2 0 (by omega);have hl0:=(World.cells?_some hc0).2.1;rw[List.getElem?_eq_getElem (by omega)] at hfirst;unfold World.cell? at hfirst
   split at hfirst
   ·simp[Addr.add] at hfirst
   ·cases hfirst
  | none=>
   have e1:((⟨b,off,none⟩:Addr).add (i * 1)).add 0=⟨b,off+i,none⟩:=by
    unfold Addr.add;simp
   rw[e1] at g0;exact⟨b,off,c,rfl,g0,bounds_i64 hw⟩
theorem reckoned_lifted (os:Os) (started:os.Started) (H:Type) (enc:TypeId × Value->H):
  ReturnsInHanded {} Tryz.checked os 5 .any (fun w args=>(Rows.reckonedSpec.pre enc Tryz.prog Tryz.f5 [] false w args/\laidMetH Tryz.prog Rows.reckonedRow.laid w)/\sizedMet enc Tryz.prog Tryz.f5 (OpenSpec.ofChange Rows.reckonedSpec) false w args)
   (Rows.reckonedSpec.post enc Tryz.prog Tryz.f5 false true false false):=by
 refine returnsInHanded_of_change_and (C:=Tryz.checked) (X:=fun w _=>laidMetH Tryz.prog Rows.reckonedRow.laid w) (fun _ _ _ hh h=>h.of_heap hh) Tryz.own started (by kernel_rfl) Tryz.func5
  (ChangeSpec.witness_shaped (enc:=enc) (C:=Tryz.checked) (os:=os) (X:=fun w _=>laidMetH Tryz.prog Rows.reckonedRow.laid w) false (World.doorLaid Tryz.prog 400 os) #[.slice none 0 0,.bool false] 8 rfl (World.shaped_of_RefB (by kernel_rfl) (by kernel_rfl)) (by kernel_rfl) (by kernel_rfl) (by kernel_rfl) (reckoned_met os _)) ?_
 intro W base args ds gs before hval0 hW _ hsz0 hL _;have hval:∀ (j:Nat) t v,Tryz.f5.params[j]? = some t->args[j]? = some v->Value.okWide Tryz.prog W .any base t v:=hval0;have hW':=hW;obtain⟨p,q,hA0,hV,rfl,hfz,hnd⟩:=hW;have hA:DataW.TrodAll enc Tryz.prog W 0 (fun _=>true) true Tryz.f5.params.toList args.toList ds p:=hA0;rw[Tryz.params5] at hA hval;obtain⟨v0,v1,d0,d1,p0,p1,rfl,rfl,rfl,t0,t1⟩:=trodAll_two hA;obtain⟨rfl,rfl⟩:=trodVars_none hV;have hE:Env W.heap.size W:=of_laid hL;clear hA0 hval0;simp only[List.append_nil] at hW';have hlt:∀ x∈p0 ++ p1,x.block < W.heap.size:=fun x hx=>by simpa using hW'.lt x (by simpa using hx)
 obtain⟨inw,rfl⟩:=bool_in (hval 1 4 v1 rfl rfl);obtain⟨ra,len,cap,rfl,hraw⟩:=raw_in (hval 0 34 v0 rfl rfl) t0;have walk:=reckonedL W (conP hE) ra len cap inw hraw;refine walk.mono fun e W' ⟨he,hB⟩=>?_;subst he;refine⟨_,rfl,_,_,_,[],p0 ++ p1,[],hW',?_,?_,rfl,hB.frame _,fun h=>by cases h⟩
 ·exact trodAll_mk1 (shut_bool Tryz.underlying4 _)
 ·exact trodAll_mk2 (Below.trod Tryz.laidOut (by kernel_rfl) (of_decide_eq_true (by kernel_rfl)) t0 hB (fun x hx=>hlt x (by simp[hx]))) (Below.trod Tryz.laidOut (by kernel_rfl) (of_decide_eq_true (by kernel_rfl)) t1 hB (fun x hx=>hlt x (by simp[hx])))
end
section
open Go
theorem reckoned_said:Rows.ReckonedSaid:=
 OpenClaim.holds_of_wide 5 Tryz.f5 rfl rfl rfl rfl rfl rfl rfl ⟨rfl,rfl,rfl,rfl,rfl⟩ rfl rfl rfl rfl rfl (by kernel_rfl) Tryz.func5 (by kernel_rfl)
  (of_decide_eq_true (by kernel_rfl)) (by unfold Func.isWrapper;first|(rw[if_pos (by decide +kernel)];kernel_rfl)|(rw[if_neg (by decide +kernel)];exact⟨rfl,rfl⟩))
  (fun os started H enc _=>reckoned_lifted os started H enc)
theorem reckoned_plain (f : FuncId) (fn : Func) (hf : Tryz.pinned.checked.prog.funcNamed "anvil/anvilkeep.Reckoned" = some f) (hfn : Tryz.pinned.checked.prog.funcs[f]? = some fn) :
  true=Tryz.pinned.checked.prog.looks []/\∀ (j:Nat) t,fn.params[j]? = some t->Tryz.pinned.checked.prog.wantsStandIn t=false:=by
 obtain rfl : f = 5 := Option.some.inj ((show Tryz.prog.funcNamed "anvil/anvilkeep.Reckoned" = some 5 by kernel_rfl).symm.trans hf) |>.symm
 obtain rfl:fn=Tryz.f5:=(Option.some.inj (Tryz.func5.symm.trans hfn)).symm;refine⟨by kernel_rfl,fun j t ht=>?_⟩;rw[Tryz.params5] at ht;have hm:t=34\/t=4:=by simpa using Array.mem_of_getElem? ht
 rcases hm with rfl|rfl
 ·exact (show Tryz.prog.wantsStandIn 34=false by kernel_rfl)
 ·exact (show Tryz.prog.wantsStandIn 4=false by kernel_rfl)
theorem reckoned_card:Rows.ReckonedCardSaid:=
 Claim7.holds_tied_plain_at .later [] _ _ _ _ reckoned_said (fun _ h=>by cases h) (by kernel_rfl) (fun _ h=>by cases h) reckoned_row_tie rfl ⟨rfl,rfl⟩ (by kernel_rfl) rfl reckoned_plain (by kernel_rfl)
end
#print axioms reckoned_card
end Go.Proofs.YteainaiebcphlaaGreatDoor
