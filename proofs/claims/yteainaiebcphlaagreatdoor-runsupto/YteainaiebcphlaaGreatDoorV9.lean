import Derived.Test.YteainaiebcphlaaGreatDoorV8
namespace Go.Proofs.YteainaiebcphlaaGreatDoor
set_option maxRecDepth 1000000
set_option maxHeartbeats 4000000
set_option linter.all false
section
open Go.RowKit
variable {K:Nat->Prop}
theorem Blk.six {w:World} {b:Nat} {t:TypeId} {a0 a1 a2 a3 a4 a5:Value} (h:Blk w b t #[a0,a1,a2,a3,a4,a5]):
  w.cell? ⟨b,0,none⟩=some a0/\w.cell? ⟨b,1,none⟩=some a1/\w.cell? ⟨b,2,none⟩=some a2/\w.cell? ⟨b,3,none⟩=some a3/\w.cell? ⟨b,4,none⟩=some a4/\w.cell? ⟨b,5,none⟩=some a5:=
 ⟨h.cell rfl,h.cell rfl,h.cell rfl,h.cell rfl,h.cell rfl,h.cell rfl⟩
theorem Blk.sixF {w:World} {b:Nat} {t:TypeId} {c:Array Value} (h:Blk w b t c):
  w.frozen? ⟨b,0,none⟩=false/\w.frozen? ⟨b,1,none⟩=false/\w.frozen? ⟨b,2,none⟩=false/\w.frozen? ⟨b,3,none⟩=false/\w.frozen? ⟨b,4,none⟩=false/\w.frozen? ⟨b,5,none⟩=false:=
 ⟨h.free 0,h.free 1,h.free 2,h.free 3,h.free 4,h.free 5⟩
theorem Blk.set6 {w:World} {b:Nat} {t:TypeId} {a0 a1 a2 a3 a4 a5:Value} (h:Blk w b t #[a0,a1,a2,a3,a4,a5]) (v0 v1 v2 v3 v4 v5:Value):
  Blk ((((((w.setCell ⟨b,0,none⟩ v0).setCell ⟨b,1,none⟩ v1).setCell ⟨b,2,none⟩ v2).setCell ⟨b,3,none⟩ v3).setCell ⟨b,4,none⟩ v4).setCell ⟨b,5,none⟩ v5) b t #[v0,v1,v2,v3,v4,v5]:=
 (((((h.set 0 v0).set 1 v1).set 2 v2).set 3 v3).set 4 v4).set 5 v5
theorem Kp.set6 {w w1:World} {S:Nat->Prop} {b:Nat} (h:Kp w w1 S) (hb:w.heap.size<=b) (v0 v1 v2 v3 v4 v5:Value):
  Kp w ((((((w1.setCell ⟨b,0,none⟩ v0).setCell ⟨b,1,none⟩ v1).setCell ⟨b,2,none⟩ v2).setCell ⟨b,3,none⟩ v3).setCell ⟨b,4,none⟩ v4).setCell ⟨b,5,none⟩ v5) S:=by
 have hn:∀ o,(⟨b,o,none⟩:Addr).block < w.heap.size->S (⟨b,o,none⟩:Addr).block:=fun o hlt=>absurd hlt (by show ¬ b < _;omega);exact (((((h.set (hn 0) v0).set (hn 1) v1).set (hn 2) v2).set (hn 3) v3).set (hn 4) v4).set (hn 5) v5
theorem Blk.other6 {w:World} {b b':Nat} {t:TypeId} {c:Array Value} (h:Blk w b t c) (hb:b ≠ b') (v0 v1 v2 v3 v4 v5:Value):
  Blk ((((((w.setCell ⟨b',0,none⟩ v0).setCell ⟨b',1,none⟩ v1).setCell ⟨b',2,none⟩ v2).setCell ⟨b',3,none⟩ v3).setCell ⟨b',4,none⟩ v4).setCell ⟨b',5,none⟩ v5) b t c:=
 (((((h.setOther (a:=⟨b',0,none⟩) hb v0).setOther (a:=⟨b',1,none⟩) hb v1).setOther (a:=⟨b',2,none⟩) hb v2).setOther (a:=⟨b',3,none⟩) hb v3).setOther (a:=⟨b',4,none⟩) hb v4).setOther (a:=⟨b',5,none⟩) hb v5
theorem row6 {w:World} {e:TypeId} {z:Nat} {v:Value} {n b':Nat} {xs:List Value} (h:w.ownsRow 0 e z v n xs) (hb:¬ own v b') (v0 v1 v2 v3 v4 v5:Value):
  ((((((w.setCell ⟨b',0,none⟩ v0).setCell ⟨b',1,none⟩ v1).setCell ⟨b',2,none⟩ v2).setCell ⟨b',3,none⟩ v3).setCell ⟨b',4,none⟩ v4).setCell ⟨b',5,none⟩ v5).ownsRow 0 e z v n xs:=
 ownsRow_setCell_other (a:=⟨b',5,none⟩) (ownsRow_setCell_other (a:=⟨b',4,none⟩) (ownsRow_setCell_other (a:=⟨b',3,none⟩) (ownsRow_setCell_other (a:=⟨b',2,none⟩) (ownsRow_setCell_other (a:=⟨b',1,none⟩) (ownsRow_setCell_other (a:=⟨b',0,none⟩) h hb v0) hb v1) hb v2) hb v3) hb v4) hb v5
def zItem:Array Value:=#[.int .u8 0,.int .i64 0,.string ⟨#[]⟩,.slice none 0 0,.slice none 0 0,.slice none 0 0]
def consR {α β ε:Type} (done:List α):Except ε (List α × β)->Except ε (List α × β)
 | .ok (bs,r)=>.ok (done ++ bs,r)
 | .error e=>.error e
theorem consR_nil {α β ε:Type} (r:Except ε (List α × β)):consR [] r=r:=by rcases r with e|⟨bs,r⟩ <;> rfl
theorem consR_app {α β ε:Type} (d d':List α) (r:Except ε (List α × β)):consR d (consR d' r)=consR (d ++ d') r:=by rcases r with e|⟨bs,r⟩ <;> simp[consR]
def texts (ws:List ByteArray):List Tok:=ws.map fun t=>t.data.toList
theorem texts_drop (ws:List ByteArray) (k:Nat) (h:k < ws.length):(texts ws).drop k=ws[k].data.toList :: (texts ws).drop (k+1):=by
 rw[List.drop_eq_getElem_cons (by simpa [texts] using h)];simp[texts]
theorem texts_end (ws:List ByteArray):(texts ws).drop ws.length=[]:=by rw[List.drop_of_length_le];simp[texts]
def atOf (w:World) (sb:Nat):Nat:=match w.cell? ⟨sb,2,none⟩ with
 | some (.int _ k)=>k.toNat
 | _=>0
theorem atOf_eq {w:World} {sb yb:Nat} {lv:Value} {k:Nat} {e:Int} {lo:Nat} (h:Blk w sb 181 (scArr yb lv k e lo)):atOf w sb=k:=by
 unfold atOf;rw[h.cell (o:=2) (v:=.int .i64 k) rfl];simp
theorem pB_end:pBraces []=.error 4:=rfl
theorem pB_open {t:ByteArray} (h:(t.toList == [123])=true) (r:List Tok):pBraces (t.data.toList :: r)=.error 4:=by
 rw[ByteArray.toList_eq] at h;unfold pBraces;rw[if_pos (by simpa [kOpen] using h)]
theorem pB_close {t:ByteArray} (h:(t.toList == [123])=false) (h':(t.toList == [125])=true) (r:List Tok):pBraces (t.data.toList :: r)=.ok ([],r):=by
 rw[ByteArray.toList_eq] at h h';unfold pBraces;rw[if_neg (by simpa [kOpen] using h),if_pos (by simpa [kClose] using h')]
theorem pB_more {t:ByteArray} (h:(t.toList == [123])=false) (h':(t.toList == [125])=false) (r:List Tok):pBraces (t.data.toList :: r)=consR [t.data.toList] (pBraces r):=by
 rw[ByteArray.toList_eq] at h h';rw[pBraces];rw[if_neg (by simpa [kOpen] using h),if_neg (by simpa [kClose] using h')];rcases pBraces r with e|⟨a,b⟩ <;> rfl
def PBr (K:Nat->Prop) (w:World) (sb yb:Nat) (rs:RS) (defs:List Def) (lv:Value) (ws:List ByteArray) (k lo:Nat) (x:Ending) (w':World):Except Int (List Tok × List Tok)->Prop
 | .ok (bs,r)=>∃ vt k',x=.returned (.agg #[.int .u8 123,.int .i64 0,.string ⟨#[]⟩,.slice none 0 0,.slice none 0 0,vt])/\toksIn (fun b=>w.heap.size<=b) w' vt bs/\bs.length<=1000/\r=(texts ws).drop k'/\k<=k'/\ScInv K w' sb yb rs defs lv ws k' 0 lo
 | .error er=>er ≠ 0/\∃ ao n cap k',x=.returned (.agg #[.int .u8 123,.int .i64 0,.string ⟨#[]⟩,.slice none 0 0,.slice none 0 0,.slice ao n cap])/\k<=k'/\ScInv K w' sb yb rs defs lv ws k' er lo
theorem bracesS (w:World) (sb yb:Nat) (rs:RS) (defs:List Def) (lv:Value) (ws:List ByteArray) (k lo:Nat) (h:ScInv K w sb yb rs defs lv ws k 0 lo):
  Calls Tryz.prog 187 #[.pointer (some ⟨sb,0,none⟩)] w fun x w'=>Kp w w' (fun b=>b=sb)/\PBr K w sb yb rs defs lv ws k lo x w' (pBraces ((texts ws).drop k)):=by
 obtain⟨i0,hi,hz0,hz1,hz2⟩:=info_parts Tryz.info9;have hsb:=h.blk.lt;go_enter Tryz.func187,Tryz.ntmps187;go_wp2
 go_loopw [4] (fun _ wr=>∃ (k':Nat) (dn:List ByteArray) (vt:Value),k<=k'/\Kp w wr (fun b=>b=sb)/\Blk wr sb 181 (scArr yb lv k' 0 lo)/\k'<=ws.length/\wr.ownsRow 0 9 1 vt dn.length (dn.map Value.string)/\(∀ b,own vt b->w.heap.size<=b)/\dn.length<=k' /\
   Blk wr (w.heap.size+1) 227 #[.int .u8 123,.int .i64 0,.string ⟨#[]⟩,.slice none 0 0,.slice none 0 0,vt]/\Blk wr w.heap.size 227 zItem/\pBraces ((texts ws).drop k)=consR (texts dn) (pBraces ((texts ws).drop k')))
  (fun _ wr=>ws.length - atOf wr sb)
 case atStart=>
  refine⟨k,[],.slice none 0 0,Nat.le_refl _,((Kp.refl _ _).alloc _).alloc _,(h.blk.alloc _).alloc _,h.kle,World.ownsRow_nil _ _ _ _,fun b hb=>by simp[own,Value.ownBlock] at hb,Nat.zero_le _,?_,(Blk.new w zItem _).alloc _,(consR_nil _).symm⟩;have:=Blk.new (w.alloc (.cells #[.int .u8 0,.int .i64 0,.string ⟨#[]⟩,.slice none 0 0,.slice none 0 0,.slice none 0 0] 227)) #[.int .u8 123,.int .i64 0,.string ⟨#[]⟩,.slice none 0 0,.slice none 0 0,.slice none 0 0] 227
  simpa using this
 case round=>
  obtain⟨k',dn,vt,hkk,hkp,hB,hk',hrow,hown,hdl,hX,hC,hpb⟩:=hrel;have HP:=hide hpb;clear hpb;obtain⟨ao,cap,rfl⟩:=row_slice hrow;have hS:=h.to hkp hB hk';have hszr:=hkp.size;have hxs:¬ (w.heap.size+1)=sb:=by omega
  have hcs:¬ w.heap.size=sb:=by omega
  have hln:=h.len;have hmeas:atOf wr sb=k':=atOf_eq hB;by_cases hlt:k' < ws.length
  ·have HD:=hide (texts_drop ws k' hlt)
   go_wp2_with fail
   refine (nextS_ok _ sb yb lv ws k' lo hS.row hB h.len hlt).mono ?_;rintro e w1 ⟨rfl,hB1,hk1⟩;have hX1:=hk1.blk hX hxs;have hC1:=hk1.blk hC hcs;have hrow1:=hk1.row hrow (fun b hb e=>by subst e;exact own_ne hrow hB (by decide) hb);have hkp1:=hkp.trans hk1;clear hS hB hkp hX hC hrow;generalize ht:ws[k']=t;rw[ht] at HD;have HT:=hide ht;clear ht
   cases b1:(t.toList == [123])
   ·cases b2:(t.toList == [125])
    ·obtain⟨x0,x1,x2,x3,x4,x5⟩:=hX1.six;have f5:=hX1.free 5;have c3:w1.cell? ⟨sb,3,none⟩=some (.int .i64 0):=hB1.cell rfl;have hs1:=hkp1.size
     go_wp2_with (first
      | (at_builtin;refine wpList_append_to _ rfl _ _ 47 rfl 9 i0 (.string ByteArray.empty) 1 16 Tryz.underlying47 hi hz0 hz1 hz2 rfl (by decide) _ _ _ rfl (hrow1.alloc _) ⟨w1.heap.size,0,none⟩ 1 1 [.string t] rfl rfl ?c1 ?c2 ?c3 ?c4 ?_)
      | go_in)
     case c1=>intro j u hj;match j,hj with|0,hj=>simp at hj;subst hj;simp[Addr.add]
     case c2=>intro u hu;simp at hu;subst hu;rfl
     case c3=>unfold maxLen;omega
     case c4=>omega
     intro v' w2 hown' hgrow hnx;obtain⟨g,cap',rfl⟩:∃ g cap',v'=.slice (some ⟨g,0,none⟩) (dn.length+1) cap':=by
      rcases hown'.2 with⟨_,h0⟩|⟨g,cap',_,hv,_⟩
      ·omega
      ·exact⟨g,cap',hv⟩
     have hX2:Blk w2 (w.heap.size+1) 227 _:=(hX1.alloc _).same (hgrow.block _ (by have:=hX1.lt;simp;omega) (fun e=>own_ne hrow1 hX1 (by decide) e.symm));have hC2:Blk w2 w.heap.size 227 _:=(hC1.alloc _).same (hgrow.block _ (by have:=hC1.lt;simp;omega) (fun e=>own_ne hrow1 hC1 (by decide) e.symm));have hB2:Blk w2 sb 181 _:=(hB1.alloc _).same (hgrow.block _ (by have:=hB1.lt;simp;omega) (fun e=>own_ne hrow1 hB1 (by decide) e.symm));have hkp2:Kp w w2 (fun b=>b=sb):=(hkp1.alloc _).grown hgrow (fun b hb e=>by have:=hown b e;omega);have hown2:∀ b,own (.slice (some ⟨g,0,none⟩) (dn.length+1) cap') b->w.heap.size<=b:=fun b hb=>by
      rcases hnx b hb with h1|h1
      ·exact hown b h1
      ·have:(w1.alloc (.cells #[.string t] 9)).heap.size=w1.heap.size+1:=by simp
       omega
     have HO:=hide hown';have x5':=hX2.cell (o:=5) rfl;have f5':=hX2.free 5;have HP2:Hid (pBraces ((texts ws).drop k)=consR (texts (dn ++ [t])) (pBraces ((texts ws).drop (k' + 1)))):=by
      unfold Hid;rw[HP.out,HD.out,pB_more b1 b2,consR_app];simp[texts]
     clear hown' hgrow hnx hX1 hC1 hB1 hkp1 hrow1 x0 x1 x2 x3 x4 x5 f5 hk1 c3 hown HP HD HT b1 b2;go_wp2
     go_roundw
     case rel=>
      refine⟨k' + 1,dn ++ [t],_,by omega,hkp2.set (fun hlt=>absurd hlt (by show ¬ (w.heap.size+1 < w.heap.size);omega)) _,hB2.setOther (a:=⟨w.heap.size+1,5,none⟩) (Ne.symm hxs) _,by omega,?_,hown2,by simp;omega,hX2.set 5 _,hC2.setOther (a:=⟨w.heap.size+1,5,none⟩) (by show w.heap.size ≠ w.heap.size+1;omega) _,HP2.out⟩;have:=ownsRow_setCell_other HO.out (a:=⟨w.heap.size+1,5,none⟩) (own_ne HO.out hX2 (by decide)) (.slice (some ⟨g,0,none⟩) (dn.length+1) cap')
      simpa using this
     case measure=>
      rw[hmeas,atOf_eq (hB2.setOther (a:=⟨w.heap.size+1,5,none⟩) (Ne.symm hxs) _)];omega
    ·obtain⟨x0,x1,x2,x3,x4,x5⟩:=hX1.six;obtain⟨y0,y1,y2,y3,y4,y5⟩:=hC1.six;obtain⟨z0,z1,z2,z3,z4,z5⟩:=hC1.sixF;have c3:w1.cell? ⟨sb,3,none⟩=some (.int .i64 0):=hB1.cell rfl;go_wp2;have hC2:=hC1.set6 (.int .u8 123) (.int .i64 0) (.string ⟨#[]⟩) (.slice none 0 0) (.slice none 0 0) (.slice ao dn.length cap);have hk2:=hkp1.set6 (Nat.le_refl _) (.int .u8 123) (.int .i64 0) (.string ⟨#[]⟩) (.slice none 0 0) (.slice none 0 0) (.slice ao dn.length cap);have hB2:=hB1.other6 (Ne.symm hcs) (.int .u8 123) (.int .i64 0) (.string ⟨#[]⟩) (.slice none 0 0) (.slice none 0 0) (.slice ao dn.length cap);have hrow2:=row6 hrow1 (fun e=>own_ne hrow1 hC1 (by decide) e) (.int .u8 123) (.int .i64 0) (.string ⟨#[]⟩) (.slice none 0 0) (.slice none 0 0) (.slice ao dn.length cap);generalize ((((((w1.setCell ⟨w.heap.size,0,none⟩ (.int .u8 123)).setCell ⟨w.heap.size,1,none⟩ (.int .i64 0)).setCell ⟨w.heap.size,2,none⟩ (.string ⟨#[]⟩)).setCell ⟨w.heap.size,3,none⟩ (.slice none 0 0)).setCell ⟨w.heap.size,4,none⟩ (.slice none 0 0)).setCell ⟨w.heap.size,5,none⟩ (.slice ao dn.length cap))=wf at hC2 hk2 hB2 hrow2 ⊢;obtain⟨q0,q1,q2,q3,q4,q5⟩:=hC2.six;refine bodyPost_ret (v:=.agg #[.int .u8 123,.int .i64 0,.string ⟨#[]⟩,.slice none 0 0,.slice none 0 0,.slice ao dn.length cap]) (by simp[results,Tryz.results187,go_sem,q0,q1,q2,q3,q4,q5]) rfl ?_;refine⟨hk2,?_⟩;rw[HP.out,HD.out,pB_close b1 b2];exact⟨_,k' + 1,rfl,⟨dn,hrow2,by simp[texts],hown⟩,by simp[texts];omega,rfl,by omega,h.to hk2 hB2 (by omega)⟩
   ·go_wp2_with fail
    refine (failS _ sb yb lv (k' + 1) lo _ hB1).mono ?_;rintro e w2 ⟨rfl,hB2',hk2'⟩
    replace hX1:=hk2'.blk hX1 hxs
    replace hC1:=hk2'.blk hC1 hcs
    replace hrow1:=hk2'.row hrow1 (fun b hb e=>by subst e;exact own_ne hrow1 hB1 (by decide) hb)
    replace hkp1:=hkp1.trans hk2'
    replace hB1:=hB2'
    clear hB2' hk2' hk1;obtain⟨x0,x1,x2,x3,x4,x5⟩:=hX1.six;obtain⟨y0,y1,y2,y3,y4,y5⟩:=hC1.six;obtain⟨z0,z1,z2,z3,z4,z5⟩:=hC1.sixF;have c3:w2.cell? ⟨sb,3,none⟩=some (.int .i64 4):=hB1.cell rfl;go_wp2;have hC2:=hC1.set6 (.int .u8 123) (.int .i64 0) (.string ⟨#[]⟩) (.slice none 0 0) (.slice none 0 0) (.slice ao dn.length cap);have hk2:=hkp1.set6 (Nat.le_refl _) (.int .u8 123) (.int .i64 0) (.string ⟨#[]⟩) (.slice none 0 0) (.slice none 0 0) (.slice ao dn.length cap);have hB2:=hB1.other6 (Ne.symm hcs) (.int .u8 123) (.int .i64 0) (.string ⟨#[]⟩) (.slice none 0 0) (.slice none 0 0) (.slice ao dn.length cap);have hrow2:=row6 hrow1 (fun e=>own_ne hrow1 hC1 (by decide) e) (.int .u8 123) (.int .i64 0) (.string ⟨#[]⟩) (.slice none 0 0) (.slice none 0 0) (.slice ao dn.length cap);generalize ((((((w2.setCell ⟨w.heap.size,0,none⟩ (.int .u8 123)).setCell ⟨w.heap.size,1,none⟩ (.int .i64 0)).setCell ⟨w.heap.size,2,none⟩ (.string ⟨#[]⟩)).setCell ⟨w.heap.size,3,none⟩ (.slice none 0 0)).setCell ⟨w.heap.size,4,none⟩ (.slice none 0 0)).setCell ⟨w.heap.size,5,none⟩ (.slice ao dn.length cap))=wf at hC2 hk2 hB2 hrow2 ⊢;obtain⟨q0,q1,q2,q3,q4,q5⟩:=hC2.six;refine bodyPost_ret (v:=.agg #[.int .u8 123,.int .i64 0,.string ⟨#[]⟩,.slice none 0 0,.slice none 0 0,.slice ao dn.length cap]) (by simp[results,Tryz.results187,go_sem,q0,q1,q2,q3,q4,q5]) rfl ?_;refine⟨hk2,?_⟩;rw[HP.out,HD.out,pB_open b1];exact⟨by decide,_,_,_,k' + 1,rfl,by omega,h.to hk2 hB2 (by omega)⟩
  ·have hkl:k'=ws.length:=by omega
   subst hkl
   go_wp2_with fail
   refine (nextS_end _ sb yb lv _ _ lo hS.row hB h.len).mono ?_;rintro e w1 ⟨rfl,hB1,hk1⟩;have hX1:=hk1.blk hX hxs;have hC1:=hk1.blk hC hcs;have hrow1:=hk1.row hrow (fun b hb e=>by subst e;exact own_ne hrow hB (by decide) hb);have hkp1:=hkp.trans hk1;have c3:w1.cell? ⟨sb,3,none⟩=some (.int .i64 4):=hB1.cell rfl;clear hS hB hkp hX hC hrow;obtain⟨x0,x1,x2,x3,x4,x5⟩:=hX1.six;obtain⟨y0,y1,y2,y3,y4,y5⟩:=hC1.six;obtain⟨z0,z1,z2,z3,z4,z5⟩:=hC1.sixF;go_wp2;have hC2:=hC1.set6 (.int .u8 123) (.int .i64 0) (.string ⟨#[]⟩) (.slice none 0 0) (.slice none 0 0) (.slice ao dn.length cap);have hk2:=hkp1.set6 (Nat.le_refl _) (.int .u8 123) (.int .i64 0) (.string ⟨#[]⟩) (.slice none 0 0) (.slice none 0 0) (.slice ao dn.length cap);have hB2:=hB1.other6 (Ne.symm hcs) (.int .u8 123) (.int .i64 0) (.string ⟨#[]⟩) (.slice none 0 0) (.slice none 0 0) (.slice ao dn.length cap);have hrow2:=row6 hrow1 (fun e=>own_ne hrow1 hC1 (by decide) e) (.int .u8 123) (.int .i64 0) (.string ⟨#[]⟩) (.slice none 0 0) (.slice none 0 0) (.slice ao dn.length cap);generalize ((((((w1.setCell ⟨w.heap.size,0,none⟩ (.int .u8 123)).setCell ⟨w.heap.size,1,none⟩ (.int .i64 0)).setCell ⟨w.heap.size,2,none⟩ (.string ⟨#[]⟩)).setCell ⟨w.heap.size,3,none⟩ (.slice none 0 0)).setCell ⟨w.heap.size,4,none⟩ (.slice none 0 0)).setCell ⟨w.heap.size,5,none⟩ (.slice ao dn.length cap))=wf at hC2 hk2 hB2 hrow2 ⊢;obtain⟨q0,q1,q2,q3,q4,q5⟩:=hC2.six;refine bodyPost_ret (v:=.agg #[.int .u8 123,.int .i64 0,.string ⟨#[]⟩,.slice none 0 0,.slice none 0 0,.slice ao dn.length cap]) (by simp[results,Tryz.results187,go_sem,q0,q1,q2,q3,q4,q5]) rfl ?_;refine⟨hk2,?_⟩;rw[HP.out,texts_end,pB_end];exact⟨by decide,_,_,_,ws.length,rfl,by omega,h.to hk2 hB2 (by omega)⟩
end
section
open Go.RowKit
variable {K:Nat->Prop}
def knownD (defs:List Def) (t:Tok):Bool:=(defs.findIdx? (fun d=>d.name == t)).isSome
theorem knownD_neg {defs:List Def} {t:Tok} (h:findI defs t < 0):knownD defs t=false:=by
 unfold findI at h;unfold knownD
 cases hf:defs.findIdx? (fun d=>d.name == t) with
 | none=>rfl
 | some k=>rw[hf] at h;simp at h;omega
theorem knownD_pos {defs:List Def} {t:Tok} (h:¬ findI defs t < 0):knownD defs t=true:=by
 unfold findI at h;unfold knownD
 cases hf:defs.findIdx? (fun d=>d.name == t) with
 | none=>rw[hf] at h;simp at h
 | some k=>rfl
abbrev PRes:=Except Int (List It × Tok × List Tok)
theorem pB0 (known:Tok->Bool) (lo:Nat) (ends:List Tok) (r:List Tok):pRead known 0 ⟨false,lo,ends,[]⟩ r=none:=rfl
theorem pB_nil (known:Tok->Bool) (g lo:Nat) (ends:List Tok):pRead known (g+1) ⟨false,lo,ends,[]⟩ []=some (.error 4):=by rw[pRead];rfl
theorem pB_stop (known:Tok->Bool) (g lo:Nat) (ends:List Tok) (t:Tok) (r:List Tok) (h:ends.any (· == t)=true):pRead known (g+1) ⟨false,lo,ends,[]⟩ (t :: r)=some (.ok ([],t,r)):=by
 rw[pRead];simp[h]
theorem pB_go (known:Tok->Bool) (g lo:Nat) (ends:List Tok) (t:Tok) (r:List Tok) (h:ends.any (· == t)=false) (res:PRes) (hres:pRead known (g+1) ⟨false,lo,ends,[]⟩ (t :: r)=some res):
  (∃ e,pRead known g ⟨true,lo,[],t⟩ r=some (.error e)/\res=.error e) \/
  (∃ xs t1 r2 res',pRead known g ⟨true,lo,[],t⟩ r=some (.ok (xs,t1,r2))/\pRead known g ⟨false,lo,ends,[]⟩ r2=some res'/\res=consR xs res'):=by
 rw[pRead] at hres;simp only[h,Bool.false_eq_true,if_false,if_true] at hres
 split at hres
 ·cases hres
 ·rename_i e he;injection hres with hres;exact .inl ⟨e,he,hres.symm⟩
 ·rename_i xs t1 r2 he
  split at hres
  ·cases hres
  ·rename_i e he';injection hres with hres;exact .inr ⟨xs,t1,r2,.error e,he,he',hres.symm⟩
  ·rename_i ys t' r3 he';injection hres with hres;exact .inr ⟨xs,t1,r2,.ok (ys,t',r3),he,he',hres.symm⟩
theorem pI0 (known:Tok->Bool) (lo:Nat) (t:Tok) (r:List Tok):pRead known 0 ⟨true,lo,[],t⟩ r=none:=rfl
def longT (t:Tok):Prop:=t=kIf\/t=kBegin\/t=kDo\/t=kOpen
theorem pI_one (known:Tok->Bool) (g lo:Nat) (t:Tok) (r:List Tok) (h:¬ longT t):pRead known (g+1) ⟨true,lo,[],t⟩ r=match pOne known lo t with
  | .error e=>some (.error e)
  | .ok x=>some (.ok ([x],[],r)):=by
 unfold longT at h;rw[pRead.eq_def];simp only[Bool.true_eq_false,if_false];rw[if_neg (fun e=>h (.inl e)),if_neg (fun e=>h (.inr (.inl e))),if_neg (fun e=>h (.inr (.inr (.inl e)))),if_neg (fun e=>h (.inr (.inr (.inr e))))];rfl
theorem not_long_num {t:Tok} {n:Int} (h:numP t=some n):¬ longT t:=by
 rintro (rfl|rfl|rfl|rfl)
 ·rw[show numP kIf=none by decide] at h;cases h
 ·rw[show numP kBegin=none by decide] at h;cases h
 ·rw[show numP kDo=none by decide] at h;cases h
 ·rw[show numP kOpen=none by decide] at h;cases h
theorem not_long_plain {t:Tok} (h:plainL.any (· == t)=true):¬ longT t:=by
 rintro (rfl|rfl|rfl|rfl) <;> revert h <;> decide
theorem pI_num {known:Tok->Bool} {g lo:Nat} {t:Tok} {r:List Tok} {n:Int} (h:numP t=some n):pRead known (g+1) ⟨true,lo,[],t⟩ r=some (.ok ([⟨110,n,[],[],[],[]⟩],[],r)):=by
 rw[pI_one _ _ _ _ _ (not_long_num h)];unfold pOne;rw[h]
theorem pI_plain {known:Tok->Bool} {g lo:Nat} {t:Tok} {r:List Tok} (h:numP t=none) (h':plainL.any (· == t)=true):pRead known (g+1) ⟨true,lo,[],t⟩ r=some (.ok ([⟨112,0,t,[],[],[]⟩],[],r)):=by
 rw[pI_one _ _ _ _ _ (not_long_plain h')];unfold pOne;rw[h];simp only[h',if_true]
theorem pI_i {known:Tok->Bool} {g lo:Nat} {r:List Tok} (h:0 < lo):pRead known (g+1) ⟨true,lo,[],kI⟩ r=some (.ok ([⟨105,0,[],[],[],[]⟩],[],r)):=by
 rw[pI_one _ _ _ _ _ (by unfold longT;decide)];have:pOne known lo kI=.ok ⟨105,0,[],[],[],[]⟩:=by
  unfold pOne;rw[show numP kI=none by decide];simp only;rw[if_neg (by decide),if_pos ⟨trivial,h⟩]
 rw[this]
theorem pI_i0 {known:Tok->Bool} {g:Nat} {r:List Tok}:pRead known (g+1) ⟨true,0,[],kI⟩ r=some (.error 4):=by
 rw[pI_one _ _ _ _ _ (by unfold longT;decide)];have:pOne known 0 kI=.error 4:=by
  unfold pOne;rw[show numP kI=none by decide];simp only;rw[if_neg (by decide),if_neg (by simp),if_neg (by decide),if_neg (by decide),if_pos (by decide)]
 rw[this]
theorem pI_rec {known:Tok->Bool} {g lo:Nat} {r:List Tok}:pRead known (g+1) ⟨true,lo,[],kRecurse⟩ r=some (.ok ([⟨114,0,[],[],[],[]⟩],[],r)):=by
 rw[pI_one _ _ _ _ _ (by unfold longT;decide)];have:pOne known lo kRecurse=.ok ⟨114,0,[],[],[],[]⟩:=by
  unfold pOne;rw[show numP kRecurse=none by decide];simp only;rw[if_neg (by decide),if_neg (fun h=>absurd h.1 (by decide)),if_pos trivial]
 rw[this]
theorem pI_exit {known:Tok->Bool} {g lo:Nat} {r:List Tok}:pRead known (g+1) ⟨true,lo,[],kExit⟩ r=some (.ok ([⟨120,0,[],[],[],[]⟩],[],r)):=by
 rw[pI_one _ _ _ _ _ (by unfold longT;decide)];have:pOne known lo kExit=.ok ⟨120,0,[],[],[],[]⟩:=by
  unfold pOne;rw[show numP kExit=none by decide];simp only;rw[if_neg (by decide),if_neg (fun h=>absurd h.1 (by decide)),if_neg (by decide),if_pos trivial]
 rw[this]
structure Other (t:Tok):Prop where
 num:numP t=none
 pl:plainL.any (· == t)=false
 k1:(t == kIf)=false
 k2:(t == kBegin)=false
 k3:(t == kDo)=false
 k4:(t == kI)=false
 k5:(t == kRecurse)=false
 k6:(t == kExit)=false
 k7:(t == kOpen)=false
theorem Other.one {t:Tok} (h:Other t) (known:Tok->Bool) (g lo:Nat) (r:List Tok):pRead known (g+1) ⟨true,lo,[],t⟩ r=if formD t=true then some (.error 4) else if known t=true then some (.ok ([⟨99,0,t,[],[],[]⟩],[],r)) else some (.error 3):=by
 have ne:∀ {k:Tok},(t == k)=false->¬ t=k:=fun h=>by simpa using h
 rw[pI_one _ _ _ _ _ (by rintro (e|e|e|e);exact ne h.k1 e;exact ne h.k2 e;exact ne h.k3 e;exact ne h.k7 e)];have:pOne known lo t=if formD t=true then .error 4 else if known t=true then .ok ⟨99,0,t,[],[],[]⟩ else .error 3:=by
  unfold pOne;rw[h.num];simp only;rw[if_neg (by rw[h.pl];decide),if_neg (fun e=>ne h.k4 e.1),if_neg (ne h.k5),if_neg (ne h.k6)]
 rw[this]
 split
 ·rename_i e he;split at he
  ·injection he with he;subst he;rename_i hf;rw[if_pos hf]
  ·split at he
   ·cases he
   ·injection he with he;subst he;rename_i hf hk;rw[if_neg hf,if_neg hk]
 ·rename_i x he;split at he
  ·cases he
  ·split at he
   ·injection he with he;subst he;rename_i hf hk;rw[if_neg hf,if_pos hk]
   ·cases he
theorem pI_if {known:Tok->Bool} {g lo:Nat} {r:List Tok} {res:PRes} (h:pRead known (g+1) ⟨true,lo,[],kIf⟩ r=some res):
    (∃ e,pRead known g ⟨false,lo,[kElse,kThen],[]⟩ r=some (.error e)/\res=.error e) \/
    (∃ a t1 r1,pRead known g ⟨false,lo,[kElse,kThen],[]⟩ r=some (.ok (a,t1,r1)) /\
      ((t1=kElse/\((∃ e,pRead known g ⟨false,lo,[kThen],[]⟩ r1=some (.error e)/\res=.error e)\/(∃ b t2 r2,pRead known g ⟨false,lo,[kThen],[]⟩ r1=some (.ok (b,t2,r2))/\res=.ok ([⟨63,0,[],a,b,[]⟩],[],r2)))) \/
       (¬ t1=kElse/\res=.ok ([⟨63,0,[],a,[],[]⟩],[],r1)))):=by
  rw[pRead.eq_def] at h;simp only[Bool.true_eq_false,if_false,if_true] at h
  split at h
  · cases h
  · rename_i e he;injection h with h;exact .inl ⟨e,he,h.symm⟩
  · rename_i a t1 r1 he
    refine .inr ⟨a,t1,r1,he,?_⟩;by_cases h1:t1=kElse
    · rw[if_pos h1] at h
      refine .inl ⟨h1,?_⟩
      split at h
      · cases h
      · rename_i e he';injection h with h;exact .inl ⟨e,he',h.symm⟩
      · rename_i b t2 r2 he';injection h with h;exact .inr ⟨b,t2,r2,he',h.symm⟩
    · rw[if_neg h1] at h
      injection h with h;exact .inr ⟨h1,h.symm⟩
theorem pI_begin {known:Tok->Bool} {g lo:Nat} {r:List Tok} {res:PRes} (h:pRead known (g+1) ⟨true,lo,[],kBegin⟩ r=some res):
    (∃ e,pRead known g ⟨false,lo,[kUntil,kWhile],[]⟩ r=some (.error e)/\res=.error e) \/
    (∃ a t1 r1,pRead known g ⟨false,lo,[kUntil,kWhile],[]⟩ r=some (.ok (a,t1,r1)) /\
      ((t1=kWhile/\((∃ e,pRead known g ⟨false,lo,[kRepeat],[]⟩ r1=some (.error e)/\res=.error e)\/(∃ b t2 r2,pRead known g ⟨false,lo,[kRepeat],[]⟩ r1=some (.ok (b,t2,r2))/\res=.ok ([⟨119,0,[],a,b,[]⟩],[],r2)))) \/
       (¬ t1=kWhile/\res=.ok ([⟨117,0,[],a,[],[]⟩],[],r1)))):=by
  rw[pRead.eq_def] at h;simp only[Bool.true_eq_false,if_false] at h;rw[if_neg (by decide),if_pos trivial] at h
  split at h
  · cases h
  · rename_i e he;injection h with h;exact .inl ⟨e,he,h.symm⟩
  · rename_i a t1 r1 he
    refine .inr ⟨a,t1,r1,he,?_⟩;by_cases h1:t1=kWhile
    · rw[if_pos h1] at h
      refine .inl ⟨h1,?_⟩
      split at h
      · cases h
      · rename_i e he';injection h with h;exact .inl ⟨e,he',h.symm⟩
      · rename_i b t2 r2 he';injection h with h;exact .inr ⟨b,t2,r2,he',h.symm⟩
    · rw[if_neg h1] at h
      injection h with h;exact .inr ⟨h1,h.symm⟩
theorem pI_do {known:Tok->Bool} {g lo:Nat} {r:List Tok} {res:PRes} (h:pRead known (g+1) ⟨true,lo,[],kDo⟩ r=some res):
  (∃ e,pRead known g ⟨false,lo+1,[kLoop],[]⟩ r=some (.error e)/\res=.error e) \/
  (∃ a t1 r1,pRead known g ⟨false,lo+1,[kLoop],[]⟩ r=some (.ok (a,t1,r1))/\res=.ok ([⟨100,0,[],a,[],[]⟩],[],r1)):=by
 rw[pRead.eq_def] at h;simp only[Bool.true_eq_false,if_false] at h;rw[if_neg (by decide),if_neg (by decide),if_pos trivial] at h
 split at h
 ·cases h
 ·rename_i e he;injection h with h;exact .inl ⟨e,he,h.symm⟩
 ·rename_i a t1 r1 he;injection h with h;exact .inr ⟨a,t1,r1,he,h.symm⟩
theorem pI_open {known:Tok->Bool} {g lo:Nat} {r:List Tok}:pRead known (g+1) ⟨true,lo,[],kOpen⟩ r=match pBraces r with
  | .error e=>some (.error e)
  | .ok (ts,r1)=>some (.ok ([⟨123,0,[],[],[],ts⟩],[],r1)):=by
 rw[pRead.eq_def];simp only[Bool.true_eq_false,if_false];rw[if_neg (by decide),if_neg (by decide),if_neg (by decide),if_pos trivial];rcases pBraces r with e|⟨a,b⟩ <;> rfl
end
section
open Go.RowKit
variable {K:Nat->Prop}
abbrev New (w:World):Nat->Prop:=fun b=>w.heap.size<=b
def PIt (K:Nat->Prop) (w:World) (sb yb:Nat) (rs:RS) (defs:List Def) (lv:Value) (ws:List ByteArray) (k lo:Nat) (x:Ending) (w':World):PRes->Prop
 | .ok (xs,_,r)=>∃ x' nm va vb vt k',xs=[x']/\x=.returned (.agg #[.int .u8 x'.kind,.int .i64 x'.n,.string nm,va,vb,vt])/\ItAt (BodyS (New w) w') (toksIn (New w) w') x' nm va vb vt/\r=(texts ws).drop k'/\k<=k'/\ScInv K w' sb yb rs defs lv ws k' 0 lo
 | .error er=>er ≠ 0/\∃ n0 n1 s a3 m3 p3 a4 m4 p4 a5 m5 p5 k',x=.returned (.agg #[.int .u8 n0,.int .i64 n1,.string s,.slice a3 m3 p3,.slice a4 m4 p4,.slice a5 m5 p5])/\k<=k'/\ScInv K w' sb yb rs defs lv ws k' er lo
def PBo (K:Nat->Prop) (w:World) (sb yb:Nat) (rs:RS) (defs:List Def) (lv:Value) (ws:List ByteArray) (k lo:Nat) (x:Ending) (w':World):PRes->Prop
 | .ok (xs,t',r)=>∃ v tb k',x=.returned (.tuple #[v,.string tb])/\tb.data.toList=t'/\BodyS (New w) w' v xs/\r=(texts ws).drop k'/\k<=k'/\ScInv K w' sb yb rs defs lv ws k' 0 lo
 | .error er=>er ≠ 0/\∃ k',x=.returned (.tuple #[.slice none 0 0,.string ⟨#[]⟩])/\k<=k'/\ScInv K w' sb yb rs defs lv ws k' er lo
def CItemP (K:Nat->Prop) (g:Nat):Prop:=∀ (w:World) (sb yb:Nat) (rs:RS) (defs:List Def) (lv:Value) (ws:List ByteArray) (k lo:Nat) (tb:ByteArray) (res:PRes),
 pRead (knownD defs) g ⟨true,lo,[],tb.data.toList⟩ ((texts ws).drop k)=some res->ScInv K w sb yb rs defs lv ws k 0 lo->lo < k ->
 Calls Tryz.prog 170 #[.pointer (some ⟨sb,0,none⟩),.string tb] w fun x w'=>Kp w w' (fun b=>b=sb)/\PIt K w sb yb rs defs lv ws k lo x w' res
def CBodyP (K:Nat->Prop) (g:Nat):Prop:=∀ (w:World) (sb yb:Nat) (rs:RS) (defs:List Def) (lv:Value) (ws:List ByteArray) (k lo:Nat) (gb:Nat) (es:List ByteArray) (res:PRes),
 pRead (knownD defs) g ⟨false,lo,texts es,[]⟩ ((texts ws).drop k)=some res->ScInv K w sb yb rs defs lv ws k 0 lo->lo<=k->Blk w gb 9 (es.map Value.string).toArray->es.length<=100 ->
 Calls Tryz.prog 138 #[.pointer (some ⟨sb,0,none⟩),.slice (some ⟨gb,0,none⟩) es.length es.length] w fun x w'=>Kp w w' (fun b=>b=sb)/\PBo K w sb yb rs defs lv ws k lo x w' res
theorem any_texts (es:List ByteArray) (t:ByteArray):(es.any fun x=>x.toList == t.toList)=(texts es).any (· == t.data.toList):=by
 simp only[texts,List.any_map,ByteArray.toList_eq];rfl
theorem Tryz.infoIt:(Tryz.prog.info? 227).map (fun i=>(i.zero,i.size,i.bytes))=some (some (.agg zItem),6,104):=by kernel_rfl
theorem addr_add (g j:Nat):(⟨g,0,none⟩:Addr).add j=⟨g,j,none⟩:=by unfold Addr.add;split <;> simp_all
theorem new_cells (w:World) (o:Obj) (c:Array Value) (t:TypeId):∀ (j:Nat) (u:Value),c.toList[j]? = some u->((w.alloc o).alloc (.cells c t)).cell? ((⟨w.heap.size+1,0,none⟩:Addr).add j)=some u:=by
 intro j u hj;have hb:=Blk.new (w.alloc o) c t;rw[show (w.alloc o).heap.size=w.heap.size+1 by simp] at hb;rw[addr_add];exact hb.cell (by simpa using hj)
theorem grown_keep {w2 w3:World} {o1 o2:Obj} {v:Value} (hg:((w2.alloc o1).alloc o2).grownBy w3 v.ownBlock) {b:Nat} {t:TypeId} {c:Array Value} (hb:Blk w2 b t c) (hn:¬ own v b):Blk w3 b t c:=
 ((hb.alloc o1).alloc o2).same (hg.block b (by have:=hb.lt;simp;omega) (fun e=>hn e.symm))
def BRel (K:Nat->Prop) (w:World) (sb yb:Nat) (rs:RS) (defs:List Def) (lv:Value) (ws:List ByteArray) (k lo:Nat) (es:List ByteArray) (G:Nat) (res:PRes) (v:Value) (wr:World):Prop:=
  ∃ k',k<=k'/\Kp w wr (fun b=>b=sb) /\
    ((∃ dn xs G' res',ScInv K wr sb yb rs defs lv ws k' 0 lo/\wr.ownsRow 0 227 6 v dn.length xs/\(∀ b,own v b->New w b)/\dn.length<=k'/\itsIn (BodyS (fun b=>New w b/\¬ own v b) wr) (toksIn (fun b=>New w b/\¬ own v b) wr) dn xs /\
        G'<=G/\pRead (knownD defs) G' ⟨false,lo,texts es,[]⟩ ((texts ws).drop k')=some res'/\res=consR dn res') \/
     (∃ er,er ≠ 0/\ScInv K wr sb yb rs defs lv ws k' er lo/\res=.error er))
theorem bodyP (G:Nat) (IH:∀ g,g < G->CItemP K g):CBodyP K G:=by
 intro w sb yb rs defs lv ws k lo gb es res hres h hlo hE he;obtain⟨i0,hi,hz0,hz1,hz2⟩:=info_parts Tryz.infoIt;have hsb:=h.blk.lt;have hln:=h.len;have hgs:¬ gb=sb:=by rintro rfl;exact absurd (hE.inj h.blk).1 (by decide)
 have HI:=hide IH;clear IH;have H0:BRel K w sb yb rs defs lv ws k lo es G res (.slice none 0 0) w:=by
  refine⟨k,Nat.le_refl _,Kp.refl _ _,.inl ⟨[],[],G,res,h,World.ownsRow_nil _ _ _ _,fun b hb=>by simp[own,Value.ownBlock] at hb,Nat.zero_le _,rfl,Nat.le_refl _,hres,(consR_nil _).symm⟩⟩
 have HH:=hide H0;clear H0 hres;go_enter Tryz.func138,Tryz.ntmps138;go_wp2
 go_loopw [6] (fun v wr=>BRel K w sb yb rs defs lv ws k lo es G res v wr) (fun _ wr=>ws.length - atOf wr sb)
 case atStart=>exact HH.out
 case round=>
  obtain⟨k',hkk,hkp,⟨dn,xs,G',res',hS,hrow,hnew,hdl,hits,hG,hp,hcons⟩|⟨er,her,hS,hreq⟩⟩:=hrel
  ·have HR:=hide hp;have HC:=hide hcons;have HT:=hide hits;clear hp hcons hits;have hmeas:atOf wr sb=k':=atOf_eq hS.blk;have hE1:=hkp.blk hE hgs;have hk':=hS.kle;obtain⟨ao,cap,rfl⟩:=row_slice hrow
   cases G' with
   | zero=>have:=HR.out;rw[pB0] at this;cases this
   | succ g=>
   by_cases hlt:k' < ws.length
   ·have HD:=hide (texts_drop ws k' hlt)
    go_wp2_with fail
    refine (nextS_ok _ sb yb lv ws k' lo hS.row hS.blk h.len hlt).mono ?_;rintro e w1 ⟨rfl,hB1,hk1⟩;have hS1:=hS.to hk1 hB1 (by omega);have hE2:=hk1.blk hE1 hgs;have c3:w1.cell? ⟨sb,3,none⟩=some (.int .i64 0):=hB1.cell rfl;generalize ht:ws[k']=t;rw[ht] at HD;clear ht
    go_wp2_with fail
    refine (amongR t gb es _ hE2 he).mono ?_;rintro e w2 ⟨rfl,hw⟩;rw[hw];clear hw;rw[any_texts]
    cases hany:(texts es).any (· == t.data.toList)
    ·have hitem:=pB_go _ _ _ _ _ _ hany _ (by have:=HR.out;rw[HD.out] at this;exact this);have hrow1:=hk1.row hrow (fun b hb e=>by subst e;exact own_ne hrow hS.blk (by decide) hb);have hkp1:=hkp.trans hk1;have hits1:itsIn (BodyS (fun b=>New w b/\¬ own (.slice ao dn.length cap) b) w1) (toksIn (fun b=>New w b/\¬ own (.slice ao dn.length cap) b) w1) dn xs:=
      itsIn_imp (fun _ _ h=>h.keep (Keeps.kp hk1 (NoB.one hS.blk (by decide) (by decide)) _)) (fun _ _ h=>toksIn_keep (Keeps.kp hk1 (NoB.one hS.blk (by decide) (by decide)) _) h) _ _ HT.out
     have hsz1:=hkp1.size;clear HT hS hB1 hE1 hE2 hrow hk1 hkp c3 HR HD;rcases hitem with⟨e,hit,hre⟩|⟨xs1,t1,r2,res2,hit,hp2,hre⟩
     ·have HRE:Hid (res=.error e):=by have:=HC.out;rw[hre] at this;exact this
      clear hre HC hits1
      go_wp2_with fail
      refine (HI.out g (by omega) _ _ _ _ _ _ _ _ _ _ _ hit hS1 (by omega)).mono ?_;clear hit;rintro x w2 ⟨hk2,her,n0,n1,s,a3,m3,p3,a4,m4,p4,a5,m5,p5,k2,rfl,hkk2,hS2⟩;have hrow2:=hk2.row hrow1 (fun b hb e=>by subst e;exact own_ne hrow1 hS1.blk (by decide) hb);have hkp2:=hkp1.trans hk2;have hsz2:=hkp2.size;clear hrow1 hS1 hk2 hkp1
      go_wp2_with (first
       | (at_builtin;refine wpList_append_to _ rfl _ _ 93 rfl 227 i0 (.agg zItem) 6 104 Tryz.underlying93 hi hz0 hz1 hz2 rfl (by decide) _ _ _ rfl ((hrow2.alloc _).alloc _) ⟨w2.heap.size+1,0,none⟩ 1 1 [.int .u8 n0,.int .i64 n1,.string s,.slice a3 m3 p3,.slice a4 m4 p4,.slice a5 m5 p5] rfl rfl ?c1 ?c2 ?c3 ?c4 ?_)
       | go_in)
      case c1=>exact new_cells _ _ _ _
      case c2=>intro u hu;simp at hu;rcases hu with rfl|rfl|rfl|rfl|rfl|rfl <;> rfl
      case c3=>unfold maxLen;omega
      case c4=>omega
      intro v' w3 hown' hgrow hnx;have hB3:=grown_keep hgrow hS2.blk (own_ne hrow2 hS2.blk (by decide));have hkp3:Kp w w3 (fun b=>b=sb):=((hkp2.alloc _).alloc _).grown hgrow (fun b hb e=>by have:=hnew b e;omega);have HN:BRel K w sb yb rs defs lv ws k lo es G res v' w3:=⟨k2,by omega,hkp3,.inr ⟨e,her,h.to hkp3 hB3 hS2.kle,HRE.out⟩⟩;have hm2:=atOf_eq hB3;clear hown' hgrow hnx hrow2 hkp2 hS2 hB3 hkp3;go_wp2
      go_roundw
      case rel=>exact HN
      case measure=>rw[hmeas,hm2];omega
     ·have HRE:Hid (res=consR (dn ++ xs1) res2):=by have:=HC.out;rw[hre,consR_app] at this;exact this
      have HP2:=hide hp2;clear hre HC hp2
      go_wp2_with fail
      refine (HI.out g (by omega) _ _ _ _ _ _ _ _ _ _ _ hit hS1 (by omega)).mono ?_;clear hit;rintro x w2 ⟨hk2,x',nm,va,vb,vt,k2,rfl,rfl,hat,rfl,hkk2,hS2⟩;obtain⟨xs3,hr3,-⟩:=hat.a.out;obtain⟨xs4,hr4,-⟩:=hat.b.out;obtain⟨ws5,hr5,-⟩:=hat.t;obtain⟨a3,p3,rfl⟩:=row_slice hr3;obtain⟨a4,p4,rfl⟩:=row_slice hr4;obtain⟨a5,p5,rfl⟩:=row_slice hr5;have hrow2:=hk2.row hrow1 (fun b hb e=>by subst e;exact own_ne hrow1 hS1.blk (by decide) hb);have hkp2:=hkp1.trans hk2;have hsz2:=hkp2.size;have hsz12:=hk2.size;have HIt1:=hide hits1;have HAt:=hide hat;have hb1:∀ b,own (.slice ao dn.length cap) b->b < w1.heap.size:=fun b hb=>own_lt hrow1 hb;have hB1:=hS1.blk;clear hrow1 hkp1 hr3 hr4 hr5 hits1 hat
      go_wp2_with (first
       | (at_builtin;refine wpList_append_to _ rfl _ _ 93 rfl 227 i0 (.agg zItem) 6 104 Tryz.underlying93 hi hz0 hz1 hz2 rfl (by decide) _ _ _ rfl ((hrow2.alloc _).alloc _) ⟨w2.heap.size+1,0,none⟩ 1 1 [.int .u8 x'.kind,.int .i64 x'.n,.string nm,.slice a3 x'.a.length p3,.slice a4 x'.b.length p4,.slice a5 ws5.length p5] rfl rfl ?d1 ?d2 ?d3 ?d4 ?_)
       | go_in)
      case d1=>exact new_cells _ _ _ _
      case d2=>intro u hu;simp at hu;rcases hu with rfl|rfl|rfl|rfl|rfl|rfl <;> rfl
      case d3=>unfold maxLen;omega
      case d4=>omega
      intro v' w3 hown' hgrow hnx;have hB3:=grown_keep hgrow hS2.blk (own_ne hrow2 hS2.blk (by decide));have hkp3:Kp w w3 (fun b=>b=sb):=((hkp2.alloc _).alloc _).grown hgrow (fun b hb e=>by have:=hnew b e;omega);have hnv:∀ b,b < w2.heap.size->¬ own (.slice ao dn.length cap) b->¬ own v' b:=fun b hb hn hv=>by
       rcases hnx b hv with h1|h1
       ·exact hn h1
       ·omega
      have hnew':∀ b,own v' b->New w b:=fun b hb=>by
       rcases hnx b hb with h1|h1
       ·exact hnew b h1
       ·show w.heap.size<=b;omega
      have hk1:Keeps (fun b=>New w b/\¬ own (.slice ao dn.length cap) b) (fun b=>New w b/\¬ own v' b) w1 w3:=fun b t' c hb hbl ht'=>by
       have h2:=(Keeps.kp hk2 (NoB.one hB1 (by decide) (by decide)) (fun _=>True) b t' c trivial hbl ht').1;exact⟨grown_keep hgrow h2 hb.2,hb.1,hnv b h2.lt hb.2⟩
      have hk3:Keeps (New w1) (fun b=>New w b/\¬ own v' b) w2 w3:=fun b t' c hb hbl ht'=>by
       have hn:¬ own (.slice ao dn.length cap) b:=fun hv=>by have:=hb1 b hv;have hb:w1.heap.size<=b:=hb;omega
       exact⟨grown_keep hgrow hbl hn,by have hb:w1.heap.size<=b:=hb;show w.heap.size<=b;omega,hnv b hbl.lt hn⟩
      have HN:BRel K w sb yb rs defs lv ws k lo es G res v' w3:=by
       refine⟨k2,by omega,hkp3,.inl ⟨dn ++ [x'],xs ++ [.int .u8 x'.kind,.int .i64 x'.n,.string nm,.slice a3 x'.a.length p3,.slice a4 x'.b.length p4,.slice a5 ws5.length p5],g,res2,h.to hkp3 hB3 hS2.kle,by simpa using hown',hnew',by simp;omega,?_,by omega,HP2.out,HRE.out⟩⟩;refine itsIn_app _ _ _ _ (itsIn_imp (fun _ _ h=>h.keep hk1) (fun _ _ h=>toksIn_keep hk1 h) _ _ HIt1.out) ?_;have hat:=HAt.out;exact⟨nm,_,_,_,[],rfl,hat.nm,hat.a.keep hk3,hat.b.keep hk3,toksIn_keep hk3 hat.t,hat.n,rfl⟩
      have hm2:=atOf_eq hB3;clear hown' hgrow hnx hrow2 hkp2 hS2 hB3 hkp3 hk1 hk3 hnv hnew' hb1 hk2 hB1;go_wp2
      go_roundw
      case rel=>exact HN
      case measure=>rw[hmeas,hm2];omega
    ·have hst:=pB_stop (knownD defs) g lo (texts es) t.data.toList ((texts ws).drop (k' + 1)) hany;have hres:res=.ok (dn,t.data.toList,(texts ws).drop (k' + 1)):=by
      have:=HR.out;rw[HD.out,hst] at this;injection this with this;rw[HC.out,<-this];simp[consR]
     have HRes:=hide hres;clear hres hst;have hrow1:=hk1.row hrow (fun b hb e=>by subst e;exact own_ne hrow hS.blk (by decide) hb);have hkeep:Keeps (fun b=>New w b/\¬ own (.slice ao dn.length cap) b) (New w) wr w1:=fun b t' c hb hbl ht'=>⟨(Keeps.kp hk1 (NoB.one hS.blk (by decide) (by decide)) (fun _=>True) b t' c trivial hbl ht').1,hb.1⟩;have hbody:BodyS (New w) w1 (.slice ao dn.length cap) dn:=BodyS.of hrow1 hnew (itsIn_imp (fun _ _ h=>h.keep hkeep) (fun _ _ h=>toksIn_keep hkeep h) _ _ HT.out);have hkp1:=hkp.trans hk1;clear hkeep hrow1 HT hrow hkp hk1 hS hE2 hE1;go_wp2;go_ret2;rw[HRes.out];exact⟨hkp1,_,t,k' + 1,rfl,rfl,hbody,rfl,by omega,hS1⟩
   ·have hkl:k'=ws.length:=by omega
    subst hkl;have hres:res=.error 4:=by
     have:=HR.out;rw[texts_end,pB_nil] at this;injection this with this;rw[HC.out,<-this];rfl
    have HRes:=hide hres;clear hres
    go_wp2_with fail
    refine (nextS_end _ sb yb lv _ _ lo hS.row hS.blk h.len).mono ?_;rintro e w1 ⟨rfl,hB1,hk1⟩;have hS1:=hS.to hk1 hB1 (Nat.le_refl _);have c3:w1.cell? ⟨sb,3,none⟩=some (.int .i64 4):=hB1.cell rfl;have hkp1:=hkp.trans hk1;clear HT hrow hkp hk1 hS hE1 hB1;go_wp2;go_ret2;rw[HRes.out];exact⟨hkp1,by decide,ws.length,rfl,by omega,hS1⟩
  ·have hk':=hS.kle;have he1:(er != 0)=true:=by simpa using her
   have HRes:=hide hreq;clear hreq
   go_wp2_with fail
   refine (nextS_err _ sb yb lv _ _ k' lo er he1 hS.row hS.blk h.len hS.kle).mono ?_;rintro e w1 ⟨rfl,hB1,hk1⟩;have hS1:=hS.to hk1 hB1 hk';have c3:w1.cell? ⟨sb,3,none⟩=some (.int .i64 er):=hB1.cell rfl;have hkp1:=hkp.trans hk1;clear hkp hk1 hS hB1;go_wp2;go_ret2;rw[HRes.out];exact⟨hkp1,her,k',rfl,by omega,hS1⟩
end
end Go.Proofs.YteainaiebcphlaaGreatDoor
