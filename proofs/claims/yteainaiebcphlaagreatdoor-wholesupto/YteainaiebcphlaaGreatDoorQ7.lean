import Derived.Test.YteainaiebcphlaaGreatDoorQ6
namespace Go.Proofs.YteainaiebcphlaaGreatDoor
set_option maxRecDepth 1000000
set_option maxHeartbeats 4000000
set_option linter.all false
open Go.Proofs.Tryz
section
open Go.RowKit
variable {K:Nat->Prop}
theorem aC.six {w:World}{b:Nat}{t:TypeId}{a0 a1 a2 a3 a4 a5:Value}(h:aC w b t #[a0,a1,a2,a3,a4,a5]):
  w.cell? ⟨b,0,none⟩=some a0/\w.cell? ⟨b,1,none⟩=some a1/\w.cell? ⟨b,2,none⟩=some a2/\w.cell? ⟨b,3,none⟩=some a3/\w.cell? ⟨b,4,none⟩=some a4/\w.cell? ⟨b,5,none⟩=some a5:=
 ⟨h.cell rfl,h.cell rfl,h.cell rfl,h.cell rfl,h.cell rfl,h.cell rfl⟩
theorem aC.iT {w:World}{b:Nat}{t:TypeId}{c:Array Value}(h:aC w b t c):
  w.frozen? ⟨b,0,none⟩=false/\w.frozen? ⟨b,1,none⟩=false/\w.frozen? ⟨b,2,none⟩=false/\w.frozen? ⟨b,3,none⟩=false/\w.frozen? ⟨b,4,none⟩=false/\w.frozen? ⟨b,5,none⟩=false:=
 ⟨h.free 0,h.free 1,h.free 2,h.free 3,h.free 4,h.free 5⟩
theorem aC.dN {w:World}{b:Nat}{t:TypeId}{a0 a1 a2 a3 a4 a5:Value}(h:aC w b t #[a0,a1,a2,a3,a4,a5])(v0 v1 v2 v3 v4 v5:Value):
  aC ((((((w.setCell ⟨b,0,none⟩ v0).setCell ⟨b,1,none⟩ v1).setCell ⟨b,2,none⟩ v2).setCell ⟨b,3,none⟩ v3).setCell ⟨b,4,none⟩ v4).setCell ⟨b,5,none⟩ v5) b t #[v0,v1,v2,v3,v4,v5]:=
 (((((h.set 0 v0).set 1 v1).set 2 v2).set 3 v3).set 4 v4).set 5 v5
theorem Kp.dN {w w1:World}{S:Nat->Prop}{b:Nat}(h:Kp w w1 S)(hb:w.heap.size<=b)(v0 v1 v2 v3 v4 v5:Value):
  Kp w ((((((w1.setCell ⟨b,0,none⟩ v0).setCell ⟨b,1,none⟩ v1).setCell ⟨b,2,none⟩ v2).setCell ⟨b,3,none⟩ v3).setCell ⟨b,4,none⟩ v4).setCell ⟨b,5,none⟩ v5) S:=by
 have hn:∀o,(⟨b,o,none⟩:Addr).block<w.heap.size->S (⟨b,o,none⟩:Addr).block:=λo hlt=>ax hlt (by show ¬b<_;omega);exact(((((h.set (hn 0) v0).set (hn 1) v1).set (hn 2) v2).set (hn 3) v3).set (hn 4) v4).set (hn 5) v5
theorem aC.dG {w:World}{b b':Nat}{t:TypeId}{c:Array Value}(h:aC w b t c)(hb:b≠b')(v0 v1 v2 v3 v4 v5:Value):
  aC ((((((w.setCell ⟨b',0,none⟩ v0).setCell ⟨b',1,none⟩ v1).setCell ⟨b',2,none⟩ v2).setCell ⟨b',3,none⟩ v3).setCell ⟨b',4,none⟩ v4).setCell ⟨b',5,none⟩ v5) b t c:=
 (((((h.setOther (a:=⟨b',0,none⟩) hb v0).setOther (a:=⟨b',1,none⟩) hb v1).setOther (a:=⟨b',2,none⟩) hb v2).setOther (a:=⟨b',3,none⟩) hb v3).setOther (a:=⟨b',4,none⟩) hb v4).setOther (a:=⟨b',5,none⟩) hb v5
theorem Sv {w:World}{e:TypeId}{z:Nat}{v:Value}{n b':Nat}{xs:List Value}(h:w.ownsRow 0 e z v n xs)(hb:¬own v b')(v0 v1 v2 v3 v4 v5:Value):
  ((((((w.setCell ⟨b',0,none⟩ v0).setCell ⟨b',1,none⟩ v1).setCell ⟨b',2,none⟩ v2).setCell ⟨b',3,none⟩ v3).setCell ⟨b',4,none⟩ v4).setCell ⟨b',5,none⟩ v5).ownsRow 0 e z v n xs:=
 ownsRow_setCell_other (a:=⟨b',5,none⟩) (ownsRow_setCell_other (a:=⟨b',4,none⟩) (ownsRow_setCell_other (a:=⟨b',3,none⟩) (ownsRow_setCell_other (a:=⟨b',2,none⟩) (ownsRow_setCell_other (a:=⟨b',1,none⟩) (ownsRow_setCell_other (a:=⟨b',0,none⟩) h hb v0) hb v1) hb v2) hb v3) hb v4) hb v5
def gK:Array Value:=#[.int .u8 0,.int .i64 0,.string ⟨#[]⟩,.slice none 0 0,.slice none 0 0,.slice none 0 0]
def fN {α β ε:Type}(done:List α):Except ε (List α × β)->Except ε (List α × β)
 | .ok (bs,r)=>.ok (done++bs,r)
 | .error e=>.error e
theorem nj {α β ε:Type}(r:Except ε (List α × β)):fN [] r=r:=by rcases r with e|⟨bs,r⟩ <;> rfl
theorem nt {α β ε:Type}(d d':List α)(r:Except ε (List α × β)):fN d (fN d' r)=fN (d++d') r:=by rcases r with e|⟨bs,r⟩ <;> simp[fN]
def aD (ws:List ByteArray):List Tok:=ws.map λt=>t.data.toList
theorem jJ (ws:List ByteArray)(k:Nat)(h:k<ws.length):(aD ws).drop k=ws[k].data.toList::(aD ws).drop (k+1):=by
 rw[List.drop_eq_getElem_cons (by simpa [aD] using h)];simp[aD]
theorem nD (ws:List ByteArray):(aD ws).drop ws.length=[]:=by rw[List.drop_of_length_le];simp[aD]
def FO (w:World)(sb:Nat):Nat:=match w.cell? ⟨sb,2,none⟩ with
 | some (.int _ k)=>k.toNat
 | _=>0
theorem qo {w:World}{sb yb:Nat}{lv:Value}{k:Nat}{e:Int}{lo:Nat}(h:aC w sb 181 (kr yb lv k e lo)):FO w sb=k:=by
 unfold FO;rw[h.cell (o:=2) (v:=.int .i64 k) rfl];simp
theorem Sw:bh []=.error 4:=rfl
theorem NW {t:ByteArray}(h:(t.toList==[123])=true)(r:List Tok):bh (t.data.toList::r)=.error 4:=by
 rw[ByteArray.toList_eq] at h;unfold bh;rw[ag (by simpa [fu] using h)]
theorem Kj {t:ByteArray}(h:(t.toList==[123])=false)(h':(t.toList==[125])=true)(r:List Tok):bh (t.data.toList::r)=.ok ([],r):=by
 rw[ByteArray.toList_eq] at h h';unfold bh;rw[af (by simpa [fu] using h),ag (by simpa [dS] using h')]
theorem NY {t:ByteArray}(h:(t.toList==[123])=false)(h':(t.toList==[125])=false)(r:List Tok):bh (t.data.toList::r)=fN [t.data.toList] (bh r):=by
 rw[ByteArray.toList_eq] at h h';rw[bh];rw[af (by simpa [fu] using h),af (by simpa [dS] using h')];rcases bh r with e|⟨a,b⟩ <;> rfl
def PBr (K:Nat->Prop)(w:World)(sb yb:Nat)(rs:RS)(ay:List Def)(lv:Value)(ws:List ByteArray)(k lo:Nat)(x:Ending)(w':World):Except Int (List Tok × List Tok)->Prop
 | .ok (bs,r)=>∃vt k',x=.returned (.agg #[.int .u8 123,.int .i64 0,.string ⟨#[]⟩,.slice none 0 0,.slice none 0 0,vt])/\ek (λb=>w.heap.size<=b) w' vt bs/\bs.length<=1000/\r=(aD ws).drop k'/\k<=k'/\bI K w' sb yb rs ay lv ws k' 0 lo
 | .error er=>er≠0/\∃ao n cap k',x=.returned (.agg #[.int .u8 123,.int .i64 0,.string ⟨#[]⟩,.slice none 0 0,.slice none 0 0,.slice ao n cap])/\k<=k'/\bI K w' sb yb rs ay lv ws k' er lo
theorem NZ (w:World)(sb yb:Nat)(rs:RS)(ay:List Def)(lv:Value)(ws:List ByteArray)(k lo:Nat)(h:bI K w sb yb rs ay lv ws k 0 lo):
  Calls prog 187 #[.pointer (some ⟨sb,0,none⟩)] w λx w'=>Kp w w' (λb=>b=sb)/\PBr K w sb yb rs ay lv ws k lo x w' (bh ((aD ws).drop k)):=by
 obtain⟨i0,hi,hz0,hz1,hz2⟩:=info_parts Tryz.pL;have hsb:=h.blk.lt;go_enter func187,ntmps187;go_wp2
 go_loopw [4] (λ_ wr=>∃(k':Nat) (dn:List ByteArray) (vt:Value),k<=k'/\Kp w wr (λb=>b=sb)/\aC wr sb 181 (kr yb lv k' 0 lo)/\k'<=ws.length/\wr.ownsRow 0 9 1 vt dn.length (dn.map Value.string)/\(∀b,own vt b->w.heap.size<=b)/\dn.length<=k' /\
   aC wr (w.heap.size+1) 227 #[.int .u8 123,.int .i64 0,.string ⟨#[]⟩,.slice none 0 0,.slice none 0 0,vt]/\aC wr w.heap.size 227 gK/\bh ((aD ws).drop k)=fN (aD dn) (bh ((aD ws).drop k')))
  (λ_ wr=>ws.length-FO wr sb)
 case atStart=>
  refine⟨k,[],.slice none 0 0,ah _,((Kp.refl _ _).alloc _).alloc _,(h.blk.alloc _).alloc _,h.gf,World.ownsRow_nil _ _ _ _,λb hb=>by simp[own,Value.ownBlock] at hb,Nat.zero_le _,?_,(aC.new w gK _).alloc _,(nj _).symm⟩;have:=aC.new (w.alloc (.cells #[.int .u8 0,.int .i64 0,.string ⟨#[]⟩,.slice none 0 0,.slice none 0 0,.slice none 0 0] 227)) #[.int .u8 123,.int .i64 0,.string ⟨#[]⟩,.slice none 0 0,.slice none 0 0,.slice none 0 0] 227
  simpa using this
 case round=>
  obtain⟨k',dn,vt,hkk,hkp,hB,hk',aJ,hown,hdl,hX,hC,hpb⟩:=hrel;have HP:=az hpb;clear hpb;obtain⟨ao,cap,rfl⟩:=aB aJ;have hS:=h.to hkp hB hk';have aac:=hkp.size;have hxs:¬(w.heap.size+1)=sb:=by omega
  have hcs:¬w.heap.size=sb:=by omega
  have tq:=h.len;have oh:FO wr sb=k':=qo hB;by_cases hlt:k'<ws.length
  ·have HD:=az (jJ ws k' hlt)
   go_wp2_with fail
   refine(mW _ sb yb lv ws k' lo hS.row hB h.len hlt).mono ?_;rintro e w1 ⟨rfl,cX,hk1⟩;have hX1:=hk1.blk hX hxs;have y8:=hk1.blk hC hcs;have aZ:=hk1.row aJ (λb hb e=>by subst e;exact aH aJ hB (by decide) hb);have bg:=hkp.trans hk1;clear hS hB hkp hX hC aJ;generalize ht:ws[k']=t;rw[ht] at HD;have HT:=az ht;clear ht
   cases b1:(t.toList==[123])
   ·cases b2:(t.toList==[125])
    ·obtain⟨x0,x1,x2,x3,x4,x5⟩:=hX1.six;have f5:=hX1.free 5;have c3:w1.cell? ⟨sb,3,none⟩=some (.int .i64 0):=cX.cell rfl;have hs1:=bg.size
     go_wp2_with (first
      | (at_builtin;refine aP _ rfl _ _ 47 rfl 9 i0 (.string ByteArray.empty) 1 16 underlying47 hi hz0 hz1 hz2 rfl (by decide) _ _ _ rfl (aZ.alloc _) ⟨w1.heap.size,0,none⟩ 1 1 [.string t] rfl rfl ?c1 ?c2 ?c3 ?c4 ?_)
      | go_in)
     case c1=>intro j u hj;match j,hj with|0,hj=>simp at hj;subst hj;simp[Addr.add]
     case c2=>intro u hu;simp at hu;subst hu;rfl
     case c3=>unfold maxLen;omega
     case c4=>omega
     intro v' w2 hown' hgrow hnx;obtain⟨g,cap',rfl⟩:∃g cap',v'=.slice (some ⟨g,0,none⟩) (dn.length+1) cap':=by
      rcases hown'.2 with⟨_,h0⟩|⟨g,cap',_,hv,_⟩
      ·omega
      ·exact⟨g,cap',hv⟩
     have Ig:aC w2 (w.heap.size+1) 227 _:=(hX1.alloc _).same (hgrow.block _ (by have:=hX1.lt;simp;omega) (λe=>aH aZ hX1 (by decide) e.symm));have bS:aC w2 w.heap.size 227 _:=(y8.alloc _).same (hgrow.block _ (by have:=y8.lt;simp;omega) (λe=>aH aZ y8 (by decide) e.symm));have aX:aC w2 sb 181 _:=(cX.alloc _).same (hgrow.block _ (by have:=cX.lt;simp;omega) (λe=>aH aZ cX (by decide) e.symm));have dR:Kp w w2 (λb=>b=sb):=(bg.alloc _).grown hgrow (λb hb e=>by have:=hown b e;omega);have hown2:∀b,own (.slice (some ⟨g,0,none⟩) (dn.length+1) cap') b->w.heap.size<=b:=λb hb=>by
      rcases hnx b hb with h1|h1
      ·exact hown b h1
      ·have:(w1.alloc (.cells #[.string t] 9)).heap.size=w1.heap.size+1:=by simp
       omega
     have HO:=az hown';have x5':=Ig.cell (o:=5) rfl;have f5':=Ig.free 5;have Gp:Hid (bh ((aD ws).drop k)=fN (aD (dn++[t])) (bh ((aD ws).drop (k' + 1)))):=by
      unfold Hid;rw[HP.out,HD.out,NY b1 b2,nt];simp[aD]
     clear hown' hgrow hnx hX1 y8 cX bg aZ x0 x1 x2 x3 x4 x5 f5 hk1 c3 hown HP HD HT b1 b2;go_wp2
     go_roundw
     case rel=>
      refine⟨k' + 1,dn++[t],_,by omega,dR.set (λhlt=>ax hlt (by show ¬(w.heap.size+1<w.heap.size);omega)) _,aX.setOther (a:=⟨w.heap.size+1,5,none⟩) (Ne.symm hxs) _,by omega,?_,hown2,by simp;omega,Ig.set 5 _,bS.setOther (a:=⟨w.heap.size+1,5,none⟩) (by show w.heap.size≠w.heap.size+1;omega) _,Gp.out⟩;have:=ownsRow_setCell_other HO.out (a:=⟨w.heap.size+1,5,none⟩) (aH HO.out Ig (by decide)) (.slice (some ⟨g,0,none⟩) (dn.length+1) cap')
      simpa using this
     case measure=>
      rw[oh,qo (aX.setOther (a:=⟨w.heap.size+1,5,none⟩) (Ne.symm hxs) _)];omega
    ·obtain⟨x0,x1,x2,x3,x4,x5⟩:=hX1.six;obtain⟨y0,y1,y2,y3,y4,y5⟩:=y8.six;obtain⟨z0,z1,z2,z3,z4,z5⟩:=y8.iT;have c3:w1.cell? ⟨sb,3,none⟩=some (.int .i64 0):=cX.cell rfl;go_wp2;have bS:=y8.dN (.int .u8 123) (.int .i64 0) (.string ⟨#[]⟩) (.slice none 0 0) (.slice none 0 0) (.slice ao dn.length cap);have hk2:=bg.dN (ah _) (.int .u8 123) (.int .i64 0) (.string ⟨#[]⟩) (.slice none 0 0) (.slice none 0 0) (.slice ao dn.length cap);have aX:=cX.dG (Ne.symm hcs) (.int .u8 123) (.int .i64 0) (.string ⟨#[]⟩) (.slice none 0 0) (.slice none 0 0) (.slice ao dn.length cap);have hrow2:=Sv aZ (λe=>aH aZ y8 (by decide) e) (.int .u8 123) (.int .i64 0) (.string ⟨#[]⟩) (.slice none 0 0) (.slice none 0 0) (.slice ao dn.length cap);generalize ((((((w1.setCell ⟨w.heap.size,0,none⟩ (.int .u8 123)).setCell ⟨w.heap.size,1,none⟩ (.int .i64 0)).setCell ⟨w.heap.size,2,none⟩ (.string ⟨#[]⟩)).setCell ⟨w.heap.size,3,none⟩ (.slice none 0 0)).setCell ⟨w.heap.size,4,none⟩ (.slice none 0 0)).setCell ⟨w.heap.size,5,none⟩ (.slice ao dn.length cap))=wf at bS hk2 aX hrow2 ⊢;obtain⟨q0,q1,q2,q3,q4,q5⟩:=bS.six;refine bodyPost_ret (v:=.agg #[.int .u8 123,.int .i64 0,.string ⟨#[]⟩,.slice none 0 0,.slice none 0 0,.slice ao dn.length cap]) (by simp[results,results187,go_sem,q0,q1,q2,q3,q4,q5]) rfl ?_;refine⟨hk2,?_⟩;rw[HP.out,HD.out,Kj b1 b2];exact⟨_,k' + 1,rfl,⟨dn,hrow2,by simp[aD],hown⟩,by simp[aD];omega,rfl,by omega,h.to hk2 aX (by omega)⟩
   ·go_wp2_with fail
    refine(oK _ sb yb lv (k' + 1) lo _ cX).mono ?_;rintro e w2 ⟨rfl,hB2',qR⟩
    replace hX1:=qR.blk hX1 hxs
    replace y8:=qR.blk y8 hcs
    replace aZ:=qR.row aZ (λb hb e=>by subst e;exact aH aZ cX (by decide) hb)
    replace bg:=bg.trans qR
    replace cX:=hB2'
    clear hB2' qR hk1;obtain⟨x0,x1,x2,x3,x4,x5⟩:=hX1.six;obtain⟨y0,y1,y2,y3,y4,y5⟩:=y8.six;obtain⟨z0,z1,z2,z3,z4,z5⟩:=y8.iT;have c3:w2.cell? ⟨sb,3,none⟩=some (.int .i64 4):=cX.cell rfl;go_wp2;have bS:=y8.dN (.int .u8 123) (.int .i64 0) (.string ⟨#[]⟩) (.slice none 0 0) (.slice none 0 0) (.slice ao dn.length cap);have hk2:=bg.dN (ah _) (.int .u8 123) (.int .i64 0) (.string ⟨#[]⟩) (.slice none 0 0) (.slice none 0 0) (.slice ao dn.length cap);have aX:=cX.dG (Ne.symm hcs) (.int .u8 123) (.int .i64 0) (.string ⟨#[]⟩) (.slice none 0 0) (.slice none 0 0) (.slice ao dn.length cap);have hrow2:=Sv aZ (λe=>aH aZ y8 (by decide) e) (.int .u8 123) (.int .i64 0) (.string ⟨#[]⟩) (.slice none 0 0) (.slice none 0 0) (.slice ao dn.length cap);generalize ((((((w2.setCell ⟨w.heap.size,0,none⟩ (.int .u8 123)).setCell ⟨w.heap.size,1,none⟩ (.int .i64 0)).setCell ⟨w.heap.size,2,none⟩ (.string ⟨#[]⟩)).setCell ⟨w.heap.size,3,none⟩ (.slice none 0 0)).setCell ⟨w.heap.size,4,none⟩ (.slice none 0 0)).setCell ⟨w.heap.size,5,none⟩ (.slice ao dn.length cap))=wf at bS hk2 aX hrow2 ⊢;obtain⟨q0,q1,q2,q3,q4,q5⟩:=bS.six;refine bodyPost_ret (v:=.agg #[.int .u8 123,.int .i64 0,.string ⟨#[]⟩,.slice none 0 0,.slice none 0 0,.slice ao dn.length cap]) (by simp[results,results187,go_sem,q0,q1,q2,q3,q4,q5]) rfl ?_;refine⟨hk2,?_⟩;rw[HP.out,HD.out,NW b1];exact⟨by decide,_,_,_,k' + 1,rfl,by omega,h.to hk2 aX (by omega)⟩
  ·have hkl:k'=ws.length:=by omega
   subst hkl
   go_wp2_with fail
   refine(rA _ sb yb lv _ _ lo hS.row hB h.len).mono ?_;rintro e w1 ⟨rfl,cX,hk1⟩;have hX1:=hk1.blk hX hxs;have y8:=hk1.blk hC hcs;have aZ:=hk1.row aJ (λb hb e=>by subst e;exact aH aJ hB (by decide) hb);have bg:=hkp.trans hk1;have c3:w1.cell? ⟨sb,3,none⟩=some (.int .i64 4):=cX.cell rfl;clear hS hB hkp hX hC aJ;obtain⟨x0,x1,x2,x3,x4,x5⟩:=hX1.six;obtain⟨y0,y1,y2,y3,y4,y5⟩:=y8.six;obtain⟨z0,z1,z2,z3,z4,z5⟩:=y8.iT;go_wp2;have bS:=y8.dN (.int .u8 123) (.int .i64 0) (.string ⟨#[]⟩) (.slice none 0 0) (.slice none 0 0) (.slice ao dn.length cap);have hk2:=bg.dN (ah _) (.int .u8 123) (.int .i64 0) (.string ⟨#[]⟩) (.slice none 0 0) (.slice none 0 0) (.slice ao dn.length cap);have aX:=cX.dG (Ne.symm hcs) (.int .u8 123) (.int .i64 0) (.string ⟨#[]⟩) (.slice none 0 0) (.slice none 0 0) (.slice ao dn.length cap);have hrow2:=Sv aZ (λe=>aH aZ y8 (by decide) e) (.int .u8 123) (.int .i64 0) (.string ⟨#[]⟩) (.slice none 0 0) (.slice none 0 0) (.slice ao dn.length cap);generalize ((((((w1.setCell ⟨w.heap.size,0,none⟩ (.int .u8 123)).setCell ⟨w.heap.size,1,none⟩ (.int .i64 0)).setCell ⟨w.heap.size,2,none⟩ (.string ⟨#[]⟩)).setCell ⟨w.heap.size,3,none⟩ (.slice none 0 0)).setCell ⟨w.heap.size,4,none⟩ (.slice none 0 0)).setCell ⟨w.heap.size,5,none⟩ (.slice ao dn.length cap))=wf at bS hk2 aX hrow2 ⊢;obtain⟨q0,q1,q2,q3,q4,q5⟩:=bS.six;refine bodyPost_ret (v:=.agg #[.int .u8 123,.int .i64 0,.string ⟨#[]⟩,.slice none 0 0,.slice none 0 0,.slice ao dn.length cap]) (by simp[results,results187,go_sem,q0,q1,q2,q3,q4,q5]) rfl ?_;refine⟨hk2,?_⟩;rw[HP.out,nD,Sw];exact⟨by decide,_,_,_,ws.length,rfl,by omega,h.to hk2 aX (by omega)⟩
end
section
open Go.RowKit
variable {K:Nat->Prop}
def dW (ay:List Def)(t:Tok):Bool:=(ay.findIdx? (λd=>d.name==t)).isSome
theorem oP {ay:List Def}{t:Tok}(h:cR ay t<0):dW ay t=false:=by
 unfold cR at h;unfold dW
 cases hf:ay.findIdx? (λd=>d.name==t) with
 | none=>rfl
 | some k=>rw[hf] at h;simp at h;omega
theorem vU {ay:List Def}{t:Tok}(h:¬cR ay t<0):dW ay t=true:=by
 unfold cR at h;unfold dW
 cases hf:ay.findIdx? (λd=>d.name==t) with
 | none=>rw[hf] at h;simp at h
 | some k=>rfl
abbrev fh:=Except Int (List It × Tok × List Tok)
theorem XO (aA:Tok->Bool)(lo:Nat)(ends:List Tok)(r:List Tok):aK aA 0 ⟨false,lo,ends,[]⟩ r=none:=rfl
theorem tK (aA:Tok->Bool)(g lo:Nat)(ends:List Tok):aK aA (g+1) ⟨false,lo,ends,[]⟩ []=some (.error 4):=by rw[aK];rfl
theorem ny (aA:Tok->Bool)(g lo:Nat)(ends:List Tok)(t:Tok)(r:List Tok)(h:ends.any (· == t)=true):aK aA (g+1) ⟨false,lo,ends,[]⟩ (t::r)=some (.ok ([],t,r)):=by
 rw[aK];simp[h]
theorem CW (aA:Tok->Bool)(g lo:Nat)(ends:List Tok)(t:Tok)(r:List Tok)(h:ends.any (· == t)=false)(res:fh)(aG:aK aA (g+1) ⟨false,lo,ends,[]⟩ (t::r)=some res):
  (∃e,aK aA g ⟨true,lo,[],t⟩ r=some (.error e)/\res=.error e) \/
  (∃xs t1 r2 res',aK aA g ⟨true,lo,[],t⟩ r=some (.ok (xs,t1,r2))/\aK aA g ⟨false,lo,ends,[]⟩ r2=some res'/\res=fN xs res'):=by
 rw[aK] at aG;simp only[h,Bool.false_eq_true,if_false,if_true] at aG
 split at aG
 ·cases aG
 ·rename_i e he;injection aG with aG;exact .inl ⟨e,he,aG.symm⟩
 ·rename_i xs t1 r2 he
  split at aG
  ·cases aG
  ·rename_i e he';injection aG with aG;exact .inr ⟨xs,t1,r2,.error e,he,he',aG.symm⟩
  ·rename_i ys t' r3 he';injection aG with aG;exact .inr ⟨xs,t1,r2,.ok (ys,t',r3),he,he',aG.symm⟩
theorem pI0 (aA:Tok->Bool)(lo:Nat)(t:Tok)(r:List Tok):aK aA 0 ⟨true,lo,[],t⟩ r=none:=rfl
def lV (t:Tok):Prop:=t=FW\/t=jf\/t=Gr\/t=fu
theorem jh (aA:Tok->Bool)(g lo:Nat)(t:Tok)(r:List Tok)(h:¬lV t):aK aA (g+1) ⟨true,lo,[],t⟩ r=match jg aA lo t with
  | .error e=>some (.error e)
  | .ok x=>some (.ok ([x],[],r)):=by
 unfold lV at h;rw[aK.eq_def];simp only[Bool.true_eq_false,if_false];rw[af (λe=>h (.inl e)),af (λe=>h (.inr (.inl e))),af (λe=>h (.inr (.inr (.inl e)))),af (λe=>h (.inr (.inr (.inr e))))];rfl
theorem y9 {t:Tok}{n:Int}(h:bA t=some n):¬lV t:=by
 rintro (rfl|rfl|rfl|rfl)
 ·rw[show bA FW=none by decide] at h;cases h
 ·rw[show bA jf=none by decide] at h;cases h
 ·rw[show bA Gr=none by decide] at h;cases h
 ·rw[show bA fu=none by decide] at h;cases h
theorem vV {t:Tok}(h:aN.any (· == t)=true):¬lV t:=by
 rintro (rfl|rfl|rfl|rfl) <;> revert h <;> decide
theorem GY {aA:Tok->Bool}{g lo:Nat}{t:Tok}{r:List Tok}{n:Int}(h:bA t=some n):aK aA (g+1) ⟨true,lo,[],t⟩ r=some (.ok ([⟨110,n,[],[],[],[]⟩],[],r)):=by
 rw[jh _ _ _ _ _ (y9 h)];unfold jg;rw[h]
theorem zO {aA:Tok->Bool}{g lo:Nat}{t:Tok}{r:List Tok}(h:bA t=none)(h':aN.any (· == t)=true):aK aA (g+1) ⟨true,lo,[],t⟩ r=some (.ok ([⟨112,0,t,[],[],[]⟩],[],r)):=by
 rw[jh _ _ _ _ _ (vV h')];unfold jg;rw[h];simp only[h',if_true]
theorem TZ {aA:Tok->Bool}{g lo:Nat}{r:List Tok}(h:0<lo):aK aA (g+1) ⟨true,lo,[],kI⟩ r=some (.ok ([⟨105,0,[],[],[],[]⟩],[],r)):=by
 rw[jh _ _ _ _ _ (by unfold lV;decide)];have:jg aA lo kI=.ok ⟨105,0,[],[],[],[]⟩:=by
  unfold jg;rw[show bA kI=none by decide];simp only;rw[af (by decide),ag ⟨trivial,h⟩]
 rw[this]
theorem Oo {aA:Tok->Bool}{g:Nat}{r:List Tok}:aK aA (g+1) ⟨true,0,[],kI⟩ r=some (.error 4):=by
 rw[jh _ _ _ _ _ (by unfold lV;decide)];have:jg aA 0 kI=.error 4:=by
  unfold jg;rw[show bA kI=none by decide];simp only;rw[af (by decide),af (by simp),af (by decide),af (by decide),ag (by decide)]
 rw[this]
theorem GZ {aA:Tok->Bool}{g lo:Nat}{r:List Tok}:aK aA (g+1) ⟨true,lo,[],iW⟩ r=some (.ok ([⟨114,0,[],[],[],[]⟩],[],r)):=by
 rw[jh _ _ _ _ _ (by unfold lV;decide)];have:jg aA lo iW=.ok ⟨114,0,[],[],[],[]⟩:=by
  unfold jg;rw[show bA iW=none by decide];simp only;rw[af (by decide),af (λh=>ax h.1 (by decide)),ag trivial]
 rw[this]
theorem C7 {aA:Tok->Bool}{g lo:Nat}{r:List Tok}:aK aA (g+1) ⟨true,lo,[],rL⟩ r=some (.ok ([⟨120,0,[],[],[],[]⟩],[],r)):=by
 rw[jh _ _ _ _ _ (by unfold lV;decide)];have:jg aA lo rL=.ok ⟨120,0,[],[],[],[]⟩:=by
  unfold jg;rw[show bA rL=none by decide];simp only;rw[af (by decide),af (λh=>ax h.1 (by decide)),af (by decide),ag trivial]
 rw[this]
structure Kk (t:Tok):Prop where
 num:bA t=none
 pl:aN.any (· == t)=false
 k1:(t==FW)=false
 k2:(t==jf)=false
 k3:(t==Gr)=false
 k4:(t==kI)=false
 k5:(t==iW)=false
 k6:(t==rL)=false
 k7:(t==fu)=false
theorem Kk.one {t:Tok}(h:Kk t)(aA:Tok->Bool)(g lo:Nat)(r:List Tok):aK aA (g+1) ⟨true,lo,[],t⟩ r=if pO t=true then some (.error 4) else if aA t=true then some (.ok ([⟨99,0,t,[],[],[]⟩],[],r)) else some (.error 3):=by
 have ne:∀{k:Tok},(t==k)=false->¬t=k:=λh=>by simpa using h
 rw[jh _ _ _ _ _ (by rintro (e|e|e|e);exact ne h.k1 e;exact ne h.k2 e;exact ne h.k3 e;exact ne h.k7 e)];have:jg aA lo t=if pO t=true then .error 4 else if aA t=true then .ok ⟨99,0,t,[],[],[]⟩ else .error 3:=by
  unfold jg;rw[h.num];simp only;rw[af (by rw[h.pl];decide),af (λe=>ne h.k4 e.1),af (ne h.k5),af (ne h.k6)]
 rw[this]
 split
 ·rename_i e he;split at he
  ·injection he with he;subst he;rename_i hf;rw[ag hf]
  ·split at he
   ·cases he
   ·injection he with he;subst he;rename_i hf hk;rw[af hf,af hk]
 ·rename_i x he;split at he
  ·cases he
  ·split at he
   ·injection he with he;subst he;rename_i hf hk;rw[af hf,ag hk]
   ·cases he
theorem Oj {aA:Tok->Bool}{g lo:Nat}{r:List Tok}{res:fh}(h:aK aA (g+1) ⟨true,lo,[],FW⟩ r=some res):
    (∃e,aK aA g ⟨false,lo,[eY,dF],[]⟩ r=some (.error e)/\res=.error e) \/
    (∃a t1 r1,aK aA g ⟨false,lo,[eY,dF],[]⟩ r=some (.ok (a,t1,r1)) /\
      ((t1=eY/\((∃e,aK aA g ⟨false,lo,[dF],[]⟩ r1=some (.error e)/\res=.error e)\/(∃b t2 r2,aK aA g ⟨false,lo,[dF],[]⟩ r1=some (.ok (b,t2,r2))/\res=.ok ([⟨63,0,[],a,b,[]⟩],[],r2)))) \/
       (¬t1=eY/\res=.ok ([⟨63,0,[],a,[],[]⟩],[],r1)))):=by
  rw[aK.eq_def] at h;simp only[Bool.true_eq_false,if_false,if_true] at h
  split at h
  · cases h
  · rename_i e he;injection h with h;exact .inl ⟨e,he,h.symm⟩
  · rename_i a t1 r1 he
    refine .inr ⟨a,t1,r1,he,?_⟩;by_cases h1:t1=eY
    · rw[ag h1] at h
      refine .inl ⟨h1,?_⟩
      split at h
      · cases h
      · rename_i e he';injection h with h;exact .inl ⟨e,he',h.symm⟩
      · rename_i b t2 r2 he';injection h with h;exact .inr ⟨b,t2,r2,he',h.symm⟩
    · rw[af h1] at h
      injection h with h;exact .inr ⟨h1,h.symm⟩
theorem zL {aA:Tok->Bool}{g lo:Nat}{r:List Tok}{res:fh}(h:aK aA (g+1) ⟨true,lo,[],jf⟩ r=some res):
    (∃e,aK aA g ⟨false,lo,[fL,di],[]⟩ r=some (.error e)/\res=.error e) \/
    (∃a t1 r1,aK aA g ⟨false,lo,[fL,di],[]⟩ r=some (.ok (a,t1,r1)) /\
      ((t1=di/\((∃e,aK aA g ⟨false,lo,[gj],[]⟩ r1=some (.error e)/\res=.error e)\/(∃b t2 r2,aK aA g ⟨false,lo,[gj],[]⟩ r1=some (.ok (b,t2,r2))/\res=.ok ([⟨119,0,[],a,b,[]⟩],[],r2)))) \/
       (¬t1=di/\res=.ok ([⟨117,0,[],a,[],[]⟩],[],r1)))):=by
  rw[aK.eq_def] at h;simp only[Bool.true_eq_false,if_false] at h;rw[af (by decide),ag trivial] at h
  split at h
  · cases h
  · rename_i e he;injection h with h;exact .inl ⟨e,he,h.symm⟩
  · rename_i a t1 r1 he
    refine .inr ⟨a,t1,r1,he,?_⟩;by_cases h1:t1=di
    · rw[ag h1] at h
      refine .inl ⟨h1,?_⟩
      split at h
      · cases h
      · rename_i e he';injection h with h;exact .inl ⟨e,he',h.symm⟩
      · rename_i b t2 r2 he';injection h with h;exact .inr ⟨b,t2,r2,he',h.symm⟩
    · rw[af h1] at h
      injection h with h;exact .inr ⟨h1,h.symm⟩
theorem Oi {aA:Tok->Bool}{g lo:Nat}{r:List Tok}{res:fh}(h:aK aA (g+1) ⟨true,lo,[],Gr⟩ r=some res):
  (∃e,aK aA g ⟨false,lo+1,[mA],[]⟩ r=some (.error e)/\res=.error e) \/
  (∃a t1 r1,aK aA g ⟨false,lo+1,[mA],[]⟩ r=some (.ok (a,t1,r1))/\res=.ok ([⟨100,0,[],a,[],[]⟩],[],r1)):=by
 rw[aK.eq_def] at h;simp only[Bool.true_eq_false,if_false] at h;rw[af (by decide),af (by decide),ag trivial] at h
 split at h
 ·cases h
 ·rename_i e he;injection h with h;exact .inl ⟨e,he,h.symm⟩
 ·rename_i a t1 r1 he;injection h with h;exact .inr ⟨a,t1,r1,he,h.symm⟩
theorem C6 {aA:Tok->Bool}{g lo:Nat}{r:List Tok}:aK aA (g+1) ⟨true,lo,[],fu⟩ r=match bh r with
  | .error e=>some (.error e)
  | .ok (ts,r1)=>some (.ok ([⟨123,0,[],[],[],ts⟩],[],r1)):=by
 rw[aK.eq_def];simp only[Bool.true_eq_false,if_false];rw[af (by decide),af (by decide),af (by decide),ag trivial];rcases bh r with e|⟨a,b⟩ <;> rfl
end
section
open Go.RowKit
variable {K:Nat->Prop}
abbrev New (w:World):Nat->Prop:=λb=>w.heap.size<=b
def A8 (K:Nat->Prop)(w:World)(sb yb:Nat)(rs:RS)(ay:List Def)(lv:Value)(ws:List ByteArray)(k lo:Nat)(x:Ending)(w':World):fh->Prop
 | .ok (xs,_,r)=>∃x' nm va vb vt k',xs=[x']/\x=.returned (.agg #[.int .u8 x'.kind,.int .i64 x'.n,.string nm,va,vb,vt])/\pQ (fE (New w) w') (ek (New w) w') x' nm va vb vt/\r=(aD ws).drop k'/\k<=k'/\bI K w' sb yb rs ay lv ws k' 0 lo
 | .error er=>er≠0/\∃n0 n1 s a3 m3 p3 a4 m4 p4 a5 m5 p5 k',x=.returned (.agg #[.int .u8 n0,.int .i64 n1,.string s,.slice a3 m3 p3,.slice a4 m4 p4,.slice a5 m5 p5])/\k<=k'/\bI K w' sb yb rs ay lv ws k' er lo
def PBo (K:Nat->Prop)(w:World)(sb yb:Nat)(rs:RS)(ay:List Def)(lv:Value)(ws:List ByteArray)(k lo:Nat)(x:Ending)(w':World):fh->Prop
 | .ok (xs,t',r)=>∃v tb k',x=.returned (.tuple #[v,.string tb])/\tb.data.toList=t'/\fE (New w) w' v xs/\r=(aD ws).drop k'/\k<=k'/\bI K w' sb yb rs ay lv ws k' 0 lo
 | .error er=>er≠0/\∃k',x=.returned (.tuple #[.slice none 0 0,.string ⟨#[]⟩])/\k<=k'/\bI K w' sb yb rs ay lv ws k' er lo
def CP (K:Nat->Prop)(g:Nat):Prop:=∀(w:World) (sb yb:Nat) (rs:RS) (ay:List Def) (lv:Value) (ws:List ByteArray) (k lo:Nat) (tb:ByteArray) (res:fh),
 aK (dW ay) g ⟨true,lo,[],tb.data.toList⟩ ((aD ws).drop k)=some res->bI K w sb yb rs ay lv ws k 0 lo->lo<k ->
 Calls prog 170 #[.pointer (some ⟨sb,0,none⟩),.string tb] w λx w'=>Kp w w' (λb=>b=sb)/\A8 K w sb yb rs ay lv ws k lo x w' res
def rB (K:Nat->Prop)(g:Nat):Prop:=∀(w:World) (sb yb:Nat) (rs:RS) (ay:List Def) (lv:Value) (ws:List ByteArray) (k lo:Nat) (gb:Nat) (es:List ByteArray) (res:fh),
 aK (dW ay) g ⟨false,lo,aD es,[]⟩ ((aD ws).drop k)=some res->bI K w sb yb rs ay lv ws k 0 lo->lo<=k->aC w gb 9 (es.map Value.string).toArray->es.length<=100 ->
 Calls prog 138 #[.pointer (some ⟨sb,0,none⟩),.slice (some ⟨gb,0,none⟩) es.length es.length] w λx w'=>Kp w w' (λb=>b=sb)/\PBo K w sb yb rs ay lv ws k lo x w' res
theorem xG (es:List ByteArray)(t:ByteArray):(es.any λx=>x.toList==t.toList)=(aD es).any (· == t.data.toList):=by
 simp only[aD,List.any_map,ByteArray.toList_eq];rfl
theorem Tryz.Sy:(prog.info? 227).map (λi=>(i.zero,i.size,i.bytes))=some (some (.agg gK),6,104):=by kernel_rfl
theorem qp (g j:Nat):(⟨g,0,none⟩:Addr).add j=⟨g,j,none⟩:=by unfold Addr.add;split <;> simp_all
theorem qy (w:World)(o:Obj)(c:Array Value)(t:TypeId):∀(j:Nat) (u:Value),c.toList[j]? = some u->((w.alloc o).alloc (.cells c t)).cell? ((⟨w.heap.size+1,0,none⟩:Addr).add j)=some u:=by
 intro j u hj;have hb:=aC.new (w.alloc o) c t;rw[show(w.alloc o).heap.size=w.heap.size+1 by simp] at hb;rw[qp];exact hb.cell (by simpa using hj)
theorem jD {w2 w3:World}{o1 o2:Obj}{v:Value}(hg:((w2.alloc o1).alloc o2).grownBy w3 v.ownBlock){b:Nat}{t:TypeId}{c:Array Value}(hb:aC w2 b t c)(hn:¬own v b):aC w3 b t c:=
 ((hb.alloc o1).alloc o2).same (hg.block b (by have:=hb.lt;simp;omega) (λe=>hn e.symm))
def N0 (K:Nat->Prop)(w:World)(sb yb:Nat)(rs:RS)(ay:List Def)(lv:Value)(ws:List ByteArray)(k lo:Nat)(es:List ByteArray)(G:Nat)(res:fh)(v:Value)(wr:World):Prop:=
  ∃k',k<=k'/\Kp w wr (λb=>b=sb) /\
    ((∃dn xs G' res',bI K wr sb yb rs ay lv ws k' 0 lo/\wr.ownsRow 0 227 6 v dn.length xs/\(∀b,own v b->New w b)/\dn.length<=k'/\kq (fE (λb=>New w b/\¬own v b) wr) (ek (λb=>New w b/\¬own v b) wr) dn xs /\
        G'<=G/\aK (dW ay) G' ⟨false,lo,aD es,[]⟩ ((aD ws).drop k')=some res'/\res=fN dn res') \/
     (∃er,er≠0/\bI K wr sb yb rs ay lv ws k' er lo/\res=.error er))
theorem Xx (G:Nat)(IH:∀g,g<G->CP K g):rB K G:=by
 intro w sb yb rs ay lv ws k lo gb es res aG h hlo hE he;obtain⟨i0,hi,hz0,hz1,hz2⟩:=info_parts Tryz.Sy;have hsb:=h.blk.lt;have tq:=h.len;have N9:¬gb=sb:=by rintro rfl;exact ax (hE.inj h.blk).1 (by decide)
 have HI:=az IH;clear IH;have H0:N0 K w sb yb rs ay lv ws k lo es G res (.slice none 0 0) w:=by
  refine⟨k,ah _,Kp.refl _ _,.inl ⟨[],[],G,res,h,World.ownsRow_nil _ _ _ _,λb hb=>by simp[own,Value.ownBlock] at hb,Nat.zero_le _,rfl,ah _,aG,(nj _).symm⟩⟩
 have HH:=az H0;clear H0 aG;go_enter func138,ntmps138;go_wp2
 go_loopw [6] (λv wr=>N0 K w sb yb rs ay lv ws k lo es G res v wr) (λ_ wr=>ws.length-FO wr sb)
 case atStart=>exact HH.out
 case round=>
  obtain⟨k',hkk,hkp,⟨dn,xs,G',res',hS,aJ,hnew,hdl,hits,hG,hp,tJ⟩|⟨er,her,hS,Xy⟩⟩:=hrel
  ·have HR:=az hp;have HC:=az tJ;have HT:=az hits;clear hp tJ hits;have oh:FO wr sb=k':=qo hS.blk;have KO:=hkp.blk hE N9;have hk':=hS.gf;obtain⟨ao,cap,rfl⟩:=aB aJ
   cases G' with
   | zero=>have:=HR.out;rw[XO] at this;cases this
   | succ g=>
   by_cases hlt:k'<ws.length
   ·have HD:=az (jJ ws k' hlt)
    go_wp2_with fail
    refine(mW _ sb yb lv ws k' lo hS.row hS.blk h.len hlt).mono ?_;rintro e w1 ⟨rfl,cX,hk1⟩;have hS1:=hS.to hk1 cX (by omega);have F7:=hk1.blk KO N9;have c3:w1.cell? ⟨sb,3,none⟩=some (.int .i64 0):=cX.cell rfl;generalize ht:ws[k']=t;rw[ht] at HD;clear ht
    go_wp2_with fail
    refine(CK t gb es _ F7 he).mono ?_;rintro e w2 ⟨rfl,hw⟩;rw[hw];clear hw;rw[xG]
    cases zo:(aD es).any (· == t.data.toList)
    ·have Gn:=CW _ _ _ _ _ _ zo _ (by have:=HR.out;rw[HD.out] at this;exact this);have aZ:=hk1.row aJ (λb hb e=>by subst e;exact aH aJ hS.blk (by decide) hb);have bg:=hkp.trans hk1;have rG:kq (fE (λb=>New w b/\¬own (.slice ao dn.length cap) b) w1) (ek (λb=>New w b/\¬own (.slice ao dn.length cap) b) w1) dn xs:=
      ig (λ_ _ h=>h.keep (aF.kp hk1 (vZ.one hS.blk (by decide) (by decide)) _)) (λ_ _ h=>aM (aF.kp hk1 (vZ.one hS.blk (by decide) (by decide)) _) h) _ _ HT.out
     have hsz1:=bg.size;clear HT hS cX KO F7 aJ hk1 hkp c3 HR HD;rcases Gn with⟨e,hit,hre⟩|⟨Ph,t1,r2,gm,hit,hp2,hre⟩
     ·have pI:Hid (res=.error e):=by have:=HC.out;rw[hre] at this;exact this
      clear hre HC rG
      go_wp2_with fail
      refine(HI.out g (by omega) _ _ _ _ _ _ _ _ _ _ _ hit hS1 (by omega)).mono ?_;clear hit;rintro x w2 ⟨hk2,her,n0,n1,s,a3,m3,p3,a4,m4,p4,a5,m5,p5,k2,rfl,abj,fM⟩;have hrow2:=hk2.row aZ (λb hb e=>by subst e;exact aH aZ hS1.blk (by decide) hb);have dR:=bg.trans hk2;have hsz2:=dR.size;clear aZ hS1 hk2 bg
      go_wp2_with (first
       | (at_builtin;refine aP _ rfl _ _ 93 rfl 227 i0 (.agg gK) 6 104 underlying93 hi hz0 hz1 hz2 rfl (by decide) _ _ _ rfl ((hrow2.alloc _).alloc _) ⟨w2.heap.size+1,0,none⟩ 1 1 [.int .u8 n0,.int .i64 n1,.string s,.slice a3 m3 p3,.slice a4 m4 p4,.slice a5 m5 p5] rfl rfl ?c1 ?c2 ?c3 ?c4 ?_)
       | go_in)
      case c1=>exact qy _ _ _ _
      case c2=>intro u hu;simp at hu;rcases hu with rfl|rfl|rfl|rfl|rfl|rfl <;> rfl
      case c3=>unfold maxLen;omega
      case c4=>omega
      intro v' w3 hown' hgrow hnx;have je:=jD hgrow fM.blk (aH hrow2 fM.blk (by decide));have dO:Kp w w3 (λb=>b=sb):=((dR.alloc _).alloc _).grown hgrow (λb hb e=>by have:=hnew b e;omega);have HN:N0 K w sb yb rs ay lv ws k lo es G res v' w3:=⟨k2,by omega,dO,.inr ⟨e,her,h.to dO je fM.gf,pI.out⟩⟩;have hm2:=qo je;clear hown' hgrow hnx hrow2 dR fM je dO;go_wp2
      go_roundw
      case rel=>exact HN
      case measure=>rw[oh,hm2];omega
     ·have pI:Hid (res=fN (dn++Ph) gm):=by have:=HC.out;rw[hre,nt] at this;exact this
      have Gp:=az hp2;clear hre HC hp2
      go_wp2_with fail
      refine(HI.out g (by omega) _ _ _ _ _ _ _ _ _ _ _ hit hS1 (by omega)).mono ?_;clear hit;rintro x w2 ⟨hk2,x',nm,va,vb,vt,k2,rfl,rfl,hat,rfl,abj,fM⟩;obtain⟨K6,hr3,-⟩:=hat.a.out;obtain⟨SH,hr4,-⟩:=hat.b.out;obtain⟨gF,js,-⟩:=hat.t;obtain⟨a3,p3,rfl⟩:=aB hr3;obtain⟨a4,p4,rfl⟩:=aB hr4;obtain⟨a5,p5,rfl⟩:=aB js;have hrow2:=hk2.row aZ (λb hb e=>by subst e;exact aH aZ hS1.blk (by decide) hb);have dR:=bg.trans hk2;have hsz2:=dR.size;have Tt:=hk2.size;have Pj:=az rG;have DZ:=az hat;have hb1:∀b,own (.slice ao dn.length cap) b->b<w1.heap.size:=λb hb=>bw aZ hb;have cX:=hS1.blk;clear aZ bg hr3 hr4 js rG hat
      go_wp2_with (first
       | (at_builtin;refine aP _ rfl _ _ 93 rfl 227 i0 (.agg gK) 6 104 underlying93 hi hz0 hz1 hz2 rfl (by decide) _ _ _ rfl ((hrow2.alloc _).alloc _) ⟨w2.heap.size+1,0,none⟩ 1 1 [.int .u8 x'.kind,.int .i64 x'.n,.string nm,.slice a3 x'.a.length p3,.slice a4 x'.b.length p4,.slice a5 gF.length p5] rfl rfl ?d1 ?d2 ?d3 ?d4 ?_)
       | go_in)
      case d1=>exact qy _ _ _ _
      case d2=>intro u hu;simp at hu;rcases hu with rfl|rfl|rfl|rfl|rfl|rfl <;> rfl
      case d3=>unfold maxLen;omega
      case d4=>omega
      intro v' w3 hown' hgrow hnx;have je:=jD hgrow fM.blk (aH hrow2 fM.blk (by decide));have dO:Kp w w3 (λb=>b=sb):=((dR.alloc _).alloc _).grown hgrow (λb hb e=>by have:=hnew b e;omega);have sL:∀b,b<w2.heap.size->¬own (.slice ao dn.length cap) b->¬own v' b:=λb hb hn hv=>by
       rcases hnx b hv with h1|h1
       ·exact hn h1
       ·omega
      have rJ:∀b,own v' b->New w b:=λb hb=>by
       rcases hnx b hb with h1|h1
       ·exact hnew b h1
       ·show w.heap.size<=b;omega
      have hk1:aF (λb=>New w b/\¬own (.slice ao dn.length cap) b) (λb=>New w b/\¬own v' b) w1 w3:=λb t' c hb hbl ht'=>by
       have h2:=(aF.kp hk2 (vZ.one cX (by decide) (by decide)) (λ_=>True) b t' c trivial hbl ht').1;exact⟨jD hgrow h2 hb.2,hb.1,sL b h2.lt hb.2⟩
      have hk3:aF (New w1) (λb=>New w b/\¬own v' b) w2 w3:=λb t' c hb hbl ht'=>by
       have hn:¬own (.slice ao dn.length cap) b:=λhv=>by have:=hb1 b hv;have hb:w1.heap.size<=b:=hb;omega
       exact⟨jD hgrow hbl hn,by have hb:w1.heap.size<=b:=hb;show w.heap.size<=b;omega,sL b hbl.lt hn⟩
      have HN:N0 K w sb yb rs ay lv ws k lo es G res v' w3:=by
       refine⟨k2,by omega,dO,.inl ⟨dn++[x'],xs++[.int .u8 x'.kind,.int .i64 x'.n,.string nm,.slice a3 x'.a.length p3,.slice a4 x'.b.length p4,.slice a5 gF.length p5],g,gm,h.to dO je fM.gf,by simpa using hown',rJ,by simp;omega,?_,by omega,Gp.out,pI.out⟩⟩;refine x8 _ _ _ _ (ig (λ_ _ h=>h.keep hk1) (λ_ _ h=>aM hk1 h) _ _ Pj.out) ?_;have hat:=DZ.out;exact⟨nm,_,_,_,[],rfl,hat.nm,hat.a.keep hk3,hat.b.keep hk3,aM hk3 hat.t,hat.n,rfl⟩
      have hm2:=qo je;clear hown' hgrow hnx hrow2 dR fM je dO hk1 hk3 sL rJ hb1 hk2 cX;go_wp2
      go_roundw
      case rel=>exact HN
      case measure=>rw[oh,hm2];omega
    ·have hst:=ny (dW ay) g lo (aD es) t.data.toList ((aD ws).drop (k' + 1)) zo;have aG:res=.ok (dn,t.data.toList,(aD ws).drop (k' + 1)):=by
      have:=HR.out;rw[HD.out,hst] at this;injection this with this;rw[HC.out,<-this];simp[fN]
     have sW:=az aG;clear aG hst;have aZ:=hk1.row aJ (λb hb e=>by subst e;exact aH aJ hS.blk (by decide) hb);have hkeep:aF (λb=>New w b/\¬own (.slice ao dn.length cap) b) (New w) wr w1:=λb t' c hb hbl ht'=>⟨(aF.kp hk1 (vZ.one hS.blk (by decide) (by decide)) (λ_=>True) b t' c trivial hbl ht').1,hb.1⟩;have hbody:fE (New w) w1 (.slice ao dn.length cap) dn:=fE.of aZ hnew (ig (λ_ _ h=>h.keep hkeep) (λ_ _ h=>aM hkeep h) _ _ HT.out);have bg:=hkp.trans hk1;clear hkeep aZ HT aJ hkp hk1 hS F7 KO;go_wp2;go_ret2;rw[sW.out];exact⟨bg,_,t,k' + 1,rfl,rfl,hbody,rfl,by omega,hS1⟩
   ·have hkl:k'=ws.length:=by omega
    subst hkl;have aG:res=.error 4:=by
     have:=HR.out;rw[nD,tK] at this;injection this with this;rw[HC.out,<-this];rfl
    have sW:=az aG;clear aG
    go_wp2_with fail
    refine(rA _ sb yb lv _ _ lo hS.row hS.blk h.len).mono ?_;rintro e w1 ⟨rfl,cX,hk1⟩;have hS1:=hS.to hk1 cX (ah _);have c3:w1.cell? ⟨sb,3,none⟩=some (.int .i64 4):=cX.cell rfl;have bg:=hkp.trans hk1;clear HT aJ hkp hk1 hS KO cX;go_wp2;go_ret2;rw[sW.out];exact⟨bg,by decide,ws.length,rfl,by omega,hS1⟩
  ·have hk':=hS.gf;have fA:(er != 0)=true:=by simpa using her
   have sW:=az Xy;clear Xy
   go_wp2_with fail
   refine(FN _ sb yb lv _ _ k' lo er fA hS.row hS.blk h.len hS.gf).mono ?_;rintro e w1 ⟨rfl,cX,hk1⟩;have hS1:=hS.to hk1 cX hk';have c3:w1.cell? ⟨sb,3,none⟩=some (.int .i64 er):=cX.cell rfl;have bg:=hkp.trans hk1;clear hkp hk1 hS cX;go_wp2;go_ret2;rw[sW.out];exact⟨bg,her,k',rfl,by omega,hS1⟩
end
end Go.Proofs.YteainaiebcphlaaGreatDoor
