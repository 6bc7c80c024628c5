import Derived.Test.YteainaiebcphlaaGreatDoorV41
import Derived.Test.YteainaiebcphlaaGreatDoorV43
import Derived.Test.YteainaiebcphlaaGreatDoorV27
import Derived.Test.YteainaiebcphlaaGreatDoorV22
import Derived.Test.YteainaiebcphlaaGreatDoorV44
import Derived.Test.YteainaiebcphlaaGreatDoorV39
import Derived.Deep.DeepWitnessRowRef
import Derived.SizedLaws
import Derived.Deep.Slices
import Derived.Test.YteainaiebcphlaaGreatDoorCards
import Derived.Test.YteainaiebcphlaaGreatDoorTie
import Derived.SevenTiedAt
import Derived.Handy
namespace Go.Proofs.YteainaiebcphlaaGreatDoor
set_option maxRecDepth 1000000
set_option maxHeartbeats 4000000
set_option linter.all false
section
open Go.RowKit
structure Duo (PS:World->Nat->(Nat->Prop)->St->Prop) (B:Nat) (W w:World) (xb yb:Nat) (V U:Nat->Prop) (sx sy:St):Prop where
 x:PS w xb V sx
 y:PS w yb U sy
 dis:∀ k,V k->¬ U k
 lo:∀ k,V k->B<=k
 lo2:∀ k,U k->B<=k
 bel:Below B W w
 bl:B<=w.heap.size
theorem Duo.swap {PS:World->Nat->(Nat->Prop)->St->Prop} {B:Nat} {W w:World} {xb yb:Nat} {V U:Nat->Prop} {sx sy:St} (h:Duo PS B W w xb yb V U sx sy):Duo PS B W w yb xb U V sy sx:=
 ⟨h.y,h.x,fun k h1 h2=>h.dis k h2 h1,h.lo2,h.lo,h.bel,h.bl⟩
theorem row_vals {w:World} {b0 e:Nat} {v:Value} {l:List Value} (h:w.ownsRow b0 e 1 v l.length l):
  ∃ ao cap,v=.slice ao l.length cap/\∀ i (hi:i < l.length),∃ g,ao=some ⟨g,0,none⟩/\own v g/\b0<=g/\g < w.heap.size/\w.cell? ⟨g,i,none⟩=some l[i]:=by
 have h0:=Joins.ownsRow_le h (Nat.zero_le _);obtain⟨ao,cap,e⟩:=row_slice h0;refine⟨ao,cap,e,fun i hi=>?_⟩;obtain⟨g,capv,e1,hc⟩:=row_cell h0 (by omega);have ho:own v g:=by rw[e1];rfl
 have hl:=h.lt g ho;rw[e] at e1;injection e1 with e1 _ _;exact⟨g,e1,ho,hl.1,hl.2,hc i l[i] (List.getElem?_eq_getElem hi)⟩
theorem cell_kpU {w w':World} {S:Nat->Prop} {q j:Nat} {u:Value} (hk:Kp w w' S) (hq:¬ S q) (hc:w.cell? ⟨q,j,none⟩=some u):w'.cell? ⟨q,j,none⟩=some u:=by
 have hlt:=lt_of_cell hc;have hb:=hk.block q hlt hq;unfold World.cell? at hc ⊢;rw[hb];exact hc
def Lies (w:World) (S:Nat->Prop) (ao:Option Addr) (l:List Value):Prop:=∀ i (hi:i < l.length),∃ g,ao=some ⟨g,0,none⟩/\g < w.heap.size/\¬ S g/\w.cell? ⟨g,i,none⟩=some l[i]
theorem Lies.kp {w w':World} {S S' T:Nat->Prop} {ao:Option Addr} {l:List Value} (h:Lies w S ao l) (hk:Kp w w' T) (ht:∀ k,T k->S k) (hs:∀ k,k < w.heap.size->S' k->S k):Lies w' S' ao l:=by
 intro i hi;obtain⟨g,e,h1,h2,h3⟩:=h i hi;exact⟨g,e,Nat.lt_of_lt_of_le h1 hk.size,fun q=>h2 (hs g h1 q),cell_kpU hk (fun q=>h2 (ht g q)) h3⟩
section
variable {PS:World->Nat->(Nat->Prop)->St->Prop} {B:Nat} {W0:World} (P:PCon B W0 PS)
include P
theorem Duo.ranX {W w w':World} {xb yb:Nat} {V U V':Nat->Prop} {sx sy sx':St} (h:Duo PS B W w xb yb V U sx sy) (hto:To (fun _=>False) w w' V V') (hx:PS w' xb V' sx'):Duo PS B W w' xb yb V' U sx' sy:=by
 have hB:=h.bl;have hU:=P.lt _ _ _ _ h.y;refine⟨hx,P.frame _ _ _ _ _ _ h.y hto.kp (fun k hk e=>?_) (fun k hk e=>?_) hB,fun k hk hu=>?_,fun k hk=>?_,h.lo2,h.bel.trans (hto.kp.below hB (fun k hk e=>?_)),Nat.le_trans hB hto.kp.size⟩
 ·rcases e with e|e
  ·exact e
  ·exact h.dis k e hk
 ·rcases e with e|e
  ·exact e
  ·have:=h.lo k e;omega
 ·rcases hto.nx k hk with e|e
  ·exact h.dis k e hu
  ·have:=hU k hu;omega
 ·rcases hto.nx k hk with e|e
  ·exact h.lo k e
  ·omega
 ·rcases e with e|e
  ·exact e
  ·have:=h.lo k e;omega
theorem Duo.idle {W w w':World} {xb yb:Nat} {V U:Nat->Prop} {sx sy:St} (h:Duo PS B W w xb yb V U sx sy) (hk:Kp w w' (fun _=>False)):Duo PS B W w' xb yb V U sx sy:=
 ⟨P.frame _ _ _ _ _ _ h.x hk (fun _ _ e=>e) (fun _ _ e=>e) h.bl,P.frame _ _ _ _ _ _ h.y hk (fun _ _ e=>e) (fun _ _ e=>e) h.bl,h.dis,h.lo,h.lo2,h.bel.trans (hk.below h.bl (fun _ _ e=>e)),Nat.le_trans h.bl hk.size⟩
theorem duoStack {W w:World} {xb yb:Nat} {V U:Nat->Prop} {sx sy:St} (h:Duo PS B W w xb yb V U sx sy) (hg:SGood sx):
  Calls Tryz.prog 19 #[.pointer (some ⟨xb,0,none⟩)] w fun e w'=>∃ ao cap,e=.returned (.slice ao sx.rs.length cap)/\∃ V',Duo PS B W w' xb yb V' U sx sy/\Lies w' (fun k=>V' k\/U k) ao (ints sx.rs.reverse)/\To (fun _=>False) w w' V V':=by
 refine (P.stack w xb V sx h.x hg).mono ?_;rintro e w' ⟨v,rfl,hrow,V',hx,hto,hn⟩;have el:sx.rs.length=(ints sx.rs.reverse).length:=by simp[ints]
 rw[el] at hrow;obtain⟨ao,cap,rfl,hc⟩:=row_vals hrow;have hU:=P.lt _ _ _ _ h.y;refine⟨ao,cap,by rw[<-el],V',h.ranX P hto hx,fun i hi=>?_,hto⟩;obtain⟨g,e1,e2,e3,e4,e5⟩:=hc i hi;exact⟨g,e1,e4,fun q=>by rcases q with q|q;exact hn g e2 q;have:=hU g q;omega,e5⟩
theorem duoWords {W w:World} {xb yb:Nat} {V U:Nat->Prop} {sx sy:St} (h:Duo PS B W w xb yb V U sx sy):
  Calls Tryz.prog 33 #[.pointer (some ⟨xb,0,none⟩)] w fun e w'=>∃ ao cap,∃ L:List ByteArray,(texts L=wordsP sx/\L.length<=9223372036854775807)/\e=.returned (.slice ao L.length cap)/\∃ V',Duo PS B W w' xb yb V' U sx sy/\Lies w' (fun k=>V' k\/U k) ao (L.map Value.string)/\To (fun _=>False) w w' V V':=by
 refine (P.words w xb V sx h.x).mono ?_;rintro e w' ⟨v,rfl,⟨L,hrow,hL⟩,V',hx,hto,hn⟩;have el:L.length=(L.map Value.string).length:=by simp
 have hll:=row_slice_len (Joins.ownsRow_le hrow (Nat.zero_le _));rw[el] at hrow;obtain⟨ao,cap,rfl,hc⟩:=row_vals hrow;have hU:=P.lt _ _ _ _ h.y;refine⟨ao,cap,L,⟨hL,hll⟩,by rw[<-el],V',h.ranX P hto hx,fun i hi=>?_,hto⟩;obtain⟨g,e1,e2,e3,e4,e5⟩:=hc i hi;exact⟨g,e1,e4,fun q=>by rcases q with q|q;exact hn g e2 q;have:=hU g q;omega,e5⟩
end
theorem Lies.ran {w w':World} {V U U':Nat->Prop} {ao:Option Addr} {l:List Value} (h:Lies w (fun k=>V k\/U k) ao l) (hto:To (fun _=>False) w w' U U'):Lies w' (fun k=>V k\/U' k) ao l:=
 h.kp hto.kp (fun k e=>by rcases e with e|e;exact e.elim;exact .inr e) (fun k hk e=>by
  rcases e with e|e
  ·exact .inl e
  ·rcases hto.nx k e with q|q
   ·exact .inr q
   ·omega)
theorem sim_words {s s':St} (h:Sim s s'):wordsP s=wordsP s':=by
 have e:∀ l:List Def,(l.map strip).map Def.name=l.map Def.name:=by intro l;rw[List.map_map];rfl
 unfold wordsP;rw[<-e s.defs,h.defs,e]
end
section
open Go.RowKit
theorem texts_injU:∀ {a b:List ByteArray},texts a=texts b->a=b
 | [],[],_=>rfl
 | [],_ :: _,h=>by simp[texts] at h
 | _ :: _,[],h=>by simp[texts] at h
 | x :: a,y :: b,h=>by
  simp only[texts,List.map_cons,List.cons.injEq] at h;have h1:x=y:=ByteArray.ext (Array.ext' h.1);have h2:=texts_injU (a:=a) (b:=b) (by simpa [texts] using h.2);rw[h1,h2]
section
variable {PS:World->Nat->(Nat->Prop)->St->Prop} {B:Nat} {W0:World} (P:PCon B W0 PS)
include P
theorem sameL {W w:World} {xb yb:Nat} {V U:Nat->Prop} {sx sy:St} (h:Duo PS B W w xb yb V U sx sy) (hs:Sim sx sy) (gx:SGood sx) (gy:SGood sy):
  Calls Tryz.prog 23 #[.pointer (some ⟨xb,0,none⟩),.pointer (some ⟨yb,0,none⟩)] w fun e w'=>e=.returned (.bool true)/\∃ V' U',Duo PS B W w' xb yb V' U' sx sy:=by
 have hrl:sx.rs.length<=32:=gx.g.len;have HS:=hide hs;have HGY:=hide gy;have H1:=hide (duoStack P h gx);clear hs gx gy h;go_enter Tryz.func23,Tryz.ntmps23
 go_wp2_with fail
 refine H1.out.mono ?_;rintro e w1 ⟨ao,ca,rfl,V1,hd1,hl1,hto1⟩;have H2:=hide (duoStack P hd1.swap HGY.out);have HL1:=hide hl1;clear hd1 hl1 hto1 H1
 go_wp2_with fail
 refine H2.out.mono ?_;rintro e w2 ⟨bo,cb,rfl,U1,hd2,hl2,hto2⟩;have HA:=hide (HL1.out.ran hto2);have HD:=hide hd2.swap;have HB:Hid (Lies w2 (fun k=>V1 k\/U1 k) bo (ints sx.rs.reverse)):=by
  unfold Hid;rw[HS.out.rs];exact hl2.kp (Kp.refl _ (fun _=>False)) (fun _ e=>e.elim) (fun _ _ e=>e.symm)
 have hyl:sy.rs.length=sx.rs.length:=by rw[HS.out.rs]
 rw[hyl];clear hd2 hl2 hto2 HL1 H2 hyl;go_wp2
 go_loopw [7] (fun i wr=>∃ k:Nat,k<=sx.rs.length/\i=.int .i64 k/\Kp w2 wr (fun _=>False)) (fun i _=>sx.rs.length - (intOf i).toNat)
 case atStart=>exact⟨0,Nat.zero_le _,rfl,Kp.refl _ _⟩
 case round=>
  obtain⟨k,hk,rfl,hkp⟩:=hrel;by_cases hlt:k < sx.rs.length
  ·obtain⟨g,rfl,hg,-,c1⟩:=HA.out k (by simpa [ints] using hlt);obtain⟨g2,rfl,hg2,-,c2⟩:=HB.out k (by simpa [ints] using hlt);have e1:(ints sx.rs.reverse)[k]'(by simpa [ints] using hlt)=.int .i64 (sx.rs.reverse[k]'(by simpa using hlt)):=by simp[ints]
   rw[e1] at c1 c2;have d1:=cell_kpU hkp (fun h=>h) c1;have d2:=cell_kpU hkp (fun h=>h) c2;have hsz:=hkp.size;have hg':g < wr.heap.size:=by omega
   have hg2':g2 < wr.heap.size:=by omega
   have HKP:=hide hkp;clear hkp c1 c2 e1 HA HB HD HS HGY;go_wp2
   go_quiet (fail)
   go_wp2
   go_roundw
   case rel=>exact⟨k+1,by omega,by go_num,HKP.out.drewN _⟩
   case measure=>simp[intOf];omega
  ·have H3:=hide (duoWords P (HD.out.idle P hkp));clear hkp HA HB HD
   go_wp2_with fail
   refine H3.out.mono ?_;rintro e w3 ⟨co,cc,L,⟨hL,hLl⟩,rfl,V3,hd3,hl3,hto3⟩;have H4:=hide (duoWords P hd3.swap);have HL3:=hide hl3;have HLL:=hide hL;clear hd3 hl3 hto3 H3 hL
   go_wp2_with fail
   refine H4.out.mono ?_;rintro e w4 ⟨po,cd,L',⟨hL',-⟩,rfl,U3,hd4,hl4,hto4⟩;have hLL:L'=L:=texts_injU (by rw[hL',HLL.out,sim_words HS.out]);subst hLL;have HC:=hide (HL3.out.ran hto4);have HD4:=hide hd4.swap;have HDD:=hide hl4;clear hd4 hl4 hto4 HL3 H4 hL' HLL;go_wp2
   go_loopw [10] (fun i wr=>∃ k:Nat,k<=L'.length/\i=.int .i64 k/\Kp w4 wr (fun _=>False)) (fun i _=>L'.length - (intOf i).toNat)
   case atStart=>exact⟨0,Nat.zero_le _,rfl,Kp.refl _ _⟩
   case round=>
    clear hrl;obtain⟨k,hk,rfl,hkp⟩:=hrel;by_cases hlt:k < L'.length
    ·obtain⟨g,rfl,hg,-,c1⟩:=HC.out k (by simpa using hlt);obtain⟨g2,rfl,hg2,-,c2⟩:=HDD.out k (by simpa using hlt);rw[List.getElem_map] at c1 c2;have d1:=cell_kpU hkp (fun h=>h) c1;have d2:=cell_kpU hkp (fun h=>h) c2;have hsz:=hkp.size;have hg':g < wr.heap.size:=by omega
     have hg2':g2 < wr.heap.size:=by omega
     have HKP:=hide hkp;clear hkp c1 c2 HC HDD HD4 HS HGY;go_wp2
     go_quiet (fail)
     go_wp2
     go_roundw
     case rel=>exact⟨k+1,by omega,by go_num,HKP.out.drewN _⟩
     case measure=>simp[intOf];omega
    ·have HD5:Hid (∃ V U,Duo PS B W wr xb yb V U sx sy):=⟨_,_,HD4.out.idle P hkp⟩;clear hkp HC HDD HD4;go_wp2
     go_loopw [11] (fun i wr=>∃ k:Nat,k<=16/\i=.int .i64 k/\∃ V U,Duo PS B W wr xb yb V U sx sy) (fun i _=>16 - (intOf i).toNat)
     case atStart=>exact⟨0,Nat.zero_le _,rfl,HD5.out⟩
     case round=>
      clear HD5;obtain⟨k,hk,rfl,V5,U5,hd5⟩:=hrel;by_cases hlt:k < 16
      ·have hcx:∀ s:St,cellP s k=(s.mem k,0):=fun s=>by unfold cellP;rw[if_neg (by omega)];simp
       have HC1:=P.cell wr xb V5 sx k hd5.x ⟨by omega,by omega⟩;rw[hcx] at HC1;have HC1:=hide HC1;have HD5:=hide hd5;have HCX:=hide hcx;clear hd5 hcx
       go_wp2_with fail
       refine HC1.out.mono ?_;rintro e w6 ⟨rfl,V6,hx6,hto6⟩;have hd6:=HD5.out.ranX P hto6 hx6;have HC2:=P.cell w6 yb U5 sy k hd6.y ⟨by omega,by omega⟩;rw[HCX.out,<-HS.out.mem] at HC2;have HC2:=hide HC2;have HD6:=hide hd6;clear hx6 hto6 hd6 HC1 HD5 HCX
       go_wp2_with fail
       refine HC2.out.mono ?_;rintro e w7 ⟨rfl,U7,hx7,hto7⟩;have HD7:=hide (HD6.out.swap.ranX P hto7 hx7).swap;clear hx7 hto7 HC2 HD6;go_wp2
       go_roundw
       case rel=>exact⟨k+1,by omega,by go_num,_,_,HD7.out⟩
       case measure=>simp[intOf];omega
      ·have HD5:Hid (∃ V U,Duo PS B W wr xb yb V U sx sy):=⟨_,_,hd5⟩;clear hd5;go_wp2;go_ret;exact⟨rfl,HD5.out⟩
end
end
section
open Go.RowKit
section
variable {PS:World->Nat->(Nat->Prop)->St->Prop}
def UAt (PS:World->Nat->(Nat->Prop)->St->Prop) (W wr:World) (xb yb:Nat):Prop:=∃ V U sx sy,Duo PS W.heap.size W wr xb yb V U sx sy/\Sim sx sy/\WFs sx/\WFs sy
theorem untunedL (W:World) (P:PCon W.heap.size W PS) (T:TuneC PS) (la:Option Addr) (len cap:Nat) (ra:Option Addr) (lt cap2:Nat) (hlen:len<=8796093022208) (hlt0:lt<=4611686018427387904)
  (hlines:∀ i,i < len->∃ lb off t,la=some ⟨lb,off,none⟩/\W.cell? ⟨lb,off+i,none⟩=some (.string t))
  (hraw:∀ i,i < lt->∃ rb off c,ra=some ⟨rb,off,none⟩/\W.cell? ⟨rb,off+i,none⟩=some (.int .i64 c)/\In c):
  Calls Tryz.prog 7 #[.slice la len cap,.slice ra lt cap2] W fun e w'=>e=.returned (.bool true)/\Below W.heap.size W w':=by
 have HL:=hide hlines;have HR:=hide hraw;have HT:=hide T;clear hlines hraw T;have HF:=hide (freshK P W (Below.refl _ _) (Nat.le_refl _));go_enter Tryz.func7,Tryz.ntmps7
 go_wp2_with fail
 refine HF.out.mono ?_;rintro e w1 ⟨xb,rfl,V,hx,hw,hk,hV⟩;have HX:=hide hx;have HW:=hide hw;have HK:=hide hk;have HV:=hide hV;have HF2:=hide (freshK P w1 (hk.below (Nat.le_refl _) (fun _ _ h=>h)) hk.size);clear hx hw hk hV HF
 go_wp2_with fail
 refine HF2.out.mono ?_;rintro e w2 ⟨yb,rfl,U,hy,hw2,hk2,hU⟩;have HD:Hid (UAt PS W w2 xb yb):=by
  refine⟨V,U,fsC,fsC,⟨P.frame _ _ _ _ _ _ HX.out hk2 (fun _ _ h=>h) (fun _ _ h=>h) HK.out.size,hy,fun k h1 h2=>?_,HV.out,fun k h=>Nat.le_trans HK.out.size (hU k h),(HK.out.trans hk2).below (Nat.le_refl _) (fun _ _ h=>h),(HK.out.trans hk2).size⟩,Sim.refl _,HW.out,HW.out⟩;have:=P.lt _ _ _ _ HX.out k h1;have:=hU k h2;omega
 clear hy hw2 hk2 hU HX HW HK HV HF2;go_wp2
 go_loopw [7] (fun i wr=>∃ k:Nat,k<=len/\i=.int .i64 k/\UAt PS W wr xb yb) (fun i _=>len - (intOf i).toNat)
 case atStart=>exact⟨0,Nat.zero_le _,rfl,HD.out⟩
 case round=>
  clear HD;obtain⟨k,hk,rfl,V,U,sx,sy,hd,hs,wx,wy⟩:=hrel;by_cases hlt:k < len
  ·obtain⟨lb,off,t,rfl,hc⟩:=HL.out k hlt;have hlb:=lt_of_cell hc;clear HL
   -- what is done behind Tune,or without it
   have key:∀ (w3:World) (U3:Nat->Prop) (sy3:St),Duo PS W.heap.size W w3 xb yb V U3 sx sy3->Sim sx sy3->WFs sy3->w3.cell? ⟨lb,off+k,none⟩=some (.string t) /\
     ∃ out er,Calls Tryz.prog 18 #[.pointer (some ⟨xb,0,none⟩),.string t] w3 fun e w4=>e=.returned (.tuple #[.string out,.int .i64 er])/\w4.cell? ⟨lb,off+k,none⟩=some (.string t) /\
      Calls Tryz.prog 18 #[.pointer (some ⟨yb,0,none⟩),.string t] w4 fun e w5=>e=.returned (.tuple #[.string out,.int .i64 er]) /\
       Calls Tryz.prog 23 #[.pointer (some ⟨xb,0,none⟩),.pointer (some ⟨yb,0,none⟩)] w5 fun e w6=>e=.returned (.bool true)/\UAt PS W w6 xb yb:=by
    intro w3 U3 sy3 hd3 hs3 wy3;refine⟨(hd3.bel.cell (p:=⟨lb,off+k,none⟩) hlb).trans hc,?_⟩;obtain⟨out,er,sx2,wx2,hl1,hc1⟩:=line_any P w3 xb V sx t hd3.x wx;refine⟨out,er,hc1.mono ?_⟩;rintro e w4 ⟨rfl,V4,hx4,hto4⟩;have hd4:=hd3.ranX P hto4 hx4;refine⟨rfl,(hd4.bel.cell (p:=⟨lb,off+k,none⟩) hlb).trans hc,?_⟩;obtain⟨out',er',sy2,wy2,hl2,hc2⟩:=line_any P w4 yb U3 sy3 t hd4.y wy3;obtain⟨rfl,rfl,hs2⟩:=line_sim hs3 hl1 hl2;refine hc2.mono ?_;rintro e w5 ⟨rfl,U5,hy5,hto5⟩;have hd5:=(hd4.swap.ranX P hto5 hy5).swap;refine⟨rfl,(sameL P hd5 hs2 wx2.g wy2.g).mono ?_⟩;rintro e w6 ⟨rfl,V6,U6,hd6⟩;exact⟨rfl,V6,U6,sx2,sy2,hd6,hs2,wx2,wy2⟩
   have KEY:=hide key;have HD:=hide hd;have HS:=hide hs;have HWY:=hide wy;clear key hc hd hs wx wy;by_cases ht:2 * k+1 < lt
   ·obtain⟨rb,ro,c1,rfl,hc1,hin1⟩:=HR.out (2 * k) (by omega);obtain⟨rb',ro',c2,e',hc2,hin2⟩:=HR.out (2 * k+1) ht;injection e' with e';injection e' with e1 e2;subst e1 e2;have hrb:=lt_of_cell hc1;have d1:wr.cell? ⟨rb,ro+2 * k,none⟩=some (.int .i64 c1):=(HD.out.bel.cell (p:=⟨rb,ro+2 * k,none⟩) hrb).trans hc1;have d2:wr.cell? ⟨rb,ro+(2 * k+1),none⟩=some (.int .i64 c2):=(HD.out.bel.cell (p:=⟨rb,ro+(2 * k+1),none⟩) hrb).trans hc2;clear hc1 hc2 HR;have HTU:Hid (∀ w',Kp wr w' (fun _=>False)->Calls Tryz.prog 22 #[.pointer (some ⟨yb,0,none⟩),.int .i64 c1,.int .i64 c2] w' fun e w3=>∃ r:Int,e=.returned (.int .i64 r)/\w3.cell? ⟨lb,off+k,none⟩=some (.string t) /\
     ∃ out er,Calls Tryz.prog 18 #[.pointer (some ⟨xb,0,none⟩),.string t] w3 fun e w4=>e=.returned (.tuple #[.string out,.int .i64 er])/\w4.cell? ⟨lb,off+k,none⟩=some (.string t) /\
      Calls Tryz.prog 18 #[.pointer (some ⟨yb,0,none⟩),.string t] w4 fun e w5=>e=.returned (.tuple #[.string out,.int .i64 er]) /\
       Calls Tryz.prog 23 #[.pointer (some ⟨xb,0,none⟩),.pointer (some ⟨yb,0,none⟩)] w5 fun e w6=>e=.returned (.bool true)/\UAt PS W w6 xb yb):=by
     unfold Hid;intro w' hkw;have hd':=HD.out.idle P hkw;refine (HT.out w' yb U sy c1 c2 hd'.y hin1 hin2).mono ?_;rintro e w3 ⟨r,rfl,_,U3,sy3,hy3,hwf3,hs3,hto3⟩;exact⟨r,rfl,KEY.out w3 U3 sy3 (hd'.swap.ranX P hto3 hy3).swap (HS.out.trans hs3.symm) (hwf3 HWY.out)⟩
    clear KEY HD HS HWY HT;have z1:IntKind.i64.wrap (2 * (k:Int))=((2 * k:Nat):Int):=by
     rw[show 2 * (k:Int)=((2 * k:Nat):Int) by omega];rw[IntKind.wrap_i64];omega
    have z2:IntKind.i64.wrap (2 * (k:Int)+1)=((2 * k+1:Nat):Int):=by
     rw[show 2 * (k:Int)+1=((2 * k+1:Nat):Int) by omega];rw[IntKind.wrap_i64];omega
    go_wp2
    go_region_with (go_at_call 22;refine (HTU.out _ ?_).mono ?_;exact (Kp.refl _ _).drew;rintro e w3 ⟨r,rfl,k3,out,er,hq⟩;have HQ3:=hide hq;clear hq)
    all_goals (
     go_wp2_with fail
     refine HQ3.out.mono ?_;rintro e w4 ⟨rfl,k4,hq⟩;have HQ4:=hide hq;clear hq k3 HQ3
     go_wp2_with fail
     refine HQ4.out.mono ?_;rintro e w5 ⟨rfl,hq⟩;have HQ5:=hide hq;clear hq k4 HQ4
     go_wp2_with fail
     refine HQ5.out.mono ?_;rintro e w6 ⟨rfl,hq⟩;have HQ6:=hide hq;clear hq HQ5;go_wp2
     go_roundw
     case rel=>exact⟨k+1,by omega,by go_num,HQ6.out⟩
     case measure=>simp[intOf];omega)
   ·have HQ:=hide (KEY.out wr U sy HD.out HS.out HWY.out);clear KEY HD HS HWY HT HR;obtain⟨k3,out,er,hq⟩:=HQ.out;have HQ:=hide hq;clear hq
    go_wp2_with fail
    refine HQ.out.mono ?_;rintro e w4 ⟨rfl,k4,hq⟩;have HQ:=hide hq;clear hq k3
    go_wp2_with fail
    refine HQ.out.mono ?_;rintro e w5 ⟨rfl,hq⟩;have HQ:=hide hq;clear hq k4
    go_wp2_with fail
    refine HQ.out.mono ?_;rintro e w6 ⟨rfl,hq⟩;have HQ:=hide hq;clear hq;go_wp2
    go_roundw
    case rel=>exact⟨k+1,by omega,by go_num,HQ.out⟩
    case measure=>simp[intOf];omega
  ·have HB:Hid (Below W.heap.size W wr):=hd.bel;clear hd hs wx wy;go_wp2;go_ret;exact⟨rfl,HB.out⟩
end
end
section
open Go.ChangeShapes Go.WideShapes Go.ChangeAt Go.RowKit
theorem untuned_met (os:Os) (args:Array Value):laidMetH Tryz.prog Rows.untunedRow.laid ((World.doorLaid Tryz.prog 400 os).forCall (fun _ _=>0) ⟨#[],args,[]⟩).memory:=
 laidMetH_of_parts3 (fuel:=8) (laidMet_of_run' 8 (by kernel_rfl) (by kernel_rfl)) (by kernel_rfl) (by kernel_rfl)
theorem Tryz.bytes3:Tryz.prog.bytesOf 3=8:=by kernel_rfl
theorem Tryz.bytes9:Tryz.prog.bytesOf 9=16:=by kernel_rfl
theorem nums_in {H:Type} {enc:TypeId × Value->H} {W:World} {base:Nat} {v0:Value} {d0:DataW H} {p:List MemPlace} (hv:Value.okWide Tryz.prog W .any base 34 v0) (h0:DataW.Trod enc Tryz.prog W 0 (fun _=>true) true 34 v0 d0 p):
  ∃ ra len cap,v0=.slice ra len cap/\(∀ (ts:List TypeId) (ds:List (DataW H)) (j:Nat),(DataW.weightsEach Tryz.prog ts ds).all (·<=reachBytes)=true->ts[j]? = some 34->ds[j]? = some d0->len * 8<=reachBytes)/\∀ i,i < len->∃ rb off c,ra=some ⟨rb,off,none⟩/\W.cell? ⟨rb,off+i,none⟩=some (.int .i64 c)/\In c:=by
 obtain⟨a0,len,cap,rfl⟩:=okWide_slice Tryz.underlying34 hv;refine⟨a0,len,cap,rfl,?_⟩;obtain⟨fuel,hf⟩:=h0;rcases Go.Deep.open_slice Tryz.underlying34 hf with⟨hcs,_⟩|⟨a,len',cap',m,n,D,Pl,hcs,_,hl,hm,hmm,hx,hel⟩
 ·simp[Value.cells] at hcs;obtain⟨rfl,rfl,rfl⟩:=hcs;exact⟨fun _ _ _ _ _ _=>by simp,fun i hi=>by omega⟩
 ·simp[Value.cells] at hcs;obtain⟨rfl,rfl,rfl⟩:=hcs;rw[Tryz.cells3] at hel;simp only[if_true] at hmm;subst hmm;simp only[Prod.mk.injEq] at hx;refine⟨fun ts ds j hsz ht hd=>?_,?_⟩
  ·have hs:=sized_slice hsz (j:=j) (t:=34) (e:=3) ht (by rw[hd,hx.1]) Tryz.underlying34;rw[Tryz.bytes3] at hs;simp only[List.length_map,List.length_range,reachBytes] at hs ⊢;omega
  intro i hi;obtain⟨cs,h1,h2⟩:=hel i (by omega);obtain⟨_,hlen,hc⟩:=World.cells?_some h1;have g0:=hc 0 (by omega);obtain⟨c,e,_,hw⟩:=DataW.trod_int Tryz.underlying3 h2;subst e;obtain⟨b,off,spot⟩:=a
  cases spot with
  | some sp=>
   exfalso
   obtain⟨cs0,hc0,_⟩:=hel 0 (by omega);have hfirst:=(World.cells?_some hc0).2.2 0 (by omega);have hl0:=(World.cells?_some hc0).2.1;rw[List.getElem?_eq_getElem (by omega)] at hfirst;unfold World.cell? at hfirst
   split at hfirst
   ·simp[Addr.add] at hfirst
   ·cases hfirst
  | none=>
   have e1:((⟨b,off,none⟩:Addr).add (i * 1)).add 0=⟨b,off+i,none⟩:=by
    unfold Addr.add;simp
   rw[e1] at g0;exact⟨b,off,c,rfl,g0,bounds_i64 hw⟩
theorem texts_in {H:Type} {enc:TypeId × Value->H} {W:World} {base:Nat} {v0:Value} {d0:DataW H} {p:List MemPlace} (hv:Value.okWide Tryz.prog W .any base 47 v0) (h0:DataW.Trod enc Tryz.prog W 0 (fun _=>true) true 47 v0 d0 p):
  ∃ ra len cap,v0=.slice ra len cap/\(∀ (ts:List TypeId) (ds:List (DataW H)) (j:Nat),(DataW.weightsEach Tryz.prog ts ds).all (·<=reachBytes)=true->ts[j]? = some 47->ds[j]? = some d0->len * 16<=reachBytes)/\∀ i,i < len->∃ rb off t,ra=some ⟨rb,off,none⟩/\W.cell? ⟨rb,off+i,none⟩=some (.string t):=by
 obtain⟨a0,len,cap,rfl⟩:=okWide_slice Tryz.underlying47 hv;refine⟨a0,len,cap,rfl,?_⟩;obtain⟨fuel,hf⟩:=h0;rcases Go.Deep.open_slice Tryz.underlying47 hf with⟨hcs,_⟩|⟨a,len',cap',m,n,D,Pl,hcs,_,hl,hm,hmm,hx,hel⟩
 ·simp[Value.cells] at hcs;obtain⟨rfl,rfl,rfl⟩:=hcs;exact⟨fun _ _ _ _ _ _=>by simp,fun i hi=>by omega⟩
 ·simp[Value.cells] at hcs;obtain⟨rfl,rfl,rfl⟩:=hcs;rw[Tryz.cells9] at hel;simp only[if_true] at hmm;subst hmm;simp only[Prod.mk.injEq] at hx;refine⟨fun ts ds j hsz ht hd=>?_,?_⟩
  ·have hs:=sized_slice hsz (j:=j) (t:=47) (e:=9) ht (by rw[hd,hx.1]) Tryz.underlying47;rw[Tryz.bytes9] at hs;simp only[List.length_map,List.length_range,reachBytes] at hs ⊢;omega
  intro i hi;obtain⟨cs,h1,h2⟩:=hel i (by omega);obtain⟨_,hlen,hc⟩:=World.cells?_some h1;have g0:=hc 0 (by omega);obtain⟨c,e,_,hw⟩:=DataW.trod_string Tryz.underlying9 h2;subst e;obtain⟨b,off,spot⟩:=a
  cases spot with
  | some sp=>
   exfalso
   obtain⟨cs0,hc0,_⟩:=hel 0 (by omega);have hfirst:=(World.cells?_some hc0).2.2 0 (by omega);have hl0:=(World.cells?_some hc0).2.1;rw[List.getElem?_eq_getElem (by omega)] at hfirst;unfold World.cell? at hfirst
   split at hfirst
   ·simp[Addr.add] at hfirst
   ·cases hfirst
  | none=>
   have e1:((⟨b,off,none⟩:Addr).add (i * 1)).add 0=⟨b,off+i,none⟩:=by
    unfold Addr.add;simp
   rw[e1] at g0;exact⟨b,off,c,rfl,g0⟩
theorem untuned_lifted (os:Os) (started:os.Started) (H:Type) (enc:TypeId × Value->H):
  ReturnsInHanded {} Tryz.checked os 7 .any (fun w args=>(Rows.untunedSpec.pre enc Tryz.prog Tryz.f7 [] false w args/\laidMetH Tryz.prog Rows.untunedRow.laid w)/\sizedMet enc Tryz.prog Tryz.f7 (OpenSpec.ofChange Rows.untunedSpec) false w args)
   (Rows.untunedSpec.post enc Tryz.prog Tryz.f7 false true false false):=by
 refine returnsInHanded_of_change_and (C:=Tryz.checked) (X:=fun w _=>laidMetH Tryz.prog Rows.untunedRow.laid w) (fun _ _ _ hh h=>h.of_heap hh) Tryz.own started (by kernel_rfl) Tryz.func7
  (ChangeSpec.witness_shaped (enc:=enc) (C:=Tryz.checked) (os:=os) (X:=fun w _=>laidMetH Tryz.prog Rows.untunedRow.laid w) false (World.doorLaid Tryz.prog 400 os) #[.slice none 0 0,.slice none 0 0] 8 rfl (World.shaped_of_RefB (by kernel_rfl) (by kernel_rfl)) (by kernel_rfl) (by kernel_rfl) (by kernel_rfl) (untuned_met os _)) ?_
 intro W base args ds gs before hval0 hW _ hsz0 hL _;have hval:∀ (j:Nat) t v,Tryz.f7.params[j]? = some t->args[j]? = some v->Value.okWide Tryz.prog W .any base t v:=hval0;have hsz:(DataW.weightsEach Tryz.prog (Tryz.f7.params.toList ++ Rows.untunedSpec.plain.varTypes Tryz.prog) (ds ++ gs)).all (·<=reachBytes)=true:=hsz0;have hW':=hW;obtain⟨p,q,hA0,hV,rfl,hfz,hnd⟩:=hW;have hA:DataW.TrodAll enc Tryz.prog W 0 (fun _=>true) true Tryz.f7.params.toList args.toList ds p:=hA0;rw[Tryz.params7] at hA hval hsz;obtain⟨v0,v1,d0,d1,p0,p1,rfl,rfl,rfl,t0,t1⟩:=trodAll_two hA;obtain⟨rfl,rfl⟩:=trodVars_none hV;have hE:Env W.heap.size W:=of_laid hL;clear hA0 hval0;simp only[List.append_nil] at hW';have hlt:∀ x∈p0 ++ p1,x.block < W.heap.size:=fun x hx=>by simpa using hW'.lt x (by simpa using hx)
 obtain⟨la,len,cap,rfl,hs1,hlines⟩:=texts_in (hval 0 47 v0 rfl rfl) t0;obtain⟨ra,lt,cap2,rfl,hs2,hraw⟩:=nums_in (hval 1 34 v1 rfl rfl) t1;have e1:=hs1 _ _ 0 hsz rfl rfl;have e2:=hs2 _ _ 1 hsz rfl rfl;simp only[reachBytes] at e1 e2;have walk:=untunedL W (conP hE) (tuneP _ _) la len cap ra lt cap2 (by omega) (by omega) hlines hraw;refine walk.mono fun e W' ⟨he,hB⟩=>?_;subst he;refine⟨_,rfl,_,_,_,[],p0 ++ p1,[],hW',?_,?_,rfl,hB.frame _,fun h=>by cases h⟩
 ·exact trodAll_mk1 (shut_bool Tryz.underlying4 _)
 ·exact trodAll_mk2 (Below.trod Tryz.laidOut (by kernel_rfl) (of_decide_eq_true (by kernel_rfl)) t0 hB (fun x hx=>hlt x (by simp[hx]))) (Below.trod Tryz.laidOut (by kernel_rfl) (of_decide_eq_true (by kernel_rfl)) t1 hB (fun x hx=>hlt x (by simp[hx])))
end
section
open Go
theorem untuned_said:Rows.UntunedSaid:=
 OpenClaim.holds_of_wide 7 Tryz.f7 rfl rfl rfl rfl rfl rfl rfl ⟨rfl,rfl,rfl,rfl,rfl⟩ rfl rfl rfl rfl rfl (by kernel_rfl) Tryz.func7 (by kernel_rfl)
  (of_decide_eq_true (by kernel_rfl)) (by unfold Func.isWrapper;first|(rw[if_pos (by decide +kernel)];kernel_rfl)|(rw[if_neg (by decide +kernel)];exact⟨rfl,rfl⟩))
  (fun os started H enc _=>untuned_lifted os started H enc)
theorem untuned_plain (f : FuncId) (fn : Func) (hf : Tryz.pinned.checked.prog.funcNamed "anvil/anvilkeep.Untuned" = some f) (hfn : Tryz.pinned.checked.prog.funcs[f]? = some fn) :
  true=Tryz.pinned.checked.prog.looks []/\∀ (j:Nat) t,fn.params[j]? = some t->Tryz.pinned.checked.prog.wantsStandIn t=false:=by
 obtain rfl : f = 7 := Option.some.inj ((show Tryz.prog.funcNamed "anvil/anvilkeep.Untuned" = some 7 by kernel_rfl).symm.trans hf) |>.symm
 obtain rfl:fn=Tryz.f7:=(Option.some.inj (Tryz.func7.symm.trans hfn)).symm;refine⟨by kernel_rfl,fun j t ht=>?_⟩;rw[Tryz.params7] at ht;have hm:t=47\/t=34:=by simpa using Array.mem_of_getElem? ht
 rcases hm with rfl|rfl
 ·exact (show Tryz.prog.wantsStandIn 47=false by kernel_rfl)
 ·exact (show Tryz.prog.wantsStandIn 34=false by kernel_rfl)
theorem untuned_card:Rows.UntunedCardSaid:=
 Claim7.holds_tied_plain_at .later [] _ _ _ _ untuned_said (fun _ h=>by cases h) (by kernel_rfl) (fun _ h=>by cases h) untuned_row_tie rfl ⟨rfl,rfl⟩ (by kernel_rfl) rfl untuned_plain (by kernel_rfl)
end
#print axioms untuned_card
end Go.Proofs.YteainaiebcphlaaGreatDoor
