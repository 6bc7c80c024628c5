import Derived.Test.YteainaiebcphlaaGreatDoorQ30
import Derived.Test.YteainaiebcphlaaGreatDoorQ28
import Derived.Handy
namespace Go.Proofs.YteainaiebcphlaaGreatDoor
set_option maxRecDepth 1000000
set_option maxHeartbeats 4000000
set_option linter.all false
open Go.Proofs.Tryz
section
open Go.RowKit
theorem fC.head {w:World}{v:Value}{t:ByteArray}{ws:List ByteArray}(h:fC (aC w) v (t::ws)):∃g off cap,v=.slice (some ⟨g,off,none⟩) (ws.length+1) cap/\(∃cur,aC w g 9 cur/\cur[off]? = some (.string t))/\ws.length+1<=cap/\fC (aC w) (if cap=1 then .slice (some ⟨g,off,none⟩) ws.length 0 else .slice (some ⟨g,off+1,none⟩) ws.length (cap-1)) ws:=by
 rcases h with⟨h0,_⟩|⟨g,off,cap,cur,rfl,hg,h1,h2,h3,h4⟩
 ·cases h0
 ·refine⟨g,off,cap,rfl,⟨cur,hg,by have:=h4 0 (by simp);simpa using this⟩,h1,?_⟩;simp only[aq] at h1
  split
  ·have hz:ws=[]:=List.length_eq_zero_iff.1 (by omega);exact .inl ⟨hz,some ⟨g,off,none⟩,0,by rw[hz];rfl⟩
  ·refine .inr ⟨g,off+1,cap-1,cur,rfl,hg,by omega,by omega,by omega,λi hi=>?_⟩;have:=h4 (i+1) (by simpa using hi);rw[show off+1+i=off+(i+1) by omega];simpa using this
section
variable {B:Nat}{W w:World}{xb rb mb:Nat}{m:MS}{D:GD}{s:St}
theorem Fs (w:World)(m:MS)(rb:Nat)(ao:Option Addr)(cap:Nat):
  Calls prog 73 #[pt m.bk,pt rb,.slice ao 0 cap] w λe w'=>e=.returned (.tuple #[.slice none 0 0,.int .i64 4])/\Kp w w' (λ_=>False):=by
 go_enter func73,ntmps73;go_wp2;go_ret2;exact⟨rfl,(Kp.refl _ _).alloc _⟩
theorem Fu (hE:Env B W)(h:PR B W w xb rb mb m D s)(t:ByteArray)(ws:List ByteArray)(v:Value)(ht:fC (aC w) v (t::ws))(hl:ws.length+1<=1000)(hn:dX t.data.toList=false):
  Calls prog 73 #[pt m.bk,pt rb,v] w λe w'=>e=.returned (.tuple #[.slice none 0 0,.int .i64 4])/\Kp w w' (λ_=>False):=by
 have hsp:=hE.at h;have bC:=(Kp.refl w (λ_=>False)).alloc (.cells #[pt m.bk] 78);have HN:=az (Jz t (w.alloc (.cells #[pt m.bk] 78)) (hsp.kp bC (by simp)));rw[hn] at HN;obtain⟨g,off,cap,rfl,⟨cur,hB,h0⟩,hcap,hT⟩:=ht.head;have c0:w.cell? ⟨g,off,none⟩=some (.string t):=hB.cell h0;have c1:(w.alloc (.cells #[pt m.bk] 78)).cell? ⟨g,off,none⟩=some (.string t):=(hB.alloc _).cell h0;clear hB h0;clear hT ht h hE hsp hn;go_enter func73,ntmps73
 go_wp2_with fail
 refine HN.out.mono ?_;rintro e w1 ⟨rfl,rfl⟩;go_wp2;go_ret2;exact⟨rfl,bC⟩
end
section
variable (bk rb:Nat)(g off cap n:Nat)(t:ByteArray)(w:World)
def WD:World:=(w.alloc (.cells #[pt bk] 78)).alloc (.cells #[.string t] 9)
abbrev tkV:Value:=.slice (some ⟨g,off,none⟩) (n+1) cap
abbrev DC:Value:=if cap=1 then .slice (some ⟨g,off,none⟩) n 0 else .slice (some ⟨g,off+1,none⟩) n (cap-1)
theorem JL (kn:Bool)(nd:Nat)(mb:Nat){hh bl:Value}(hB:aC w bk 106 #[.map (some mb),hh,bl])(hcap:n+1<=cap)(Ta:off+cap<=maxLen)(c1:(w.alloc (.cells #[pt bk] 78)).cell? ⟨g,off,none⟩=some (.string t))
  (HN:Calls prog 114 #[.string t] (w.alloc (.cells #[pt bk] 78)) λe w'=>e=.returned (.bool true)/\w'=(w.alloc (.cells #[pt bk] 78)))
  (HH:Calls prog 74 #[pt bk,.string t] (WD bk t w) λe w'=>e=.returned (.bool kn)/\w'=WD bk t w)
  (HL:(Builtin.len_ #[104] 3 #[.map (some mb)]).run prog (WD bk t w)=.ok (.int .i64 nd) (WD bk t w)) (mD:kn=true\/nd<30)
  (R:World->Value->Value->Int->World->Prop) (Q:Value->Int->World->Prop)
  (hR:∀w0,Kp w w0 (λ_=>False)->Calls prog 115 #[DC g off cap n,.func (.func 74) #[pt bk] #[]] w0 λx w1=>Kp w0 w1 (λ_=>False)/\∃a1 n1 p1 a2 n2 p2 why,x=.returned (.tuple #[.slice a1 n1 p1,.slice a2 n2 p2,.int .i64 why])/\R w0 (.slice a1 n1 p1) (.slice a2 n2 p2) why w1)
  (hS:∀w0 w1 w2 iv rv ib,R w0 iv rv 0 w1->Kp w w1 (λ_=>False)->w.heap.size<=ib->Kp w1 w2 (λk=>k=ib)->(ib<w0.heap.size\/w1.heap.size<=ib)->(∀c,¬aC w1 ib 9 c)->aC w2 w.heap.size 78 #[pt bk]->aC w2 (w.heap.size+1) 9 #[.string t]->aC w2 ib 108 #[iv] ->
   Calls prog 68 #[pt rb,.func (.func 116) #[] #[pt w.heap.size,pt (w.heap.size+1),pt ib]] w2 λe w'=>∃k,e=.returned (.int .i64 k)/\Q rv k w'):
  Calls prog 73 #[pt bk,pt rb,tkV g off cap n] w λe w'=>∃rv k,e=.returned (.tuple #[rv,.int .i64 k])/\(Q rv k w'\/(k≠0/\rv=.slice none 0 0/\Kp w w' (λ_=>False)/\∃w0 w1 iv rv,R w0 iv rv k w1)):=by
 have HN:=az HN;have HH:=az HH;have hk1:Kp w (WD bk t w) (λ_=>False):=((Kp.refl w (λ_=>False)).alloc _).alloc _;have hc8:(WD bk t w).cell? ⟨bk,0,none⟩=some (.map (some mb)):=(hk1.blk hB (by simp)).cell rfl;have hb1:aC (WD bk t w) w.heap.size 78 #[pt bk]:=(aC.new w _ _).alloc _;have hb2:aC (WD bk t w) (w.heap.size+1) 9 #[.string t]:=by have:=aC.new (w.alloc (.cells #[pt bk] 78)) #[.string t] 9;rw[World.size_alloc] at this;exact this
 have Ty:(WD bk t w).cell? ⟨w.heap.size,0,none⟩=some (pt bk):=hb1.cell rfl;have afo:(WD bk t w).cell? ⟨w.heap.size+1,0,none⟩=some (.string t):=hb2.cell rfl;have HR:=az hR;have HS:=az hS;have SX:=az mD;have HSZ:Hid ((WD bk t w).heap.size=w.heap.size+2):=by show _=_;unfold WD;simp[World.size_alloc]
 have hs1:w.heap.size<(WD bk t w).heap.size:=by rw[HSZ.out];omega
 have hs2:¬w.heap.size=(WD bk t w).heap.size:=by omega
 have hs3:¬(WD bk t w).heap.size=w.heap.size:=by omega
 clear hR hS hB mD;go_enter func73,ntmps73
 go_wp2_with fail
 refine HN.out.mono ?_;rintro e w1 ⟨rfl,rfl⟩
 go_wp2_with fail
 refine HH.out.mono ?_;rintro e w1 ⟨rfl,rfl⟩;generalize hWD:WD bk t w=w2 at *;have Yk:∀tk,DC g off cap n=tk->Hid (∀w0,Kp w w0 (λ_=>False)->Calls prog 115 #[tk,.func (.func 74) #[pt bk] #[]] w0 λx w1=>Kp w0 w1 (λ_=>False)/\∃a1 n1 p1 a2 n2 p2 why,x=.returned (.tuple #[.slice a1 n1 p1,.slice a2 n2 p2,.int .i64 why])/\R w0 (.slice a1 n1 p1) (.slice a2 n2 p2) why w1):=by
  rintro tk rfl;exact HR
 clear HR;have Yl:Hid (¬w.heap.size+1=w2.heap.size):=by rw[HSZ.out];show ¬_;omega
 have hm:=Classical.em (cap=1);rcases hm with hm|hm
 ·have hn0:n=0:=by omega
  subst hm hn0;have HR:=Yk (.slice (some ⟨g,off,none⟩) 0 0) (by unfold DC;rw[ag rfl]);clear Yk
  cases kn
  ·have mD:nd<30:=by simpa using SX.out
   have h31:¬(30:Int)<=(nd:Int):=by omega
   go_wp2_with fail
   go_region_with (first
    | (go_at_call 115;refine(HR.out _ hk1.drew).mono ?_;rintro e w3 ⟨hkr,a1,n1,p1,a2,n2,p2,why,rfl,hq⟩;have HQ:=az hq;have HK:=az hkr;clear hq hkr)
    | (go_at_call 115;refine(HR.out _ (hk1.drew.alloc _)).mono ?_;rintro e w3 ⟨hkr,a1,n1,p1,a2,n2,p2,why,rfl,hq⟩;have HQ:=az hq;have HK:=az hkr;have ub:=hkr.blk (aC.new w2.drew #[Value.slice none 0 0] 108) (by simp);have Dw:w2.drew.heap.size=w2.heap.size:=rfl;rw[Dw] at ub;have u1:=ub.cell (o:=0) rfl;have f1:=ub.free 0;clear hq hkr))
   all_goals
    by_cases hw:why=0
    ·subst hw
     go_wp2_with fail
     first
      | refine(HS.out _ w3 (w3.alloc (.cells #[.slice a1 n1 p1] 108)) _ _ w3.heap.size HQ.out (hk1.drew.trans HK.out) (hk1.drew.trans HK.out).size ((Kp.refl _ _).alloc _) (.inr (ah _)) (λc hc=>Nat.lt_irrefl _ hc.lt) ((HK.out.blk hb1.drew (by simp)).alloc _) ((HK.out.blk hb2.drew (by simp)).alloc _) (aC.new _ _ _)).mono ?_
      | refine(HS.out _ w3 (w3.setCell ⟨w2.heap.size,0,none⟩ (.slice a1 n1 p1)) _ _ w2.heap.size HQ.out ((hk1.drew.alloc _).trans HK.out) (Nat.le_of_lt hs1) (Kp.one _ _ _ _) (.inl (by rw[World.size_alloc];exact Nat.lt_succ_self _)) (λc hc=>ax (hc.inj ub).1 (by decide)) ((HK.out.blk (hb1.drew.alloc _) (by simp)).setOther hs2 _) ((HK.out.blk (hb2.drew.alloc _) (by simp)).setOther Yl.out _) (ub.set 0 _)).mono ?_
     rintro e w4 ⟨k,rfl,hq⟩;have Na:=az hq;clear hq;go_wp2;go_ret2;exact⟨_,_,rfl,.inl Na.out⟩
    ·have hw1:(why != 0)=true:=by simpa using hw
     have wu:=az hw;clear hw;go_wp2;go_ret2
     first
      | exact⟨_,_,rfl,.inr ⟨wu.out,rfl,(hk1.drew.trans HK.out).alloc _,_,_,_,_,HQ.out⟩⟩
      | exact⟨_,_,rfl,.inr ⟨wu.out,rfl,Kp.newer ((hk1.drew.alloc _).trans HK.out) (Kp.one _ _ _ _) (Nat.le_of_lt hs1),_,_,_,_,HQ.out⟩⟩
  ·go_wp2_with fail
   go_region_with (first
    | (go_at_call 115;refine(HR.out _ hk1.drew).mono ?_;rintro e w3 ⟨hkr,a1,n1,p1,a2,n2,p2,why,rfl,hq⟩;have HQ:=az hq;have HK:=az hkr;clear hq hkr)
    | (go_at_call 115;refine(HR.out _ (hk1.drew.alloc _)).mono ?_;rintro e w3 ⟨hkr,a1,n1,p1,a2,n2,p2,why,rfl,hq⟩;have HQ:=az hq;have HK:=az hkr;have ub:=hkr.blk (aC.new w2.drew #[Value.slice none 0 0] 108) (by simp);have Dw:w2.drew.heap.size=w2.heap.size:=rfl;rw[Dw] at ub;have u1:=ub.cell (o:=0) rfl;have f1:=ub.free 0;clear hq hkr))
   all_goals
    by_cases hw:why=0
    ·subst hw
     go_wp2_with fail
     first
      | refine(HS.out _ w3 (w3.alloc (.cells #[.slice a1 n1 p1] 108)) _ _ w3.heap.size HQ.out (hk1.drew.trans HK.out) (hk1.drew.trans HK.out).size ((Kp.refl _ _).alloc _) (.inr (ah _)) (λc hc=>Nat.lt_irrefl _ hc.lt) ((HK.out.blk hb1.drew (by simp)).alloc _) ((HK.out.blk hb2.drew (by simp)).alloc _) (aC.new _ _ _)).mono ?_
      | refine(HS.out _ w3 (w3.setCell ⟨w2.heap.size,0,none⟩ (.slice a1 n1 p1)) _ _ w2.heap.size HQ.out ((hk1.drew.alloc _).trans HK.out) (Nat.le_of_lt hs1) (Kp.one _ _ _ _) (.inl (by rw[World.size_alloc];exact Nat.lt_succ_self _)) (λc hc=>ax (hc.inj ub).1 (by decide)) ((HK.out.blk (hb1.drew.alloc _) (by simp)).setOther hs2 _) ((HK.out.blk (hb2.drew.alloc _) (by simp)).setOther Yl.out _) (ub.set 0 _)).mono ?_
     rintro e w4 ⟨k,rfl,hq⟩;have Na:=az hq;clear hq;go_wp2;go_ret2;exact⟨_,_,rfl,.inl Na.out⟩
    ·have hw1:(why != 0)=true:=by simpa using hw
     have wu:=az hw;clear hw;go_wp2;go_ret2
     first
      | exact⟨_,_,rfl,.inr ⟨wu.out,rfl,(hk1.drew.trans HK.out).alloc _,_,_,_,_,HQ.out⟩⟩
      | exact⟨_,_,rfl,.inr ⟨wu.out,rfl,Kp.newer ((hk1.drew.alloc _).trans HK.out) (Kp.one _ _ _ _) (Nat.le_of_lt hs1),_,_,_,_,HQ.out⟩⟩
 have HR:=Yk (.slice (some ⟨g,off+1,none⟩) n (cap-1)) (by unfold DC;rw[af hm]);have zj:¬(1:Int)=(cap:Int):=by omega
 have Mj:¬(cap:Int)=1:=by omega
 have KP:¬(cap:Int)-1=0:=by omega
 have Tb:¬cap-1=0:=by omega
 have Tc:(n:Int)+1<=(cap:Int):=by omega
 have Td:(1:Int)<=(n:Int)+1:=by omega
 clear Yk
 cases kn
 ·have mD:nd<30:=by simpa using SX.out
  have h31:¬(30:Int)<=(nd:Int):=by omega
  go_wp2_with fail
  go_region_with (first
   | (go_at_call 115;refine(HR.out _ hk1.drew).mono ?_;rintro e w3 ⟨hkr,a1,n1,p1,a2,n2,p2,why,rfl,hq⟩;have HQ:=az hq;have HK:=az hkr;clear hq hkr)
   | (go_at_call 115;refine(HR.out _ (hk1.drew.alloc _)).mono ?_;rintro e w3 ⟨hkr,a1,n1,p1,a2,n2,p2,why,rfl,hq⟩;have HQ:=az hq;have HK:=az hkr;have ub:=hkr.blk (aC.new w2.drew #[Value.slice none 0 0] 108) (by simp);have Dw:w2.drew.heap.size=w2.heap.size:=rfl;rw[Dw] at ub;have u1:=ub.cell (o:=0) rfl;have f1:=ub.free 0;clear hq hkr))
  all_goals
   by_cases hw:why=0
   ·subst hw
    go_wp2_with fail
    first
     | refine(HS.out _ w3 (w3.alloc (.cells #[.slice a1 n1 p1] 108)) _ _ w3.heap.size HQ.out (hk1.drew.trans HK.out) (hk1.drew.trans HK.out).size ((Kp.refl _ _).alloc _) (.inr (ah _)) (λc hc=>Nat.lt_irrefl _ hc.lt) ((HK.out.blk hb1.drew (by simp)).alloc _) ((HK.out.blk hb2.drew (by simp)).alloc _) (aC.new _ _ _)).mono ?_
     | refine(HS.out _ w3 (w3.setCell ⟨w2.heap.size,0,none⟩ (.slice a1 n1 p1)) _ _ w2.heap.size HQ.out ((hk1.drew.alloc _).trans HK.out) (Nat.le_of_lt hs1) (Kp.one _ _ _ _) (.inl (by rw[World.size_alloc];exact Nat.lt_succ_self _)) (λc hc=>ax (hc.inj ub).1 (by decide)) ((HK.out.blk (hb1.drew.alloc _) (by simp)).setOther hs2 _) ((HK.out.blk (hb2.drew.alloc _) (by simp)).setOther Yl.out _) (ub.set 0 _)).mono ?_
    rintro e w4 ⟨k,rfl,hq⟩;have Na:=az hq;clear hq;go_wp2;go_ret2;exact⟨_,_,rfl,.inl Na.out⟩
   ·have hw1:(why != 0)=true:=by simpa using hw
    have wu:=az hw;clear hw;go_wp2;go_ret2
    first
     | exact⟨_,_,rfl,.inr ⟨wu.out,rfl,(hk1.drew.trans HK.out).alloc _,_,_,_,_,HQ.out⟩⟩
     | exact⟨_,_,rfl,.inr ⟨wu.out,rfl,Kp.newer ((hk1.drew.alloc _).trans HK.out) (Kp.one _ _ _ _) (Nat.le_of_lt hs1),_,_,_,_,HQ.out⟩⟩
 ·go_wp2_with fail
  go_region_with (first
   | (go_at_call 115;refine(HR.out _ hk1.drew).mono ?_;rintro e w3 ⟨hkr,a1,n1,p1,a2,n2,p2,why,rfl,hq⟩;have HQ:=az hq;have HK:=az hkr;clear hq hkr)
   | (go_at_call 115;refine(HR.out _ (hk1.drew.alloc _)).mono ?_;rintro e w3 ⟨hkr,a1,n1,p1,a2,n2,p2,why,rfl,hq⟩;have HQ:=az hq;have HK:=az hkr;have ub:=hkr.blk (aC.new w2.drew #[Value.slice none 0 0] 108) (by simp);have Dw:w2.drew.heap.size=w2.heap.size:=rfl;rw[Dw] at ub;have u1:=ub.cell (o:=0) rfl;have f1:=ub.free 0;clear hq hkr))
  all_goals
   by_cases hw:why=0
   ·subst hw
    go_wp2_with fail
    first
     | refine(HS.out _ w3 (w3.alloc (.cells #[.slice a1 n1 p1] 108)) _ _ w3.heap.size HQ.out (hk1.drew.trans HK.out) (hk1.drew.trans HK.out).size ((Kp.refl _ _).alloc _) (.inr (ah _)) (λc hc=>Nat.lt_irrefl _ hc.lt) ((HK.out.blk hb1.drew (by simp)).alloc _) ((HK.out.blk hb2.drew (by simp)).alloc _) (aC.new _ _ _)).mono ?_
     | refine(HS.out _ w3 (w3.setCell ⟨w2.heap.size,0,none⟩ (.slice a1 n1 p1)) _ _ w2.heap.size HQ.out ((hk1.drew.alloc _).trans HK.out) (Nat.le_of_lt hs1) (Kp.one _ _ _ _) (.inl (by rw[World.size_alloc];exact Nat.lt_succ_self _)) (λc hc=>ax (hc.inj ub).1 (by decide)) ((HK.out.blk (hb1.drew.alloc _) (by simp)).setOther hs2 _) ((HK.out.blk (hb2.drew.alloc _) (by simp)).setOther Yl.out _) (ub.set 0 _)).mono ?_
    rintro e w4 ⟨k,rfl,hq⟩;have Na:=az hq;clear hq;go_wp2;go_ret2;exact⟨_,_,rfl,.inl Na.out⟩
   ·have hw1:(why != 0)=true:=by simpa using hw
    have wu:=az hw;clear hw;go_wp2;go_ret2
    first
     | exact⟨_,_,rfl,.inr ⟨wu.out,rfl,(hk1.drew.trans HK.out).alloc _,_,_,_,_,HQ.out⟩⟩
     | exact⟨_,_,rfl,.inr ⟨wu.out,rfl,Kp.newer ((hk1.drew.alloc _).trans HK.out) (Kp.one _ _ _ _) (Nat.le_of_lt hs1),_,_,_,_,HQ.out⟩⟩
end
section
variable {B:Nat}{W w w':World}{xb rb mb:Nat}{m m':MS}{D D':GD}{s:St}
theorem PR.Wz (h:PR B W w xb rb mb m D s)(ht:mN xb rb mb w w' m m' D D'){b:Nat}{c:Array Value}(hb:aC w b 9 c):aC w' b 9 c:=by
 obtain⟨ns,hi,_⟩:=h.inv;refine ht.wt.kp.blk hb ?_;rintro (((e|e)|e)|((e|e)|e))
 ·subst e;exact ax (hb.inj hi.bJ).1 (by decide)
 ·subst e;exact ax (hb.inj hi.cF).1 (by decide)
 ·exact h.words.ne hb e.symm
 ·exact ax (aQ hi.dc e hb) (by decide)
 ·exact ax (aQ hi.dY e hb) (by decide)
 ·exact h.KR e hb (by decide) rfl
theorem PR.erP (h:PR B W w xb rb mb m D s){er:Int}(her:er≠0):PR B W w xb rb mb m D (s.err er):=by
 obtain⟨ns,hi,_⟩:=h.inv;exact⟨⟨ns,hi,λe=>ax e her⟩,h.mem,h.out,h.st0,h.Di,(λe=>ax e her),h.dp,h.safe,h.E8,h.book,h.words,h.sep,h.us,h.good.err her,h.ids,h.Cm⟩
theorem PR.WA (h:PR B W w xb rb mb m D s){er:Int}(her:er≠0)(hk:Kp w w' (λ_=>False)):bu B W xb rb mb w m D (s.err er) w':=
 ⟨m,D,((h.kp hk).1).erP her,(h.kp hk).2⟩
theorem PR.set (h:cC s){nm:Tok}{b:List It}(hcb:qB b):cC (s.set nm b):=
 ⟨h.g,h.s0,h.s1,h.s2,h.d0,h.d1,h.b0,h.b1,λd hd=>by
  rcases uA hd with e|⟨d0,h0,e⟩
  ·rw[e];exact hcb
  ·rw[e];exact h.cb d0 h0⟩
theorem PR.WB (h:PR B W w xb rb mb m D s)(hk:Kp w w' (λ_=>False)):(Builtin.len_ #[104] 3 #[.map (some mb)]).run prog w'=.ok (.int .i64 (s.ay.length:Nat)) w':=by
 obtain⟨obs,DD,hwr⟩:=(h.kp hk).1.words;have:=hwr.mp.len underlying104 3;rw[hwr.sz] at this;exact this
theorem Cz (hE:Env B W)(h:PR B W w xb rb mb m D s)(t:ByteArray)(ws:List ByteArray)(v:Value)(ht:fC (aC w) v (t::ws))(hot:okW t)(hn:dX t.data.toList=true)(hkn:s.aA t.data.toList=false)(mD:30<=s.ay.length):
  Calls prog 73 #[pt m.bk,pt rb,v] w λe w'=>e=.returned (.tuple #[.slice none 0 0,.int .i64 5])/\Kp w w' (λ_=>False):=by
 have hsp:=hE.at h;have bC:=(Kp.refl w (λ_=>False)).alloc (.cells #[pt m.bk] 78);have HN:=az (Jz t (w.alloc (.cells #[pt m.bk] 78)) (hsp.kp bC (by simp)));rw[hn] at HN;have hk1:=bC.alloc (.cells #[.string t] 9);have mR:=(h.words.aA h.book).kp hk1 (by simp) (by simp);have hc8:((w.alloc (.cells #[pt m.bk] 78)).alloc (.cells #[.string t] 9)).cell? ⟨m.bk,0,none⟩=some (.map (some mb)):=(hk1.blk h.book (by simp)).cell (o:=0) rfl;have HH:=az (K4 _ _ _ _ mR t (ai hot.2 (by decide)));rw[hkn] at HH;have HL:=h.WB hk1;have h31:(30:Int)<=(s.ay.length:Int):=by omega
 generalize s.ay.length=nd at *;obtain⟨g,off,cap,rfl,⟨cur,hB,h0⟩,hcap,hT⟩:=ht.head;have c1:(w.alloc (.cells #[pt m.bk] 78)).cell? ⟨g,off,none⟩=some (.string t):=(hB.alloc _).cell h0;clear hB h0 mR;clear hT ht h hE hsp hn hkn;go_enter func73,ntmps73
 go_wp2_with fail
 refine HN.out.mono ?_;rintro e w1 ⟨rfl,rfl⟩
 go_wp2_with fail
 refine HH.out.mono ?_;rintro e w1 ⟨rfl,rfl⟩;go_wp2;go_ret2;exact⟨rfl,hk1⟩
def Nb (s:St)(nm:Tok)(b:List It):St:=if s.step.e=0 then s.step.set nm b else s.step
def QDf (B:Nat)(W w:World)(xb rb mb:Nat)(m:MS)(D:GD)(s:St)(e:Ending)(w':World):BG->Prop
 | .error er=>er≠0/\e=.returned (.tuple #[.slice none 0 0,.int .i64 er])/\bu B W xb rb mb w m D (s.err er) w'
 | .ok (nm,b,r1)=>∃a n p eZ,e=.returned (.tuple #[.slice a n p,.int .i64 (Nb s nm b).e])/\bu B W xb rb mb w m D (Nb s nm b) w'/\fC (aC w') (.slice a n p) eZ/\aD eZ=r1/\(∀t∈eZ,okW t)/\eZ.length<=1000
end
section
variable {B:Nat}{W w w':World}{xb rb mb:Nat}{m m':MS}{D D':GD}{s:St}
def RdF (w:World)(res:fh)(w0:World)(iv rv:Value)(why:Int)(w1:World):Prop:=match res with
 | .ok (l,_,r)=>why=0/\w.heap.size<=w0.heap.size/\cV (BD (New w0) w1) iv l/\∃a n p eZ,rv=.slice a n p/\fC (BD (λb=>b<w0.heap.size) w1) rv eZ/\aD eZ=r/\(∀t∈eZ,okW t)/\eZ.length<=1000
 | .error e=>e≠0/\why=e
theorem wbT {g:Nat}{s:St}{r:List Tok}{nm:Tok}{b:List It}{r1:List Tok}(hl:r.length<=1000)(h:jY g s r=some (.ok (nm,b,r1))):∃G,wb (fY s.ay) G false b:=C9 hl h
def kj (D:GD)(n1 n2:Nat):GD:=⟨λb=>D.d b\/(n1<=b/\b<n2),D.u,D.r,D.tag,D.J⟩
theorem PR.WE (h:PR B W w xb rb mb m D s)(n1 n2:Nat)(h1:∀k,D.u k->k<n1)(h2:n2<=w.heap.size)(h3:∀k,n1<=k->k≠xb/\k≠rb/\¬own m.sv k/\¬own m.ov k):PR B W w xb rb mb m (kj D n1 n2) s:=by
 have hgl:wD D (kj D n1 n2) w:=⟨λ_ h=>h,λ_ _ h=>h,λ_ _=>rfl⟩;have hp:fT D (kj D n1 n2) w w m.bk:=λo f c hr hc=>⟨c,rfl,rfl,rfl,rfl,rfl,hc.frame (Kp.refl w (λ_=>False)) hgl (λb t c q=>⟨.inl q.1,q.2⟩) (by simp) (by simp) (by simp)⟩;have hW:=h.words.yI;have hw:kQ (kj D n1 n2) w m.bk:=by
  refine⟨λo f hr=>?_,hW.fn,λk hu hk=>?_,hW.lt,λk hk=>?_⟩
  ·obtain⟨c,hc⟩:=hW.ok o f hr;obtain⟨c',_,_,_,_,_,h'⟩:=hp o f c hr hc;exact⟨c',h'⟩
  ·rcases hk with q|q
   ·exact hW.ud k hu q
   ·have:=h1 k hu;omega
  ·rcases hk with q|q
   ·exact hW.dl k q
   ·omega
 exact⟨h.inv,h.mem,h.out,h.st0,h.Di,h.st,h.dp,h.safe,h.E8,h.book,h.words.E7 hp (λ_ _ h=>h) (λ_ _ h=>h) hw rfl (λ_ _ _ _ q=>q.frame (Kp.refl w (λ_=>False)) hgl (λb t c q=>⟨.inl q.1,q.2⟩) (λ_ _ e=>e)),λk hk=>hk.elim (h.sep k) (λq=>⟨by omega,h3 k q.1⟩),h.us,h.good,h.ids,h.Cm⟩
theorem PR.grow (h:PR B W w xb rb mb m D s)(hk:Kp w w' (λ_=>False)):PR B W w' xb rb mb m (kj D w.heap.size w'.heap.size) s/\mN xb rb mb w w' m m D (kj D w.heap.size w'.heap.size):=by
 obtain⟨hr2,ht2⟩:=h.kp hk;obtain⟨ns,hi,_⟩:=h.inv;refine⟨hr2.WE _ _ (λk hu=>h.ult hu) (ah _) (λk hk2=>⟨?_,?_,λe=>?_,λe=>?_⟩),⟨ht2.wt,λk hk=>.inl hk,λk hk=>hk.imp id (λq=>q.1),λ_ _ h=>h,rfl,rfl⟩⟩
 ·have:=hi.bJ.lt;omega
 ·have:=hi.cF.lt;omega
 ·have:=bw hi.dc e;omega
 ·have:=bw hi.dY e;omega
theorem Nc (hE:Env B W)(h:PR B W w xb rb mb m D s)(he:s.e=0)(ws:List ByteArray)(v:Value)(ht:fC (aC w) v ws)(ho:∀t∈ws,okW t)(hl:ws.length<=1000)(g:Nat)(res:BG)(aG:jY g s (aD ws)=some res):
  Calls prog 73 #[pt m.bk,pt rb,v] w λe w'=>QDf B W w xb rb mb m D s e w' res:=by
 have hlt:(aD ws).length<=1000:=by simpa [aD] using hl
 have WG:=aG;rw[tB] at aG
 cases ws with
 | nil=>
  obtain⟨ao,cap,rfl⟩:=ht.form;have hr:res=.error 4:=by injection aG with e;exact e.symm
  subst hr;refine(Fs w m rb ao cap).mono ?_;rintro e w' ⟨rfl,hk⟩;exact⟨by decide,rfl,h.WA (by decide) hk⟩
 | cons t ws=>
  have aG:(if dX t.data.toList=false then some (.error 4) else if dW s.ay t.data.toList=false/\30<=s.ay.length then some (.error 5) else
   match aK (dW s.ay) g ⟨false,0,[eH],[]⟩ (aD ws) with
   | none=>none
   | some (.error e)=>some (.error e)
   | some (.ok (b,_,r1))=>some (.ok (t.data.toList,b,r1)))=some res:=aG
  have hot:=ho t (by simp)
  split at aG
  ·rename_i hn
   injection aG with hr;subst hr;refine(Fu hE h t ws v ht (by simpa using hl) hn).mono ?_;rintro e w' ⟨rfl,hk⟩;exact⟨by decide,rfl,h.WA (by decide) hk⟩
  rename_i hn
  have hn:dX t.data.toList=true:=by simpa using hn
  split at aG
  ·rename_i hf
   injection aG with hr;subst hr;refine(Cz hE h t ws v ht hot hn hf.1 hf.2).mono ?_;rintro e w' ⟨rfl,hk⟩;exact⟨by decide,rfl,h.WA (by decide) hk⟩
  rename_i hf
  have hf:s.aA t.data.toList=true\/s.ay.length<30:=by
   cases hkk:s.aA t.data.toList with
   | true=>exact .inl rfl
   | false=>right;have:=(not_and.1 hf) hkk;omega
  cases hp:aK (dW s.ay) g ⟨false,0,[eH],[]⟩ (aD ws) with
  | none=>rw[hp] at aG;cases aG
  | some pr=>
   rw[hp] at aG;have hsp:=hE.at h;have bC:=(Kp.refl w (λ_=>False)).alloc (.cells #[pt m.bk] 78);have hk1:=bC.alloc (.cells #[.string t] 9);have mR:=(h.words.aA h.book);have HN:=Jz t (w.alloc (.cells #[pt m.bk] 78)) (hsp.kp bC (by simp));rw[hn] at HN;have HH:=K4 _ _ _ _ (mR.kp hk1 (by simp) (by simp)) t (ai hot.2 (by decide));have HL:=h.WB hk1;obtain⟨gb,off,cap,rfl,⟨cur,hB,h0⟩,hcap,hT⟩:=ht.head;have c1:(w.alloc (.cells #[pt m.bk] 78)).cell? ⟨gb,off,none⟩=some (.string t):=(hB.alloc _).cell h0;have hcap2:off+cap<=maxLen:=by
    rcases ht with⟨q,_⟩|⟨g1,off1,jd,aaF,e1,q1,q2,q3,q4⟩
    ·cases q
    ·injection e1 with e1 e2 e3;injection e1 with e1;injection e1 with e1 e4;subst e3 e4;exact q3
   have vX:ws.length<=1000:=by simp only[aq] at hl;omega
   refine(JL m.bk rb gb off cap ws.length t w (s.aA t.data.toList) s.ay.length mb h.book hcap hcap2 c1 HN HH HL hf (RdF w pr)
    (λrv k w'=>∃l tt r,pr=.ok (l,tt,r)/\k=(Nb s t.data.toList l).e/\bu B W xb rb mb w m D (Nb s t.data.toList l) w'/\∃a n p eZ,rv=.slice a n p/\fC (aC w') rv eZ/\aD eZ=r/\(∀t∈eZ,okW t)/\eZ.length<=1000) ?_ ?_).mono ?_
   ·intro w0 kz;refine(T4 g w0 m.bk mb s.aA _ ws (mR.kp kz (by simp) (by simp)) (cO (λb c hc=>kz.blk hc (by simp)) hT) vX (λt' ht'=>ho t' (by simp[ht'])) (hsp.kp kz (by simp)) pr hp).mono ?_;rintro x w1 ⟨hk,hq⟩;refine⟨hk,?_⟩;rcases pr with er|⟨l,tt,r⟩
    ·obtain⟨q1,q2⟩:=hq;exact⟨_,_,_,_,_,_,_,q2,q1,rfl⟩
    ·obtain⟨v1,a,n,p,eZ,rfl,hI,hT',h3,h4,h5⟩:=hq;obtain⟨xs,aJ,-⟩:=hI.out;obtain⟨a9,p9,rfl⟩:=aJ.form;exact⟨_,_,_,_,_,_,_,rfl,rfl,kz.size,hI,_,_,_,eZ,rfl,hT',h3,h4,h5⟩
   ·intro w0 w1 w2 iv rv ib hR Lv hib E5 aft aaG b1 b2 b3;rcases pr with er|⟨l,tt,r⟩
    ·exact ax hR.2.symm hR.1
    obtain⟨-,hw0,hI,a,n,p,eZ,rfl,hT',h3,h4,h5⟩:=hR;have WH:Kp w w2 (λ_=>False):=Kp.newer Lv E5 hib;obtain⟨hr2,ht2⟩:=h.kp WH;have hdr:jY g s (aD (t::ws))=some (.ok (t.data.toList,l,r)):=by
     rw[WG];exact aG.symm
    obtain⟨KX,aaH⟩:=h.grow WH;have hst:s.step.ay=s.ay:=kS s;have yq:cV (BD (kj D w.heap.size w2.heap.size).d w2) iv l:=hI.mono (λb t c hb=>by
     have h1:w0.heap.size<=b:=hb.1;have h2:=hb.2.lt;have h3:=E5.size;exact⟨.inr ⟨by omega,by omega⟩,E5.blk hb.2 (by omega)⟩)
    have zq:fC (aC w2) (.slice a n p) eZ:=cO (λb c hb=>E5.blk hb.2 (λe=>by subst e;exact aaG c hb.2)) hT';refine(ve KX he _ (s.step.set t.data.toList l) (Nb s t.data.toList l) rfl ?_).mono ?_
    ·intro eX w3 m3 hr3 kg;have kG:=KX.fD kg;have hb1:=(kG _ _ _ ⟨Or.inr ⟨ah _,b1.lt⟩,b1⟩).2;have hb2:=(kG _ _ _ ⟨Or.inr ⟨Nat.le_succ _,b2.lt⟩,b2⟩).2;have hb3:=(kG _ _ _ ⟨Or.inr ⟨hib,b3.lt⟩,b3⟩).2;rw[<-kg.bk] at hb1;refine(aaE hr3 w.heap.size ib (w.heap.size+1) t hot.2 iv l hb1 hb3 hb2 (yq.mono kG) (by rw[hst];exact wbT hlt hdr) ?_ (PR.set hr3.good (ug hlt (by rw[<-tB];exact hdr)).1) (by
      have e1:=h.ids;have e2:=h.st he;have e3:=hr3.st eX;have e4:=s.aO;have e5:s.step.ids=s.ids:=by unfold St.step;split <;> rfl
      show s.step.ids+1<=D.J+m3.st;omega) (LG hdr)).mono ?_
     ·rcases hf with q|q
      ·left;unfold St.aA St.find at q ⊢;rw[hst];exact q
      ·right;rw[hst];exact q
     ·rintro e w' ⟨rfl,hp⟩;exact⟨by rw[show(s.step.set t.data.toList l).e=0 from eX],hp⟩
    ·rintro e w' ⟨rfl,hp⟩;refine⟨_,rfl,l,tt,r,rfl,rfl,hp.step aaH,a,n,p,eZ,rfl,?_,h3,h4,h5⟩;obtain⟨m',D',hr',ht'⟩:=hp;exact cO (λb c hb=>KX.Wz ht' hb) zq
   ·rintro e w' ⟨rv,k,rfl,hq|⟨bC,rfl,hkk,w0,w1,iv,rH,hR⟩⟩
    ·obtain⟨l,tt,r,rfl,rfl,hpp,a,n,p,eZ,rfl,hT',h3,h4,h5⟩:=hq;injection aG with hr;subst hr;exact⟨a,n,p,eZ,rfl,hpp,hT',h3,h4,h5⟩
    ·rcases pr with er|⟨l,tt,r⟩
     ·obtain⟨her,rfl⟩:=hR;injection aG with hr;subst hr;exact⟨her,rfl,h.WA her hkk⟩
     ·exact ax hR.1 bC
end
section
variable (bk rb:Nat)(g off cap n:Nat)(t:ByteArray)(w:World)
theorem nO (n:Nat)(h:n+1<=cap)(h1:cap=1):DC g off cap n=.slice (some ⟨g,off,none⟩) 0 0/\n=0:=by
 have:n=0:=by omega
 subst this h1;exact⟨rfl,rfl⟩
theorem nP (h1:¬cap=1):DC g off cap n=.slice (some ⟨g,off+1,none⟩) n (cap-1):=by
 unfold DC;rw[af h1]
def RL (w:World)(t:ByteArray)(K:Int):Prop:=∀w0,Kp w w0 (λ_=>False)->Calls prog 67 #[.string t] w0 λe w'=>e=.returned (.int .i64 K)/\w'=w0
def Gb (bk rb g off cap n:Nat)(w:World)(Q:Value->Int->World->Prop):Prop:=Calls prog 57 #[pt bk,pt rb,tkV g off cap n] w λe w'=>∃rv k,e=.returned (.tuple #[rv,.int .i64 k])/\Q rv k w'
theorem JM (w:World)(bk:Nat)(t:ByteArray):Calls prog 75 #[pt bk,.string t] w λe w'=>∃db bb nb,e=.returned (j4 db)/\Kp w w' (λ_=>False)/\BD (New w) w' db 125 #[.func (.func 120) #[] #[pt bb,pt nb]]/\BD (New w) w' bb 78 #[pt bk]/\BD (New w) w' nb 9 #[.string t]:=by
 have lI:=bV;go_enter func75,ntmps75;go_wp2;go_ret;exact⟨_,_,_,rfl,(((Kp.refl _ _).alloc _).alloc _).alloc _,⟨nw w 2,aC.new2 w _ _ _ _⟩,⟨nw w 0,((aC.new w _ _).alloc _).alloc _⟩,⟨nw w 1,(aC.new1 w _ _ _).alloc _⟩⟩
theorem Nf (K:Int)(hK:19<=K)(hcap:n+1<=cap)(Ta:off+cap<=maxLen)(c1:w.cell? ⟨g,off,none⟩=some (.string t))(HK:RL w t K):Gb bk rb g off cap n w (λrv k w'=>rv=.slice none 0 0/\k=4/\Kp w w' (λ_=>False)):=by
 unfold Gb;have HK:=az HK;have HP:Hid (∀w,Calls prog 71 #[.int .i64 K] w λe w'=>e=.returned (.bool false)/\w'=w):=by
  intro w;have:=gS K w;rw[decide_eq_false (by omega)] at this;exact this
 have k1:(K==1)=false:=by simp;omega
 have k2:(K==18)=false:=by simp;omega
 have k3:(K != 0)=true:=by simp;omega
 have k4:¬K=1:=by omega
 have k5:¬K=18:=by omega
 have k6:¬K=0:=by omega
 clear hK;have hm:=Classical.em (cap=1);rcases hm with hm|hm
 ·obtain⟨hte,hn0⟩:=nO g off cap n hcap hm;have vw:=az hte;clear hte;subst hm hn0;go_enter func57,ntmps57
  go_wp2_with fail
  go_quiet (fail)
  go_wp2_with fail
  refine(HK.out _ ((Kp.refl _ _).drewN nq)).mono ?_;rintro e w1 ⟨rfl,rfl⟩;have bC:Kp w (w.drewN nq) (λ_=>False):=(Kp.refl _ _).drewN nq;generalize w.drewN nq=w0 at *
  go_wp2_with fail
  refine(HP.out _).mono ?_;rintro e w1 ⟨rfl,rfl⟩;go_wp2;go_ret2;exact⟨_,_,rfl,rfl,rfl,bC⟩
 ·have vw:=az (nP g off cap n hm);have zj:¬(1:Int)=(cap:Int):=by omega
  have Mj:¬(cap:Int)=1:=by omega
  have KP:¬(cap:Int)-1=0:=by omega
  have Tb:¬cap-1=0:=by omega
  have Tc:(n:Int)+1<=(cap:Int):=by omega
  have Td:(1:Int)<=(n:Int)+1:=by omega
  go_enter func57,ntmps57
  go_wp2_with fail
  go_quiet (fail)
  go_wp2_with fail
  refine(HK.out _ ((Kp.refl _ _).drewN nq)).mono ?_;rintro e w1 ⟨rfl,rfl⟩;have bC:Kp w (w.drewN nq) (λ_=>False):=(Kp.refl _ _).drewN nq;generalize w.drewN nq=w0 at *
  go_wp2_with fail
  refine(HP.out _).mono ?_;rintro e w1 ⟨rfl,rfl⟩;go_wp2;go_ret2;exact⟨_,_,rfl,rfl,rfl,bC⟩
theorem Ng (HH:∀w0,Kp w w0 (λ_=>False)->Calls prog 74 #[pt bk,.string t] w0 λe w'=>e=.returned (.bool false)/\w'=w0)(K:Int)(hK:K=0)(hcap:n+1<=cap)(Ta:off+cap<=maxLen)(c1:w.cell? ⟨g,off,none⟩=some (.string t))(HK:RL w t K):Gb bk rb g off cap n w (λrv k w'=>rv=.slice none 0 0/\k=3/\Kp w w' (λ_=>False)):=by
 unfold Gb;have HK:=az HK;subst hK;have HH:=az HH;have HP:Hid (∀w,Calls prog 71 #[.int .i64 0] w λe w'=>e=.returned (.bool false)/\w'=w):=by
  intro w;have:=gS 0 w;rw[decide_eq_false (by omega)] at this;exact this
 have hm:=Classical.em (cap=1);rcases hm with hm|hm
 ·obtain⟨hte,hn0⟩:=nO g off cap n hcap hm;have vw:=az hte;clear hte;subst hm hn0;go_enter func57,ntmps57
  go_wp2_with fail
  go_quiet (fail)
  go_wp2_with fail
  refine(HK.out _ ((Kp.refl _ _).drewN nq)).mono ?_;rintro e w1 ⟨rfl,rfl⟩;have bC:Kp w (w.drewN nq) (λ_=>False):=(Kp.refl _ _).drewN nq;generalize w.drewN nq=w0 at *
  go_wp2_with fail
  refine(HP.out _).mono ?_;rintro e w1 ⟨rfl,rfl⟩
  go_wp2_with fail
  refine(HH.out _ bC).mono ?_;rintro e w1 ⟨rfl,rfl⟩;go_wp2;go_ret2;exact⟨_,_,rfl,rfl,rfl,bC⟩
 ·have vw:=az (nP g off cap n hm);have zj:¬(1:Int)=(cap:Int):=by omega
  have Mj:¬(cap:Int)=1:=by omega
  have KP:¬(cap:Int)-1=0:=by omega
  have Tb:¬cap-1=0:=by omega
  have Tc:(n:Int)+1<=(cap:Int):=by omega
  have Td:(1:Int)<=(n:Int)+1:=by omega
  go_enter func57,ntmps57
  go_wp2_with fail
  go_quiet (fail)
  go_wp2_with fail
  refine(HK.out _ ((Kp.refl _ _).drewN nq)).mono ?_;rintro e w1 ⟨rfl,rfl⟩;have bC:Kp w (w.drewN nq) (λ_=>False):=(Kp.refl _ _).drewN nq;generalize w.drewN nq=w0 at *
  go_wp2_with fail
  refine(HP.out _).mono ?_;rintro e w1 ⟨rfl,rfl⟩
  go_wp2_with fail
  refine(HH.out _ bC).mono ?_;rintro e w1 ⟨rfl,rfl⟩;go_wp2;go_ret2;exact⟨_,_,rfl,rfl,rfl,bC⟩
theorem JN (K:Int)(hK:K=18)(Q:Value->Int->World->Prop)(HD:∀w0,Kp w w0 (λ_=>False)->Calls prog 73 #[pt bk,pt rb,DC g off cap n] w0 λe w'=>∃rv k,e=.returned (.tuple #[rv,.int .i64 k])/\Q rv k w')(hcap:n+1<=cap)(Ta:off+cap<=maxLen)(c1:w.cell? ⟨g,off,none⟩=some (.string t))(HK:RL w t K):Gb bk rb g off cap n w Q:=by
 unfold Gb;have HK:=az HK;subst hK;have HD:=az HD;have HP:Hid (∀w,Calls prog 71 #[.int .i64 18] w λe w'=>e=.returned (.bool false)/\w'=w):=by
  intro w;have:=gS 18 w;rw[decide_eq_false (by omega)] at this;exact this
 have hm:=Classical.em (cap=1);rcases hm with hm|hm
 ·obtain⟨hte,hn0⟩:=nO g off cap n hcap hm;have vw:=az hte;clear hte;subst hm hn0;go_enter func57,ntmps57
  go_wp2_with fail
  go_quiet (fail)
  go_wp2_with fail
  refine(HK.out _ ((Kp.refl _ _).drewN nq)).mono ?_;rintro e w1 ⟨rfl,rfl⟩;have bC:Kp w (w.drewN nq) (λ_=>False):=(Kp.refl _ _).drewN nq;generalize w.drewN nq=w0 at *;have WI:=az (HD.out w0 bC);rw[vw.out] at WI
  go_wp2_with fail
  refine(HP.out _).mono ?_;rintro e w1 ⟨rfl,rfl⟩
  go_wp2_with fail
  refine WI.out.mono ?_;rintro e w1 ⟨rv,k,rfl,hq⟩;have HQ:=az hq;clear hq;go_wp2;go_ret2;exact⟨_,_,rfl,HQ.out⟩
 ·have vw:=az (nP g off cap n hm);have zj:¬(1:Int)=(cap:Int):=by omega
  have Mj:¬(cap:Int)=1:=by omega
  have KP:¬(cap:Int)-1=0:=by omega
  have Tb:¬cap-1=0:=by omega
  have Tc:(n:Int)+1<=(cap:Int):=by omega
  have Td:(1:Int)<=(n:Int)+1:=by omega
  go_enter func57,ntmps57
  go_wp2_with fail
  go_quiet (fail)
  go_wp2_with fail
  refine(HK.out _ ((Kp.refl _ _).drewN nq)).mono ?_;rintro e w1 ⟨rfl,rfl⟩;have bC:Kp w (w.drewN nq) (λ_=>False):=(Kp.refl _ _).drewN nq;generalize w.drewN nq=w0 at *;have WI:=az (HD.out w0 bC);rw[vw.out] at WI
  go_wp2_with fail
  refine(HP.out _).mono ?_;rintro e w1 ⟨rfl,rfl⟩
  go_wp2_with fail
  refine WI.out.mono ?_;rintro e w1 ⟨rv,k,rfl,hq⟩;have HQ:=az hq;clear hq;go_wp2;go_ret2;exact⟨_,_,rfl,HQ.out⟩
theorem RM (K:Int)(hK:K=1)(i:Int)(Q:Int->World->Prop)(HV:∀w,Calls prog 70 #[.string t] w λe w'=>e=.returned (.int .i64 i)/\Kp w w' (λ_=>False))(HS:∀w0,Kp w w0 (λ_=>False)->Calls prog 68 #[pt rb,.func (.func 95) #[] #[pt w0.heap.size]] (w0.alloc (.cells #[.int .i64 i] 2)) λe w'=>∃k,e=.returned (.int .i64 k)/\Q k w')(hcap:n+1<=cap)(Ta:off+cap<=maxLen)(c1:w.cell? ⟨g,off,none⟩=some (.string t))(HK:RL w t K):Gb bk rb g off cap n w (λrv k w'=>rv=DC g off cap n/\Q k w'):=by
 unfold Gb;have HK:=az HK;subst hK;have HS:=az HS;have HV:=az HV;have hm:=Classical.em (cap=1);rcases hm with hm|hm
 ·obtain⟨hte,hn0⟩:=nO g off cap n hcap hm;have vw:=az hte;clear hte;subst hm hn0;go_enter func57,ntmps57
  go_wp2_with fail
  go_quiet (fail)
  go_wp2_with fail
  refine(HK.out _ ((Kp.refl _ _).drewN nq)).mono ?_;rintro e w1 ⟨rfl,rfl⟩;have bC:Kp w (w.drewN nq) (λ_=>False):=(Kp.refl _ _).drewN nq;generalize w.drewN nq=w0 at *
  go_wp2_with fail
  refine(HV.out _).mono ?_;rintro e w2 ⟨rfl,hk2⟩;have yl:=az (bC.trans hk2);clear hk2
  go_wp2_with fail
  refine(Jq _ i).mono ?_;rintro e w3 ⟨rfl,rfl⟩
  go_wp2_with fail
  refine(HS.out _ yl.out).mono ?_;rintro e w4 ⟨k,rfl,hq⟩;have HQ:=az hq;clear hq;go_wp2;go_ret2;exact⟨_,_,rfl,vw.out.symm,HQ.out⟩
 ·have vw:=az (nP g off cap n hm);have zj:¬(1:Int)=(cap:Int):=by omega
  have Mj:¬(cap:Int)=1:=by omega
  have KP:¬(cap:Int)-1=0:=by omega
  have Tb:¬cap-1=0:=by omega
  have Tc:(n:Int)+1<=(cap:Int):=by omega
  have Td:(1:Int)<=(n:Int)+1:=by omega
  go_enter func57,ntmps57
  go_wp2_with fail
  go_quiet (fail)
  go_wp2_with fail
  refine(HK.out _ ((Kp.refl _ _).drewN nq)).mono ?_;rintro e w1 ⟨rfl,rfl⟩;have bC:Kp w (w.drewN nq) (λ_=>False):=(Kp.refl _ _).drewN nq;generalize w.drewN nq=w0 at *
  go_wp2_with fail
  refine(HV.out _).mono ?_;rintro e w2 ⟨rfl,hk2⟩;have yl:=az (bC.trans hk2);clear hk2
  go_wp2_with fail
  refine(Jq _ i).mono ?_;rintro e w3 ⟨rfl,rfl⟩
  go_wp2_with fail
  refine(HS.out _ yl.out).mono ?_;rintro e w4 ⟨k,rfl,hq⟩;have HQ:=az hq;clear hq;go_wp2;go_ret2;exact⟨_,_,rfl,vw.out.symm,HQ.out⟩
theorem JO (K:Int)(j:Nat)(hj:j<16)(hK:K=(j:Int)+2)(Q:Int->World->Prop)(HS:∀w0 w1 fn ff fc,Kp w w0 (λ_=>False)->Kp w0 w1 (λ_=>False)->bB (BD (λk=>w0.heap.size<=k) w1) j (.func (.func fn) ff fc)->Calls prog 68 #[pt rb,.func (.func fn) ff fc] w1 λe w'=>∃k,e=.returned (.int .i64 k)/\Q k w')(hcap:n+1<=cap)(Ta:off+cap<=maxLen)(c1:w.cell? ⟨g,off,none⟩=some (.string t))(HK:RL w t K):Gb bk rb g off cap n w (λrv k w'=>rv=DC g off cap n/\Q k w'):=by
 unfold Gb;have HK:=az HK;have HS:=az HS;have HM:Hid (∀w,Calls prog 72 #[.int .i64 K] w λe w'=>∃act,e=.returned act/\Kp w w' (λ_=>False)/\bB (BD (λk=>w.heap.size<=k) w') j act):=λw=>C8 j hj K hK w;have HP:Hid (∀w,Calls prog 71 #[.int .i64 K] w λe w'=>e=.returned (.bool true)/\w'=w):=by
  intro w;have:=gS K w;rw[decide_eq_true (by omega)] at this;exact this
 have k1:(K==1)=false:=by simp;omega
 have k2:¬K=1:=by omega
 clear hK hj;have hm:=Classical.em (cap=1);rcases hm with hm|hm
 ·obtain⟨hte,hn0⟩:=nO g off cap n hcap hm;have vw:=az hte;clear hte;subst hm hn0;go_enter func57,ntmps57
  go_wp2_with fail
  go_quiet (fail)
  go_wp2_with fail
  refine(HK.out _ ((Kp.refl _ _).drewN nq)).mono ?_;rintro e w1 ⟨rfl,rfl⟩;have bC:Kp w (w.drewN nq) (λ_=>False):=(Kp.refl _ _).drewN nq;generalize w.drewN nq=w0 at *
  go_wp2_with fail
  refine(HP.out _).mono ?_;rintro e w1 ⟨rfl,rfl⟩
  go_wp2_with fail
  refine(HM.out _).mono ?_;rintro e w2 ⟨act,rfl,hk2,hp2⟩;obtain⟨fn,ff,fc,rfl⟩:=j6 hp2;have yl:=az hk2;have Gp:=az hp2;clear hk2 hp2
  go_wp2_with fail
  refine(HS.out _ _ _ _ _ bC yl.out Gp.out).mono ?_;rintro e w4 ⟨k,rfl,hq⟩;have HQ:=az hq;clear hq;go_wp2;go_ret2;exact⟨_,_,rfl,vw.out.symm,HQ.out⟩
 ·have vw:=az (nP g off cap n hm);have zj:¬(1:Int)=(cap:Int):=by omega
  have Mj:¬(cap:Int)=1:=by omega
  have KP:¬(cap:Int)-1=0:=by omega
  have Tb:¬cap-1=0:=by omega
  have Tc:(n:Int)+1<=(cap:Int):=by omega
  have Td:(1:Int)<=(n:Int)+1:=by omega
  go_enter func57,ntmps57
  go_wp2_with fail
  go_quiet (fail)
  go_wp2_with fail
  refine(HK.out _ ((Kp.refl _ _).drewN nq)).mono ?_;rintro e w1 ⟨rfl,rfl⟩;have bC:Kp w (w.drewN nq) (λ_=>False):=(Kp.refl _ _).drewN nq;generalize w.drewN nq=w0 at *
  go_wp2_with fail
  refine(HP.out _).mono ?_;rintro e w1 ⟨rfl,rfl⟩
  go_wp2_with fail
  refine(HM.out _).mono ?_;rintro e w2 ⟨act,rfl,hk2,hp2⟩;obtain⟨fn,ff,fc,rfl⟩:=j6 hp2;have yl:=az hk2;have Gp:=az hp2;clear hk2 hp2
  go_wp2_with fail
  refine(HS.out _ _ _ _ _ bC yl.out Gp.out).mono ?_;rintro e w4 ⟨k,rfl,hq⟩;have HQ:=az hq;clear hq;go_wp2;go_ret2;exact⟨_,_,rfl,vw.out.symm,HQ.out⟩
theorem Nh (HH:∀w0,Kp w w0 (λ_=>False)->Calls prog 74 #[pt bk,.string t] w0 λe w'=>e=.returned (.bool true)/\w'=w0)(K:Int)(hK:K=0)(Q:Int->World->Prop)(HS:∀w0 w1 db bb nb,Kp w w0 (λ_=>False)->Kp w0 w1 (λ_=>False)->BD (New w0) w1 db 125 #[.func (.func 120) #[] #[pt bb,pt nb]]->BD (New w0) w1 bb 78 #[pt bk]->BD (New w0) w1 nb 9 #[.string t]->Calls prog 68 #[pt rb,j4 db] w1 λe w'=>∃k,e=.returned (.int .i64 k)/\Q k w')(hcap:n+1<=cap)(Ta:off+cap<=maxLen)(c1:w.cell? ⟨g,off,none⟩=some (.string t))(HK:RL w t K):Gb bk rb g off cap n w (λrv k w'=>rv=DC g off cap n/\Q k w'):=by
 unfold Gb;have HK:=az HK;subst hK;have HH:=az HH;have HS:=az HS;have HP:Hid (∀w,Calls prog 71 #[.int .i64 0] w λe w'=>e=.returned (.bool false)/\w'=w):=by
  intro w;have:=gS 0 w;rw[decide_eq_false (by omega)] at this;exact this
 have hm:=Classical.em (cap=1);rcases hm with hm|hm
 ·obtain⟨hte,hn0⟩:=nO g off cap n hcap hm;have vw:=az hte;clear hte;subst hm hn0;go_enter func57,ntmps57
  go_wp2_with fail
  go_quiet (fail)
  go_wp2_with fail
  refine(HK.out _ ((Kp.refl _ _).drewN nq)).mono ?_;rintro e w1 ⟨rfl,rfl⟩;have bC:Kp w (w.drewN nq) (λ_=>False):=(Kp.refl _ _).drewN nq;generalize w.drewN nq=w0 at *
  go_wp2_with fail
  refine(HP.out _).mono ?_;rintro e w1 ⟨rfl,rfl⟩
  go_wp2_with fail
  refine(HH.out _ bC).mono ?_;rintro e w1 ⟨rfl,rfl⟩
  go_wp2_with fail
  refine(JM _ _ _).mono ?_;rintro e w2 ⟨db,bb,nb,rfl,hk2,q1,q2,q3⟩;have yl:=az hk2;have yN:=az q1;have wP:=az q2;have WJ:=az q3;clear hk2 q1 q2 q3
  go_wp2_with fail
  refine(HS.out _ _ _ _ _ bC yl.out yN.out wP.out WJ.out).mono ?_;rintro e w4 ⟨k,rfl,hq⟩;have HQ:=az hq;clear hq;go_wp2;go_ret2;exact⟨_,_,rfl,vw.out.symm,HQ.out⟩
 ·have vw:=az (nP g off cap n hm);have zj:¬(1:Int)=(cap:Int):=by omega
  have Mj:¬(cap:Int)=1:=by omega
  have KP:¬(cap:Int)-1=0:=by omega
  have Tb:¬cap-1=0:=by omega
  have Tc:(n:Int)+1<=(cap:Int):=by omega
  have Td:(1:Int)<=(n:Int)+1:=by omega
  go_enter func57,ntmps57
  go_wp2_with fail
  go_quiet (fail)
  go_wp2_with fail
  refine(HK.out _ ((Kp.refl _ _).drewN nq)).mono ?_;rintro e w1 ⟨rfl,rfl⟩;have bC:Kp w (w.drewN nq) (λ_=>False):=(Kp.refl _ _).drewN nq;generalize w.drewN nq=w0 at *
  go_wp2_with fail
  refine(HP.out _).mono ?_;rintro e w1 ⟨rfl,rfl⟩
  go_wp2_with fail
  refine(HH.out _ bC).mono ?_;rintro e w1 ⟨rfl,rfl⟩
  go_wp2_with fail
  refine(JM _ _ _).mono ?_;rintro e w2 ⟨db,bb,nb,rfl,hk2,q1,q2,q3⟩;have yl:=az hk2;have yN:=az q1;have wP:=az q2;have WJ:=az q3;clear hk2 q1 q2 q3
  go_wp2_with fail
  refine(HS.out _ _ _ _ _ bC yl.out yN.out wP.out WJ.out).mono ?_;rintro e w4 ⟨k,rfl,hq⟩;have HQ:=az hq;clear hq;go_wp2;go_ret2;exact⟨_,_,rfl,vw.out.symm,HQ.out⟩
end
abbrev AO (t:Tok):Bool:=eB.any (· == t)||t==eH||t==fu||t==dS
theorem Fv {l:Tok}(hl:l≠[])(hc:¬l=dK):
  (∃n,bA l=some n/\fF l=1)\/(bA l=none/\∃j,aN.findIdx? (· == l)=some j/\fF l=(j:Int)+2/\j<16)\/(bA l=none/\aN.findIdx? (· == l)=none/\AO l=true/\19<=fF l)\/(bA l=none/\aN.findIdx? (· == l)=none/\AO l=false/\fF l=0):=by
 cases hn:bA l with
 | some n=>exact .inl ⟨n,rfl,by unfold fF;rw[hn];rfl⟩
 | none=>
  right
  have hk:fF l=(cL l:Int):=by unfold fF;rw[hn];rfl
  cases hp:aN.findIdx? (· == l) with
  | some j=>
   obtain⟨h1,h2⟩:=rK hl hp;exact .inl ⟨rfl,j,rfl,by rw[hk,h1];simp,h2⟩
  | none=>
   right
   rw[hk];by_cases h0:cL l=0
   ·have hs:=tL hl h0;refine .inr ⟨rfl,rfl,?_,by rw[h0];rfl⟩;have h2:eB.any (· == l)=false:=by rw[List.any_eq_false];intro x hx;rw[hs x (by simp[cG,hx])];decide
    have h3:∀k,k∈cG->(l==k)=false:=λk hk=>by
     have:=hs k hk;rw[beq_eq_false_iff_ne] at this ⊢;exact λe=>this e.symm
    unfold AO;rw[h2,h3 eH (by decide),h3 fu (by decide),h3 dS (by decide)];rfl
   ·left
    have hs:=kK rfl h0;have hlt:cL l<34:=by
     rcases Nat.lt_or_ge (cL l) 34 with h|h
     ·exact h
     ·rw[List.getElem?_eq_none (by exact h)] at hs;cases hs
    clear hk;generalize cL l=i at hs h0 hlt ⊢;have:i=1\/i=2\/i=3\/i=4\/i=5\/i=6\/i=7\/i=8\/i=9\/i=10\/i=11\/i=12\/i=13\/i=14\/i=15\/i=16\/i=17\/i=18\/i=19\/i=20\/i=21\/i=22\/i=23\/i=24\/i=25\/i=26\/i=27\/i=28\/i=29\/i=30\/i=31\/i=32\/i=33:=by omega
    rcases this with rfl|rfl|rfl|rfl|rfl|rfl|rfl|rfl|rfl|rfl|rfl|rfl|rfl|rfl|rfl|rfl|rfl|rfl|rfl|rfl|rfl|rfl|rfl|rfl|rfl|rfl|rfl|rfl|rfl|rfl|rfl|rfl|rfl
    all_goals
     injection hs with hs;subst hs
     first
      | (exact ax rfl hl)
      | (exact ax rfl hc)
      | (exact ax hp (by decide))
      | (exact⟨rfl,rfl,by decide,by decide⟩)
theorem Fw {g:Nat}{t:Tok}{s s2:St}(h:fV g t s=some s2)(h2:s2.e=0):s.steps+1<=s2.steps:=by
 unfold fV at h
 repeat' split at h
 all_goals first
  | (injection h with h;subst h;first|(exact ax (show(4:Int)=0 from h2) (by decide))|(exact ax (show(3:Int)=0 from h2) (by decide))|(simp only[St.aO,St.nA,St.tP];omega))
  | (have k:=cH _ _ _ _ _ ‹aI g _ _=some _›;injection h with h;subst h;simp only[oM,St.aO] at k;omega)
  | cases h
section
variable {B:Nat}{W w w':World}{xb rb mb:Nat}{m m':MS}{D D':GD}{s:St}
def QRf (B:Nat)(W w:World)(xb rb mb:Nat)(m:MS)(D:GD)(g:Nat)(st0:Int)(s':St)(left:Bool)(rv:Value)(k:Int)(w':World):Prop:=
 ∃s1 nX a n p,rv=.slice a n p/\k=s1.e/\bu B W xb rb mb w m D s1 w'/\(s1.e=0->st0+1<=s1.steps)/\(s1.e≠0->s'=s1)/\(s1.e=0->fC (aC w') rv nX/\(∀t∈nX,okW t)/\nX.length<=1000/\aI g (aT (aD nX)) s1=some (s',left))
theorem vI (h:PR B W w xb rb mb m D s)(he:s.e=0)(hk:Kp w w' (λ_=>False))(v:Value)(s2 s':St)(hs':s'=if s.step.e=0 then s2 else s.step)
  (hact:s.step.e=0->∀w1 m1,PR B W w1 xb rb mb m1 (kj D w.heap.size w'.heap.size) s.step->mN xb rb mb w' w1 m m1 (kj D w.heap.size w'.heap.size) (kj D w.heap.size w'.heap.size)->(∀b t c,BD (kj D w.heap.size w'.heap.size).d w' b t c->BD (kj D w.heap.size w'.heap.size).d w1 b t c)->bp v (pt rb) w1 λe w2=>e=.returned (.int .i64 s2.e)/\bu B W xb rb mb w1 m1 (kj D w.heap.size w'.heap.size) s2 w2):
  Calls prog 68 #[pt rb,v] w' λe w2=>∃k,e=.returned (.int .i64 k)/\k=s'.e/\bu B W xb rb mb w m D s' w2/\∀b c,aC w b 9 c->aC w2 b 9 c:=by
 obtain⟨h1,t1⟩:=h.grow hk;refine(ve h1 he v s2 s' hs' (λq w1 m1 p1 q1=>hact q w1 m1 p1 q1 (h1.fD q1))).mono ?_;rintro e w2 ⟨rfl,hp⟩;refine⟨_,rfl,rfl,hp.step t1,λb c hb=>?_⟩;obtain⟨m2,D2,h2,t2⟩:=hp;exact h1.Wz t2 (hk.blk hb (by simp))
theorem JP (g off cap n:Nat):∃a k p,DC g off cap n=.slice a k p:=by
 unfold DC;split <;> exact⟨_,_,_,rfl⟩
theorem rfX (hE:Env B W)(g:Nat)(hW:∀g',g'<g->QW B W g')(h:PR B W w xb rb mb m D s)(he:s.e=0)(t:ByteArray)(ws:List ByteArray)(v:Value)(ht:fC (aC w) v (t::ws))(ho:∀t'∈t::ws,okW t')(hl:(t::ws).length<=1000)(s':St)(left:Bool)(hx:aI (g+1) (aT (aD (t::ws))) s=some (s',left)):
  Calls prog 57 #[pt m.bk,pt rb,v] w λe w'=>∃rv k,e=.returned (.tuple #[rv,.int .i64 k])/\QRf B W w xb rb mb m D g s.steps s' left rv k w':=by
 have hsp:=hE.at h;have hot:=ho t (by simp);have mR:=h.words.aA h.book;obtain⟨gb,off,cap,rfl,⟨cur,hB,h0⟩,hcap,hT⟩:=ht.head;have hcap2:off+cap<=maxLen:=by
  rcases ht with⟨q,_⟩|⟨g1,off1,jd,aaF,e1,q1,q2,q3,q4⟩
  ·cases q
  ·injection e1 with e1 e2 e3;injection e1 with e1;injection e1 with e1 e4;subst e3 e4;exact q3
 have c1:w.cell? ⟨gb,off,none⟩=some (.string t):=hB.cell h0;have HK:RL w t (fF t.data.toList):=λw0 hk=>zn t w0 hot (hsp.kp hk (by simp));have HH:∀w0,Kp w w0 (λ_=>False)->Calls prog 74 #[pt m.bk,.string t] w0 λe w'=>e=.returned (.bool (s.aA t.data.toList))/\w'=w0:=λw0 hk=>K4 _ _ _ _ (mR.kp hk (by simp) (by simp)) t (ai hot.2 (by decide));have vX:ws.length<=1000:=by simp only[aq] at hl;omega
 have how:∀t'∈ws,okW t':=λt' h'=>ho t' (by simp[h']);have hne:t.data.toList≠[]:=by have:=hot.1;rw[ByteArray.toList_eq] at this;exact this
 have aY:aI (g+1) (aT (t.data.toList::aD ws)) s=some (s',left):=hx;by_cases hc:t.data.toList=dK
 ·have kG:fF t.data.toList=18:=by rw[hc];decide
  rw[hc,tO _ _ _ he] at aY
  cases hp:jY g s (aD ws) with
  | none=>rw[hp] at aY;cases aY
  | some res=>
   rw[hp] at aY;refine JN m.bk rb gb off cap ws.length t w _ kG _ ?_ hcap hcap2 c1 HK;intro w0 bC;obtain⟨h0,t0⟩:=h.kp bC;refine(Nc hE h0 he ws _ (cO (λb c hb=>bC.blk hb (by simp)) hT) how vX g res hp).mono ?_;intro e w1 hq;rcases res with er|⟨nm,b,r1⟩
   ·obtain⟨q1,rfl,q2⟩:=hq;injection aY with aY;injection aY with e1 e2;subst e1;exact⟨_,_,rfl,s.err er,[],none,0,0,rfl,rfl,q2.step t0,λe=>ax e q1,λ_=>rfl,λe=>ax e q1⟩
   ·obtain⟨a,n,p,eZ,rfl,q1,q2,q3,q4,q5⟩:=hq;refine⟨_,_,rfl,Nb s nm b,eZ,a,n,p,rfl,rfl,q1.step t0,λ_=>?_,λe=>?_,λe=>⟨q2,q4,q5,?_⟩⟩
    ·unfold Nb;split <;> simp only[St.Eh,St.aO] <;> omega
    ·unfold Nb at e ⊢;by_cases hs:s.step.e=0
     ·rw[ag hs] at e;exact ax (show(s.step.set nm b).e=0 from hs) e
     ·have aY:(if s.step.e≠0 then some (s.step,false) else aI g (aT r1) (s.step.set nm b))=some (s',left):=aY;rw[ag hs] at aY;injection aY with aY;injection aY with e1 e2;rw[af hs];exact e1.symm
    ·unfold Nb at e ⊢;by_cases hs:s.step.e=0
     ·have aY:(if s.step.e≠0 then some (s.step,false) else aI g (aT r1) (s.step.set nm b))=some (s',left):=aY;rw[af (by simpa using hs)] at aY;rw[ag hs,q3];exact aY
     ·rw[af hs] at e;exact ax e hs
 ·rw[zy _ _ _ _ he hc] at aY
  cases hq:fV g t.data.toList s with
  | none=>rw[hq] at aY;cases aY
  | some s2=>
   rw[hq] at aY;have aY:aI g (aT (aD ws)) s2=some (s',left):=aY;have hend:s2.e≠0->s'=s2:=λe=>by
    cases g with
    | zero=>cases aY
    | succ g=>rw[yh _ _ _ e] at aY;injection aY with aY;injection aY with e1 e2;exact e1.symm
   obtain⟨ra,rn,rp,hrf⟩:=JP gb off cap ws.length;have done:∀rv k w1,(rv=DC gb off cap ws.length/\k=s2.e/\bu B W xb rb mb w m D s2 w1/\∀b c,aC w b 9 c->aC w1 b 9 c)->QRf B W w xb rb mb m D g s.steps s' left rv k w1:=by
    rintro rv k w1 ⟨rfl,rfl,hp,hb⟩;exact⟨s2,ws,ra,rn,rp,hrf,rfl,hp,λe=>Fw hq e,hend,λ_=>⟨cO (λb c h=>hb b c h) hT,how,vX,aY⟩⟩
   have bad:∀(er:Int) rv k w1,er≠0->s2=s.err er->(rv=.slice none 0 0/\k=er/\Kp w w1 (λ_=>False))->QRf B W w xb rb mb m D g s.steps s' left rv k w1:=by
    rintro er rv k w1 her rfl ⟨rfl,rfl,hk⟩;exact⟨s.err k,[],none,0,0,rfl,rfl,h.WA her hk,λe=>ax e her,hend,λe=>ax e her⟩
   unfold fV at hq;rcases Fv hne hc with⟨n,h1,kG⟩|⟨h1,j,h2,kG,hj⟩|⟨h1,h2,h3,kG⟩|⟨h1,h2,h3,kG⟩
   ·rw[h1] at hq;have hs2:s2=if s.step.e=0 then s.step.put n else s.step:=by
     by_cases hs:s.step.e=0
     ·rw[ag hs];have hq:(if s.step.e≠0 then some s.step else some (s.step.put n))=some s2:=hq;rw[af (by simpa using hs)] at hq;injection hq with hq;exact hq.symm
     ·rw[af hs];have hq:(if s.step.e≠0 then some s.step else some (s.step.put n))=some s2:=hq;rw[ag hs] at hq;injection hq with hq;exact hq.symm
    refine(RM m.bk rb gb off cap ws.length t w _ kG n (λk w1=>k=s2.e/\bu B W xb rb mb w m D s2 w1/\∀b c,aC w b 9 c->aC w1 b 9 c) (λw=>Gs t n w (by rw[ByteArray.toList_eq];exact h1) hot.2) ?_ hcap hcap2 c1 HK).mono ?_
    ·intro w0 bC;refine vI h he (bC.alloc _) _ (s.step.put n) s2 hs2 ?_;intro eX w1 m1 p1 t1 kd;exact Q4 p1 eX n (iJ h1) w0.heap.size (kd _ _ _ ⟨Or.inr ⟨bC.size,by rw[World.size_alloc];exact Nat.lt_succ_self _⟩,aC.new _ _ _⟩).2
    ·rintro e w1 ⟨rv,k,rfl,Ni⟩;exact⟨rv,k,rfl,done rv k w1 Ni⟩
   ·rw[h1,h2] at hq;have hs2:s2=if s.step.e=0 then s.step.word j else s.step:=by
     by_cases hs:s.step.e=0
     ·rw[ag hs];have hq:(if s.step.e≠0 then some s.step else some (s.step.word j))=some s2:=hq;rw[af (by simpa using hs)] at hq;injection hq with hq;exact hq.symm
     ·rw[af hs];have hq:(if s.step.e≠0 then some s.step else some (s.step.word j))=some s2:=hq;rw[ag hs] at hq;injection hq with hq;exact hq.symm
    refine(JO m.bk rb gb off cap ws.length t w _ j hj kG (λk w1=>k=s2.e/\bu B W xb rb mb w m D s2 w1/\∀b c,aC w b 9 c->aC w1 b 9 c) ?_ hcap hcap2 c1 HK).mono ?_
    ·intro w0 w1 fn ff fc bC hk1 hp;refine vI h he (bC.trans hk1) _ (s.step.word j) s2 hs2 ?_;intro eX w2 m1 p1 t1 kd;exact Du hE.glo p1 eX j _ (iX (λb t c hb=>kd b t c ⟨Or.inr ⟨ai bC.size hb.1,hb.2.lt⟩,hb.2⟩) hp)
    ·rintro e w1 ⟨rv,k,rfl,Ni⟩;exact⟨rv,k,rfl,done rv k w1 Ni⟩
   ·rw[h1,h2] at hq
    have hq:(if AO t.data.toList=true then some (s.err 4) else if s.aA t.data.toList=false then some (s.err 3) else if s.step.e≠0 then some s.step else match aI g (gB t.data.toList) s.step with
     | none=>none
     | some (s2,_)=>some s2)=some s2:=hq
    rw[ag h3] at hq;injection hq with hq;refine(Nf m.bk rb gb off cap ws.length t w _ kG hcap hcap2 c1 HK).mono ?_;rintro e w1 ⟨rv,k,rfl,Ni⟩;exact⟨rv,k,rfl,bad 4 rv k w1 (by decide) hq.symm Ni⟩
   ·rw[h1,h2] at hq
    have hq:(if AO t.data.toList=true then some (s.err 4) else if s.aA t.data.toList=false then some (s.err 3) else if s.step.e≠0 then some s.step else match aI g (gB t.data.toList) s.step with
     | none=>none
     | some (s2,_)=>some s2)=some s2:=hq
    rw[af (by rw[h3];decide)] at hq
    cases hkn:s.aA t.data.toList with
    | false=>
     rw[hkn] at HH;rw[ag hkn] at hq;injection hq with hq;refine(Ng m.bk rb gb off cap ws.length t w HH _ kG hcap hcap2 c1 HK).mono ?_;rintro e w1 ⟨rv,k,rfl,Ni⟩;exact⟨rv,k,rfl,bad 3 rv k w1 (by decide) hq.symm Ni⟩
    | true=>
     rw[hkn] at HH;rw[af (by rw[hkn];decide)] at hq;refine(Nh m.bk rb gb off cap ws.length t w HH _ kG (λk w1=>k=s2.e/\bu B W xb rb mb w m D s2 w1/\∀b c,aC w b 9 c->aC w1 b 9 c) ?_ hcap hcap2 c1 HK).mono ?_
     ·intro w0 w1 db bb nb bC hk1 b1 b2 b3;have key:∃s3,s2=(if s.step.e=0 then s3 else s.step)/\(s.step.e=0->∃left,aI g (gB t.data.toList) s.step=some (s3,left)):=by
       by_cases hs:s.step.e=0
       ·rw[af (by simpa using hs)] at hq
        cases hc:aI g (gB t.data.toList) s.step with
        | none=>rw[hc] at hq;cases hq
        | some p=>
         obtain⟨s3,l3⟩:=p;rw[hc] at hq;injection hq with hq;exact⟨s3,by rw[ag hs];exact hq.symm,λ_=>⟨l3,rfl⟩⟩
       ·rw[ag hs] at hq;injection hq with hq;exact⟨s,by rw[af hs];exact hq.symm,λe=>ax e hs⟩
      obtain⟨s3,hs3,hcall⟩:=key;refine vI h he (bC.trans hk1) _ s3 s2 hs3 ?_;intro eX w2 m1 p1 t1 kd;obtain⟨l3,hcc⟩:=hcall eX;have kd':∀b t c,BD (New w0) w1 b t c->BD (kj D w.heap.size w1.heap.size).d w2 b t c:=λb t c hb=>kd b t c ⟨Or.inr ⟨ai bC.size hb.1,hb.2.lt⟩,hb.2⟩
      match g,hcc,hW with
      | 0,hcc,_=>cases hcc
      | 1,hcc,_=>
       rw[qA] at hcc
       split at hcc
       ·cases hcc
       ·cases hcc
      | g' + 1+1,hcc,hW=>
       exact O1 g' (hW g' (by omega)) p1 eX db bb nb t hot.2 (kd' _ _ _ b1) (by rw[t1.bk];exact kd' _ _ _ b2) (kd' _ _ _ b3) s3 l3 hcc
     ·rintro e w1 ⟨rv,k,rfl,Ni⟩;exact⟨rv,k,rfl,done rv k w1 Ni⟩
end
end
end Go.Proofs.YteainaiebcphlaaGreatDoor
