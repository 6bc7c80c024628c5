import Derived.Test.YteainaiebcphlaaGreatDoorY21
import Derived.Test.YteainaiebcphlaaGreatDoorY19
import Derived.Handy
namespace Go.Proofs.YteainaiebcphlaaGreatDoor
set_option maxRecDepth 1000000
set_option maxHeartbeats 4000000
set_option linter.all false
section
open Go.RowKit
theorem TokAt.head {w:World} {v:Value} {t:ByteArray} {ws:List ByteArray} (h:TokAt (Blk w) v (t :: ws)):∃ g off cap,v=.slice (some ⟨g,off,none⟩) (ws.length+1) cap/\(∃ cur,Blk w g 9 cur/\cur[off]? = some (.string t))/\ws.length+1<=cap/\TokAt (Blk w) (if cap=1 then .slice (some ⟨g,off,none⟩) ws.length 0 else .slice (some ⟨g,off+1,none⟩) ws.length (cap - 1)) ws:=by
 rcases h with⟨h0,_⟩|⟨g,off,cap,cur,rfl,hg,h1,h2,h3,h4⟩
 ·cases h0
 ·refine⟨g,off,cap,rfl,⟨cur,hg,by have:=h4 0 (by simp);simpa using this⟩,h1,?_⟩;simp only[List.length_cons] at h1
  split
  ·have hz:ws=[]:=List.length_eq_zero_iff.1 (by omega);exact .inl ⟨hz,some ⟨g,off,none⟩,0,by rw[hz];rfl⟩
  ·refine .inr ⟨g,off+1,cap - 1,cur,rfl,hg,by omega,by omega,by omega,fun i hi=>?_⟩;have:=h4 (i+1) (by simpa using hi);rw[show off+1+i=off+(i+1) by omega];simpa using this
section
variable {B:Nat} {W w:World} {xb rb mb:Nat} {m:MS} {D:GD} {s:St}
theorem defineNil (w:World) (m:MS) (rb:Nat) (ao:Option Addr) (cap:Nat):
  Calls Tryz.prog 73 #[pt m.bk,pt rb,.slice ao 0 cap] w fun e w'=>e=.returned (.tuple #[.slice none 0 0,.int .i64 4])/\Kp w w' (fun _=>False):=by
 go_enter Tryz.func73,Tryz.ntmps73;go_wp2;go_ret2;exact⟨rfl,(Kp.refl _ _).alloc _⟩
theorem defineBad (hE:Env B W) (h:PR B W w xb rb mb m D s) (t:ByteArray) (ws:List ByteArray) (v:Value) (ht:TokAt (Blk w) v (t :: ws)) (hl:ws.length+1<=1000) (hn:isName t.data.toList=false):
  Calls Tryz.prog 73 #[pt m.bk,pt rb,v] w fun e w'=>e=.returned (.tuple #[.slice none 0 0,.int .i64 4])/\Kp w w' (fun _=>False):=by
 have hsp:=hE.at h;have hk0:=(Kp.refl w (fun _=>False)).alloc (.cells #[pt m.bk] 78);have HN:=hide (nameM t (w.alloc (.cells #[pt m.bk] 78)) (hsp.kp hk0 (by simp)));rw[hn] at HN;obtain⟨g,off,cap,rfl,⟨cur,hB,h0⟩,hcap,hT⟩:=ht.head;have c0:w.cell? ⟨g,off,none⟩=some (.string t):=hB.cell h0;have c1:(w.alloc (.cells #[pt m.bk] 78)).cell? ⟨g,off,none⟩=some (.string t):=(hB.alloc _).cell h0;clear hB h0;clear hT ht h hE hsp hn;go_enter Tryz.func73,Tryz.ntmps73
 go_wp2_with fail
 refine HN.out.mono ?_;rintro e w1 ⟨rfl,rfl⟩;go_wp2;go_ret2;exact⟨rfl,hk0⟩
end
section
variable (bk rb:Nat) (g off cap n:Nat) (t:ByteArray) (w:World)
def WD:World:=(w.alloc (.cells #[pt bk] 78)).alloc (.cells #[.string t] 9)
abbrev tkV:Value:=.slice (some ⟨g,off,none⟩) (n+1) cap
abbrev tkR:Value:=if cap=1 then .slice (some ⟨g,off,none⟩) n 0 else .slice (some ⟨g,off+1,none⟩) n (cap - 1)
theorem defineGo (kn:Bool) (nd:Nat) (mb:Nat) {hh bl:Value} (hB:Blk w bk 106 #[.map (some mb),hh,bl]) (hcap:n+1<=cap) (hco:off+cap<=maxLen) (c1:(w.alloc (.cells #[pt bk] 78)).cell? ⟨g,off,none⟩=some (.string t))
  (HN:Calls Tryz.prog 114 #[.string t] (w.alloc (.cells #[pt bk] 78)) fun e w'=>e=.returned (.bool true)/\w'=(w.alloc (.cells #[pt bk] 78)))
  (HH:Calls Tryz.prog 74 #[pt bk,.string t] (WD bk t w) fun e w'=>e=.returned (.bool kn)/\w'=WD bk t w)
  (HL:(Builtin.len_ #[104] 3 #[.map (some mb)]).run Tryz.prog (WD bk t w)=.ok (.int .i64 nd) (WD bk t w)) (h30:kn=true\/nd < 30)
  (R:World->Value->Value->Int->World->Prop) (Q:Value->Int->World->Prop)
  (hR:∀ w0,Kp w w0 (fun _=>False)->Calls Tryz.prog 115 #[tkR g off cap n,.func (.func 74) #[pt bk] #[]] w0 fun x w1=>Kp w0 w1 (fun _=>False)/\∃ a1 n1 p1 a2 n2 p2 why,x=.returned (.tuple #[.slice a1 n1 p1,.slice a2 n2 p2,.int .i64 why])/\R w0 (.slice a1 n1 p1) (.slice a2 n2 p2) why w1)
  (hS:∀ w0 w1 w2 iv rv ib,R w0 iv rv 0 w1->Kp w w1 (fun _=>False)->w.heap.size<=ib->Kp w1 w2 (fun k=>k=ib)->(ib < w0.heap.size\/w1.heap.size<=ib)->(∀ c,¬ Blk w1 ib 9 c)->Blk w2 w.heap.size 78 #[pt bk]->Blk w2 (w.heap.size+1) 9 #[.string t]->Blk w2 ib 108 #[iv] ->
   Calls Tryz.prog 68 #[pt rb,.func (.func 116) #[] #[pt w.heap.size,pt (w.heap.size+1),pt ib]] w2 fun e w'=>∃ k,e=.returned (.int .i64 k)/\Q rv k w'):
  Calls Tryz.prog 73 #[pt bk,pt rb,tkV g off cap n] w fun e w'=>∃ rv k,e=.returned (.tuple #[rv,.int .i64 k])/\(Q rv k w'\/(k ≠ 0/\rv=.slice none 0 0/\Kp w w' (fun _=>False)/\∃ w0 w1 iv rv,R w0 iv rv k w1)):=by
 have HN:=hide HN;have HH:=hide HH;have hk1:Kp w (WD bk t w) (fun _=>False):=((Kp.refl w (fun _=>False)).alloc _).alloc _;have hc8:(WD bk t w).cell? ⟨bk,0,none⟩=some (.map (some mb)):=(hk1.blk hB (by simp)).cell rfl;have hb1:Blk (WD bk t w) w.heap.size 78 #[pt bk]:=(Blk.new w _ _).alloc _;have hb2:Blk (WD bk t w) (w.heap.size+1) 9 #[.string t]:=by have:=Blk.new (w.alloc (.cells #[pt bk] 78)) #[.string t] 9;rw[World.size_alloc] at this;exact this
 have hc9:(WD bk t w).cell? ⟨w.heap.size,0,none⟩=some (pt bk):=hb1.cell rfl;have hc10:(WD bk t w).cell? ⟨w.heap.size+1,0,none⟩=some (.string t):=hb2.cell rfl;have HR:=hide hR;have HS:=hide hS;have H30:=hide h30;have HSZ:Hid ((WD bk t w).heap.size=w.heap.size+2):=by show _=_;unfold WD;simp[World.size_alloc]
 have hs1:w.heap.size < (WD bk t w).heap.size:=by rw[HSZ.out];omega
 have hs2:¬ w.heap.size=(WD bk t w).heap.size:=by omega
 have hs3:¬ (WD bk t w).heap.size=w.heap.size:=by omega
 clear hR hS hB h30;go_enter Tryz.func73,Tryz.ntmps73
 go_wp2_with fail
 refine HN.out.mono ?_;rintro e w1 ⟨rfl,rfl⟩
 go_wp2_with fail
 refine HH.out.mono ?_;rintro e w1 ⟨rfl,rfl⟩;generalize hWD:WD bk t w=w2 at *;have HRX:∀ tk,tkR g off cap n=tk->Hid (∀ w0,Kp w w0 (fun _=>False)->Calls Tryz.prog 115 #[tk,.func (.func 74) #[pt bk] #[]] w0 fun x w1=>Kp w0 w1 (fun _=>False)/\∃ a1 n1 p1 a2 n2 p2 why,x=.returned (.tuple #[.slice a1 n1 p1,.slice a2 n2 p2,.int .i64 why])/\R w0 (.slice a1 n1 p1) (.slice a2 n2 p2) why w1):=by
  rintro tk rfl;exact HR
 clear HR;have HSX:Hid (¬ w.heap.size+1=w2.heap.size):=by rw[HSZ.out];show ¬ _;omega
 have hm:=Classical.em (cap=1);rcases hm with hm|hm
 ·have hn0:n=0:=by omega
  subst hm;subst hn0;have HR:=HRX (.slice (some ⟨g,off,none⟩) 0 0) (by unfold tkR;rw[if_pos rfl]);clear HRX
  cases kn
  ·have h30:nd < 30:=by simpa using H30.out
   have h31:¬ (30:Int)<=(nd:Int):=by omega
   go_wp2_with fail
   go_region_with (first
    | (go_at_call 115;refine (HR.out _ hk1.drew).mono ?_;rintro e w3 ⟨hkr,a1,n1,p1,a2,n2,p2,why,rfl,hq⟩;have HQ:=hide hq;have HK:=hide hkr;clear hq hkr)
    | (go_at_call 115;refine (HR.out _ (hk1.drew.alloc _)).mono ?_;rintro e w3 ⟨hkr,a1,n1,p1,a2,n2,p2,why,rfl,hq⟩;have HQ:=hide hq;have HK:=hide hkr;have ub:=hkr.blk (Blk.new w2.drew #[Value.slice none 0 0] 108) (by simp);have hsd:w2.drew.heap.size=w2.heap.size:=rfl;rw[hsd] at ub;have u1:=ub.cell (o:=0) rfl;have f1:=ub.free 0;clear hq hkr))
   all_goals
    by_cases hw:why=0
    ·subst hw
     go_wp2_with fail
     first
      | refine (HS.out _ w3 (w3.alloc (.cells #[.slice a1 n1 p1] 108)) _ _ w3.heap.size HQ.out (hk1.drew.trans HK.out) (hk1.drew.trans HK.out).size ((Kp.refl _ _).alloc _) (.inr (Nat.le_refl _)) (fun c hc=>Nat.lt_irrefl _ hc.lt) ((HK.out.blk hb1.drew (by simp)).alloc _) ((HK.out.blk hb2.drew (by simp)).alloc _) (Blk.new _ _ _)).mono ?_
      | refine (HS.out _ w3 (w3.setCell ⟨w2.heap.size,0,none⟩ (.slice a1 n1 p1)) _ _ w2.heap.size HQ.out ((hk1.drew.alloc _).trans HK.out) (Nat.le_of_lt hs1) (Kp.one _ _ _ _) (.inl (by rw[World.size_alloc];exact Nat.lt_succ_self _)) (fun c hc=>absurd (hc.inj ub).1 (by decide)) ((HK.out.blk (hb1.drew.alloc _) (by simp)).setOther hs2 _) ((HK.out.blk (hb2.drew.alloc _) (by simp)).setOther HSX.out _) (ub.set 0 _)).mono ?_
     rintro e w4 ⟨k,rfl,hq⟩;have HQ4:=hide hq;clear hq;go_wp2;go_ret2;exact⟨_,_,rfl,.inl HQ4.out⟩
    ·have hw1:(why != 0)=true:=by simpa using hw
     have HW0:=hide hw;clear hw;go_wp2;go_ret2
     first
      | exact⟨_,_,rfl,.inr ⟨HW0.out,rfl,(hk1.drew.trans HK.out).alloc _,_,_,_,_,HQ.out⟩⟩
      | exact⟨_,_,rfl,.inr ⟨HW0.out,rfl,Kp.newer ((hk1.drew.alloc _).trans HK.out) (Kp.one _ _ _ _) (Nat.le_of_lt hs1),_,_,_,_,HQ.out⟩⟩
  ·go_wp2_with fail
   go_region_with (first
    | (go_at_call 115;refine (HR.out _ hk1.drew).mono ?_;rintro e w3 ⟨hkr,a1,n1,p1,a2,n2,p2,why,rfl,hq⟩;have HQ:=hide hq;have HK:=hide hkr;clear hq hkr)
    | (go_at_call 115;refine (HR.out _ (hk1.drew.alloc _)).mono ?_;rintro e w3 ⟨hkr,a1,n1,p1,a2,n2,p2,why,rfl,hq⟩;have HQ:=hide hq;have HK:=hide hkr;have ub:=hkr.blk (Blk.new w2.drew #[Value.slice none 0 0] 108) (by simp);have hsd:w2.drew.heap.size=w2.heap.size:=rfl;rw[hsd] at ub;have u1:=ub.cell (o:=0) rfl;have f1:=ub.free 0;clear hq hkr))
   all_goals
    by_cases hw:why=0
    ·subst hw
     go_wp2_with fail
     first
      | refine (HS.out _ w3 (w3.alloc (.cells #[.slice a1 n1 p1] 108)) _ _ w3.heap.size HQ.out (hk1.drew.trans HK.out) (hk1.drew.trans HK.out).size ((Kp.refl _ _).alloc _) (.inr (Nat.le_refl _)) (fun c hc=>Nat.lt_irrefl _ hc.lt) ((HK.out.blk hb1.drew (by simp)).alloc _) ((HK.out.blk hb2.drew (by simp)).alloc _) (Blk.new _ _ _)).mono ?_
      | refine (HS.out _ w3 (w3.setCell ⟨w2.heap.size,0,none⟩ (.slice a1 n1 p1)) _ _ w2.heap.size HQ.out ((hk1.drew.alloc _).trans HK.out) (Nat.le_of_lt hs1) (Kp.one _ _ _ _) (.inl (by rw[World.size_alloc];exact Nat.lt_succ_self _)) (fun c hc=>absurd (hc.inj ub).1 (by decide)) ((HK.out.blk (hb1.drew.alloc _) (by simp)).setOther hs2 _) ((HK.out.blk (hb2.drew.alloc _) (by simp)).setOther HSX.out _) (ub.set 0 _)).mono ?_
     rintro e w4 ⟨k,rfl,hq⟩;have HQ4:=hide hq;clear hq;go_wp2;go_ret2;exact⟨_,_,rfl,.inl HQ4.out⟩
    ·have hw1:(why != 0)=true:=by simpa using hw
     have HW0:=hide hw;clear hw;go_wp2;go_ret2
     first
      | exact⟨_,_,rfl,.inr ⟨HW0.out,rfl,(hk1.drew.trans HK.out).alloc _,_,_,_,_,HQ.out⟩⟩
      | exact⟨_,_,rfl,.inr ⟨HW0.out,rfl,Kp.newer ((hk1.drew.alloc _).trans HK.out) (Kp.one _ _ _ _) (Nat.le_of_lt hs1),_,_,_,_,HQ.out⟩⟩
 have HR:=HRX (.slice (some ⟨g,off+1,none⟩) n (cap - 1)) (by unfold tkR;rw[if_neg hm]);have hm3:¬ (1:Int)=(cap:Int):=by omega
 have hm4:¬ (cap:Int)=1:=by omega
 have hm5:¬ (cap:Int) - 1=0:=by omega
 have hm6:¬ cap - 1=0:=by omega
 have hm7:(n:Int)+1<=(cap:Int):=by omega
 have hm8:(1:Int)<=(n:Int)+1:=by omega
 clear HRX
 cases kn
 ·have h30:nd < 30:=by simpa using H30.out
  have h31:¬ (30:Int)<=(nd:Int):=by omega
  go_wp2_with fail
  go_region_with (first
   | (go_at_call 115;refine (HR.out _ hk1.drew).mono ?_;rintro e w3 ⟨hkr,a1,n1,p1,a2,n2,p2,why,rfl,hq⟩;have HQ:=hide hq;have HK:=hide hkr;clear hq hkr)
   | (go_at_call 115;refine (HR.out _ (hk1.drew.alloc _)).mono ?_;rintro e w3 ⟨hkr,a1,n1,p1,a2,n2,p2,why,rfl,hq⟩;have HQ:=hide hq;have HK:=hide hkr;have ub:=hkr.blk (Blk.new w2.drew #[Value.slice none 0 0] 108) (by simp);have hsd:w2.drew.heap.size=w2.heap.size:=rfl;rw[hsd] at ub;have u1:=ub.cell (o:=0) rfl;have f1:=ub.free 0;clear hq hkr))
  all_goals
   by_cases hw:why=0
   ·subst hw
    go_wp2_with fail
    first
     | refine (HS.out _ w3 (w3.alloc (.cells #[.slice a1 n1 p1] 108)) _ _ w3.heap.size HQ.out (hk1.drew.trans HK.out) (hk1.drew.trans HK.out).size ((Kp.refl _ _).alloc _) (.inr (Nat.le_refl _)) (fun c hc=>Nat.lt_irrefl _ hc.lt) ((HK.out.blk hb1.drew (by simp)).alloc _) ((HK.out.blk hb2.drew (by simp)).alloc _) (Blk.new _ _ _)).mono ?_
     | refine (HS.out _ w3 (w3.setCell ⟨w2.heap.size,0,none⟩ (.slice a1 n1 p1)) _ _ w2.heap.size HQ.out ((hk1.drew.alloc _).trans HK.out) (Nat.le_of_lt hs1) (Kp.one _ _ _ _) (.inl (by rw[World.size_alloc];exact Nat.lt_succ_self _)) (fun c hc=>absurd (hc.inj ub).1 (by decide)) ((HK.out.blk (hb1.drew.alloc _) (by simp)).setOther hs2 _) ((HK.out.blk (hb2.drew.alloc _) (by simp)).setOther HSX.out _) (ub.set 0 _)).mono ?_
    rintro e w4 ⟨k,rfl,hq⟩;have HQ4:=hide hq;clear hq;go_wp2;go_ret2;exact⟨_,_,rfl,.inl HQ4.out⟩
   ·have hw1:(why != 0)=true:=by simpa using hw
    have HW0:=hide hw;clear hw;go_wp2;go_ret2
    first
     | exact⟨_,_,rfl,.inr ⟨HW0.out,rfl,(hk1.drew.trans HK.out).alloc _,_,_,_,_,HQ.out⟩⟩
     | exact⟨_,_,rfl,.inr ⟨HW0.out,rfl,Kp.newer ((hk1.drew.alloc _).trans HK.out) (Kp.one _ _ _ _) (Nat.le_of_lt hs1),_,_,_,_,HQ.out⟩⟩
 ·go_wp2_with fail
  go_region_with (first
   | (go_at_call 115;refine (HR.out _ hk1.drew).mono ?_;rintro e w3 ⟨hkr,a1,n1,p1,a2,n2,p2,why,rfl,hq⟩;have HQ:=hide hq;have HK:=hide hkr;clear hq hkr)
   | (go_at_call 115;refine (HR.out _ (hk1.drew.alloc _)).mono ?_;rintro e w3 ⟨hkr,a1,n1,p1,a2,n2,p2,why,rfl,hq⟩;have HQ:=hide hq;have HK:=hide hkr;have ub:=hkr.blk (Blk.new w2.drew #[Value.slice none 0 0] 108) (by simp);have hsd:w2.drew.heap.size=w2.heap.size:=rfl;rw[hsd] at ub;have u1:=ub.cell (o:=0) rfl;have f1:=ub.free 0;clear hq hkr))
  all_goals
   by_cases hw:why=0
   ·subst hw
    go_wp2_with fail
    first
     | refine (HS.out _ w3 (w3.alloc (.cells #[.slice a1 n1 p1] 108)) _ _ w3.heap.size HQ.out (hk1.drew.trans HK.out) (hk1.drew.trans HK.out).size ((Kp.refl _ _).alloc _) (.inr (Nat.le_refl _)) (fun c hc=>Nat.lt_irrefl _ hc.lt) ((HK.out.blk hb1.drew (by simp)).alloc _) ((HK.out.blk hb2.drew (by simp)).alloc _) (Blk.new _ _ _)).mono ?_
     | refine (HS.out _ w3 (w3.setCell ⟨w2.heap.size,0,none⟩ (.slice a1 n1 p1)) _ _ w2.heap.size HQ.out ((hk1.drew.alloc _).trans HK.out) (Nat.le_of_lt hs1) (Kp.one _ _ _ _) (.inl (by rw[World.size_alloc];exact Nat.lt_succ_self _)) (fun c hc=>absurd (hc.inj ub).1 (by decide)) ((HK.out.blk (hb1.drew.alloc _) (by simp)).setOther hs2 _) ((HK.out.blk (hb2.drew.alloc _) (by simp)).setOther HSX.out _) (ub.set 0 _)).mono ?_
    rintro e w4 ⟨k,rfl,hq⟩;have HQ4:=hide hq;clear hq;go_wp2;go_ret2;exact⟨_,_,rfl,.inl HQ4.out⟩
   ·have hw1:(why != 0)=true:=by simpa using hw
    have HW0:=hide hw;clear hw;go_wp2;go_ret2
    first
     | exact⟨_,_,rfl,.inr ⟨HW0.out,rfl,(hk1.drew.trans HK.out).alloc _,_,_,_,_,HQ.out⟩⟩
     | exact⟨_,_,rfl,.inr ⟨HW0.out,rfl,Kp.newer ((hk1.drew.alloc _).trans HK.out) (Kp.one _ _ _ _) (Nat.le_of_lt hs1),_,_,_,_,HQ.out⟩⟩
end
end
section
open Go.RowKit
section
variable {B:Nat} {W w w':World} {xb rb mb:Nat} {m m':MS} {D D':GD} {s:St}
theorem PR.blk9 (h:PR B W w xb rb mb m D s) (ht:PTo xb rb mb w w' m m' D D') {b:Nat} {c:Array Value} (hb:Blk w b 9 c):Blk w' b 9 c:=by
 obtain⟨ns,hi,_⟩:=h.inv;refine ht.wt.kp.blk hb ?_;rintro (((e|e)|e)|((e|e)|e))
 ·subst e;exact absurd (hb.inj hi.xblk).1 (by decide)
 ·subst e;exact absurd (hb.inj hi.rblk).1 (by decide)
 ·exact h.words.ne hb e.symm
 ·exact absurd (row_type hi.srow e hb) (by decide)
 ·exact absurd (row_type hi.orow e hb) (by decide)
 ·exact h.une e hb (by decide) rfl
theorem PR.erP (h:PR B W w xb rb mb m D s) {er:Int} (her:er ≠ 0):PR B W w xb rb mb m D (s.err er):=by
 obtain⟨ns,hi,_⟩:=h.inv;exact⟨⟨ns,hi,fun e=>absurd e her⟩,h.mem,h.out,h.st0,h.st1,(fun e=>absurd e her),h.dp,h.safe,h.bmb,h.book,h.words,h.sep,h.us,h.good.err her,h.ids,h.idr⟩
theorem PR.erK (h:PR B W w xb rb mb m D s) {er:Int} (her:er ≠ 0) (hk:Kp w w' (fun _=>False)):PPost B W xb rb mb w m D (s.err er) w':=
 ⟨m,D,((h.kp hk).1).erP her,(h.kp hk).2⟩
theorem PR.set (h:SGood s) {nm:Tok} {b:List It} (hcb:CBnd b):SGood (s.set nm b):=
 ⟨h.g,h.s0,h.s1,h.s2,h.d0,h.d1,h.b0,h.b1,fun d hd=>by
  rcases set_body hd with e|⟨d0,h0,e⟩
  ·rw[e];exact hcb
  ·rw[e];exact h.cb d0 h0⟩
theorem PR.lenW (h:PR B W w xb rb mb m D s) (hk:Kp w w' (fun _=>False)):(Builtin.len_ #[104] 3 #[.map (some mb)]).run Tryz.prog w'=.ok (.int .i64 (s.defs.length:Nat)) w':=by
 obtain⟨obs,DD,hwr⟩:=(h.kp hk).1.words;have:=hwr.mp.len Tryz.underlying104 3;rw[hwr.sz] at this;exact this
theorem defineFull (hE:Env B W) (h:PR B W w xb rb mb m D s) (t:ByteArray) (ws:List ByteArray) (v:Value) (ht:TokAt (Blk w) v (t :: ws)) (hot:okW t) (hn:isName t.data.toList=true) (hkn:s.known t.data.toList=false) (h30:30<=s.defs.length):
  Calls Tryz.prog 73 #[pt m.bk,pt rb,v] w fun e w'=>e=.returned (.tuple #[.slice none 0 0,.int .i64 5])/\Kp w w' (fun _=>False):=by
 have hsp:=hE.at h;have hk0:=(Kp.refl w (fun _=>False)).alloc (.cells #[pt m.bk] 78);have HN:=hide (nameM t (w.alloc (.cells #[pt m.bk] 78)) (hsp.kp hk0 (by simp)));rw[hn] at HN;have hk1:=hk0.alloc (.cells #[.string t] 9);have hbook:=(h.words.known h.book).kp hk1 (by simp) (by simp);have hc8:((w.alloc (.cells #[pt m.bk] 78)).alloc (.cells #[.string t] 9)).cell? ⟨m.bk,0,none⟩=some (.map (some mb)):=(hk1.blk h.book (by simp)).cell (o:=0) rfl;have HH:=hide (hasM _ _ _ _ hbook t (Nat.le_trans hot.2 (by decide)));rw[hkn] at HH;have HL:=h.lenW hk1;have h31:(30:Int)<=(s.defs.length:Int):=by omega
 generalize s.defs.length=nd at *;obtain⟨g,off,cap,rfl,⟨cur,hB,h0⟩,hcap,hT⟩:=ht.head;have c1:(w.alloc (.cells #[pt m.bk] 78)).cell? ⟨g,off,none⟩=some (.string t):=(hB.alloc _).cell h0;clear hB h0 hbook;clear hT ht h hE hsp hn hkn;go_enter Tryz.func73,Tryz.ntmps73
 go_wp2_with fail
 refine HN.out.mono ?_;rintro e w1 ⟨rfl,rfl⟩
 go_wp2_with fail
 refine HH.out.mono ?_;rintro e w1 ⟨rfl,rfl⟩;go_wp2;go_ret2;exact⟨rfl,hk1⟩
def stD (s:St) (nm:Tok) (b:List It):St:=if s.step.e=0 then s.step.set nm b else s.step
def QDf (B:Nat) (W w:World) (xb rb mb:Nat) (m:MS) (D:GD) (s:St) (e:Ending) (w':World):DRes->Prop
 | .error er=>er ≠ 0/\e=.returned (.tuple #[.slice none 0 0,.int .i64 er])/\PPost B W xb rb mb w m D (s.err er) w'
 | .ok (nm,b,r1)=>∃ a n p ws',e=.returned (.tuple #[.slice a n p,.int .i64 (stD s nm b).e])/\PPost B W xb rb mb w m D (stD s nm b) w'/\TokAt (Blk w') (.slice a n p) ws'/\texts ws'=r1/\(∀ t∈ws',okW t)/\ws'.length<=1000
end
end
section
open Go.RowKit
section
variable {B:Nat} {W w w':World} {xb rb mb:Nat} {m m':MS} {D D':GD} {s:St}
def RdF (w:World) (res:PRes) (w0:World) (iv rv:Value) (why:Int) (w1:World):Prop:=match res with
 | .ok (l,_,r)=>why=0/\w.heap.size<=w0.heap.size/\Items (BD (New w0) w1) iv l/\∃ a n p ws',rv=.slice a n p/\TokAt (BD (fun b=>b < w0.heap.size) w1) rv ws'/\texts ws'=r/\(∀ t∈ws',okW t)/\ws'.length<=1000
 | .error e=>e ≠ 0/\why=e
theorem wbT {g:Nat} {s:St} {r:List Tok} {nm:Tok} {b:List It} {r1:List Tok} (hl:r.length<=1000) (h:pDef g s r=some (.ok (nm,b,r1))):∃ G,wb (knowD s.defs) G false b:=pDef_wb hl h
def moreG (D:GD) (n1 n2:Nat):GD:=⟨fun b=>D.d b\/(n1<=b/\b < n2),D.u,D.r,D.tag,D.J⟩
theorem PR.gmore (h:PR B W w xb rb mb m D s) (n1 n2:Nat) (h1:∀ k,D.u k->k < n1) (h2:n2<=w.heap.size) (h3:∀ k,n1<=k->k ≠ xb/\k ≠ rb/\¬ own m.sv k/\¬ own m.ov k):PR B W w xb rb mb m (moreG D n1 n2) s:=by
 have hgl:GLe D (moreG D n1 n2) w:=⟨fun _ h=>h,fun _ _ h=>h,fun _ _=>rfl⟩;have hp:Pres D (moreG D n1 n2) w w m.bk:=fun o f c hr hc=>⟨c,rfl,rfl,rfl,rfl,rfl,hc.frame (Kp.refl w (fun _=>False)) hgl (fun b t c q=>⟨.inl q.1,q.2⟩) (by simp) (by simp) (by simp)⟩;have hW:=h.words.wds;have hw:Wds (moreG D n1 n2) w m.bk:=by
  refine⟨fun o f hr=>?_,hW.fn,fun k hu hk=>?_,hW.lt,fun k hk=>?_⟩
  ·obtain⟨c,hc⟩:=hW.ok o f hr;obtain⟨c',_,_,_,_,_,h'⟩:=hp o f c hr hc;exact⟨c',h'⟩
  ·rcases hk with q|q
   ·exact hW.ud k hu q
   ·have:=h1 k hu;omega
  ·rcases hk with q|q
   ·exact hW.dl k q
   ·omega
 exact⟨h.inv,h.mem,h.out,h.st0,h.st1,h.st,h.dp,h.safe,h.bmb,h.book,h.words.pres hp (fun _ _ h=>h) (fun _ _ h=>h) hw rfl (fun _ _ _ _ q=>q.frame (Kp.refl w (fun _=>False)) hgl (fun b t c q=>⟨.inl q.1,q.2⟩) (fun _ _ e=>e)),fun k hk=>hk.elim (h.sep k) (fun q=>⟨by omega,h3 k q.1⟩),h.us,h.good,h.ids,h.idr⟩
theorem PR.grow (h:PR B W w xb rb mb m D s) (hk:Kp w w' (fun _=>False)):PR B W w' xb rb mb m (moreG D w.heap.size w'.heap.size) s/\PTo xb rb mb w w' m m D (moreG D w.heap.size w'.heap.size):=by
 obtain⟨hr2,ht2⟩:=h.kp hk;obtain⟨ns,hi,_⟩:=h.inv;refine⟨hr2.gmore _ _ (fun k hu=>h.ult hu) (Nat.le_refl _) (fun k hk2=>⟨?_,?_,fun e=>?_,fun e=>?_⟩),⟨ht2.wt,fun k hk=>.inl hk,fun k hk=>hk.imp id (fun q=>q.1),fun _ _ h=>h,rfl,rfl⟩⟩
 ·have:=hi.xblk.lt;omega
 ·have:=hi.rblk.lt;omega
 ·have:=own_lt hi.srow e;omega
 ·have:=own_lt hi.orow e;omega
theorem defineX (hE:Env B W) (h:PR B W w xb rb mb m D s) (he:s.e=0) (ws:List ByteArray) (v:Value) (ht:TokAt (Blk w) v ws) (ho:∀ t∈ws,okW t) (hl:ws.length<=1000) (g:Nat) (res:DRes) (hres:pDef g s (texts ws)=some res):
  Calls Tryz.prog 73 #[pt m.bk,pt rb,v] w fun e w'=>QDf B W w xb rb mb m D s e w' res:=by
 have hlt:(texts ws).length<=1000:=by simpa [texts] using hl
 have hres0:=hres;rw[pDef_eq] at hres
 cases ws with
 | nil=>
  obtain⟨ao,cap,rfl⟩:=ht.form;have hr:res=.error 4:=by injection hres with e;exact e.symm
  subst hr;refine (defineNil w m rb ao cap).mono ?_;rintro e w' ⟨rfl,hk⟩;exact⟨by decide,rfl,h.erK (by decide) hk⟩
 | cons t ws=>
  have hres:(if isName t.data.toList=false then some (.error 4) else if knownD s.defs t.data.toList=false/\30<=s.defs.length then some (.error 5) else
   match pRead (knownD s.defs) g ⟨false,0,[kSemi],[]⟩ (texts ws) with
   | none=>none
   | some (.error e)=>some (.error e)
   | some (.ok (b,_,r1))=>some (.ok (t.data.toList,b,r1)))=some res:=hres
  have hot:=ho t (by simp)
  split at hres
  ·rename_i hn
   injection hres with hr;subst hr;refine (defineBad hE h t ws v ht (by simpa using hl) hn).mono ?_;rintro e w' ⟨rfl,hk⟩;exact⟨by decide,rfl,h.erK (by decide) hk⟩
  rename_i hn
  have hn:isName t.data.toList=true:=by simpa using hn
  split at hres
  ·rename_i hf
   injection hres with hr;subst hr;refine (defineFull hE h t ws v ht hot hn hf.1 hf.2).mono ?_;rintro e w' ⟨rfl,hk⟩;exact⟨by decide,rfl,h.erK (by decide) hk⟩
  rename_i hf
  have hf:s.known t.data.toList=true\/s.defs.length < 30:=by
   cases hkk:s.known t.data.toList with
   | true=>exact .inl rfl
   | false=>right;have:=(not_and.1 hf) hkk;omega
  cases hp:pRead (knownD s.defs) g ⟨false,0,[kSemi],[]⟩ (texts ws) with
  | none=>rw[hp] at hres;cases hres
  | some pr=>
   rw[hp] at hres;have hsp:=hE.at h;have hk0:=(Kp.refl w (fun _=>False)).alloc (.cells #[pt m.bk] 78);have hk1:=hk0.alloc (.cells #[.string t] 9);have hbook:=(h.words.known h.book);have HN:=nameM t (w.alloc (.cells #[pt m.bk] 78)) (hsp.kp hk0 (by simp));rw[hn] at HN;have HH:=hasM _ _ _ _ (hbook.kp hk1 (by simp) (by simp)) t (Nat.le_trans hot.2 (by decide));have HL:=h.lenW hk1;obtain⟨gb,off,cap,rfl,⟨cur,hB,h0⟩,hcap,hT⟩:=ht.head;have c1:(w.alloc (.cells #[pt m.bk] 78)).cell? ⟨gb,off,none⟩=some (.string t):=(hB.alloc _).cell h0;have hcap2:off+cap<=maxLen:=by
    rcases ht with⟨q,_⟩|⟨g1,off1,cap1,cur1,e1,q1,q2,q3,q4⟩
    ·cases q
    ·injection e1 with e1 e2 e3;injection e1 with e1;injection e1 with e1 e4;subst e3;subst e4;exact q3
   have hwl:ws.length<=1000:=by simp only[List.length_cons] at hl;omega
   refine (defineGo m.bk rb gb off cap ws.length t w (s.known t.data.toList) s.defs.length mb h.book hcap hcap2 c1 HN HH HL hf (RdF w pr)
    (fun rv k w'=>∃ l tt r,pr=.ok (l,tt,r)/\k=(stD s t.data.toList l).e/\PPost B W xb rb mb w m D (stD s t.data.toList l) w'/\∃ a n p ws',rv=.slice a n p/\TokAt (Blk w') rv ws'/\texts ws'=r/\(∀ t∈ws',okW t)/\ws'.length<=1000) ?_ ?_).mono ?_
   ·intro w0 hkw;refine (readM g w0 m.bk mb s.known _ ws (hbook.kp hkw (by simp) (by simp)) (TokAt_mono (fun b c hc=>hkw.blk hc (by simp)) hT) hwl (fun t' ht'=>ho t' (by simp[ht'])) (hsp.kp hkw (by simp)) pr hp).mono ?_;rintro x w1 ⟨hk,hq⟩;refine⟨hk,?_⟩;rcases pr with er|⟨l,tt,r⟩
    ·obtain⟨q1,q2⟩:=hq;exact⟨_,_,_,_,_,_,_,q2,q1,rfl⟩
    ·obtain⟨v1,a,n,p,ws',rfl,hI,hT',h3,h4,h5⟩:=hq;obtain⟨xs,hrow,-⟩:=hI.out;obtain⟨a9,p9,rfl⟩:=hrow.form;exact⟨_,_,_,_,_,_,_,rfl,rfl,hkw.size,hI,_,_,_,ws',rfl,hT',h3,h4,h5⟩
   ·intro w0 w1 w2 iv rv ib hR hkw1 hib hk12 hib2 hib9 b1 b2 b3;rcases pr with er|⟨l,tt,r⟩
    ·exact absurd hR.2.symm hR.1
    obtain⟨-,hw0,hI,a,n,p,ws',rfl,hT',h3,h4,h5⟩:=hR;have hkw2:Kp w w2 (fun _=>False):=Kp.newer hkw1 hk12 hib;obtain⟨hr2,ht2⟩:=h.kp hkw2;have hdr:pDef g s (texts (t :: ws))=some (.ok (t.data.toList,l,r)):=by
     rw[hres0];exact hres.symm
    obtain⟨hD2,ht02⟩:=h.grow hkw2;have hst:s.step.defs=s.defs:=step_defs s;have hI2:Items (BD (moreG D w.heap.size w2.heap.size).d w2) iv l:=hI.mono (fun b t c hb=>by
     have h1:w0.heap.size<=b:=hb.1;have h2:=hb.2.lt;have h3:=hk12.size;exact⟨.inr ⟨by omega,by omega⟩,hk12.blk hb.2 (by omega)⟩)
    have hT2:TokAt (Blk w2) (.slice a n p) ws':=TokAt_mono (fun b c hb=>hk12.blk hb.2 (fun e=>by subst e;exact hib9 c hb.2)) hT';refine (stepP hD2 he _ (s.step.set t.data.toList l) (stD s t.data.toList l) rfl ?_).mono ?_
    ·intro hse w3 m3 hr3 ht3;have hkd:=hD2.keepD ht3;have hb1:=(hkd _ _ _ ⟨Or.inr ⟨Nat.le_refl _,b1.lt⟩,b1⟩).2;have hb2:=(hkd _ _ _ ⟨Or.inr ⟨Nat.le_succ _,b2.lt⟩,b2⟩).2;have hb3:=(hkd _ _ _ ⟨Or.inr ⟨hib,b3.lt⟩,b3⟩).2;rw[<-ht3.bk] at hb1;refine (defP hr3 w.heap.size ib (w.heap.size+1) t hot.2 iv l hb1 hb3 hb2 (hI2.mono hkd) (by rw[hst];exact wbT hlt hdr) ?_ (PR.set hr3.good (pDefD_ok hlt (by rw[<-pDef_eq];exact hdr)).1) (by
      have e1:=h.ids;have e2:=h.st he;have e3:=hr3.st hse;have e4:=s.step_steps;have e5:s.step.ids=s.ids:=by unfold St.step;split <;> rfl
      show s.step.ids+1<=D.J+m3.st;omega) (pDef_ub hdr)).mono ?_
     ·rcases hf with q|q
      ·left;unfold St.known St.find at q ⊢;rw[hst];exact q
      ·right;rw[hst];exact q
     ·rintro e w' ⟨rfl,hp⟩;exact⟨by rw[show (s.step.set t.data.toList l).e=0 from hse],hp⟩
    ·rintro e w' ⟨rfl,hp⟩;refine⟨_,rfl,l,tt,r,rfl,rfl,hp.step ht02,a,n,p,ws',rfl,?_,h3,h4,h5⟩;obtain⟨m',D',hr',ht'⟩:=hp;exact TokAt_mono (fun b c hb=>hD2.blk9 ht' hb) hT2
   ·rintro e w' ⟨rv,k,rfl,hq|⟨hk0,rfl,hkk,w0,w1,iv,rv2,hR⟩⟩
    ·obtain⟨l,tt,r,rfl,rfl,hpp,a,n,p,ws',rfl,hT',h3,h4,h5⟩:=hq;injection hres with hr;subst hr;exact⟨a,n,p,ws',rfl,hpp,hT',h3,h4,h5⟩
    ·rcases pr with er|⟨l,tt,r⟩
     ·obtain⟨her,rfl⟩:=hR;injection hres with hr;subst hr;exact⟨her,rfl,h.erK her hkk⟩
     ·exact absurd hR.1 hk0
end
end
section
open Go.RowKit
section
variable (bk rb:Nat) (g off cap n:Nat) (t:ByteArray) (w:World)
theorem tkR_one (n:Nat) (h:n+1<=cap) (h1:cap=1):tkR g off cap n=.slice (some ⟨g,off,none⟩) 0 0/\n=0:=by
 have:n=0:=by omega
 subst this;subst h1;exact⟨rfl,rfl⟩
theorem tkR_two (h1:¬ cap=1):tkR g off cap n=.slice (some ⟨g,off+1,none⟩) n (cap - 1):=by
 unfold tkR;rw[if_neg h1]
def KdT (w:World) (t:ByteArray) (K:Int):Prop:=∀ w0,Kp w w0 (fun _=>False)->Calls Tryz.prog 67 #[.string t] w0 fun e w'=>e=.returned (.int .i64 K)/\w'=w0
def RfC (bk rb g off cap n:Nat) (w:World) (Q:Value->Int->World->Prop):Prop:=Calls Tryz.prog 57 #[pt bk,pt rb,tkV g off cap n] w fun e w'=>∃ rv k,e=.returned (.tuple #[rv,.int .i64 k])/\Q rv k w'
theorem callMk (w:World) (bk:Nat) (t:ByteArray):Calls Tryz.prog 75 #[pt bk,.string t] w fun e w'=>∃ db bb nb,e=.returned (fDeep db)/\Kp w w' (fun _=>False)/\BD (New w) w' db 125 #[.func (.func 120) #[] #[pt bb,pt nb]]/\BD (New w) w' bb 78 #[pt bk]/\BD (New w) w' nb 9 #[.string t]:=by
 have hmf:=mkFunc;go_enter Tryz.func75,Tryz.ntmps75;go_wp2;go_ret;exact⟨_,_,_,rfl,(((Kp.refl _ _).alloc _).alloc _).alloc _,⟨nw w 2,Blk.new2 w _ _ _ _⟩,⟨nw w 0,((Blk.new w _ _).alloc _).alloc _⟩,⟨nw w 1,(Blk.new1 w _ _ _).alloc _⟩⟩
theorem rf_form (K:Int) (hK:19<=K) (hcap:n+1<=cap) (hco:off+cap<=maxLen) (c1:w.cell? ⟨g,off,none⟩=some (.string t)) (HK:KdT w t K):RfC bk rb g off cap n w (fun rv k w'=>rv=.slice none 0 0/\k=4/\Kp w w' (fun _=>False)):=by
 unfold RfC;have HK:=hide HK;have HP:Hid (∀ w,Calls Tryz.prog 71 #[.int .i64 K] w fun e w'=>e=.returned (.bool false)/\w'=w):=by
  intro w;have:=kindPlain K w;rw[decide_eq_false (by omega)] at this;exact this
 have k1:(K == 1)=false:=by simp;omega
 have k2:(K == 18)=false:=by simp;omega
 have k3:(K != 0)=true:=by simp;omega
 have k4:¬ K=1:=by omega
 have k5:¬ K=18:=by omega
 have k6:¬ K=0:=by omega
 clear hK;have hm:=Classical.em (cap=1);rcases hm with hm|hm
 ·obtain⟨hte,hn0⟩:=tkR_one g off cap n hcap hm;have HTE:=hide hte;clear hte;subst hm;subst hn0;go_enter Tryz.func57,Tryz.ntmps57
  go_wp2_with fail
  go_quiet (fail)
  go_wp2_with fail
  refine (HK.out _ ((Kp.refl _ _).drewN nq)).mono ?_;rintro e w1 ⟨rfl,rfl⟩;have hk0:Kp w (w.drewN nq) (fun _=>False):=(Kp.refl _ _).drewN nq;generalize w.drewN nq=w0 at *
  go_wp2_with fail
  refine (HP.out _).mono ?_;rintro e w1 ⟨rfl,rfl⟩;go_wp2;go_ret2;exact⟨_,_,rfl,rfl,rfl,hk0⟩
 ·have HTE:=hide (tkR_two g off cap n hm);have hm3:¬ (1:Int)=(cap:Int):=by omega
  have hm4:¬ (cap:Int)=1:=by omega
  have hm5:¬ (cap:Int) - 1=0:=by omega
  have hm6:¬ cap - 1=0:=by omega
  have hm7:(n:Int)+1<=(cap:Int):=by omega
  have hm8:(1:Int)<=(n:Int)+1:=by omega
  go_enter Tryz.func57,Tryz.ntmps57
  go_wp2_with fail
  go_quiet (fail)
  go_wp2_with fail
  refine (HK.out _ ((Kp.refl _ _).drewN nq)).mono ?_;rintro e w1 ⟨rfl,rfl⟩;have hk0:Kp w (w.drewN nq) (fun _=>False):=(Kp.refl _ _).drewN nq;generalize w.drewN nq=w0 at *
  go_wp2_with fail
  refine (HP.out _).mono ?_;rintro e w1 ⟨rfl,rfl⟩;go_wp2;go_ret2;exact⟨_,_,rfl,rfl,rfl,hk0⟩
theorem rf_word (HH:∀ w0,Kp w w0 (fun _=>False)->Calls Tryz.prog 74 #[pt bk,.string t] w0 fun e w'=>e=.returned (.bool false)/\w'=w0) (K:Int) (hK:K=0) (hcap:n+1<=cap) (hco:off+cap<=maxLen) (c1:w.cell? ⟨g,off,none⟩=some (.string t)) (HK:KdT w t K):RfC bk rb g off cap n w (fun rv k w'=>rv=.slice none 0 0/\k=3/\Kp w w' (fun _=>False)):=by
 unfold RfC;have HK:=hide HK;subst hK;have HH:=hide HH;have HP:Hid (∀ w,Calls Tryz.prog 71 #[.int .i64 0] w fun e w'=>e=.returned (.bool false)/\w'=w):=by
  intro w;have:=kindPlain 0 w;rw[decide_eq_false (by omega)] at this;exact this
 have hm:=Classical.em (cap=1);rcases hm with hm|hm
 ·obtain⟨hte,hn0⟩:=tkR_one g off cap n hcap hm;have HTE:=hide hte;clear hte;subst hm;subst hn0;go_enter Tryz.func57,Tryz.ntmps57
  go_wp2_with fail
  go_quiet (fail)
  go_wp2_with fail
  refine (HK.out _ ((Kp.refl _ _).drewN nq)).mono ?_;rintro e w1 ⟨rfl,rfl⟩;have hk0:Kp w (w.drewN nq) (fun _=>False):=(Kp.refl _ _).drewN nq;generalize w.drewN nq=w0 at *
  go_wp2_with fail
  refine (HP.out _).mono ?_;rintro e w1 ⟨rfl,rfl⟩
  go_wp2_with fail
  refine (HH.out _ hk0).mono ?_;rintro e w1 ⟨rfl,rfl⟩;go_wp2;go_ret2;exact⟨_,_,rfl,rfl,rfl,hk0⟩
 ·have HTE:=hide (tkR_two g off cap n hm);have hm3:¬ (1:Int)=(cap:Int):=by omega
  have hm4:¬ (cap:Int)=1:=by omega
  have hm5:¬ (cap:Int) - 1=0:=by omega
  have hm6:¬ cap - 1=0:=by omega
  have hm7:(n:Int)+1<=(cap:Int):=by omega
  have hm8:(1:Int)<=(n:Int)+1:=by omega
  go_enter Tryz.func57,Tryz.ntmps57
  go_wp2_with fail
  go_quiet (fail)
  go_wp2_with fail
  refine (HK.out _ ((Kp.refl _ _).drewN nq)).mono ?_;rintro e w1 ⟨rfl,rfl⟩;have hk0:Kp w (w.drewN nq) (fun _=>False):=(Kp.refl _ _).drewN nq;generalize w.drewN nq=w0 at *
  go_wp2_with fail
  refine (HP.out _).mono ?_;rintro e w1 ⟨rfl,rfl⟩
  go_wp2_with fail
  refine (HH.out _ hk0).mono ?_;rintro e w1 ⟨rfl,rfl⟩;go_wp2;go_ret2;exact⟨_,_,rfl,rfl,rfl,hk0⟩
theorem rf_colon (K:Int) (hK:K=18) (Q:Value->Int->World->Prop) (HD:∀ w0,Kp w w0 (fun _=>False)->Calls Tryz.prog 73 #[pt bk,pt rb,tkR g off cap n] w0 fun e w'=>∃ rv k,e=.returned (.tuple #[rv,.int .i64 k])/\Q rv k w') (hcap:n+1<=cap) (hco:off+cap<=maxLen) (c1:w.cell? ⟨g,off,none⟩=some (.string t)) (HK:KdT w t K):RfC bk rb g off cap n w Q:=by
 unfold RfC;have HK:=hide HK;subst hK;have HD:=hide HD;have HP:Hid (∀ w,Calls Tryz.prog 71 #[.int .i64 18] w fun e w'=>e=.returned (.bool false)/\w'=w):=by
  intro w;have:=kindPlain 18 w;rw[decide_eq_false (by omega)] at this;exact this
 have hm:=Classical.em (cap=1);rcases hm with hm|hm
 ·obtain⟨hte,hn0⟩:=tkR_one g off cap n hcap hm;have HTE:=hide hte;clear hte;subst hm;subst hn0;go_enter Tryz.func57,Tryz.ntmps57
  go_wp2_with fail
  go_quiet (fail)
  go_wp2_with fail
  refine (HK.out _ ((Kp.refl _ _).drewN nq)).mono ?_;rintro e w1 ⟨rfl,rfl⟩;have hk0:Kp w (w.drewN nq) (fun _=>False):=(Kp.refl _ _).drewN nq;generalize w.drewN nq=w0 at *;have HD0:=hide (HD.out w0 hk0);rw[HTE.out] at HD0
  go_wp2_with fail
  refine (HP.out _).mono ?_;rintro e w1 ⟨rfl,rfl⟩
  go_wp2_with fail
  refine HD0.out.mono ?_;rintro e w1 ⟨rv,k,rfl,hq⟩;have HQ:=hide hq;clear hq;go_wp2;go_ret2;exact⟨_,_,rfl,HQ.out⟩
 ·have HTE:=hide (tkR_two g off cap n hm);have hm3:¬ (1:Int)=(cap:Int):=by omega
  have hm4:¬ (cap:Int)=1:=by omega
  have hm5:¬ (cap:Int) - 1=0:=by omega
  have hm6:¬ cap - 1=0:=by omega
  have hm7:(n:Int)+1<=(cap:Int):=by omega
  have hm8:(1:Int)<=(n:Int)+1:=by omega
  go_enter Tryz.func57,Tryz.ntmps57
  go_wp2_with fail
  go_quiet (fail)
  go_wp2_with fail
  refine (HK.out _ ((Kp.refl _ _).drewN nq)).mono ?_;rintro e w1 ⟨rfl,rfl⟩;have hk0:Kp w (w.drewN nq) (fun _=>False):=(Kp.refl _ _).drewN nq;generalize w.drewN nq=w0 at *;have HD0:=hide (HD.out w0 hk0);rw[HTE.out] at HD0
  go_wp2_with fail
  refine (HP.out _).mono ?_;rintro e w1 ⟨rfl,rfl⟩
  go_wp2_with fail
  refine HD0.out.mono ?_;rintro e w1 ⟨rv,k,rfl,hq⟩;have HQ:=hide hq;clear hq;go_wp2;go_ret2;exact⟨_,_,rfl,HQ.out⟩
theorem rf_num (K:Int) (hK:K=1) (i:Int) (Q:Int->World->Prop) (HV:∀ w,Calls Tryz.prog 70 #[.string t] w fun e w'=>e=.returned (.int .i64 i)/\Kp w w' (fun _=>False)) (HS:∀ w0,Kp w w0 (fun _=>False)->Calls Tryz.prog 68 #[pt rb,.func (.func 95) #[] #[pt w0.heap.size]] (w0.alloc (.cells #[.int .i64 i] 2)) fun e w'=>∃ k,e=.returned (.int .i64 k)/\Q k w') (hcap:n+1<=cap) (hco:off+cap<=maxLen) (c1:w.cell? ⟨g,off,none⟩=some (.string t)) (HK:KdT w t K):RfC bk rb g off cap n w (fun rv k w'=>rv=tkR g off cap n/\Q k w'):=by
 unfold RfC;have HK:=hide HK;subst hK;have HS:=hide HS;have HV:=hide HV;have hm:=Classical.em (cap=1);rcases hm with hm|hm
 ·obtain⟨hte,hn0⟩:=tkR_one g off cap n hcap hm;have HTE:=hide hte;clear hte;subst hm;subst hn0;go_enter Tryz.func57,Tryz.ntmps57
  go_wp2_with fail
  go_quiet (fail)
  go_wp2_with fail
  refine (HK.out _ ((Kp.refl _ _).drewN nq)).mono ?_;rintro e w1 ⟨rfl,rfl⟩;have hk0:Kp w (w.drewN nq) (fun _=>False):=(Kp.refl _ _).drewN nq;generalize w.drewN nq=w0 at *
  go_wp2_with fail
  refine (HV.out _).mono ?_;rintro e w2 ⟨rfl,hk2⟩;have HK2:=hide (hk0.trans hk2);clear hk2
  go_wp2_with fail
  refine (layMk _ i).mono ?_;rintro e w3 ⟨rfl,rfl⟩
  go_wp2_with fail
  refine (HS.out _ HK2.out).mono ?_;rintro e w4 ⟨k,rfl,hq⟩;have HQ:=hide hq;clear hq;go_wp2;go_ret2;exact⟨_,_,rfl,HTE.out.symm,HQ.out⟩
 ·have HTE:=hide (tkR_two g off cap n hm);have hm3:¬ (1:Int)=(cap:Int):=by omega
  have hm4:¬ (cap:Int)=1:=by omega
  have hm5:¬ (cap:Int) - 1=0:=by omega
  have hm6:¬ cap - 1=0:=by omega
  have hm7:(n:Int)+1<=(cap:Int):=by omega
  have hm8:(1:Int)<=(n:Int)+1:=by omega
  go_enter Tryz.func57,Tryz.ntmps57
  go_wp2_with fail
  go_quiet (fail)
  go_wp2_with fail
  refine (HK.out _ ((Kp.refl _ _).drewN nq)).mono ?_;rintro e w1 ⟨rfl,rfl⟩;have hk0:Kp w (w.drewN nq) (fun _=>False):=(Kp.refl _ _).drewN nq;generalize w.drewN nq=w0 at *
  go_wp2_with fail
  refine (HV.out _).mono ?_;rintro e w2 ⟨rfl,hk2⟩;have HK2:=hide (hk0.trans hk2);clear hk2
  go_wp2_with fail
  refine (layMk _ i).mono ?_;rintro e w3 ⟨rfl,rfl⟩
  go_wp2_with fail
  refine (HS.out _ HK2.out).mono ?_;rintro e w4 ⟨k,rfl,hq⟩;have HQ:=hide hq;clear hq;go_wp2;go_ret2;exact⟨_,_,rfl,HTE.out.symm,HQ.out⟩
theorem rf_plain (K:Int) (j:Nat) (hj:j < 16) (hK:K=(j:Int)+2) (Q:Int->World->Prop) (HS:∀ w0 w1 fn ff fc,Kp w w0 (fun _=>False)->Kp w0 w1 (fun _=>False)->plainR (BD (fun k=>w0.heap.size<=k) w1) j (.func (.func fn) ff fc)->Calls Tryz.prog 68 #[pt rb,.func (.func fn) ff fc] w1 fun e w'=>∃ k,e=.returned (.int .i64 k)/\Q k w') (hcap:n+1<=cap) (hco:off+cap<=maxLen) (c1:w.cell? ⟨g,off,none⟩=some (.string t)) (HK:KdT w t K):RfC bk rb g off cap n w (fun rv k w'=>rv=tkR g off cap n/\Q k w'):=by
 unfold RfC;have HK:=hide HK;have HS:=hide HS;have HM:Hid (∀ w,Calls Tryz.prog 72 #[.int .i64 K] w fun e w'=>∃ act,e=.returned act/\Kp w w' (fun _=>False)/\plainR (BD (fun k=>w.heap.size<=k) w') j act):=fun w=>mkPlain j hj K hK w;have HP:Hid (∀ w,Calls Tryz.prog 71 #[.int .i64 K] w fun e w'=>e=.returned (.bool true)/\w'=w):=by
  intro w;have:=kindPlain K w;rw[decide_eq_true (by omega)] at this;exact this
 have k1:(K == 1)=false:=by simp;omega
 have k2:¬ K=1:=by omega
 clear hK hj;have hm:=Classical.em (cap=1);rcases hm with hm|hm
 ·obtain⟨hte,hn0⟩:=tkR_one g off cap n hcap hm;have HTE:=hide hte;clear hte;subst hm;subst hn0;go_enter Tryz.func57,Tryz.ntmps57
  go_wp2_with fail
  go_quiet (fail)
  go_wp2_with fail
  refine (HK.out _ ((Kp.refl _ _).drewN nq)).mono ?_;rintro e w1 ⟨rfl,rfl⟩;have hk0:Kp w (w.drewN nq) (fun _=>False):=(Kp.refl _ _).drewN nq;generalize w.drewN nq=w0 at *
  go_wp2_with fail
  refine (HP.out _).mono ?_;rintro e w1 ⟨rfl,rfl⟩
  go_wp2_with fail
  refine (HM.out _).mono ?_;rintro e w2 ⟨act,rfl,hk2,hp2⟩;obtain⟨fn,ff,fc,rfl⟩:=plainR_form hp2;have HK2:=hide hk2;have HP2:=hide hp2;clear hk2 hp2
  go_wp2_with fail
  refine (HS.out _ _ _ _ _ hk0 HK2.out HP2.out).mono ?_;rintro e w4 ⟨k,rfl,hq⟩;have HQ:=hide hq;clear hq;go_wp2;go_ret2;exact⟨_,_,rfl,HTE.out.symm,HQ.out⟩
 ·have HTE:=hide (tkR_two g off cap n hm);have hm3:¬ (1:Int)=(cap:Int):=by omega
  have hm4:¬ (cap:Int)=1:=by omega
  have hm5:¬ (cap:Int) - 1=0:=by omega
  have hm6:¬ cap - 1=0:=by omega
  have hm7:(n:Int)+1<=(cap:Int):=by omega
  have hm8:(1:Int)<=(n:Int)+1:=by omega
  go_enter Tryz.func57,Tryz.ntmps57
  go_wp2_with fail
  go_quiet (fail)
  go_wp2_with fail
  refine (HK.out _ ((Kp.refl _ _).drewN nq)).mono ?_;rintro e w1 ⟨rfl,rfl⟩;have hk0:Kp w (w.drewN nq) (fun _=>False):=(Kp.refl _ _).drewN nq;generalize w.drewN nq=w0 at *
  go_wp2_with fail
  refine (HP.out _).mono ?_;rintro e w1 ⟨rfl,rfl⟩
  go_wp2_with fail
  refine (HM.out _).mono ?_;rintro e w2 ⟨act,rfl,hk2,hp2⟩;obtain⟨fn,ff,fc,rfl⟩:=plainR_form hp2;have HK2:=hide hk2;have HP2:=hide hp2;clear hk2 hp2
  go_wp2_with fail
  refine (HS.out _ _ _ _ _ hk0 HK2.out HP2.out).mono ?_;rintro e w4 ⟨k,rfl,hq⟩;have HQ:=hide hq;clear hq;go_wp2;go_ret2;exact⟨_,_,rfl,HTE.out.symm,HQ.out⟩
theorem rf_call (HH:∀ w0,Kp w w0 (fun _=>False)->Calls Tryz.prog 74 #[pt bk,.string t] w0 fun e w'=>e=.returned (.bool true)/\w'=w0) (K:Int) (hK:K=0) (Q:Int->World->Prop) (HS:∀ w0 w1 db bb nb,Kp w w0 (fun _=>False)->Kp w0 w1 (fun _=>False)->BD (New w0) w1 db 125 #[.func (.func 120) #[] #[pt bb,pt nb]]->BD (New w0) w1 bb 78 #[pt bk]->BD (New w0) w1 nb 9 #[.string t]->Calls Tryz.prog 68 #[pt rb,fDeep db] w1 fun e w'=>∃ k,e=.returned (.int .i64 k)/\Q k w') (hcap:n+1<=cap) (hco:off+cap<=maxLen) (c1:w.cell? ⟨g,off,none⟩=some (.string t)) (HK:KdT w t K):RfC bk rb g off cap n w (fun rv k w'=>rv=tkR g off cap n/\Q k w'):=by
 unfold RfC;have HK:=hide HK;subst hK;have HH:=hide HH;have HS:=hide HS;have HP:Hid (∀ w,Calls Tryz.prog 71 #[.int .i64 0] w fun e w'=>e=.returned (.bool false)/\w'=w):=by
  intro w;have:=kindPlain 0 w;rw[decide_eq_false (by omega)] at this;exact this
 have hm:=Classical.em (cap=1);rcases hm with hm|hm
 ·obtain⟨hte,hn0⟩:=tkR_one g off cap n hcap hm;have HTE:=hide hte;clear hte;subst hm;subst hn0;go_enter Tryz.func57,Tryz.ntmps57
  go_wp2_with fail
  go_quiet (fail)
  go_wp2_with fail
  refine (HK.out _ ((Kp.refl _ _).drewN nq)).mono ?_;rintro e w1 ⟨rfl,rfl⟩;have hk0:Kp w (w.drewN nq) (fun _=>False):=(Kp.refl _ _).drewN nq;generalize w.drewN nq=w0 at *
  go_wp2_with fail
  refine (HP.out _).mono ?_;rintro e w1 ⟨rfl,rfl⟩
  go_wp2_with fail
  refine (HH.out _ hk0).mono ?_;rintro e w1 ⟨rfl,rfl⟩
  go_wp2_with fail
  refine (callMk _ _ _).mono ?_;rintro e w2 ⟨db,bb,nb,rfl,hk2,q1,q2,q3⟩;have HK2:=hide hk2;have HQ1:=hide q1;have HQ2:=hide q2;have HQ3:=hide q3;clear hk2 q1 q2 q3
  go_wp2_with fail
  refine (HS.out _ _ _ _ _ hk0 HK2.out HQ1.out HQ2.out HQ3.out).mono ?_;rintro e w4 ⟨k,rfl,hq⟩;have HQ:=hide hq;clear hq;go_wp2;go_ret2;exact⟨_,_,rfl,HTE.out.symm,HQ.out⟩
 ·have HTE:=hide (tkR_two g off cap n hm);have hm3:¬ (1:Int)=(cap:Int):=by omega
  have hm4:¬ (cap:Int)=1:=by omega
  have hm5:¬ (cap:Int) - 1=0:=by omega
  have hm6:¬ cap - 1=0:=by omega
  have hm7:(n:Int)+1<=(cap:Int):=by omega
  have hm8:(1:Int)<=(n:Int)+1:=by omega
  go_enter Tryz.func57,Tryz.ntmps57
  go_wp2_with fail
  go_quiet (fail)
  go_wp2_with fail
  refine (HK.out _ ((Kp.refl _ _).drewN nq)).mono ?_;rintro e w1 ⟨rfl,rfl⟩;have hk0:Kp w (w.drewN nq) (fun _=>False):=(Kp.refl _ _).drewN nq;generalize w.drewN nq=w0 at *
  go_wp2_with fail
  refine (HP.out _).mono ?_;rintro e w1 ⟨rfl,rfl⟩
  go_wp2_with fail
  refine (HH.out _ hk0).mono ?_;rintro e w1 ⟨rfl,rfl⟩
  go_wp2_with fail
  refine (callMk _ _ _).mono ?_;rintro e w2 ⟨db,bb,nb,rfl,hk2,q1,q2,q3⟩;have HK2:=hide hk2;have HQ1:=hide q1;have HQ2:=hide q2;have HQ3:=hide q3;clear hk2 q1 q2 q3
  go_wp2_with fail
  refine (HS.out _ _ _ _ _ hk0 HK2.out HQ1.out HQ2.out HQ3.out).mono ?_;rintro e w4 ⟨k,rfl,hq⟩;have HQ:=hide hq;clear hq;go_wp2;go_ret2;exact⟨_,_,rfl,HTE.out.symm,HQ.out⟩
end
end
end Go.Proofs.YteainaiebcphlaaGreatDoor
