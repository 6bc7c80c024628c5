import Derived.Test.YteainaiebcphlaaGreatDoorY13
import Derived.Test.YteainaiebcphlaaGreatDoorY7
import Derived.Test.YteainaiebcphlaaGreatDoorY2
import Derived.Test.YteainaiebcphlaaGreatDoorY3
import Derived.Test.YteainaiebcphlaaGreatDoorY12
namespace Go.Proofs.YteainaiebcphlaaGreatDoor
set_option maxRecDepth 1000000
set_option maxHeartbeats 4000000
set_option linter.all false
section
open Go.RowKit
theorem run_inj {g g':Nat} {j:XJ} {s:St} {r r':St × Bool} (h:xRun g j s=some r) (h':xRun g' j s=some r'):r=r':=by
 have h1:=xRun_mono (g':=g+g') (by omega) h;have h2:=xRun_mono (g':=g+g') (by omega) h';rw[h1] at h2;injection h2
theorem valid_fields {t:List UInt8} (hv:validB t=true):(Lib.fields t).length<=1000:=by
 have h1:=fields_len t [];have h3:t.length<=400:=by unfold validB at hv;rw[Bool.and_eq_true] at hv;exact of_decide_eq_true hv.1
 have:(Lib.fields t).length<=t.length+1:=h1;omega
theorem run_wf {g:Nat} {s s1:St} {left:Bool} {t:List UInt8} (hw:WFs s) (hv:validB t=true) (h:xRun g (jToks (Lib.fields t)) (freshL s)=some (s1,left)):WFs (endL s1):=by
 obtain⟨g',s2,l2,h2,hwf⟩:=line_total s hw t (valid_fields hv);have:=run_inj h h2;injection this with e1 e2;subst e1;exact hwf
def after (g:Nat) (s:St) (t:List UInt8):Option St:=(xRun g (jToks (Lib.fields t)) (freshL s)).map (fun p=>p.1)
theorem after_run {g:Nat} {s s1:St} {t:List UInt8} (h:after g s t=some s1):∃ left,xRun g (jToks (Lib.fields t)) (freshL s)=some (s1,left):=by
 unfold after at h
 cases hx:xRun g (jToks (Lib.fields t)) (freshL s) with
 | none=>rw[hx] at h;cases h
 | some p=>rw[hx] at h;injection h with h;subst h;exact⟨p.2,rfl⟩
theorem some_getD {α:Type} {o:Option α} {d:α} (h:o.isSome=true):o=some (o.getD d):=by cases o with|none=>cases h|some x=>rfl
end
section
open Go.RowKit
def St.up (s:St):St:={ s with steps:=s.steps+1 }
section
variable {f:Fr} {lp:List Int} {s s1 s2:St}
end
end
section
open Go.RowKit
def fl1:ByteArray:=⟨#[58,32,115,113,32,100,117,112,32,42,32,59,32,55,32,115,113,32,46,32,53,32,51,32,33]⟩
def fw1:ByteArray:=⟨#[52,57,32]⟩
def fl2:ByteArray:=⟨#[43]⟩
def fl3:ByteArray:=⟨#[58,32,115,113,32,59,32,48,32,51,32,33]⟩
def fsA:St:=(after 100 st0 fl1.data.toList).getD st0
def fsB0:St:=(after 100 fsA fl2.data.toList).getD st0
def fsB:St:=endL fsB0
def fsC:St:=(after 100 fsB fl3.data.toList).getD st0
theorem fa1:after 100 st0 fl1.data.toList=some fsA:=some_getD (by decide +kernel)
theorem fa2:after 100 fsA fl2.data.toList=some fsB0:=some_getD (by decide +kernel)
theorem fa3:after 100 fsB fl3.data.toList=some fsC:=some_getD (by decide +kernel)
theorem fo1:fsA.out.data.toList=fw1.data.toList/\fsA.e=0:=by decide +kernel
theorem fo2:fsB0.out.data.toList=[]/\fsB0.e=6:=by decide +kernel
theorem fo3:fsC.out.data.toList=[]/\fsC.e=0/\fsC.rs=[]:=by decide +kernel
theorem fc:cellP fsB 3=(5,0):=by decide +kernel
theorem fv1:validB fl1.data.toList=true:=by decide +kernel
theorem fv2:validB fl2.data.toList=true:=by decide +kernel
theorem fv3:validB fl3.data.toList=true:=by decide +kernel
def l2 (n m:Int):List UInt8:=[58,32,101,32,48,32] ++ Lib.itoa n ++ [32,48,32,100,111,32] ++ Lib.itoa m ++ [32,48,32,100,111,32,49,32,43,32,108,111,111,112,32,108,111,111,112,32,59,32,101,32] ++ Lib.itoa (n+1) ++ [32,48,32,115,119,97,112,32,58,32,117,32,98,101,103,105,110,32,49,32,45,32,115,119,97,112,32,49,32,43,32,115,119,97,112,32,100,117,112,32,48,32,61,32,117,110,116,105,108,32,100,114,111,112,32,59,32,117,32] ++ Lib.itoa n ++ [32,48,32,115,119,97,112,32,58,32,119,32,98,101,103,105,110,32,100,117,112,32,119,104,105,108,101,32,49,32,45,32,115,119,97,112,32,49,32,43,32,115,119,97,112,32,114,101,112,101,97,116,32,100,114,111,112,32,59,32,119]
end
section
open Go.RowKit
def tuneH (s:St) (hot built:Int):St:={ s with hot:=hot,built:=built,defs:=s.defs.map slowD }
def fastN (s:St):Nat:=(s.defs.filter (fun d=>d.fast)).length
def hlD:ByteArray:=⟨#[58,32,112,32,59,32,58,32,113,32,112,32,59,32,58,32,114,32,113,32,59,32,58,32,115,32,114,32,59,32,58,32,116,32,115,32,59]⟩
def hlT:ByteArray:=⟨#[116]⟩
def hlP:ByteArray:=⟨#[58,32,112,32,59]⟩
def hlZ:ByteArray:=⟨#[58,32,122,32,59,32,122,32,122]⟩
def nextH (s:St) (t:ByteArray):Option St:=match after 40 s t.data.toList with
 | none=>none
 | some s1=>if s1.e=0 then some s1 else none
def endH (h d n:Nat) (s:St):Bool:=(fastN s == (if h<=n then 5 else 0)) && match nextH s hlP with
 | none=>false
 | some s1=>(fastN s1 == (if h<=n then 4 - d else 0)) && match nextH s1 hlZ with
  | none=>false
  | some s2=>fastN s2 == (if h<=n then 4 - d else 0)+(if h<=2 then 1 else 0)
def chkH (h d:Nat):Nat->Nat->St->Bool
 | 0,n,s=>endH h d n s
 | k+1,n,s=>endH h d n s && match nextH s hlT with
  | none=>false
  | some s1=>chkH h d k (n+1) s1
def startH (h d:Nat):Option St:=nextH (tuneH fsC h d) hlD
def okH (h d:Nat):Bool:=match startH h d with
 | none=>false
 | some s=>chkH h d 59 0 s
end
section

theorem okH_0_1:okH 1 0=true:=by decide +kernel
theorem okH_0_2:okH 2 0=true:=by decide +kernel
theorem okH_0_3:okH 3 0=true:=by decide +kernel
theorem okH_0_4:okH 4 0=true:=by decide +kernel
theorem okH_0_5:okH 5 0=true:=by decide +kernel
theorem okH_0_6:okH 6 0=true:=by decide +kernel
theorem okH_0_7:okH 7 0=true:=by decide +kernel
theorem okH_0_8:okH 8 0=true:=by decide +kernel
theorem okH_0_9:okH 9 0=true:=by decide +kernel
theorem okH_0_10:okH 10 0=true:=by decide +kernel
theorem okH_0_11:okH 11 0=true:=by decide +kernel
theorem okH_0_12:okH 12 0=true:=by decide +kernel
theorem okH_0_13:okH 13 0=true:=by decide +kernel
theorem okH_0_14:okH 14 0=true:=by decide +kernel
theorem okH_0_15:okH 15 0=true:=by decide +kernel
theorem okH_0_16:okH 16 0=true:=by decide +kernel
theorem okH_0_17:okH 17 0=true:=by decide +kernel
theorem okH_0_18:okH 18 0=true:=by decide +kernel
theorem okH_0_19:okH 19 0=true:=by decide +kernel
theorem okH_0_20:okH 20 0=true:=by decide +kernel
theorem okH_0_21:okH 21 0=true:=by decide +kernel
theorem okH_0_22:okH 22 0=true:=by decide +kernel
theorem okH_0_23:okH 23 0=true:=by decide +kernel
theorem okH_0_24:okH 24 0=true:=by decide +kernel
theorem okH_0_25:okH 25 0=true:=by decide +kernel
theorem okH_0_26:okH 26 0=true:=by decide +kernel
theorem okH_0_27:okH 27 0=true:=by decide +kernel
theorem okH_0_28:okH 28 0=true:=by decide +kernel
theorem okH_0_29:okH 29 0=true:=by decide +kernel
theorem okH_0_30:okH 30 0=true:=by decide +kernel
theorem okH_0_31:okH 31 0=true:=by decide +kernel
theorem okH_0_32:okH 32 0=true:=by decide +kernel
theorem okH_0_33:okH 33 0=true:=by decide +kernel
theorem okH_0_34:okH 34 0=true:=by decide +kernel
theorem okH_0_35:okH 35 0=true:=by decide +kernel
theorem okH_0_36:okH 36 0=true:=by decide +kernel
theorem okH_0_37:okH 37 0=true:=by decide +kernel
theorem okH_0_38:okH 38 0=true:=by decide +kernel
theorem okH_0_39:okH 39 0=true:=by decide +kernel
theorem okH_0_40:okH 40 0=true:=by decide +kernel
theorem okHd_0 (h:Nat) (h1:1<=h) (h2:h<=40):okH h 0=true:=by
 rcases (show h=1\/h=2\/h=3\/h=4\/h=5\/h=6\/h=7\/h=8\/h=9\/h=10\/h=11\/h=12\/h=13\/h=14\/h=15\/h=16\/h=17\/h=18\/h=19\/h=20\/h=21\/h=22\/h=23\/h=24\/h=25\/h=26\/h=27\/h=28\/h=29\/h=30\/h=31\/h=32\/h=33\/h=34\/h=35\/h=36\/h=37\/h=38\/h=39\/h=40 by omega) with rfl|rfl|rfl|rfl|rfl|rfl|rfl|rfl|rfl|rfl|rfl|rfl|rfl|rfl|rfl|rfl|rfl|rfl|rfl|rfl|rfl|rfl|rfl|rfl|rfl|rfl|rfl|rfl|rfl|rfl|rfl|rfl|rfl|rfl|rfl|rfl|rfl|rfl|rfl|rfl
 ·exact okH_0_1
 ·exact okH_0_2
 ·exact okH_0_3
 ·exact okH_0_4
 ·exact okH_0_5
 ·exact okH_0_6
 ·exact okH_0_7
 ·exact okH_0_8
 ·exact okH_0_9
 ·exact okH_0_10
 ·exact okH_0_11
 ·exact okH_0_12
 ·exact okH_0_13
 ·exact okH_0_14
 ·exact okH_0_15
 ·exact okH_0_16
 ·exact okH_0_17
 ·exact okH_0_18
 ·exact okH_0_19
 ·exact okH_0_20
 ·exact okH_0_21
 ·exact okH_0_22
 ·exact okH_0_23
 ·exact okH_0_24
 ·exact okH_0_25
 ·exact okH_0_26
 ·exact okH_0_27
 ·exact okH_0_28
 ·exact okH_0_29
 ·exact okH_0_30
 ·exact okH_0_31
 ·exact okH_0_32
 ·exact okH_0_33
 ·exact okH_0_34
 ·exact okH_0_35
 ·exact okH_0_36
 ·exact okH_0_37
 ·exact okH_0_38
 ·exact okH_0_39
 ·exact okH_0_40
end
section

theorem okH_1_1:okH 1 1=true:=by decide +kernel
theorem okH_1_2:okH 2 1=true:=by decide +kernel
theorem okH_1_3:okH 3 1=true:=by decide +kernel
theorem okH_1_4:okH 4 1=true:=by decide +kernel
theorem okH_1_5:okH 5 1=true:=by decide +kernel
theorem okH_1_6:okH 6 1=true:=by decide +kernel
theorem okH_1_7:okH 7 1=true:=by decide +kernel
theorem okH_1_8:okH 8 1=true:=by decide +kernel
theorem okH_1_9:okH 9 1=true:=by decide +kernel
theorem okH_1_10:okH 10 1=true:=by decide +kernel
theorem okH_1_11:okH 11 1=true:=by decide +kernel
theorem okH_1_12:okH 12 1=true:=by decide +kernel
theorem okH_1_13:okH 13 1=true:=by decide +kernel
theorem okH_1_14:okH 14 1=true:=by decide +kernel
theorem okH_1_15:okH 15 1=true:=by decide +kernel
theorem okH_1_16:okH 16 1=true:=by decide +kernel
theorem okH_1_17:okH 17 1=true:=by decide +kernel
theorem okH_1_18:okH 18 1=true:=by decide +kernel
theorem okH_1_19:okH 19 1=true:=by decide +kernel
theorem okH_1_20:okH 20 1=true:=by decide +kernel
theorem okH_1_21:okH 21 1=true:=by decide +kernel
theorem okH_1_22:okH 22 1=true:=by decide +kernel
theorem okH_1_23:okH 23 1=true:=by decide +kernel
theorem okH_1_24:okH 24 1=true:=by decide +kernel
theorem okH_1_25:okH 25 1=true:=by decide +kernel
theorem okH_1_26:okH 26 1=true:=by decide +kernel
theorem okH_1_27:okH 27 1=true:=by decide +kernel
theorem okH_1_28:okH 28 1=true:=by decide +kernel
theorem okH_1_29:okH 29 1=true:=by decide +kernel
theorem okH_1_30:okH 30 1=true:=by decide +kernel
theorem okH_1_31:okH 31 1=true:=by decide +kernel
theorem okH_1_32:okH 32 1=true:=by decide +kernel
theorem okH_1_33:okH 33 1=true:=by decide +kernel
theorem okH_1_34:okH 34 1=true:=by decide +kernel
theorem okH_1_35:okH 35 1=true:=by decide +kernel
theorem okH_1_36:okH 36 1=true:=by decide +kernel
theorem okH_1_37:okH 37 1=true:=by decide +kernel
theorem okH_1_38:okH 38 1=true:=by decide +kernel
theorem okH_1_39:okH 39 1=true:=by decide +kernel
theorem okH_1_40:okH 40 1=true:=by decide +kernel
theorem okHd_1 (h:Nat) (h1:1<=h) (h2:h<=40):okH h 1=true:=by
 rcases (show h=1\/h=2\/h=3\/h=4\/h=5\/h=6\/h=7\/h=8\/h=9\/h=10\/h=11\/h=12\/h=13\/h=14\/h=15\/h=16\/h=17\/h=18\/h=19\/h=20\/h=21\/h=22\/h=23\/h=24\/h=25\/h=26\/h=27\/h=28\/h=29\/h=30\/h=31\/h=32\/h=33\/h=34\/h=35\/h=36\/h=37\/h=38\/h=39\/h=40 by omega) with rfl|rfl|rfl|rfl|rfl|rfl|rfl|rfl|rfl|rfl|rfl|rfl|rfl|rfl|rfl|rfl|rfl|rfl|rfl|rfl|rfl|rfl|rfl|rfl|rfl|rfl|rfl|rfl|rfl|rfl|rfl|rfl|rfl|rfl|rfl|rfl|rfl|rfl|rfl|rfl
 ·exact okH_1_1
 ·exact okH_1_2
 ·exact okH_1_3
 ·exact okH_1_4
 ·exact okH_1_5
 ·exact okH_1_6
 ·exact okH_1_7
 ·exact okH_1_8
 ·exact okH_1_9
 ·exact okH_1_10
 ·exact okH_1_11
 ·exact okH_1_12
 ·exact okH_1_13
 ·exact okH_1_14
 ·exact okH_1_15
 ·exact okH_1_16
 ·exact okH_1_17
 ·exact okH_1_18
 ·exact okH_1_19
 ·exact okH_1_20
 ·exact okH_1_21
 ·exact okH_1_22
 ·exact okH_1_23
 ·exact okH_1_24
 ·exact okH_1_25
 ·exact okH_1_26
 ·exact okH_1_27
 ·exact okH_1_28
 ·exact okH_1_29
 ·exact okH_1_30
 ·exact okH_1_31
 ·exact okH_1_32
 ·exact okH_1_33
 ·exact okH_1_34
 ·exact okH_1_35
 ·exact okH_1_36
 ·exact okH_1_37
 ·exact okH_1_38
 ·exact okH_1_39
 ·exact okH_1_40
end
section

theorem okH_2_1:okH 1 2=true:=by decide +kernel
theorem okH_2_2:okH 2 2=true:=by decide +kernel
theorem okH_2_3:okH 3 2=true:=by decide +kernel
theorem okH_2_4:okH 4 2=true:=by decide +kernel
theorem okH_2_5:okH 5 2=true:=by decide +kernel
theorem okH_2_6:okH 6 2=true:=by decide +kernel
theorem okH_2_7:okH 7 2=true:=by decide +kernel
theorem okH_2_8:okH 8 2=true:=by decide +kernel
theorem okH_2_9:okH 9 2=true:=by decide +kernel
theorem okH_2_10:okH 10 2=true:=by decide +kernel
theorem okH_2_11:okH 11 2=true:=by decide +kernel
theorem okH_2_12:okH 12 2=true:=by decide +kernel
theorem okH_2_13:okH 13 2=true:=by decide +kernel
theorem okH_2_14:okH 14 2=true:=by decide +kernel
theorem okH_2_15:okH 15 2=true:=by decide +kernel
theorem okH_2_16:okH 16 2=true:=by decide +kernel
theorem okH_2_17:okH 17 2=true:=by decide +kernel
theorem okH_2_18:okH 18 2=true:=by decide +kernel
theorem okH_2_19:okH 19 2=true:=by decide +kernel
theorem okH_2_20:okH 20 2=true:=by decide +kernel
theorem okH_2_21:okH 21 2=true:=by decide +kernel
theorem okH_2_22:okH 22 2=true:=by decide +kernel
theorem okH_2_23:okH 23 2=true:=by decide +kernel
theorem okH_2_24:okH 24 2=true:=by decide +kernel
theorem okH_2_25:okH 25 2=true:=by decide +kernel
theorem okH_2_26:okH 26 2=true:=by decide +kernel
theorem okH_2_27:okH 27 2=true:=by decide +kernel
theorem okH_2_28:okH 28 2=true:=by decide +kernel
theorem okH_2_29:okH 29 2=true:=by decide +kernel
theorem okH_2_30:okH 30 2=true:=by decide +kernel
theorem okH_2_31:okH 31 2=true:=by decide +kernel
theorem okH_2_32:okH 32 2=true:=by decide +kernel
theorem okH_2_33:okH 33 2=true:=by decide +kernel
theorem okH_2_34:okH 34 2=true:=by decide +kernel
theorem okH_2_35:okH 35 2=true:=by decide +kernel
theorem okH_2_36:okH 36 2=true:=by decide +kernel
theorem okH_2_37:okH 37 2=true:=by decide +kernel
theorem okH_2_38:okH 38 2=true:=by decide +kernel
theorem okH_2_39:okH 39 2=true:=by decide +kernel
theorem okH_2_40:okH 40 2=true:=by decide +kernel
theorem okHd_2 (h:Nat) (h1:1<=h) (h2:h<=40):okH h 2=true:=by
 rcases (show h=1\/h=2\/h=3\/h=4\/h=5\/h=6\/h=7\/h=8\/h=9\/h=10\/h=11\/h=12\/h=13\/h=14\/h=15\/h=16\/h=17\/h=18\/h=19\/h=20\/h=21\/h=22\/h=23\/h=24\/h=25\/h=26\/h=27\/h=28\/h=29\/h=30\/h=31\/h=32\/h=33\/h=34\/h=35\/h=36\/h=37\/h=38\/h=39\/h=40 by omega) with rfl|rfl|rfl|rfl|rfl|rfl|rfl|rfl|rfl|rfl|rfl|rfl|rfl|rfl|rfl|rfl|rfl|rfl|rfl|rfl|rfl|rfl|rfl|rfl|rfl|rfl|rfl|rfl|rfl|rfl|rfl|rfl|rfl|rfl|rfl|rfl|rfl|rfl|rfl|rfl
 ·exact okH_2_1
 ·exact okH_2_2
 ·exact okH_2_3
 ·exact okH_2_4
 ·exact okH_2_5
 ·exact okH_2_6
 ·exact okH_2_7
 ·exact okH_2_8
 ·exact okH_2_9
 ·exact okH_2_10
 ·exact okH_2_11
 ·exact okH_2_12
 ·exact okH_2_13
 ·exact okH_2_14
 ·exact okH_2_15
 ·exact okH_2_16
 ·exact okH_2_17
 ·exact okH_2_18
 ·exact okH_2_19
 ·exact okH_2_20
 ·exact okH_2_21
 ·exact okH_2_22
 ·exact okH_2_23
 ·exact okH_2_24
 ·exact okH_2_25
 ·exact okH_2_26
 ·exact okH_2_27
 ·exact okH_2_28
 ·exact okH_2_29
 ·exact okH_2_30
 ·exact okH_2_31
 ·exact okH_2_32
 ·exact okH_2_33
 ·exact okH_2_34
 ·exact okH_2_35
 ·exact okH_2_36
 ·exact okH_2_37
 ·exact okH_2_38
 ·exact okH_2_39
 ·exact okH_2_40
end
section

theorem okH_3_1:okH 1 3=true:=by decide +kernel
theorem okH_3_2:okH 2 3=true:=by decide +kernel
theorem okH_3_3:okH 3 3=true:=by decide +kernel
theorem okH_3_4:okH 4 3=true:=by decide +kernel
theorem okH_3_5:okH 5 3=true:=by decide +kernel
theorem okH_3_6:okH 6 3=true:=by decide +kernel
theorem okH_3_7:okH 7 3=true:=by decide +kernel
theorem okH_3_8:okH 8 3=true:=by decide +kernel
theorem okH_3_9:okH 9 3=true:=by decide +kernel
theorem okH_3_10:okH 10 3=true:=by decide +kernel
theorem okH_3_11:okH 11 3=true:=by decide +kernel
theorem okH_3_12:okH 12 3=true:=by decide +kernel
theorem okH_3_13:okH 13 3=true:=by decide +kernel
theorem okH_3_14:okH 14 3=true:=by decide +kernel
theorem okH_3_15:okH 15 3=true:=by decide +kernel
theorem okH_3_16:okH 16 3=true:=by decide +kernel
theorem okH_3_17:okH 17 3=true:=by decide +kernel
theorem okH_3_18:okH 18 3=true:=by decide +kernel
theorem okH_3_19:okH 19 3=true:=by decide +kernel
theorem okH_3_20:okH 20 3=true:=by decide +kernel
theorem okH_3_21:okH 21 3=true:=by decide +kernel
theorem okH_3_22:okH 22 3=true:=by decide +kernel
theorem okH_3_23:okH 23 3=true:=by decide +kernel
theorem okH_3_24:okH 24 3=true:=by decide +kernel
theorem okH_3_25:okH 25 3=true:=by decide +kernel
theorem okH_3_26:okH 26 3=true:=by decide +kernel
theorem okH_3_27:okH 27 3=true:=by decide +kernel
theorem okH_3_28:okH 28 3=true:=by decide +kernel
theorem okH_3_29:okH 29 3=true:=by decide +kernel
theorem okH_3_30:okH 30 3=true:=by decide +kernel
theorem okH_3_31:okH 31 3=true:=by decide +kernel
theorem okH_3_32:okH 32 3=true:=by decide +kernel
theorem okH_3_33:okH 33 3=true:=by decide +kernel
theorem okH_3_34:okH 34 3=true:=by decide +kernel
theorem okH_3_35:okH 35 3=true:=by decide +kernel
theorem okH_3_36:okH 36 3=true:=by decide +kernel
theorem okH_3_37:okH 37 3=true:=by decide +kernel
theorem okH_3_38:okH 38 3=true:=by decide +kernel
theorem okH_3_39:okH 39 3=true:=by decide +kernel
theorem okH_3_40:okH 40 3=true:=by decide +kernel
theorem okHd_3 (h:Nat) (h1:1<=h) (h2:h<=40):okH h 3=true:=by
 rcases (show h=1\/h=2\/h=3\/h=4\/h=5\/h=6\/h=7\/h=8\/h=9\/h=10\/h=11\/h=12\/h=13\/h=14\/h=15\/h=16\/h=17\/h=18\/h=19\/h=20\/h=21\/h=22\/h=23\/h=24\/h=25\/h=26\/h=27\/h=28\/h=29\/h=30\/h=31\/h=32\/h=33\/h=34\/h=35\/h=36\/h=37\/h=38\/h=39\/h=40 by omega) with rfl|rfl|rfl|rfl|rfl|rfl|rfl|rfl|rfl|rfl|rfl|rfl|rfl|rfl|rfl|rfl|rfl|rfl|rfl|rfl|rfl|rfl|rfl|rfl|rfl|rfl|rfl|rfl|rfl|rfl|rfl|rfl|rfl|rfl|rfl|rfl|rfl|rfl|rfl|rfl
 ·exact okH_3_1
 ·exact okH_3_2
 ·exact okH_3_3
 ·exact okH_3_4
 ·exact okH_3_5
 ·exact okH_3_6
 ·exact okH_3_7
 ·exact okH_3_8
 ·exact okH_3_9
 ·exact okH_3_10
 ·exact okH_3_11
 ·exact okH_3_12
 ·exact okH_3_13
 ·exact okH_3_14
 ·exact okH_3_15
 ·exact okH_3_16
 ·exact okH_3_17
 ·exact okH_3_18
 ·exact okH_3_19
 ·exact okH_3_20
 ·exact okH_3_21
 ·exact okH_3_22
 ·exact okH_3_23
 ·exact okH_3_24
 ·exact okH_3_25
 ·exact okH_3_26
 ·exact okH_3_27
 ·exact okH_3_28
 ·exact okH_3_29
 ·exact okH_3_30
 ·exact okH_3_31
 ·exact okH_3_32
 ·exact okH_3_33
 ·exact okH_3_34
 ·exact okH_3_35
 ·exact okH_3_36
 ·exact okH_3_37
 ·exact okH_3_38
 ·exact okH_3_39
 ·exact okH_3_40
end
section
open Go.RowKit
def iterH (s:St):Nat->Option St
 | 0=>some s
 | i+1=>(iterH s i).bind (fun s=>nextH s hlT)
theorem iterH_shift {s s1:St} (h:nextH s hlT=some s1):∀ i,iterH s (i+1)=iterH s1 i
 | 0=>h
 | i+1=>by
  show (iterH s (i+1)).bind (fun s=>nextH s hlT)=(iterH s1 i).bind (fun s=>nextH s hlT);rw[iterH_shift h i]
theorem chk_at (h d:Nat):∀ (k n:Nat) (s:St),chkH h d k n s=true->∀ i,i<=k->∃ s',iterH s i=some s'/\endH h d (n+i) s'=true
 | 0,n,s,hc,i,hi=>by
  obtain rfl:i=0:=by omega
  exact⟨s,rfl,hc⟩
 | k+1,n,s,hc,i,hi=>by
  unfold chkH at hc;rw[Bool.and_eq_true] at hc
  cases i with
  | zero=>exact⟨s,rfl,hc.1⟩
  | succ i=>
   have hc2:=hc.2
   split at hc2
   ·cases hc2
   ·rename_i s1 h1
    obtain⟨s',e1,e2⟩:=chk_at h d k (n+1) s1 hc2 i (by omega);exact⟨s',by rw[iterH_shift h1];exact e1,by rw[show n+(i+1)=n+1+i by omega];exact e2⟩
theorem okH_all (h d:Nat) (h1:1<=h) (h2:h<=40) (hd:d < 4):okH h d=true:=by
 rcases (show d=0\/d=1\/d=2\/d=3 by omega) with rfl|rfl|rfl|rfl
 ·exact okHd_0 h h1 h2
 ·exact okHd_1 h h1 h2
 ·exact okHd_2 h h1 h2
 ·exact okHd_3 h h1 h2
theorem hot_all (h d n:Nat) (h1:1<=h) (h2:h<=40) (hd:d < 4) (hn:n < 60):
  ∃ sD,startH h d=some sD/\(∀ i,i < n->∃ s s',iterH sD i=some s/\iterH sD (i+1)=some s'/\nextH s hlT=some s')/\∃ sN sP sZ,iterH sD n=some sN/\fastN sN=(if h<=n then 5 else 0)/\nextH sN hlP=some sP/\fastN sP=(if h<=n then 4 - d else 0)/\nextH sP hlZ=some sZ/\fastN sZ=(if h<=n then 4 - d else 0)+(if h<=2 then 1 else 0):=by
 have hk:=okH_all h d h1 h2 hd;unfold okH at hk
 split at hk
 ·cases hk
 ·rename_i sD hD
  refine⟨sD,hD,fun i hi=>?_,?_⟩
  ·obtain⟨s,e1,_⟩:=chk_at h d 59 0 sD hk i (by omega);obtain⟨s',e2,_⟩:=chk_at h d 59 0 sD hk (i+1) (by omega);refine⟨s,s',e1,e2,?_⟩;have e3:(iterH sD i).bind (fun s=>nextH s hlT)=some s':=e2;rw[e1] at e3;exact e3
  ·obtain⟨sN,e1,e2⟩:=chk_at h d 59 0 sD hk n (by omega);rw[Nat.zero_add] at e2;unfold endH at e2;rw[Bool.and_eq_true] at e2;have e3:=e2.2
   split at e3
   ·cases e3
   ·rename_i sP hP
    rw[Bool.and_eq_true] at e3;have e4:=e3.2
    split at e4
    ·cases e4
    ·rename_i sZ hZ
     exact⟨sN,sP,sZ,e1,by simpa using e2.1,hP,by simpa using e3.1,hZ,by simpa using e4⟩
theorem nextH_run {s s1:St} {t:ByteArray} (h:nextH s t=some s1):s1.e=0/\∃ left,xRun 40 (jToks (Lib.fields t.data.toList)) (freshL s)=some (s1,left):=by
 unfold nextH at h
 split at h
 ·cases h
 ·rename_i s2 ha
  split at h
  ·rename_i he
   injection h with h;subst h;exact⟨he,after_run ha⟩
  ·cases h
end
section
open Go.RowKit
def pkV (c n:Int):Int:=if c < 0 then (-(c+1)) % n else c % n
theorem pkV_lt (c n:Int) (hn:1<=n):0<=pkV c n/\pkV c n < n:=by
 unfold pkV
 split
 ·exact⟨Int.emod_nonneg _ (by omega),Int.emod_lt_of_pos _ (by omega)⟩
 ·exact⟨Int.emod_nonneg _ (by omega),Int.emod_lt_of_pos _ (by omega)⟩
theorem pickK (c n:Int) (w:World) (h0:-9223372036854775808<=c) (h1:c<=9223372036854775807) (hn:1<=n) (hn2:n<=4611686018427387904):
  Calls Tryz.prog 20 #[.int .i64 c,.int .i64 n] w fun e w'=>e=.returned (.int .i64 (pkV c n))/\w'=w:=by
 have hne:¬ n=0:=by omega
 by_cases hc:c < 0
 ·have HV:Hid (pkV c n = -((c+1).tmod n)):=by
   have h2:pkV c n=(-(c+1)) % n:=if_pos hc;unfold Hid;rw[h2,<-Int.neg_tmod,Int.tmod_eq_emod_of_nonneg (by omega)]
  go_enter Tryz.func20,Tryz.ntmps20;go_wp2;go_ret;exact⟨by rw[HV.out];rfl,rfl⟩
 ·have HV:Hid (pkV c n=c % n):=if_neg hc;have hc0:0<=c:=by omega
  clear hc;go_enter Tryz.func20,Tryz.ntmps20;go_wp2;go_ret;exact⟨by rw[HV.out];rfl,rfl⟩
theorem Kp.two {w w1 w2:World} {V V':Nat->Prop} (h:Kp w w1 (fun _=>False)) (hV:∀ k,V k->w.heap.size<=k) (t:To (fun _=>False) w1 w2 V V'):Kp w w2 (fun _=>False)/\∀ k,V' k->w.heap.size<=k:=by
 refine⟨⟨t.kp.os.trans h.os,t.kp.tape.trans h.tape,t.kp.output.trans h.output,Nat.le_trans h.size t.kp.size,fun k hk _=>(t.kp.block k (Nat.lt_of_lt_of_le hk h.size) (fun e=>?_)).trans (h.block k hk (fun e=>e))⟩,fun k hk=>?_⟩
 ·rcases e with e|e
  ·exact e
  ·have:=hV k e;omega
 ·rcases t.nx k hk with e|e
  ·exact hV k e
  ·exact Nat.le_trans h.size e
section
variable {PS PS0:World->Nat->(Nat->Prop)->St->Prop} (L:PLine PS0 PS)
include L
theorem lineK (w w0:World) (xb g:Nat) (V:Nat->Prop) (s s1:St) (left:Bool) (t:ByteArray) (hx:PS0 w xb V s) (hw:WFs s) (hk:Kp w0 w (fun _=>False)) (hV:∀ k,V k->w0.heap.size<=k) (hv:validB t.data.toList=true) (hr:xRun g (jToks (Lib.fields t.data.toList)) (freshL s)=some (s1,left)) (out:ByteArray) (er:Int) (ho:s1.out.data.toList=out.data.toList) (he:s1.e=er):
  Calls Tryz.prog 18 #[.pointer (some ⟨xb,0,none⟩),.string t] w fun e w'=>e=.returned (.tuple #[.string out,.int .i64 er])/\WFs (endL s1)/\∃ V',PS w' xb V' (endL s1)/\Kp w0 w' (fun _=>False)/\∀ k,V' k->w0.heap.size<=k:=by
 refine (L.line w xb V s s1 left g t hx hw hw.g hv hr).mono ?_;rintro e w1 ⟨rfl,V',hx1,hto⟩;have hoo:s1.out=out:=ByteArray.ext (Array.ext' ho);have:=Kp.two hk hV hto;exact⟨by rw[hoo,he],run_wf hw hv hr,V',hx1,this.1,this.2⟩
end
section
variable {PS:Int->World->Nat->(Nat->Prop)->St->Prop} {B:Nat} {W0:World} (F:PFam B W0 PS)
include F
theorem freshK (w:World) (hb:Below B W0 w) (hB:B<=w.heap.size):
  Calls Tryz.prog 16 #[] w fun e w'=>∃ xb,e=.returned (.pointer (some ⟨xb,0,none⟩))/\∃ V,PS (0+2000+2000+2000) w' xb V fsC/\WFs fsC/\Kp w w' (fun _=>False)/\∀ k,V k->w.heap.size<=k:=by
 obtain⟨l1,r1⟩:=after_run fa1;obtain⟨l2,r2⟩:=after_run fa2;obtain⟨l3,r3⟩:=after_run fa3;have q1:endL fsA=fsA:=if_pos fo1.2;have q3:endL fsC=fsC:=if_pos fo3.2.1;have L1:=F.line 0 (by decide) (by decide);have L2:=F.line (0+2000) (by decide) (by decide);have L3:=F.line (0+2000+2000) (by decide) (by decide);go_enter Tryz.func16,Tryz.ntmps16
 go_wp2_with fail
 refine ((F.con 0 (by decide)).new w hb hB).mono ?_;rintro e w1 ⟨xb,V,rfl,hx,hk1,hV⟩;have H1:=lineK L1 w1 w xb 100 V st0 fsA l1 fl1 hx WFs.first hk1 hV fv1 r1 ⟨#[52,57,32]⟩ 0 fo1.1 fo1.2
 rw[q1] at H1;have H1:=hide H1;clear hx hk1 hV
 go_wp2_with fail
 refine H1.out.mono ?_;rintro e w2 ⟨rfl,wf1,V1,hx1,hk1,hV1⟩;have H2:=hide (lineK L2 w2 w xb 100 V1 fsA fsB0 l2 fl2 hx1 wf1 hk1 hV1 fv2 r2 ⟨#[]⟩ 6 fo2.1 fo2.2);clear hx1 hk1 hV1 wf1 H1
 go_wp2_with fail
 refine H2.out.mono ?_;rintro e w3 ⟨rfl,wf2,V2,hx2,hk2,hV2⟩;have H3:=(F.con (0+2000+2000) (by decide)).cell w3 xb V2 fsB 3 hx2 ⟨by decide,by decide⟩;rw[fc] at H3;have H3:=hide H3;have HK2:=hide hk2;have HV2:=hide hV2;have HWF:=hide wf2;clear hx2 wf2 H2 hk2 hV2
 go_wp2_with fail
 refine H3.out.mono ?_;rintro e w4 ⟨rfl,V3,hx3,hto3⟩;have K3:=Kp.two HK2.out HV2.out hto3;have H4:=lineK L3 w4 w xb 100 V3 fsB fsC l3 fl3 hx3 HWF.out K3.1 K3.2 fv3 r3 ⟨#[]⟩ 0 fo3.1 fo3.2.1;rw[q3] at H4;have H4:=hide H4;clear hx3 hto3 K3 H3 HK2 HV2 HWF
 go_wp2_with fail
 refine H4.out.mono ?_;rintro e w5 ⟨rfl,wf3,V4,hx4,hk4,hV4⟩;have HF:Hid (∃ V,PS (0+2000+2000+2000) w5 xb V fsC/\WFs fsC/\Kp w w5 (fun _=>False)/\∀ k,V k->w.heap.size<=k):=⟨V4,hx4,wf3,hk4,hV4⟩;clear hx4 wf3 hk4 hV4 H4;go_wp2;go_ret;exact⟨xb,rfl,HF.out⟩
end
end
section
open Go.RowKit
theorem tuneS_known (s:St) (hot blt:Int) (t:Tok):(tuneS s hot blt).known t=s.known t:=by
 unfold St.known St.find;show ((s.defs.map slowD).findIdx? _).isSome=_;rw[List.findIdx?_map];rfl
theorem tuneS_wf {s:St} {hot blt:Int} (h:WFs s) (hb:¬ badT hot blt):WFs (tuneS s hot blt):=by
 have hg:=h.g;refine⟨⟨hg.g,hg.s0,hg.s1,hg.s2,hg.d0,hg.d1,?_,?_,fun d hd=>?_⟩,fun d hd=>?_,h.st⟩
 ·show 0<=blt;unfold badT at hb;omega
 ·show blt<=3;unfold badT at hb;omega
 ·obtain⟨d0,h0,rfl⟩:=List.mem_map.1 (show d∈s.defs.map slowD from hd);exact hg.cb d0 h0
 ·obtain⟨d0,h0,rfl⟩:=List.mem_map.1 (show d∈s.defs.map slowD from hd);obtain⟨G,hG⟩:=h.d d0 h0;exact⟨G,wb_known (fun t ht=>(tuneS_known s hot blt t).trans ht) _ _ _ hG⟩
end
section
open Go.RowKit
theorem hv_D:validB hlD.data.toList=true:=by decide +kernel
theorem hv_T:validB hlT.data.toList=true:=by decide +kernel
theorem hv_P:validB hlP.data.toList=true:=by decide +kernel
theorem hv_Z:validB hlZ.data.toList=true:=by decide +kernel
theorem pick_natH (c:Int) (n:Nat) (hn:1<=n):∃ p:Nat,pkV c n=p/\p < n:=by
 have:=pkV_lt c n (by omega);exact⟨(pkV c n).toNat,by omega,by omega⟩
theorem fastP_fastN (s:St):(fastP s).length=fastN s:=by
 unfold fastP sortN fastN;simp only[List.length_reverse,rsortN_len,List.length_map]
def HP (PS:Int->World->Nat->(Nat->Prop)->St->Prop) (W w:World) (xb:Nat) (s:St) (k:Nat):Prop:=∃ V,PS (2000 * (k:Int)) w xb V s/\WFs s/\Kp W w (fun _=>False)/\∀ b,V b->W.heap.size<=b
section
variable {PS:Int->World->Nat->(Nat->Prop)->St->Prop} {W:World} (F:PFam W.heap.size W PS)
include F
theorem lineHP {w:World} {xb k:Nat} {s s1:St} {t:ByteArray} (h:HP PS W w xb s k) (hk:k<=1000) (hv:validB t.data.toList=true) (hn:nextH s t=some s1):
  Calls Tryz.prog 18 #[.pointer (some ⟨xb,0,none⟩),.string t] w fun e w'=>e=.returned (.tuple #[.string s1.out,.int .i64 0])/\HP PS W w' xb s1 (k+1):=by
 obtain⟨V,h1,h2,h3,h4⟩:=h;obtain⟨he,left,hr⟩:=nextH_run hn;have hend:endL s1=s1:=if_pos he;refine (lineK (F.line (2000 * (k:Int)) (by omega) (by omega)) w W xb 40 V s s1 left t h1 h2 h3 h4 hv hr s1.out 0 rfl he).mono ?_;rintro e w' ⟨rfl,q1,V',q2,q3,q4⟩;rw[hend] at q1 q2;exact⟨rfl,V',by rw[show 2000 * ((k+1:Nat):Int)=2000 * (k:Int)+2000 by omega];exact q2,q1,q3,q4⟩
theorem fastHP {w:World} {xb k:Nat} {s:St} (h:HP PS W w xb s k):
  Calls Tryz.prog 24 #[.pointer (some ⟨xb,0,none⟩)] w fun e w'=>∃ ao cap,e=.returned (.slice ao (fastN s) cap)/\HP PS W w' xb s k:=by
 obtain⟨V,h1,h2,h3,h4⟩:=h;refine ((F.con (2000 * (k:Int)) (by omega)).fast w xb V s h1).mono ?_;rintro e w' ⟨v,rfl,⟨L,hrow,hL⟩,V',hx,hto,_⟩;have hl:L.length=fastN s:=by rw[<-fastP_fastN,<-hL,texts_len]
 rw[hl] at hrow;obtain⟨ao,cap,rfl⟩:=row_slice (Joins.ownsRow_le hrow (Nat.zero_le _));have q:=Kp.two h3 h4 hto;exact⟨ao,cap,rfl,V',hx,h2,q.1,q.2⟩
theorem tuneHP {w:World} {xb k:Nat} {s:St} (h:HP PS W w xb s k) (hot built:Int) (hb:¬ badT hot built):
  Calls Tryz.prog 22 #[.pointer (some ⟨xb,0,none⟩),.int .i64 hot,.int .i64 built] w fun e w'=>e=.returned (.int .i64 0)/\HP PS W w' xb (tuneS s hot built) k:=by
 obtain⟨V,h1,h2,h3,h4⟩:=h;refine ((F.con (2000 * (k:Int)) (by omega)).tune w xb V s hot built h1 hb).mono ?_;rintro e w' ⟨rfl,V',hx,hto⟩;have q:=Kp.two h3 h4 hto;exact⟨rfl,V',hx,tuneS_wf h2 hb,q.1,q.2⟩
end
section
variable {PS:Int->World->Nat->(Nat->Prop)->St->Prop}
theorem hotL (W:World) (F:PFam W.heap.size W PS) (ht mn bl:Int) (h1:In ht) (h2:In mn) (h3:In bl):
  Calls Tryz.prog 10 #[.int .i64 ht,.int .i64 mn,.int .i64 bl] W fun e w'=>e=.returned (.bool true)/\Below W.heap.size W w':=by
 obtain⟨a,ha,hal⟩:=pick_natH ht 40 (by decide);obtain⟨n,hn,hnl⟩:=pick_natH mn 60 (by decide);obtain⟨d,hd,hdl⟩:=pick_natH bl 4 (by decide);have HA:=hide (fun w=>pickK ht 40 w h1.1 h1.2 (by decide) (by decide));have HM:=hide (fun w=>pickK mn 60 w h2.1 h2.2 (by decide) (by decide));have HD:=hide (fun w=>pickK bl 4 w h3.1 h3.2 (by decide) (by decide));simp only[show ((40:Nat):Int)=40 from rfl,show ((60:Nat):Int)=60 from rfl,show ((4:Nat):Int)=4 from rfl] at ha hn hd;simp only[ha] at HA;simp only[hn] at HM;simp only[hd] at HD;clear ha hn hd h1 h2 h3;obtain⟨sD,hD,hit,sN,sP,sZ,e1,f1,hP,f2,hZ,f3⟩:=hot_all (a+1) d n (by omega) (by omega) hdl hnl;unfold startH at hD;have HSD:=hide hD;have HIT:=hide hit;have HSN:=hide e1;have HSP:=hide hP;have HSZ:=hide hZ;have HF1:=hide (freshK F W (Below.refl _ _) (Nat.le_refl _));clear hD hit e1 hP hZ;go_enter Tryz.func10,Tryz.ntmps10
 go_wp2_with fail
 refine HF1.out.mono ?_;rintro e w1 ⟨xb,rfl,V,hx,hw,hk,hV⟩;have HP0:Hid (HP PS W w1 xb fsC 3):=⟨V,hx,hw,hk,hV⟩;clear hx hw hk hV HF1
 go_wp2_with fail
 refine (HA.out _).mono ?_;rintro e w' ⟨rfl,hw'⟩;subst hw'
 go_wp2_with fail
 refine (HM.out _).mono ?_;rintro e w'' ⟨rfl,hw'⟩;subst hw'
 go_wp2_with fail
 refine (HD.out _).mono ?_;rintro e w' ⟨rfl,hw'⟩;subst hw';clear HA HM HD
 go_wp2_with fail
 refine (tuneHP F HP0.out (1+(a:Int)) d (by unfold badT;omega)).mono ?_;rintro e w2 ⟨rfl,hp⟩;have HP2:Hid (HP PS W w2 xb (tuneH fsC ((a+1:Nat):Int) d) 3):=by
  rw[show ((a+1:Nat):Int)=1+(a:Int) by omega];exact hp
 clear hp HP0;have HL:=hide (lineHP F HP2.out (by decide) hv_D HSD.out);simp only[hlD] at HL;clear HP2
 go_wp2_with fail
 refine HL.out.mono ?_;rintro e w3 ⟨rfl,hp⟩;have HP3:=hide hp;clear hp HL;go_wp2
 go_loopw [14] (fun i wr=>∃ (k:Nat) (s:St),k<=n/\i=.int .i64 k/\iterH sD k=some s/\HP PS W wr xb s (4+k)) (fun i _=>n - (intOf i).toNat)
 case atStart=>exact⟨0,sD,Nat.zero_le _,rfl,rfl,HP3.out⟩
 case round=>
  clear HP3;obtain⟨k,s,hk,rfl,hs,hp⟩:=hrel;by_cases hlt:k < n
  ·obtain⟨s1,s2,q1,q2,q3⟩:=HIT.out k hlt;rw[hs] at q1;injection q1 with q1;subst q1;have HL:=hide (lineHP F hp (by omega) hv_T q3);simp only[hlT] at HL;have HQ:=hide q2;clear hs hp q2 q3
   go_wp2_with fail
   refine HL.out.mono ?_;rintro e w4 ⟨rfl,hp4⟩;have HP4:=hide hp4;clear hp4 HL;go_wp2
   go_roundw
   case rel=>exact⟨k+1,s2,by omega,by go_num,HQ.out,HP4.out⟩
   case measure=>simp[intOf];omega
  ·have hkn:k=n:=by omega
   subst hkn;rw[HSN.out] at hs;injection hs with hs;subst hs;have HHP:=hide hp;clear hp hlt HSD HIT;rcases (show d=0\/d=1\/d=2\/d=3 by omega) with rfl|rfl|rfl|rfl
   all_goals (
    by_cases hge:a+1<=k
    all_goals (
     by_cases hh2:a+1<=2
     all_goals (
      simp only[hge,hh2,if_true,if_false] at f1 f2 f3;have HFA:=fastHP F HHP.out;rw[f1] at HFA;have HFA:=hide HFA
      go_wp2_with fail
      refine HFA.out.mono ?_;rintro e w5 ⟨ao1,cap1,rfl,hp5⟩;have HL5:=hide (lineHP F hp5 (by omega) hv_P HSP.out);simp only[hlP] at HL5;clear hp5 HFA
      go_wp2_with fail
      refine HL5.out.mono ?_;rintro e w6 ⟨rfl,hp6⟩;have HF6:=fastHP F hp6;rw[f2] at HF6;have HF6:=hide HF6;clear hp6 HL5
      go_wp2_with fail
      refine HF6.out.mono ?_;rintro e w7 ⟨ao2,cap2,rfl,hp7⟩;have HL7:=hide (lineHP F hp7 (by omega) hv_Z HSZ.out);simp only[hlZ] at HL7;clear hp7 HF6
      go_wp2_with fail
      refine HL7.out.mono ?_;rintro e w8 ⟨rfl,hp8⟩;have HF8:=fastHP F hp8;rw[f3] at HF8;have HF8:=hide HF8;clear hp8 HL7
      go_wp2_with fail
      refine HF8.out.mono ?_;rintro e w9 ⟨ao3,cap3,rfl,hp9⟩;have HB:Hid (Below W.heap.size W w9):=by
       obtain⟨V,_,_,h4,_⟩:=hp9;exact h4.below (Nat.le_refl _) (fun _ _ h=>h)
      clear hp9 HF8;go_wp2;go_ret;exact⟨rfl,HB.out⟩)))
end
end
end Go.Proofs.YteainaiebcphlaaGreatDoor
