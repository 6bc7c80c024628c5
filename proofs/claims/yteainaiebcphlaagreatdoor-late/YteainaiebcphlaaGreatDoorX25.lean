import Derived.Test.YteainaiebcphlaaGreatDoorX24
import Derived.Test.YteainaiebcphlaaGreatDoorX20
import Derived.Test.YteainaiebcphlaaGreatDoorX2
import Derived.Laws.BytesArg
import Derived.Handy
namespace Go.Proofs.YteainaiebcphlaaGreatDoor
set_option maxRecDepth 1000000
set_option maxHeartbeats 4000000
set_option linter.all false
section
open Go.RowKit
section
variable (bk rb:Nat) (g off cap n:Nat) (t:ByteArray) (w:World)
theorem tkR_one (n:Nat) (h:n+1<=cap) (h1:cap=1):tkR g off cap n=.slice (some ⟨g,off,none⟩) 0 0/\n=0:=by
 have:n=0:=by omega
 subst this;subst h1;exact⟨rfl,rfl⟩
theorem tkR_two (h1:¬ cap=1):tkR g off cap n=.slice (some ⟨g,off+1,none⟩) n (cap - 1):=by
 unfold tkR;rw[if_neg h1]
def KdT (w:World) (t:ByteArray) (K:Int):Prop:=∀ w0,Kp w w0 (fun _=>False)->Calls Tryz.prog 67 #[.string t] w0 fun e w'=>e=.returned (.int .i64 K)/\w'=w0
def RfC (bk rb g off cap n:Nat) (w:World) (Q:Value->Int->World->Prop):Prop:=Calls Tryz.prog 57 #[pt bk,pt rb,tkV g off cap n] w fun e w'=>∃ rv k,e=.returned (.tuple #[rv,.int .i64 k])/\Q rv k w'
theorem callMk (w:World) (bk:Nat) (t:ByteArray):Calls Tryz.prog 75 #[pt bk,.string t] w fun e w'=>∃ db bb nb,e=.returned (fDeep db)/\Kp w w' (fun _=>False)/\BD (New w) w' db 125 #[.func (.func 120) #[] #[pt bb,pt nb]]/\BD (New w) w' bb 78 #[pt bk]/\BD (New w) w' nb 9 #[.string t]:=by
 have hmf:=mkFunc;go_enter Tryz.func75,Tryz.ntmps75;go_wp2;go_ret;exact⟨_,_,_,rfl,(((Kp.refl _ _).alloc _).alloc _).alloc _,⟨nw w 2,Blk.new2 w _ _ _ _⟩,⟨nw w 0,((Blk.new w _ _).alloc _).alloc _⟩,⟨nw w 1,(Blk.new1 w _ _ _).alloc _⟩⟩
theorem rf_form (K:Int) (hK:19<=K) (hcap:n+1<=cap) (hco:off+cap<=maxLen) (c1:w.cell? ⟨g,off,none⟩=some (.string t)) (HK:KdT w t K):RfC bk rb g off cap n w (fun rv k w'=>rv=.slice none 0 0/\k=4/\Kp w w' (fun _=>False)):=by
 unfold RfC;have HK:=hide HK;have HP:Hid (∀ w,Calls Tryz.prog 71 #[.int .i64 K] w fun e w'=>e=.returned (.bool false)/\w'=w):=by
  intro w;have:=kindPlain K w;rw[decide_eq_false (by omega)] at this;exact this
 have k1:(K == 1)=false:=by simp;omega
 have k2:(K == 18)=false:=by simp;omega
 have k3:(K != 0)=true:=by simp;omega
 have k4:¬ K=1:=by omega
 have k5:¬ K=18:=by omega
 have k6:¬ K=0:=by omega
 clear hK;have hm:=Classical.em (cap=1);rcases hm with hm|hm
 ·obtain⟨hte,hn0⟩:=tkR_one g off cap n hcap hm;have HTE:=hide hte;clear hte;subst hm;subst hn0;go_enter Tryz.func57,Tryz.ntmps57
  go_wp2_with fail
  go_quiet (fail)
  go_wp2_with fail
  refine (HK.out _ ((Kp.refl _ _).drewN nq)).mono ?_;rintro e w1 ⟨rfl,rfl⟩;have hk0:Kp w (w.drewN nq) (fun _=>False):=(Kp.refl _ _).drewN nq;generalize w.drewN nq=w0 at *
  go_wp2_with fail
  refine (HP.out _).mono ?_;rintro e w1 ⟨rfl,rfl⟩;go_wp2;go_ret2;exact⟨_,_,rfl,rfl,rfl,hk0⟩
 ·have HTE:=hide (tkR_two g off cap n hm);have hm3:¬ (1:Int)=(cap:Int):=by omega
  have hm4:¬ (cap:Int)=1:=by omega
  have hm5:¬ (cap:Int) - 1=0:=by omega
  have hm6:¬ cap - 1=0:=by omega
  have hm7:(n:Int)+1<=(cap:Int):=by omega
  have hm8:(1:Int)<=(n:Int)+1:=by omega
  go_enter Tryz.func57,Tryz.ntmps57
  go_wp2_with fail
  go_quiet (fail)
  go_wp2_with fail
  refine (HK.out _ ((Kp.refl _ _).drewN nq)).mono ?_;rintro e w1 ⟨rfl,rfl⟩;have hk0:Kp w (w.drewN nq) (fun _=>False):=(Kp.refl _ _).drewN nq;generalize w.drewN nq=w0 at *
  go_wp2_with fail
  refine (HP.out _).mono ?_;rintro e w1 ⟨rfl,rfl⟩;go_wp2;go_ret2;exact⟨_,_,rfl,rfl,rfl,hk0⟩
theorem rf_word (HH:∀ w0,Kp w w0 (fun _=>False)->Calls Tryz.prog 74 #[pt bk,.string t] w0 fun e w'=>e=.returned (.bool false)/\w'=w0) (K:Int) (hK:K=0) (hcap:n+1<=cap) (hco:off+cap<=maxLen) (c1:w.cell? ⟨g,off,none⟩=some (.string t)) (HK:KdT w t K):RfC bk rb g off cap n w (fun rv k w'=>rv=.slice none 0 0/\k=3/\Kp w w' (fun _=>False)):=by
 unfold RfC;have HK:=hide HK;subst hK;have HH:=hide HH;have HP:Hid (∀ w,Calls Tryz.prog 71 #[.int .i64 0] w fun e w'=>e=.returned (.bool false)/\w'=w):=by
  intro w;have:=kindPlain 0 w;rw[decide_eq_false (by omega)] at this;exact this
 have hm:=Classical.em (cap=1);rcases hm with hm|hm
 ·obtain⟨hte,hn0⟩:=tkR_one g off cap n hcap hm;have HTE:=hide hte;clear hte;subst hm;subst hn0;go_enter Tryz.func57,Tryz.ntmps57
  go_wp2_with fail
  go_quiet (fail)
  go_wp2_with fail
  refine (HK.out _ ((Kp.refl _ _).drewN nq)).mono ?_;rintro e w1 ⟨rfl,rfl⟩;have hk0:Kp w (w.drewN nq) (fun _=>False):=(Kp.refl _ _).drewN nq;generalize w.drewN nq=w0 at *
  go_wp2_with fail
  refine (HP.out _).mono ?_;rintro e w1 ⟨rfl,rfl⟩
  go_wp2_with fail
  refine (HH.out _ hk0).mono ?_;rintro e w1 ⟨rfl,rfl⟩;go_wp2;go_ret2;exact⟨_,_,rfl,rfl,rfl,hk0⟩
 ·have HTE:=hide (tkR_two g off cap n hm);have hm3:¬ (1:Int)=(cap:Int):=by omega
  have hm4:¬ (cap:Int)=1:=by omega
  have hm5:¬ (cap:Int) - 1=0:=by omega
  have hm6:¬ cap - 1=0:=by omega
  have hm7:(n:Int)+1<=(cap:Int):=by omega
  have hm8:(1:Int)<=(n:Int)+1:=by omega
  go_enter Tryz.func57,Tryz.ntmps57
  go_wp2_with fail
  go_quiet (fail)
  go_wp2_with fail
  refine (HK.out _ ((Kp.refl _ _).drewN nq)).mono ?_;rintro e w1 ⟨rfl,rfl⟩;have hk0:Kp w (w.drewN nq) (fun _=>False):=(Kp.refl _ _).drewN nq;generalize w.drewN nq=w0 at *
  go_wp2_with fail
  refine (HP.out _).mono ?_;rintro e w1 ⟨rfl,rfl⟩
  go_wp2_with fail
  refine (HH.out _ hk0).mono ?_;rintro e w1 ⟨rfl,rfl⟩;go_wp2;go_ret2;exact⟨_,_,rfl,rfl,rfl,hk0⟩
theorem rf_colon (K:Int) (hK:K=18) (Q:Value->Int->World->Prop) (HD:∀ w0,Kp w w0 (fun _=>False)->Calls Tryz.prog 73 #[pt bk,pt rb,tkR g off cap n] w0 fun e w'=>∃ rv k,e=.returned (.tuple #[rv,.int .i64 k])/\Q rv k w') (hcap:n+1<=cap) (hco:off+cap<=maxLen) (c1:w.cell? ⟨g,off,none⟩=some (.string t)) (HK:KdT w t K):RfC bk rb g off cap n w Q:=by
 unfold RfC;have HK:=hide HK;subst hK;have HD:=hide HD;have HP:Hid (∀ w,Calls Tryz.prog 71 #[.int .i64 18] w fun e w'=>e=.returned (.bool false)/\w'=w):=by
  intro w;have:=kindPlain 18 w;rw[decide_eq_false (by omega)] at this;exact this
 have hm:=Classical.em (cap=1);rcases hm with hm|hm
 ·obtain⟨hte,hn0⟩:=tkR_one g off cap n hcap hm;have HTE:=hide hte;clear hte;subst hm;subst hn0;go_enter Tryz.func57,Tryz.ntmps57
  go_wp2_with fail
  go_quiet (fail)
  go_wp2_with fail
  refine (HK.out _ ((Kp.refl _ _).drewN nq)).mono ?_;rintro e w1 ⟨rfl,rfl⟩;have hk0:Kp w (w.drewN nq) (fun _=>False):=(Kp.refl _ _).drewN nq;generalize w.drewN nq=w0 at *;have HD0:=hide (HD.out w0 hk0);rw[HTE.out] at HD0
  go_wp2_with fail
  refine (HP.out _).mono ?_;rintro e w1 ⟨rfl,rfl⟩
  go_wp2_with fail
  refine HD0.out.mono ?_;rintro e w1 ⟨rv,k,rfl,hq⟩;have HQ:=hide hq;clear hq;go_wp2;go_ret2;exact⟨_,_,rfl,HQ.out⟩
 ·have HTE:=hide (tkR_two g off cap n hm);have hm3:¬ (1:Int)=(cap:Int):=by omega
  have hm4:¬ (cap:Int)=1:=by omega
  have hm5:¬ (cap:Int) - 1=0:=by omega
  have hm6:¬ cap - 1=0:=by omega
  have hm7:(n:Int)+1<=(cap:Int):=by omega
  have hm8:(1:Int)<=(n:Int)+1:=by omega
  go_enter Tryz.func57,Tryz.ntmps57
  go_wp2_with fail
  go_quiet (fail)
  go_wp2_with fail
  refine (HK.out _ ((Kp.refl _ _).drewN nq)).mono ?_;rintro e w1 ⟨rfl,rfl⟩;have hk0:Kp w (w.drewN nq) (fun _=>False):=(Kp.refl _ _).drewN nq;generalize w.drewN nq=w0 at *;have HD0:=hide (HD.out w0 hk0);rw[HTE.out] at HD0
  go_wp2_with fail
  refine (HP.out _).mono ?_;rintro e w1 ⟨rfl,rfl⟩
  go_wp2_with fail
  refine HD0.out.mono ?_;rintro e w1 ⟨rv,k,rfl,hq⟩;have HQ:=hide hq;clear hq;go_wp2;go_ret2;exact⟨_,_,rfl,HQ.out⟩
theorem rf_num (K:Int) (hK:K=1) (i:Int) (Q:Int->World->Prop) (HV:∀ w,Calls Tryz.prog 70 #[.string t] w fun e w'=>e=.returned (.int .i64 i)/\Kp w w' (fun _=>False)) (HS:∀ w0,Kp w w0 (fun _=>False)->Calls Tryz.prog 68 #[pt rb,.func (.func 95) #[] #[pt w0.heap.size]] (w0.alloc (.cells #[.int .i64 i] 2)) fun e w'=>∃ k,e=.returned (.int .i64 k)/\Q k w') (hcap:n+1<=cap) (hco:off+cap<=maxLen) (c1:w.cell? ⟨g,off,none⟩=some (.string t)) (HK:KdT w t K):RfC bk rb g off cap n w (fun rv k w'=>rv=tkR g off cap n/\Q k w'):=by
 unfold RfC;have HK:=hide HK;subst hK;have HS:=hide HS;have HV:=hide HV;have hm:=Classical.em (cap=1);rcases hm with hm|hm
 ·obtain⟨hte,hn0⟩:=tkR_one g off cap n hcap hm;have HTE:=hide hte;clear hte;subst hm;subst hn0;go_enter Tryz.func57,Tryz.ntmps57
  go_wp2_with fail
  go_quiet (fail)
  go_wp2_with fail
  refine (HK.out _ ((Kp.refl _ _).drewN nq)).mono ?_;rintro e w1 ⟨rfl,rfl⟩;have hk0:Kp w (w.drewN nq) (fun _=>False):=(Kp.refl _ _).drewN nq;generalize w.drewN nq=w0 at *
  go_wp2_with fail
  refine (HV.out _).mono ?_;rintro e w2 ⟨rfl,hk2⟩;have HK2:=hide (hk0.trans hk2);clear hk2
  go_wp2_with fail
  refine (layMk _ i).mono ?_;rintro e w3 ⟨rfl,rfl⟩
  go_wp2_with fail
  refine (HS.out _ HK2.out).mono ?_;rintro e w4 ⟨k,rfl,hq⟩;have HQ:=hide hq;clear hq;go_wp2;go_ret2;exact⟨_,_,rfl,HTE.out.symm,HQ.out⟩
 ·have HTE:=hide (tkR_two g off cap n hm);have hm3:¬ (1:Int)=(cap:Int):=by omega
  have hm4:¬ (cap:Int)=1:=by omega
  have hm5:¬ (cap:Int) - 1=0:=by omega
  have hm6:¬ cap - 1=0:=by omega
  have hm7:(n:Int)+1<=(cap:Int):=by omega
  have hm8:(1:Int)<=(n:Int)+1:=by omega
  go_enter Tryz.func57,Tryz.ntmps57
  go_wp2_with fail
  go_quiet (fail)
  go_wp2_with fail
  refine (HK.out _ ((Kp.refl _ _).drewN nq)).mono ?_;rintro e w1 ⟨rfl,rfl⟩;have hk0:Kp w (w.drewN nq) (fun _=>False):=(Kp.refl _ _).drewN nq;generalize w.drewN nq=w0 at *
  go_wp2_with fail
  refine (HV.out _).mono ?_;rintro e w2 ⟨rfl,hk2⟩;have HK2:=hide (hk0.trans hk2);clear hk2
  go_wp2_with fail
  refine (layMk _ i).mono ?_;rintro e w3 ⟨rfl,rfl⟩
  go_wp2_with fail
  refine (HS.out _ HK2.out).mono ?_;rintro e w4 ⟨k,rfl,hq⟩;have HQ:=hide hq;clear hq;go_wp2;go_ret2;exact⟨_,_,rfl,HTE.out.symm,HQ.out⟩
theorem rf_plain (K:Int) (j:Nat) (hj:j < 16) (hK:K=(j:Int)+2) (Q:Int->World->Prop) (HS:∀ w0 w1 fn ff fc,Kp w w0 (fun _=>False)->Kp w0 w1 (fun _=>False)->plainR (BD (fun k=>w0.heap.size<=k) w1) j (.func (.func fn) ff fc)->Calls Tryz.prog 68 #[pt rb,.func (.func fn) ff fc] w1 fun e w'=>∃ k,e=.returned (.int .i64 k)/\Q k w') (hcap:n+1<=cap) (hco:off+cap<=maxLen) (c1:w.cell? ⟨g,off,none⟩=some (.string t)) (HK:KdT w t K):RfC bk rb g off cap n w (fun rv k w'=>rv=tkR g off cap n/\Q k w'):=by
 unfold RfC;have HK:=hide HK;have HS:=hide HS;have HM:Hid (∀ w,Calls Tryz.prog 72 #[.int .i64 K] w fun e w'=>∃ act,e=.returned act/\Kp w w' (fun _=>False)/\plainR (BD (fun k=>w.heap.size<=k) w') j act):=fun w=>mkPlain j hj K hK w;have HP:Hid (∀ w,Calls Tryz.prog 71 #[.int .i64 K] w fun e w'=>e=.returned (.bool true)/\w'=w):=by
  intro w;have:=kindPlain K w;rw[decide_eq_true (by omega)] at this;exact this
 have k1:(K == 1)=false:=by simp;omega
 have k2:¬ K=1:=by omega
 clear hK hj;have hm:=Classical.em (cap=1);rcases hm with hm|hm
 ·obtain⟨hte,hn0⟩:=tkR_one g off cap n hcap hm;have HTE:=hide hte;clear hte;subst hm;subst hn0;go_enter Tryz.func57,Tryz.ntmps57
  go_wp2_with fail
  go_quiet (fail)
  go_wp2_with fail
  refine (HK.out _ ((Kp.refl _ _).drewN nq)).mono ?_;rintro e w1 ⟨rfl,rfl⟩;have hk0:Kp w (w.drewN nq) (fun _=>False):=(Kp.refl _ _).drewN nq;generalize w.drewN nq=w0 at *
  go_wp2_with fail
  refine (HP.out _).mono ?_;rintro e w1 ⟨rfl,rfl⟩
  go_wp2_with fail
  refine (HM.out _).mono ?_;rintro e w2 ⟨act,rfl,hk2,hp2⟩;obtain⟨fn,ff,fc,rfl⟩:=plainR_form hp2;have HK2:=hide hk2;have HP2:=hide hp2;clear hk2 hp2
  go_wp2_with fail
  refine (HS.out _ _ _ _ _ hk0 HK2.out HP2.out).mono ?_;rintro e w4 ⟨k,rfl,hq⟩;have HQ:=hide hq;clear hq;go_wp2;go_ret2;exact⟨_,_,rfl,HTE.out.symm,HQ.out⟩
 ·have HTE:=hide (tkR_two g off cap n hm);have hm3:¬ (1:Int)=(cap:Int):=by omega
  have hm4:¬ (cap:Int)=1:=by omega
  have hm5:¬ (cap:Int) - 1=0:=by omega
  have hm6:¬ cap - 1=0:=by omega
  have hm7:(n:Int)+1<=(cap:Int):=by omega
  have hm8:(1:Int)<=(n:Int)+1:=by omega
  go_enter Tryz.func57,Tryz.ntmps57
  go_wp2_with fail
  go_quiet (fail)
  go_wp2_with fail
  refine (HK.out _ ((Kp.refl _ _).drewN nq)).mono ?_;rintro e w1 ⟨rfl,rfl⟩;have hk0:Kp w (w.drewN nq) (fun _=>False):=(Kp.refl _ _).drewN nq;generalize w.drewN nq=w0 at *
  go_wp2_with fail
  refine (HP.out _).mono ?_;rintro e w1 ⟨rfl,rfl⟩
  go_wp2_with fail
  refine (HM.out _).mono ?_;rintro e w2 ⟨act,rfl,hk2,hp2⟩;obtain⟨fn,ff,fc,rfl⟩:=plainR_form hp2;have HK2:=hide hk2;have HP2:=hide hp2;clear hk2 hp2
  go_wp2_with fail
  refine (HS.out _ _ _ _ _ hk0 HK2.out HP2.out).mono ?_;rintro e w4 ⟨k,rfl,hq⟩;have HQ:=hide hq;clear hq;go_wp2;go_ret2;exact⟨_,_,rfl,HTE.out.symm,HQ.out⟩
theorem rf_call (HH:∀ w0,Kp w w0 (fun _=>False)->Calls Tryz.prog 74 #[pt bk,.string t] w0 fun e w'=>e=.returned (.bool true)/\w'=w0) (K:Int) (hK:K=0) (Q:Int->World->Prop) (HS:∀ w0 w1 db bb nb,Kp w w0 (fun _=>False)->Kp w0 w1 (fun _=>False)->BD (New w0) w1 db 125 #[.func (.func 120) #[] #[pt bb,pt nb]]->BD (New w0) w1 bb 78 #[pt bk]->BD (New w0) w1 nb 9 #[.string t]->Calls Tryz.prog 68 #[pt rb,fDeep db] w1 fun e w'=>∃ k,e=.returned (.int .i64 k)/\Q k w') (hcap:n+1<=cap) (hco:off+cap<=maxLen) (c1:w.cell? ⟨g,off,none⟩=some (.string t)) (HK:KdT w t K):RfC bk rb g off cap n w (fun rv k w'=>rv=tkR g off cap n/\Q k w'):=by
 unfold RfC;have HK:=hide HK;subst hK;have HH:=hide HH;have HS:=hide HS;have HP:Hid (∀ w,Calls Tryz.prog 71 #[.int .i64 0] w fun e w'=>e=.returned (.bool false)/\w'=w):=by
  intro w;have:=kindPlain 0 w;rw[decide_eq_false (by omega)] at this;exact this
 have hm:=Classical.em (cap=1);rcases hm with hm|hm
 ·obtain⟨hte,hn0⟩:=tkR_one g off cap n hcap hm;have HTE:=hide hte;clear hte;subst hm;subst hn0;go_enter Tryz.func57,Tryz.ntmps57
  go_wp2_with fail
  go_quiet (fail)
  go_wp2_with fail
  refine (HK.out _ ((Kp.refl _ _).drewN nq)).mono ?_;rintro e w1 ⟨rfl,rfl⟩;have hk0:Kp w (w.drewN nq) (fun _=>False):=(Kp.refl _ _).drewN nq;generalize w.drewN nq=w0 at *
  go_wp2_with fail
  refine (HP.out _).mono ?_;rintro e w1 ⟨rfl,rfl⟩
  go_wp2_with fail
  refine (HH.out _ hk0).mono ?_;rintro e w1 ⟨rfl,rfl⟩
  go_wp2_with fail
  refine (callMk _ _ _).mono ?_;rintro e w2 ⟨db,bb,nb,rfl,hk2,q1,q2,q3⟩;have HK2:=hide hk2;have HQ1:=hide q1;have HQ2:=hide q2;have HQ3:=hide q3;clear hk2 q1 q2 q3
  go_wp2_with fail
  refine (HS.out _ _ _ _ _ hk0 HK2.out HQ1.out HQ2.out HQ3.out).mono ?_;rintro e w4 ⟨k,rfl,hq⟩;have HQ:=hide hq;clear hq;go_wp2;go_ret2;exact⟨_,_,rfl,HTE.out.symm,HQ.out⟩
 ·have HTE:=hide (tkR_two g off cap n hm);have hm3:¬ (1:Int)=(cap:Int):=by omega
  have hm4:¬ (cap:Int)=1:=by omega
  have hm5:¬ (cap:Int) - 1=0:=by omega
  have hm6:¬ cap - 1=0:=by omega
  have hm7:(n:Int)+1<=(cap:Int):=by omega
  have hm8:(1:Int)<=(n:Int)+1:=by omega
  go_enter Tryz.func57,Tryz.ntmps57
  go_wp2_with fail
  go_quiet (fail)
  go_wp2_with fail
  refine (HK.out _ ((Kp.refl _ _).drewN nq)).mono ?_;rintro e w1 ⟨rfl,rfl⟩;have hk0:Kp w (w.drewN nq) (fun _=>False):=(Kp.refl _ _).drewN nq;generalize w.drewN nq=w0 at *
  go_wp2_with fail
  refine (HP.out _).mono ?_;rintro e w1 ⟨rfl,rfl⟩
  go_wp2_with fail
  refine (HH.out _ hk0).mono ?_;rintro e w1 ⟨rfl,rfl⟩
  go_wp2_with fail
  refine (callMk _ _ _).mono ?_;rintro e w2 ⟨db,bb,nb,rfl,hk2,q1,q2,q3⟩;have HK2:=hide hk2;have HQ1:=hide q1;have HQ2:=hide q2;have HQ3:=hide q3;clear hk2 q1 q2 q3
  go_wp2_with fail
  refine (HS.out _ _ _ _ _ hk0 HK2.out HQ1.out HQ2.out HQ3.out).mono ?_;rintro e w4 ⟨k,rfl,hq⟩;have HQ:=hide hq;clear hq;go_wp2;go_ret2;exact⟨_,_,rfl,HTE.out.symm,HQ.out⟩
end
end
section
open Go.RowKit
abbrev keptQ (t:Tok):Bool:=keptL.any (· == t) || t == kSemi || t == kOpen || t == kClose
theorem tok_cases {l:Tok} (hl:l ≠ []) (hc:¬ l=kColon):
  (∃ n,numP l=some n/\kdOf l=1)\/(numP l=none/\∃ j,plainL.findIdx? (· == l)=some j/\kdOf l=(j:Int)+2/\j < 16)\/(numP l=none/\plainL.findIdx? (· == l)=none/\keptQ l=true/\19<=kdOf l)\/(numP l=none/\plainL.findIdx? (· == l)=none/\keptQ l=false/\kdOf l=0):=by
 cases hn:numP l with
 | some n=>exact .inl ⟨n,rfl,by unfold kdOf;rw[hn];rfl⟩
 | none=>
  right
  have hk:kdOf l=(kindN l:Int):=by unfold kdOf;rw[hn];rfl
  cases hp:plainL.findIdx? (· == l) with
  | some j=>
   obtain⟨h1,h2⟩:=kind_plainN hl hp;exact .inl ⟨rfl,j,rfl,by rw[hk,h1];simp,h2⟩
  | none=>
   right
   rw[hk];by_cases h0:kindN l=0
   ·have hs:=in_spell hl h0;refine .inr ⟨rfl,rfl,?_,by rw[h0];rfl⟩;have h2:keptL.any (· == l)=false:=by rw[List.any_eq_false];intro x hx;rw[hs x (by simp[spellL,hx])];decide
    have h3:∀ k,k∈spellL->(l == k)=false:=fun k hk=>by
     have:=hs k hk;rw[beq_eq_false_iff_ne] at this ⊢;exact fun e=>this e.symm
    unfold keptQ;rw[h2,h3 kSemi (by decide),h3 kOpen (by decide),h3 kClose (by decide)];rfl
   ·left
    have hs:=kindN_at rfl h0;have hlt:kindN l < 34:=by
     rcases Nat.lt_or_ge (kindN l) 34 with h|h
     ·exact h
     ·rw[List.getElem?_eq_none (by exact h)] at hs;cases hs
    clear hk;generalize kindN l=i at hs h0 hlt ⊢;have:i=1\/i=2\/i=3\/i=4\/i=5\/i=6\/i=7\/i=8\/i=9\/i=10\/i=11\/i=12\/i=13\/i=14\/i=15\/i=16\/i=17\/i=18\/i=19\/i=20\/i=21\/i=22\/i=23\/i=24\/i=25\/i=26\/i=27\/i=28\/i=29\/i=30\/i=31\/i=32\/i=33:=by omega
    rcases this with rfl|rfl|rfl|rfl|rfl|rfl|rfl|rfl|rfl|rfl|rfl|rfl|rfl|rfl|rfl|rfl|rfl|rfl|rfl|rfl|rfl|rfl|rfl|rfl|rfl|rfl|rfl|rfl|rfl|rfl|rfl|rfl|rfl
    all_goals
     injection hs with hs;subst hs
     first
      | (exact absurd rfl hl)
      | (exact absurd rfl hc)
      | (exact absurd hp (by decide))
      | (exact⟨rfl,rfl,by decide,by decide⟩)
theorem xTok_more {g:Nat} {t:Tok} {s s2:St} (h:xTok g t s=some s2) (h2:s2.e=0):s.steps+1<=s2.steps:=by
 unfold xTok at h
 repeat' split at h
 all_goals first
  | (injection h with h;subst h;first|(exact absurd (show (4:Int)=0 from h2) (by decide))|(exact absurd (show (3:Int)=0 from h2) (by decide))|(simp only[St.step_steps,St.put_steps,St.word_steps];omega))
  | (have k:=xRun_keep _ _ _ _ _ ‹xRun g _ _=some _›;injection h with h;subst h;simp only[Kee,St.step_steps] at k;omega)
  | cases h
section
variable {B:Nat} {W w w':World} {xb rb mb:Nat} {m m':MS} {D D':GD} {s:St}
def QRf (B:Nat) (W w:World) (xb rb mb:Nat) (m:MS) (D:GD) (g:Nat) (st0:Int) (s':St) (left:Bool) (rv:Value) (k:Int) (w':World):Prop:=
 ∃ s1 ws1 a n p,rv=.slice a n p/\k=s1.e/\PPost B W xb rb mb w m D s1 w'/\(s1.e=0->st0+1<=s1.steps)/\(s1.e ≠ 0->s'=s1)/\(s1.e=0->TokAt (Blk w') rv ws1/\(∀ t∈ws1,okW t)/\ws1.length<=1000/\xRun g (jToks (texts ws1)) s1=some (s',left))
theorem stepGrow (h:PR B W w xb rb mb m D s) (he:s.e=0) (hk:Kp w w' (fun _=>False)) (v:Value) (s2 s':St) (hs':s'=if s.step.e=0 then s2 else s.step)
  (hact:s.step.e=0->∀ w1 m1,PR B W w1 xb rb mb m1 (moreG D w.heap.size w'.heap.size) s.step->PTo xb rb mb w' w1 m m1 (moreG D w.heap.size w'.heap.size) (moreG D w.heap.size w'.heap.size)->(∀ b t c,BD (moreG D w.heap.size w'.heap.size).d w' b t c->BD (moreG D w.heap.size w'.heap.size).d w1 b t c)->CallsV v (pt rb) w1 fun e w2=>e=.returned (.int .i64 s2.e)/\PPost B W xb rb mb w1 m1 (moreG D w.heap.size w'.heap.size) s2 w2):
  Calls Tryz.prog 68 #[pt rb,v] w' fun e w2=>∃ k,e=.returned (.int .i64 k)/\k=s'.e/\PPost B W xb rb mb w m D s' w2/\∀ b c,Blk w b 9 c->Blk w2 b 9 c:=by
 obtain⟨h1,t1⟩:=h.grow hk;refine (stepP h1 he v s2 s' hs' (fun q w1 m1 p1 q1=>hact q w1 m1 p1 q1 (h1.keepD q1))).mono ?_;rintro e w2 ⟨rfl,hp⟩;refine⟨_,rfl,rfl,hp.step t1,fun b c hb=>?_⟩;obtain⟨m2,D2,h2,t2⟩:=hp;exact h1.blk9 t2 (hk.blk hb (by simp))
theorem tkR_form (g off cap n:Nat):∃ a k p,tkR g off cap n=.slice a k p:=by
 unfold tkR;split <;> exact⟨_,_,_,rfl⟩
theorem rfX (hE:Env B W) (g:Nat) (hW:∀ g',g' < g->QW B W g') (h:PR B W w xb rb mb m D s) (he:s.e=0) (t:ByteArray) (ws:List ByteArray) (v:Value) (ht:TokAt (Blk w) v (t :: ws)) (ho:∀ t'∈t :: ws,okW t') (hl:(t :: ws).length<=1000) (s':St) (left:Bool) (hx:xRun (g+1) (jToks (texts (t :: ws))) s=some (s',left)):
  Calls Tryz.prog 57 #[pt m.bk,pt rb,v] w fun e w'=>∃ rv k,e=.returned (.tuple #[rv,.int .i64 k])/\QRf B W w xb rb mb m D g s.steps s' left rv k w':=by
 have hsp:=hE.at h;have hot:=ho t (by simp);have hbook:=h.words.known h.book;obtain⟨gb,off,cap,rfl,⟨cur,hB,h0⟩,hcap,hT⟩:=ht.head;have hcap2:off+cap<=maxLen:=by
  rcases ht with⟨q,_⟩|⟨g1,off1,cap1,cur1,e1,q1,q2,q3,q4⟩
  ·cases q
  ·injection e1 with e1 e2 e3;injection e1 with e1;injection e1 with e1 e4;subst e3;subst e4;exact q3
 have c1:w.cell? ⟨gb,off,none⟩=some (.string t):=hB.cell h0;have HK:KdT w t (kdOf t.data.toList):=fun w0 hk=>kindQ t w0 hot (hsp.kp hk (by simp));have HH:∀ w0,Kp w w0 (fun _=>False)->Calls Tryz.prog 74 #[pt m.bk,.string t] w0 fun e w'=>e=.returned (.bool (s.known t.data.toList))/\w'=w0:=fun w0 hk=>hasM _ _ _ _ (hbook.kp hk (by simp) (by simp)) t (Nat.le_trans hot.2 (by decide));have hwl:ws.length<=1000:=by simp only[List.length_cons] at hl;omega
 have how:∀ t'∈ws,okW t':=fun t' h'=>ho t' (by simp[h']);have hne:t.data.toList ≠ []:=by have:=hot.1;rw[ByteArray.toList_eq] at this;exact this
 have hxx:xRun (g+1) (jToks (t.data.toList :: texts ws)) s=some (s',left):=hx;by_cases hc:t.data.toList=kColon
 ·have hkd:kdOf t.data.toList=18:=by rw[hc];decide
  rw[hc,x_def _ _ _ he] at hxx
  cases hp:pDef g s (texts ws) with
  | none=>rw[hp] at hxx;cases hxx
  | some res=>
   rw[hp] at hxx;refine rf_colon m.bk rb gb off cap ws.length t w _ hkd _ ?_ hcap hcap2 c1 HK;intro w0 hk0;obtain⟨h0,t0⟩:=h.kp hk0;refine (defineX hE h0 he ws _ (TokAt_mono (fun b c hb=>hk0.blk hb (by simp)) hT) how hwl g res hp).mono ?_;intro e w1 hq;rcases res with er|⟨nm,b,r1⟩
   ·obtain⟨q1,rfl,q2⟩:=hq;injection hxx with hxx;injection hxx with e1 e2;subst e1;exact⟨_,_,rfl,s.err er,[],none,0,0,rfl,rfl,q2.step t0,fun e=>absurd e q1,fun _=>rfl,fun e=>absurd e q1⟩
   ·obtain⟨a,n,p,ws',rfl,q1,q2,q3,q4,q5⟩:=hq;refine⟨_,_,rfl,stD s nm b,ws',a,n,p,rfl,rfl,q1.step t0,fun _=>?_,fun e=>?_,fun e=>⟨q2,q4,q5,?_⟩⟩
    ·unfold stD;split <;> simp only[St.set_steps,St.step_steps] <;> omega
    ·unfold stD at e ⊢;by_cases hs:s.step.e=0
     ·rw[if_pos hs] at e;exact absurd (show (s.step.set nm b).e=0 from hs) e
     ·have hxx:(if s.step.e ≠ 0 then some (s.step,false) else xRun g (jToks r1) (s.step.set nm b))=some (s',left):=hxx;rw[if_pos hs] at hxx;injection hxx with hxx;injection hxx with e1 e2;rw[if_neg hs];exact e1.symm
    ·unfold stD at e ⊢;by_cases hs:s.step.e=0
     ·have hxx:(if s.step.e ≠ 0 then some (s.step,false) else xRun g (jToks r1) (s.step.set nm b))=some (s',left):=hxx;rw[if_neg (by simpa using hs)] at hxx;rw[if_pos hs,q3];exact hxx
     ·rw[if_neg hs] at e;exact absurd e hs
 ·rw[x_tok _ _ _ _ he hc] at hxx
  cases hq:xTok g t.data.toList s with
  | none=>rw[hq] at hxx;cases hxx
  | some s2=>
   rw[hq] at hxx;have hxx:xRun g (jToks (texts ws)) s2=some (s',left):=hxx;have hend:s2.e ≠ 0->s'=s2:=fun e=>by
    cases g with
    | zero=>cases hxx
    | succ g=>rw[x_terr _ _ _ e] at hxx;injection hxx with hxx;injection hxx with e1 e2;exact e1.symm
   obtain⟨ra,rn,rp,hrf⟩:=tkR_form gb off cap ws.length;have done:∀ rv k w1,(rv=tkR gb off cap ws.length/\k=s2.e/\PPost B W xb rb mb w m D s2 w1/\∀ b c,Blk w b 9 c->Blk w1 b 9 c)->QRf B W w xb rb mb m D g s.steps s' left rv k w1:=by
    rintro rv k w1 ⟨rfl,rfl,hp,hb⟩;exact⟨s2,ws,ra,rn,rp,hrf,rfl,hp,fun e=>xTok_more hq e,hend,fun _=>⟨TokAt_mono (fun b c h=>hb b c h) hT,how,hwl,hxx⟩⟩
   have bad:∀ (er:Int) rv k w1,er ≠ 0->s2=s.err er->(rv=.slice none 0 0/\k=er/\Kp w w1 (fun _=>False))->QRf B W w xb rb mb m D g s.steps s' left rv k w1:=by
    rintro er rv k w1 her rfl ⟨rfl,rfl,hk⟩;exact⟨s.err k,[],none,0,0,rfl,rfl,h.erK her hk,fun e=>absurd e her,hend,fun e=>absurd e her⟩
   unfold xTok at hq;rcases tok_cases hne hc with⟨n,h1,hkd⟩|⟨h1,j,h2,hkd,hj⟩|⟨h1,h2,h3,hkd⟩|⟨h1,h2,h3,hkd⟩
   ·rw[h1] at hq;have hs2:s2=if s.step.e=0 then s.step.put n else s.step:=by
     by_cases hs:s.step.e=0
     ·rw[if_pos hs];have hq:(if s.step.e ≠ 0 then some s.step else some (s.step.put n))=some s2:=hq;rw[if_neg (by simpa using hs)] at hq;injection hq with hq;exact hq.symm
     ·rw[if_neg hs];have hq:(if s.step.e ≠ 0 then some s.step else some (s.step.put n))=some s2:=hq;rw[if_pos hs] at hq;injection hq with hq;exact hq.symm
    refine (rf_num m.bk rb gb off cap ws.length t w _ hkd n (fun k w1=>k=s2.e/\PPost B W xb rb mb w m D s2 w1/\∀ b c,Blk w b 9 c->Blk w1 b 9 c) (fun w=>valueM t n w (by rw[ByteArray.toList_eq];exact h1) hot.2) ?_ hcap hcap2 c1 HK).mono ?_
    ·intro w0 hk0;refine stepGrow h he (hk0.alloc _) _ (s.step.put n) s2 hs2 ?_;intro hse w1 m1 p1 t1 kd;exact layP p1 hse n (numP_range h1) w0.heap.size (kd _ _ _ ⟨Or.inr ⟨hk0.size,by rw[World.size_alloc];exact Nat.lt_succ_self _⟩,Blk.new _ _ _⟩).2
    ·rintro e w1 ⟨rv,k,rfl,hqq⟩;exact⟨rv,k,rfl,done rv k w1 hqq⟩
   ·rw[h1,h2] at hq;have hs2:s2=if s.step.e=0 then s.step.word j else s.step:=by
     by_cases hs:s.step.e=0
     ·rw[if_pos hs];have hq:(if s.step.e ≠ 0 then some s.step else some (s.step.word j))=some s2:=hq;rw[if_neg (by simpa using hs)] at hq;injection hq with hq;exact hq.symm
     ·rw[if_neg hs];have hq:(if s.step.e ≠ 0 then some s.step else some (s.step.word j))=some s2:=hq;rw[if_pos hs] at hq;injection hq with hq;exact hq.symm
    refine (rf_plain m.bk rb gb off cap ws.length t w _ j hj hkd (fun k w1=>k=s2.e/\PPost B W xb rb mb w m D s2 w1/\∀ b c,Blk w b 9 c->Blk w1 b 9 c) ?_ hcap hcap2 c1 HK).mono ?_
    ·intro w0 w1 fn ff fc hk0 hk1 hp;refine stepGrow h he (hk0.trans hk1) _ (s.step.word j) s2 hs2 ?_;intro hse w2 m1 p1 t1 kd;exact plainPX hE.glo p1 hse j _ (plainR_mono (fun b t c hb=>kd b t c ⟨Or.inr ⟨Nat.le_trans hk0.size hb.1,hb.2.lt⟩,hb.2⟩) hp)
    ·rintro e w1 ⟨rv,k,rfl,hqq⟩;exact⟨rv,k,rfl,done rv k w1 hqq⟩
   ·rw[h1,h2] at hq
    have hq:(if keptQ t.data.toList=true then some (s.err 4) else if s.known t.data.toList=false then some (s.err 3) else if s.step.e ≠ 0 then some s.step else match xRun g (jCall t.data.toList) s.step with
     | none=>none
     | some (s2,_)=>some s2)=some s2:=hq
    rw[if_pos h3] at hq;injection hq with hq;refine (rf_form m.bk rb gb off cap ws.length t w _ hkd hcap hcap2 c1 HK).mono ?_;rintro e w1 ⟨rv,k,rfl,hqq⟩;exact⟨rv,k,rfl,bad 4 rv k w1 (by decide) hq.symm hqq⟩
   ·rw[h1,h2] at hq
    have hq:(if keptQ t.data.toList=true then some (s.err 4) else if s.known t.data.toList=false then some (s.err 3) else if s.step.e ≠ 0 then some s.step else match xRun g (jCall t.data.toList) s.step with
     | none=>none
     | some (s2,_)=>some s2)=some s2:=hq
    rw[if_neg (by rw[h3];decide)] at hq
    cases hkn:s.known t.data.toList with
    | false=>
     rw[hkn] at HH;rw[if_pos hkn] at hq;injection hq with hq;refine (rf_word m.bk rb gb off cap ws.length t w HH _ hkd hcap hcap2 c1 HK).mono ?_;rintro e w1 ⟨rv,k,rfl,hqq⟩;exact⟨rv,k,rfl,bad 3 rv k w1 (by decide) hq.symm hqq⟩
    | true=>
     rw[hkn] at HH;rw[if_neg (by rw[hkn];decide)] at hq;refine (rf_call m.bk rb gb off cap ws.length t w HH _ hkd (fun k w1=>k=s2.e/\PPost B W xb rb mb w m D s2 w1/\∀ b c,Blk w b 9 c->Blk w1 b 9 c) ?_ hcap hcap2 c1 HK).mono ?_
     ·intro w0 w1 db bb nb hk0 hk1 b1 b2 b3;have key:∃ s3,s2=(if s.step.e=0 then s3 else s.step)/\(s.step.e=0->∃ left,xRun g (jCall t.data.toList) s.step=some (s3,left)):=by
       by_cases hs:s.step.e=0
       ·rw[if_neg (by simpa using hs)] at hq
        cases hc:xRun g (jCall t.data.toList) s.step with
        | none=>rw[hc] at hq;cases hq
        | some p=>
         obtain⟨s3,l3⟩:=p;rw[hc] at hq;injection hq with hq;exact⟨s3,by rw[if_pos hs];exact hq.symm,fun _=>⟨l3,rfl⟩⟩
       ·rw[if_pos hs] at hq;injection hq with hq;exact⟨s,by rw[if_neg hs];exact hq.symm,fun e=>absurd e hs⟩
      obtain⟨s3,hs3,hcall⟩:=key;refine stepGrow h he (hk0.trans hk1) _ s3 s2 hs3 ?_;intro hse w2 m1 p1 t1 kd;obtain⟨l3,hcc⟩:=hcall hse;have kd':∀ b t c,BD (New w0) w1 b t c->BD (moreG D w.heap.size w1.heap.size).d w2 b t c:=fun b t c hb=>kd b t c ⟨Or.inr ⟨Nat.le_trans hk0.size hb.1,hb.2.lt⟩,hb.2⟩
      match g,hcc,hW with
      | 0,hcc,_=>cases hcc
      | 1,hcc,_=>
       rw[x_call] at hcc
       split at hcc
       ·cases hcc
       ·cases hcc
      | g' + 1+1,hcc,hW=>
       exact callP g' (hW g' (by omega)) p1 hse db bb nb t hot.2 (kd' _ _ _ b1) (by rw[t1.bk];exact kd' _ _ _ b2) (kd' _ _ _ b3) s3 l3 hcc
     ·rintro e w1 ⟨rv,k,rfl,hqq⟩;exact⟨rv,k,rfl,done rv k w1 hqq⟩
end
end
section
open Go.RowKit
structure TAt (B:Nat) (W:World) (g xb rb mb:Nat) (w wr:World) (m:MS) (D:GD) (s':St) (left:Bool) (v:Value) (k:Int) (g':Nat):Prop where
 ex:∃ m1 D1 s1 ws1 a n p,v=.slice a n p/\k=s1.e/\g'<=g/\PR B W wr xb rb mb m1 D1 s1/\PTo xb rb mb w wr m m1 D D1/\(s1.e ≠ 0->s'=s1)/\(s1.e=0->n=ws1.length/\TokAt (Blk wr) v ws1/\(∀ t∈ws1,okW t)/\ws1.length<=1000/\xRun g' (jToks (texts ws1)) s1=some (s',left))
theorem runX {B:Nat} {W:World} (hE:Env B W) (g:Nat) (hW:∀ g',g' < g->QW B W g'):QT B W g:=by
 intro w xb rb mb m D s s' v ws left hr he ht ho hl hx;obtain⟨ao,cap,rfl⟩:=ht.form;have h0:Hid (TAt B W g xb rb mb w w m D s' left (.slice ao ws.length cap) 0 g):=⟨⟨m,D,s,ws,ao,ws.length,cap,rfl,he.symm,Nat.le_refl _,hr,PTo.refl _ _ _ _ _ _,fun e=>absurd he e,fun _=>⟨rfl,ht,ho,hl,hx⟩⟩⟩;have HW:=hide hW;have HE:=hide hE;clear hr he ht ho hx hW hE;go_enter Tryz.func42,Tryz.ntmps42;go_wp2
 go_loopw [2,7] (fun v k wr=>∃ kk g',k=.int .i64 kk/\TAt B W g xb rb mb w wr m D s' left v kk g') (fun _ k wr=>if intOf k=0 then 1+(2002 - stOf wr rb).toNat else 0)
 case atStart=>exact⟨0,g,rfl,h0.out⟩
 case round=>
  obtain⟨kk,g',rfl,⟨m1,D1,s1,ws1,a,n,p,rfl,rfl,hg,hr,hto,hbad,hgo⟩⟩:=hrel;by_cases he:s1.e=0
  ·obtain⟨rfl,hT,hok,hlen,hx⟩:=hgo he;have hso:=hr.stOf he;have hs2:=hr.good.s2 he
   cases ws1 with
   | nil=>
    have hss:s'=s1:=by
     cases g' with
     | zero=>cases hx
     | succ g'=>injection hx with hx;injection hx with e1 e2;exact e1.symm
    subst hss;have HR:=hide hr;have HT:=hide hto;clear hr hto hx hbad hgo hso;rw[he];go_wp2;go_ret;exact⟨by rw[he];rfl,m1,D1,HR.out,HT.out⟩
   | cons t ws1=>
    cases g' with
    | zero=>cases hx
    | succ g'=>
     have hbk:=hto.bk;have HC:=hide (rfX HE.out g' (fun g2 h2=>HW.out g2 (by omega)) hr he t ws1 _ hT hok hlen s' left hx);rw[hbk] at HC;have HTo:=hide hto;have H1:=hide hso;have H2:=hide hs2;have HE1:=hide he;have hll:(0:Int) < ((t :: ws1).length:Int):=by simp
     rw[he];generalize (t :: ws1).length=nn at *;clear hr hto hx hbad hgo hso hs2 hT he hbk
     go_wp2_with fail
     refine HC.out.mono ?_;rintro e w1 ⟨rv,k,rfl,s2,ws2,a2,n2,p2,rfl,rfl,hp,hst,hb2,hg2⟩;obtain⟨m2,D2,hr2,ht2⟩:=hp;have HR2:=hide hr2;have HT2:=hide (HTo.out.trans ht2);have HST:=hide hst;have HB2:=hide hb2;have HG2:=hide hg2;clear hr2 ht2 hst hb2 hg2;go_wp2;refine⟨⟨s2.e,g',rfl,⟨m2,D2,s2,ws2,a2,n2,p2,rfl,rfl,by omega,HR2.out,HT2.out,HB2.out,fun e=>?_⟩⟩,?_⟩
     ·obtain⟨q1,q2,q3,q4⟩:=HG2.out e;obtain⟨ao,cp,he3⟩:=q1.form;injection he3 with e1 e2 e3;exact⟨e2,q1,q2,q3,q4⟩
     ·rw[if_pos (show intOf (.int .i64 0)=0 from rfl),H1.out];by_cases e:s2.e=0
      ·rw[if_pos (show intOf (.int .i64 s2.e)=0 from e),HR2.out.stOf e];have q1:=HST.out e;have q2:=H2.out;omega
      ·rw[if_neg (show ¬ intOf (.int .i64 s2.e)=0 from e)];omega
  ·have hss:=hbad he;subst hss;have HR:=hide hr;have HT:=hide hto;have h1:(s'.e == 0)=false:=by simpa using he
   clear hr hto hbad hgo he;go_wp2;go_ret;exact⟨rfl,m1,D1,HR.out,HT.out⟩
end
section
open Go.RowKit
theorem allX {B:Nat} {W:World} (hE:Env B W):∀ g,QB B W g/\QI B W g/\QW B W g/\QT B W g:=by
 intro g
 induction g using Nat.strongRecOn with
 | ind g ih=>
  have hI:QI B W g:=itemX hE g (fun g' h=>(ih g' h).1) (fun g' h=>(ih g' h).2.2.1) (fun g' h=>(ih g' h).2.2.2);have hB:QB B W g:=runAllX g (fun g' h=>(ih g' h).2.1);exact⟨hB,hI,wordRunX g hB,runX hE g (fun g' h=>(ih g' h).2.2.1)⟩
end
section
open Go.RowKit
structure PSn (B:Nat) (W w:World) (xb bk mb:Nat) (sv:Value) (D:GD) (V:Nat->Prop) (s:St):Prop where
 xblk:Blk w xb 80 (marr bk sv s.mem)
 srow:w.ownsRow 0 2 1 sv s.rs.reverse.length (ints s.rs.reverse)
 len:s.rs.length<=32
 bel:Below B W w
 bx:B<=xb
 bv:∀ k,own sv k->B<=k
 bs:B<=w.heap.size
 bmb:B<=mb
 book:Blk w bk 106 #[.map (some mb),.int .i64 s.hot,.int .i64 s.built]
 words:WordsR D w bk mb s.defs
 sep:∀ k,D.d k->k < w.heap.size/\k ≠ xb/\¬ own sv k
 us:∀ k,D.u k->B<=k/\k ≠ mb/\KindU w k
 nb:¬ D.d bk
 bbk:B<=bk
 vs:∀ k,V k<->k=xb\/k=bk\/k=mb\/own sv k\/D.d k\/D.u k
def PSes (B:Nat) (W w:World) (xb:Nat) (V:Nat->Prop) (s:St):Prop:=∃ bk mb sv D,PSn B W w xb bk mb sv D V s
section
variable {B:Nat} {W w w':World} {xb bk mb:Nat} {sv:Value} {D:GD} {V:Nat->Prop} {s:St}
theorem PSn.lt (h:PSn B W w xb bk mb sv D V s):∀ k,V k->k < w.heap.size:=by
 intro k hk;rcases (h.vs k).1 hk with rfl|rfl|rfl|e|e|e
 ·exact h.xblk.lt
 ·exact h.book.lt
 ·exact h.words.ltm
 ·exact own_lt h.srow e
 ·exact (h.sep k e).1
 ·exact h.words.wds.lt k e
theorem PSn.frame {S:Nat->Prop} (h:PSn B W w xb bk mb sv D V s) (hk:Kp w w' S) (hV:∀ k,V k->¬ S k) (hB:∀ k,k < B->¬ S k):PSn B W w' xb bk mb sv D V s:=by
 have hv:∀ k,(k=xb\/k=bk\/k=mb\/own sv k\/D.d k\/D.u k)->¬ S k:=fun k e=>hV k ((h.vs k).2 e);have hu:∀ k,D.u k->¬ S k:=fun k e=>hv k (.inr (.inr (.inr (.inr (.inr e)))));have hd:∀ k,D.d k->¬ S k:=fun k e=>hv k (.inr (.inr (.inr (.inr (.inl e)))));obtain⟨hpr,hwd⟩:=h.words.wds.out hk hu hd;refine⟨hk.blk h.xblk (hv _ (.inl rfl)),hk.row h.srow (fun k e=>hv k (.inr (.inr (.inr (.inl e))))),h.len,h.bel.trans (hk.below h.bs hB),h.bx,h.bv,Nat.le_trans h.bs hk.size,h.bmb,hk.blk h.book (hv _ (.inr (.inl rfl))),h.words.pres hpr (fun _ _ h=>h) (fun _ _ h=>h) hwd (hk.block mb h.words.ltm (hv _ (.inr (.inr (.inl rfl))))),fun k e=>?_,fun k e=>?_,h.nb,h.bbk,h.vs⟩
 ·obtain⟨e0,e1⟩:=h.sep k e;exact⟨Nat.lt_of_lt_of_le e0 hk.size,e1⟩
 ·obtain⟨e0,e1,e2⟩:=h.us k e;refine⟨e0,e1,?_⟩;rcases e2 with⟨c,hc⟩|⟨n,DD,hm⟩
  ·exact .inl ⟨c,hk.blk hc (hu k e)⟩
  ·exact .inr ⟨n,DD,ownsMap_same hm (hk.block k hm.lt (hu k e))⟩
theorem PSn.kp (h:PSn B W w xb bk mb sv D V s) (hk:Kp w w' (fun _=>False)):PSn B W w' xb bk mb sv D V s:=h.frame hk (fun _ _ e=>e) (fun _ _ e=>e)
theorem PSn.to (h:PSn B W w xb bk mb sv D V s) (hk:Kp w w' (fun _=>False)):∃ V',PSes B W w' xb V' s/\To (fun _=>False) w w' V V':=
 ⟨V,⟨bk,mb,sv,D,h.kp hk⟩,⟨hk.mono (fun _ _ e=>e.elim),fun _ e=>.inl e⟩⟩
theorem cellM (w:World) (xb bk:Nat) (sv:Value) (mem:Nat->Int) (h:Blk w xb 80 (marr bk sv mem)) (n:Int):
  Calls Tryz.prog 56 #[pt xb,.int .i64 n] w fun e w'=>e=.returned (.tuple #[.int .i64 (if n < 0\/16<=n then ((0:Int),(10:Int)) else (mem n.toNat,0)).1,.int .i64 (if n < 0\/16<=n then ((0:Int),(10:Int)) else (mem n.toNat,0)).2])/\Kp w w' (fun _=>False):=by
 by_cases hc:n < 0\/16<=n
 ·rw[if_pos hc];have HI:=hide (isCellM n w);rw[decide_eq_false (by omega)] at HI;clear hc;go_enter Tryz.func56,Tryz.ntmps56
  go_wp2_with fail
  refine HI.out.mono ?_;rintro e w1 ⟨rfl,rfl⟩;go_wp2;go_ret2;exact⟨rfl,Kp.refl _ _⟩
 ·rw[if_neg hc];have HI:=hide (isCellM n w);rw[decide_eq_true (by omega)] at HI;have c1:w.cell? ⟨xb,1+n.toNat,none⟩=some (.int .i64 (mem n.toNat)):=h.cell (marr_at _ _ _ _ (by omega));have h0:0<=n:=by omega
  have h1:n < 16:=by omega
  clear hc;go_enter Tryz.func56,Tryz.ntmps56
  go_wp2_with fail
  refine HI.out.mono ?_;rintro e w1 ⟨rfl,rfl⟩;go_wp2;go_ret2;exact⟨rfl,Kp.refl _ _⟩
end
end
section
open Go.RowKit
theorem fields_ne:∀ (l cur:List UInt8),∀ x∈Lib.fieldsGo cur l,x ≠ []
 | [],cur,x,hx=>by
  unfold Lib.fieldsGo at hx
  split at hx
  ·simp at hx
  ·rename_i h;simp at hx;subst hx;simpa using h
 | b :: l,cur,x,hx=>by
  unfold Lib.fieldsGo at hx
  split at hx
  ·split at hx
   ·exact fields_ne l [] x hx
   ·rename_i h
    rcases List.mem_cons.1 hx with h1|h1
    ·subst h1;simpa using h
    ·exact fields_ne l [] x h1
  ·exact fields_ne l _ x hx
theorem fields_size:∀ (l cur:List UInt8),∀ x∈Lib.fieldsGo cur l,x.length<=cur.length+l.length
 | [],cur,x,hx=>by
  unfold Lib.fieldsGo at hx
  split at hx
  ·simp at hx
  ·simp at hx;subst hx;omega
 | b :: l,cur,x,hx=>by
  unfold Lib.fieldsGo at hx
  split at hx
  ·split at hx
   ·have:=fields_size l [] x hx;simp at this ⊢;omega
   ·rcases List.mem_cons.1 hx with h1|h1
    ·subst h1;omega
    ·have:=fields_size l [] x h1;simp at this ⊢;omega
  ·have:=fields_size l _ x hx;simp at this ⊢;omega
theorem validM (s:ByteArray) (w:World):
  Calls Tryz.prog 40 #[.string s] w fun e w'=>e=.returned (.bool (validB s.data.toList))/\w'=w:=by
 by_cases hs:s.size<=400
 ·go_enter Tryz.func40,Tryz.ntmps40;go_wp2
  go_loop [9] (fun i=>∃ k:Nat,k<=s.size/\i=.int .i64 k/\(s.data.toList.take k).all okB=true) (fun i=>s.size - (intOf i).toNat)
  case atStart=>exact⟨0,Nat.zero_le _,rfl,rfl⟩
  case round=>
   obtain⟨k,hk,rfl,hall⟩:=hrel;have HA:=hide hall;clear hall;by_cases hlt:k < s.size
   ·by_cases hok:32<=s[k].toNat/\s[k].toNat<=126
    ·obtain⟨ho1,ho2⟩:=hok;go_wp2
     go_round
     case rel=>exact⟨k+1,by omega,by go_num,all_snoc hlt HA.out ⟨ho1,ho2⟩⟩
     case measure=>simp[intOf];omega
    ·have HB:=hide (validB_bad hlt hok);rcases (show s[k].toNat < 32\/(32<=s[k].toNat/\126 < s[k].toNat) by omega) with h1|⟨h1,h2⟩
     all_goals
      clear hok;go_wp2;go_ret;exact⟨by rw[HB.out];rfl,rfl⟩
   ·have HB:Hid (validB s.data.toList=true):=by
     have h1:=HA.out;have:k=s.size:=by omega
     rw[this] at h1;exact validB_of hs h1
    go_wp2;go_ret;exact⟨by rw[HB.out];rfl,rfl⟩
 ·have HB:Hid (validB s.data.toList=false):=by
   unfold Hid validB;have:s.data.toList.length=s.size:=rfl;rw[this,decide_eq_false hs];rfl
  go_enter Tryz.func40,Tryz.ntmps40;go_wp2;go_ret;exact⟨by rw[HB.out];rfl,rfl⟩
theorem str_of (out:ByteArray):strOfNums (out.data.toList.map fun b=>(b.toNat:Int))=out:=by
 unfold strOfNums
 apply ByteArray.ext
 simp only[List.map_map];have:((fun n:Int=>UInt8.ofNat n.toNat) ∘ fun b:UInt8=>(b.toNat:Int))=id:=by
  funext b;simp
 rw[this];simp
theorem conv_out {w:World} {v:Value} {out:ByteArray} (h:w.ownsRow 0 5 1 v out.size (Lib.byteCells out.data.toList)):(convert 85 9 v).run Tryz.prog w=.ok (.string out) w:=by
 rcases h.2 with⟨rfl,h0⟩|⟨g,cap,cur,rfl,_,hg,hnc,_,hcs,htake⟩
 ·rw[run_convert_bytes_nil w 85 5 Tryz.underlying85 Tryz.underlying5 0 0 9 Tryz.underlying9];have:out=ByteArray.empty:=by
   apply ByteArray.ext
   have:out.data.size=0:=h0;exact Array.eq_empty_of_size_eq_zero this
  rw[this]
 ·have:=run_convert_bytes_arg w 85 5 Tryz.underlying85 Tryz.underlying5 g 0 out.size cap (out.data.toList.map fun b=>(b.toNat:Int)) (by rw[List.length_map];rfl) ?_ 9 Tryz.underlying9
  ·rw[this,str_of]
  ·intro i hi;have hl:i < out.data.toList.length:=hi;have e:out.data.toList[i]? = some out.data.toList[i]:=List.getElem?_eq_getElem hl;have:=h.cells (g:=g) rfl i (.int .u8 ((out.data.toList[i]).toNat:Int)) (by rw[Lib.byteCells,List.getElem?_map,e];rfl);rw[addr_add2] at this;rw[Nat.zero_add,this,List.getD_eq_getElem?_getD,List.getElem?_map,e];rfl
theorem printedM (w:World) (xb rb:Nat) (m:MS) (ns:List Int) (h:MInv w xb rb m ns):
  Calls Tryz.prog 45 #[.pointer (some ⟨rb,0,none⟩)] w fun e w'=>e=.returned (.string m.out)/\w'=w:=by
 have k1:w.cell? ⟨rb,1,none⟩=some m.ov:=h.rblk.cell rfl;have hc:=conv_out h.orow;obtain⟨ao,cap,hv⟩:=form_of h.orow;rw[hv] at k1 hc;clear hv;go_enter Tryz.func45,Tryz.ntmps45;go_wp2;go_ret;exact⟨rfl,rfl⟩
theorem ascii_of {l:List UInt8} (h:validB l=true):∀ (j:Nat) b,l[j]? = some b->b.toNat < 128:=by
 intro j b hb;unfold validB at h;rw[Bool.and_eq_true,List.all_eq_true] at h;have:=of_decide_eq_true (h.2 b (List.mem_of_getElem? hb));omega
end
end Go.Proofs.YteainaiebcphlaaGreatDoor
