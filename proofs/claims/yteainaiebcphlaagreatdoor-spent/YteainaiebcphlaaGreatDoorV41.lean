import Derived.Test.YteainaiebcphlaaGreatDoorV39
import Derived.Test.YteainaiebcphlaaGreatDoorV40
import Derived.Handy
namespace Go.Proofs.YteainaiebcphlaaGreatDoor
set_option maxRecDepth 1000000
set_option maxHeartbeats 4000000
set_option linter.all false
section
open Go.RowKit
def fl1:ByteArray:=⟨#[58,32,115,113,32,100,117,112,32,42,32,59,32,55,32,115,113,32,46,32,53,32,51,32,33]⟩
def fw1:ByteArray:=⟨#[52,57,32]⟩
def fl2:ByteArray:=⟨#[43]⟩
def fl3:ByteArray:=⟨#[58,32,115,113,32,59,32,48,32,51,32,33]⟩
def fsA:St:=(after 100 st0 fl1.data.toList).getD st0
def fsB0:St:=(after 100 fsA fl2.data.toList).getD st0
def fsB:St:=endL fsB0
def fsC:St:=(after 100 fsB fl3.data.toList).getD st0
theorem fa1:after 100 st0 fl1.data.toList=some fsA:=some_getD (by decide +kernel)
theorem fa2:after 100 fsA fl2.data.toList=some fsB0:=some_getD (by decide +kernel)
theorem fa3:after 100 fsB fl3.data.toList=some fsC:=some_getD (by decide +kernel)
theorem fo1:fsA.out.data.toList=fw1.data.toList/\fsA.e=0:=by decide +kernel
theorem fo2:fsB0.out.data.toList=[]/\fsB0.e=6:=by decide +kernel
theorem fo3:fsC.out.data.toList=[]/\fsC.e=0/\fsC.rs=[]:=by decide +kernel
theorem fc:cellP fsB 3=(5,0):=by decide +kernel
theorem fv1:validB fl1.data.toList=true:=by decide +kernel
theorem fv2:validB fl2.data.toList=true:=by decide +kernel
theorem fv3:validB fl3.data.toList=true:=by decide +kernel
structure Fsh (s:St):Prop where
 rs:s.rs=[]
 defs:s.defs=[⟨[115,113],2,[],0,false,[]⟩]
 ids:s.ids=2
 hot:s.hot=5
theorem fsC_ok:Fsh fsC:=⟨by kernel_rfl,by kernel_rfl,by kernel_rfl,by kernel_rfl⟩
def iIt:It:=⟨105,0,[],[],[],[]⟩
def pushes:Int->Nat->List Int->List Int
 | _,0,rs=>rs
 | n,k+1,rs=>pushes (n+1) k (n :: rs)
theorem pushes_len:∀ (k:Nat) (n:Int) (rs:List Int),(pushes n k rs).length=rs.length+k
 | 0,_,_=>rfl
 | k+1,n,rs=>by rw[pushes,pushes_len k];simp;omega
theorem pushes_rev:∀ (k:Nat) (n:Int) (rs:List Int),(pushes n k rs).reverse=rs.reverse ++ (List.range k).map (fun i:Nat=>n+(i:Int))
 | 0,_,_=>by simp[pushes]
 | k+1,n,rs=>by
  have e:(List.range k).map (fun i:Nat=>n+1+(i:Int))=(List.range k).map ((fun i:Nat=>n+(i:Int)) ∘ Nat.succ):=List.map_congr_left (fun i _=>by show n+1+(i:Int)=n+((i+1:Nat):Int);omega);rw[pushes,pushes_rev k,List.range_succ_eq_map,List.map_cons,List.map_map,List.reverse_cons,List.append_assoc,e];simp
theorem doI (f:Fr) (lp:List Int):∀ (k:Nat) (n:Int) (s:St),s.e=0->s.steps+2 * k<=2000->s.rs.length+k<=32 ->
  XR (jDo f lp n (n+k) [iIt]) s { s with steps:=s.steps+2 * k,rs:=pushes n k s.rs }
 | 0,n,s,_,_,_=>by
  have h:XR (jDo f lp n (n+(0:Nat)) [iIt]) s s:=XR.doEnd (by simp)
  simpa [pushes] using h
 | k+1,n,s,he,hs,hl=>by
  have h2:=doI f lp k (n+1) { s.up.up with rs:=n :: s.rs } he (by show s.steps+1+1+2 * (k:Int)<=2000;omega) (by simp;omega);have e:n+1+(k:Int)=n+((k+1:Nat):Int):=by omega
  rw[e] at h2;have h3:=XR.doGo (f:=f) (lp:=lp) (l:=[iIt]) (n:=n) (m:=n+((k+1:Nat):Int)) (by omega) he (by omega) (XR.cons (XR.i (f:=f) (lp:=lp) (s:=s.up) (n:=n) he (by show s.steps+1 < 2000;omega) (show s.rs.length < 32 by omega)) he XR.nil) h2;have e2:({ ({ s.up.up with rs:=n :: s.rs }:St) with steps:=({ s.up.up with rs:=n :: s.rs }:St).steps+2 * (k:Int),rs:=pushes (n+1) k ({ s.up.up with rs:=n :: s.rs }:St).rs }:St)={ s with steps:=s.steps+2 * ((k+1:Nat):Int),rs:=pushes n (k+1) s.rs }:=by
   show ({ s with steps:=s.steps+1+1+2 * (k:Int),rs:=pushes (n+1) k (n :: s.rs) }:St)=_;rw[show s.steps+1+1+2 * (k:Int)=s.steps+2 * ((k+1:Nat):Int) by omega];rfl
  rw[e2] at h3;exact h3
def kD:Tok:=[100]
def dIt:It:=⟨100,0,[],[iIt],[],[]⟩
def dToks (X Y:Tok):List Tok:=[kColon,kD,kDo,kI,kLoop,kSemi,X,Y,kD]
theorem callD:IsCall kD:=⟨by decide,by decide,by decide,by decide⟩
theorem line_d (s:St) (h:Fsh s) (X Y:Tok) (a:Int) (n:Nat) (hn:n < 30) (hX:numP X=some (a+n)) (hY:numP Y=some a):
  ∃ s',XR (jToks (dToks X Y)) (freshL s) s'/\s'.e=0/\s'.out=⟨#[]⟩/\s'.rs=pushes a n []:=by
 obtain⟨rs,mem,defs,ids,hot,built,e,steps,depth,out⟩:=s;obtain⟨h1,h2,h3,h4⟩:=h;simp only at h1 h2 h3 h4;subst h1 h2 h3 h4;have hD:XR (jDo ⟨3,kD,[dIt]⟩ [] a (a+n) [iIt]) ⟨[],mem,[⟨[115,113],2,[],0,false,[]⟩,⟨kD,3,[dIt],1,false,[]⟩],3,5,built,0,5,1,⟨#[]⟩⟩ _:=doI _ _ n a _ rfl (by show (5:Int)+2 * n<=2000;omega) (by simp;omega);have k4:XR (jItem ⟨3,kD,[dIt]⟩ [] dIt) ⟨[a,a+n],mem,[⟨[115,113],2,[],0,false,[]⟩,⟨kD,3,[dIt],1,false,[]⟩],3,5,built,0,4,1,⟨#[]⟩⟩ _:=XR.doo rfl (show (4:Int) < 2000 by decide) rfl hD;have hc:xCome 10 ⟨3,kD,[dIt]⟩ ⟨[a,a+n],mem,[⟨[115,113],2,[],0,false,[]⟩,⟨kD,3,[dIt],0,false,[]⟩],3,5,built,0,4,0,⟨#[]⟩⟩=some ⟨[a,a+n],mem,[⟨[115,113],2,[],0,false,[]⟩,⟨kD,3,[dIt],1,false,[]⟩],3,5,built,0,4,0,⟨#[]⟩⟩:=by
  have w1:wrap64 1=1:=by decide +kernel
  simp[xCome,St.find,St.count,List.findIdx?_cons,kD,w1]
 have k3:XR (jEnter ⟨3,kD,[dIt]⟩) ⟨[a,a+n],mem,[⟨[115,113],2,[],0,false,[]⟩,⟨kD,3,[dIt],0,false,[]⟩],3,5,built,0,4,0,⟨#[]⟩⟩ _:=XR.enter (show (0:Int) < 20 by decide) hc (XR.cons k4 rfl XR.nil);have k2:XR (jToks [kD]) ⟨[a,a+n],mem,[⟨[115,113],2,[],0,false,[]⟩,⟨kD,3,[dIt],0,false,[]⟩],3,5,built,0,3,0,⟨#[]⟩⟩ _:=XR.tcall callD rfl rfl rfl (show (3:Int) < 2000 by decide) k3 XR.tnil;have k1:XR (jToks [X,Y,kD]) ⟨[],mem,[⟨[115,113],2,[],0,false,[]⟩,⟨kD,3,[dIt],0,false,[]⟩],3,5,built,0,1,0,⟨#[]⟩⟩ _:=XR.tnum hX rfl (show (1:Int) < 2000 by decide) (show 0 < 32 by decide) (XR.tnum hY rfl (show (2:Int) < 2000 by decide) (show 1 < 32 by decide) k2);have hp:pDef 10 ⟨[],mem,[⟨[115,113],2,[],0,false,[]⟩],2,5,built,0,0,0,⟨#[]⟩⟩ [kD,kDo,kI,kLoop,kSemi,X,Y,kD]=some (.ok (kD,[dIt],[X,Y,kD])):=rfl;have hset:(St.mk [] mem [⟨[115,113],2,[],0,false,[]⟩] 2 5 built 0 0 0 ⟨#[]⟩).up.set kD [dIt]=⟨[],mem,[⟨[115,113],2,[],0,false,[]⟩,⟨kD,3,[dIt],0,false,[]⟩],3,5,built,0,1,0,⟨#[]⟩⟩:=by
  have w3:wrap64 3=3:=by decide +kernel
  simp[St.set,St.up,St.find,List.findIdx?_cons,kD,w3]
 rw[<-hset] at k1;have k0:XR (jToks (dToks X Y)) ⟨[],mem,[⟨[115,113],2,[],0,false,[]⟩],2,5,built,0,0,0,⟨#[]⟩⟩ _:=XR.tdef rfl (show (0:Int) < 2000 by decide) hp k1;exact⟨_,k0,rfl,rfl,rfl⟩
def l2 (n m:Int):List UInt8:=[58,32,101,32,48,32] ++ Lib.itoa n ++ [32,48,32,100,111,32] ++ Lib.itoa m ++ [32,48,32,100,111,32,49,32,43,32,108,111,111,112,32,108,111,111,112,32,59,32,101,32] ++ Lib.itoa (n+1) ++ [32,48,32,115,119,97,112,32,58,32,117,32,98,101,103,105,110,32,49,32,45,32,115,119,97,112,32,49,32,43,32,115,119,97,112,32,100,117,112,32,48,32,61,32,117,110,116,105,108,32,100,114,111,112,32,59,32,117,32] ++ Lib.itoa n ++ [32,48,32,115,119,97,112,32,58,32,119,32,98,101,103,105,110,32,100,117,112,32,119,104,105,108,101,32,49,32,45,32,115,119,97,112,32,49,32,43,32,115,119,97,112,32,114,101,112,101,97,116,32,100,114,111,112,32,59,32,119]
def okL2 (n m:Int):Bool:=validB (l2 n m) && match after 300 fsC (l2 n m) with
 | none=>false
 | some s=>decide (s.e=0) && s.out.data.toList == [] && s.rs == [n,n+1,n * m]
end
section
open Go.RowKit
def pkV (c n:Int):Int:=if c < 0 then (-(c+1)) % n else c % n
theorem pkV_lt (c n:Int) (hn:1<=n):0<=pkV c n/\pkV c n < n:=by
 unfold pkV
 split
 ·exact⟨Int.emod_nonneg _ (by omega),Int.emod_lt_of_pos _ (by omega)⟩
 ·exact⟨Int.emod_nonneg _ (by omega),Int.emod_lt_of_pos _ (by omega)⟩
theorem convK1 (w:World) (a:Int):(convert 85 9 (.slice (some ⟨w.heap.size,0,none⟩) 1 1)).run Tryz.prog (w.alloc (.cells #[.int .u8 a] 5))=.ok (.string ⟨#[UInt8.ofNat a.toNat]⟩) (w.alloc (.cells #[.int .u8 a] 5)):=by
 refine run_convert_bytes_arg _ 85 5 Tryz.underlying85 Tryz.underlying5 w.heap.size 0 1 1 [a] rfl ?_ 9 Tryz.underlying9;intro i hi;rcases (show i=0 by omega) with rfl
 simp
theorem pickK (c n:Int) (w:World) (h0:-9223372036854775808<=c) (h1:c<=9223372036854775807) (hn:1<=n) (hn2:n<=4611686018427387904):
  Calls Tryz.prog 20 #[.int .i64 c,.int .i64 n] w fun e w'=>e=.returned (.int .i64 (pkV c n))/\w'=w:=by
 have hne:¬ n=0:=by omega
 by_cases hc:c < 0
 ·have HV:Hid (pkV c n = -((c+1).tmod n)):=by
   have h2:pkV c n=(-(c+1)) % n:=if_pos hc;unfold Hid;rw[h2,<-Int.neg_tmod,Int.tmod_eq_emod_of_nonneg (by omega)]
  go_enter Tryz.func20,Tryz.ntmps20;go_wp2;go_ret;exact⟨by rw[HV.out];rfl,rfl⟩
 ·have HV:Hid (pkV c n=c % n):=if_neg hc;have hc0:0<=c:=by omega
  clear hc;go_enter Tryz.func20,Tryz.ntmps20;go_wp2;go_ret;exact⟨by rw[HV.out];rfl,rfl⟩
def dgt (i:Nat):UInt8:=UInt8.ofNat (48+i)
def preD (c:Nat):List UInt8:=if c < 10 then [] else Lib.decDigits (c / 10)
theorem dec_pre (c:Nat):Lib.decDigits c=preD c ++ [dgt (c % 10)]:=by
 unfold preD dgt;by_cases h:c < 10
 ·rw[if_pos h,Lib.decDigits_one h,show c % 10=c by omega];rfl
 ·rw[if_neg h];conv=>lhs;rw[Lib.decDigits,dif_neg h]
def decB (u:Nat):ByteArray:=⟨(Lib.decDigits u).toArray⟩
theorem decB_size (u:Nat) (h:u < 10000000):(decB u).size<=7:=by
 have:=(dec_len u h).2;show (Lib.decDigits u).toArray.size<=7
 simpa using this
def numB (n:Int):ByteArray:=⟨(Lib.itoa n).toArray⟩
theorem numB_size (n:Int) (h0:-10000000 < n) (h1:n < 10000000):(numB n).size<=8:=by
 have:=(numLen n h0 h1).2;show (Lib.itoa n).toArray.size<=8
 simpa using this
theorem digitsPos (u:Nat) (w:World) (hu:u < 10000000):
  Calls Tryz.prog 21 #[.int .i64 u] w fun e w'=>e=.returned (.string (decB u))/\Kp w w' (fun _=>False):=by
 have hcv:=convK1 w (48+(u:Int) % 10);have e0:(48+(u:Int) % 10).toNat=48+u % 10:=by omega
 rw[e0,show UInt8.ofNat (48+u % 10)=dgt (u % 10) from rfl] at hcv;go_enter Tryz.func21,Tryz.ntmps21;go_wp2
 go_loopw [0,3] (fun n s wr=>∃ (c:Nat) (S:ByteArray),c<=u/\n=.int .i64 c/\s=.string S/\Lib.decDigits u=preD c ++ S.data.toList/\Kp w wr (fun _=>False)) (fun n _ _=>(intOf n).toNat)
 case atStart=>exact⟨u,_,Nat.le_refl _,rfl,rfl,dec_pre u,(Kp.refl _ _).alloc _⟩
 case round=>
  obtain⟨c,S,hcu,rfl,rfl,hS,hk⟩:=hrel;have hsz:S.size<=7:=by
   have h1:=(dec_len u hu).2;rw[hS,List.length_append] at h1;show S.data.size<=7;rw[<-Array.length_toList];omega
  have HS:=hide hS;have HK:=hide hk;clear hS hk hcv e0;by_cases hc:c < 10
  ·have hR:S=decB u:=by
    apply ByteArray.ext
    apply Array.ext'
    show S.data.toList=_;rw[decB,HS.out,preD,if_pos hc];simp
   have HR:=hide hR;clear hR;go_wp2;go_ret;exact⟨by rw[HR.out];rfl,HK.out⟩
  ·have hcv:=convK1 wr (48+(c:Int) / 10 % 10);have e0:(48+(c:Int) / 10 % 10).toNat=48+c / 10 % 10:=by omega
   rw[e0,show UInt8.ofNat (48+c / 10 % 10)=dgt (c / 10 % 10) from rfl] at hcv;go_wp2
   go_roundw
   case rel=>
    refine⟨c / 10,_,by omega,by go_num,rfl,?_,HK.out.alloc _⟩;rw[HS.out,preD,if_neg hc,dec_pre (c / 10),ba_app];simp
   case measure=>simp[intOf];omega
theorem digitsK (n:Int) (w:World) (h0:-10000000 < n) (h1:n < 10000000):
  Calls Tryz.prog 21 #[.int .i64 n] w fun e w'=>e=.returned (.string (numB n))/\Kp w w' (fun _=>False):=by
 by_cases hn:n < 0
 ·have HR:Hid ((⟨#[45]⟩:ByteArray) ++ decB n.natAbs=numB n):=by
   unfold Hid numB decB Lib.itoa;rw[if_pos hn,ba_app];simp
  have HD:=hide (digitsPos n.natAbs w (by omega));rw[show ((n.natAbs:Nat):Int) = -n by omega] at HD;have hne:¬ n = -n:=by omega
  have hsz:=decB_size n.natAbs (by omega);go_enter Tryz.func21,Tryz.ntmps21
  go_wp2_with fail
  refine HD.out.mono ?_;rintro e w1 ⟨rfl,hk⟩;go_wp2;go_ret;exact⟨by rw[HR.out];rfl,hk⟩
 ·have h:=digitsPos n.toNat w (by omega);rw[show ((n.toNat:Nat):Int)=n by omega] at h;have e:decB n.toNat=numB n:=by unfold decB numB Lib.itoa;rw[if_neg hn]
  rw[e] at h;exact h
theorem lt_of_cell {w:World} {q j:Nat} {u:Value} (hc:w.cell? ⟨q,j,none⟩=some u):q < w.heap.size:=by
 rcases Nat.lt_or_ge q w.heap.size with h|h
 ·exact h
 ·unfold World.cell? at hc;rw[Array.getElem?_eq_none h] at hc;cases hc
theorem row_ints {w:World} {b0:Nat} {v:Value} {l:List Int} (h:w.ownsRow b0 3 1 v l.length (ints l)):
  ∃ ao cap,v=.slice ao l.length cap/\∀ i (hi:i < l.length),∃ g,ao=some ⟨g,0,none⟩/\g < w.heap.size/\w.cell? ⟨g,i,none⟩=some (.int .i64 l[i]):=by
 have h0:=Joins.ownsRow_le h (Nat.zero_le _);obtain⟨ao,cap,e⟩:=row_slice h0;refine⟨ao,cap,e,fun i hi=>?_⟩;obtain⟨g,capv,e1,hc⟩:=row_cell h0 (by omega);rw[e] at e1;injection e1 with e1 _ _;have c:=hc i (.int .i64 l[i]) (by simp[ints,List.getElem?_eq_getElem hi]);exact⟨g,e1,lt_of_cell c,c⟩
theorem Kp.two {w w1 w2:World} {V V':Nat->Prop} (h:Kp w w1 (fun _=>False)) (hV:∀ k,V k->w.heap.size<=k) (t:To (fun _=>False) w1 w2 V V'):Kp w w2 (fun _=>False)/\∀ k,V' k->w.heap.size<=k:=by
 refine⟨⟨t.kp.os.trans h.os,t.kp.tape.trans h.tape,t.kp.output.trans h.output,Nat.le_trans h.size t.kp.size,fun k hk _=>(t.kp.block k (Nat.lt_of_lt_of_le hk h.size) (fun e=>?_)).trans (h.block k hk (fun e=>e))⟩,fun k hk=>?_⟩
 ·rcases e with e|e
  ·exact e
  ·have:=hV k e;omega
 ·rcases t.nx k hk with e|e
  ·exact hV k e
  ·exact Nat.le_trans h.size e
section
variable {PS:World->Nat->(Nat->Prop)->St->Prop} {B:Nat} {W0:World} (P:PCon B W0 PS)
include P
theorem lineK (w w0:World) (xb g:Nat) (V:Nat->Prop) (s s1:St) (left:Bool) (t:ByteArray) (hx:PS w xb V s) (hw:WFs s) (hk:Kp w0 w (fun _=>False)) (hV:∀ k,V k->w0.heap.size<=k) (hv:validB t.data.toList=true) (hr:xRun g (jToks (Lib.fields t.data.toList)) (freshL s)=some (s1,left)) (out:ByteArray) (er:Int) (ho:s1.out.data.toList=out.data.toList) (he:s1.e=er):
  Calls Tryz.prog 18 #[.pointer (some ⟨xb,0,none⟩),.string t] w fun e w'=>e=.returned (.tuple #[.string out,.int .i64 er])/\WFs (endL s1)/\∃ V',PS w' xb V' (endL s1)/\Kp w0 w' (fun _=>False)/\∀ k,V' k->w0.heap.size<=k:=by
 refine (P.line w xb V s s1 left g t hx hw hw.g hv hr).mono ?_;rintro e w1 ⟨rfl,V',hx1,hto⟩;have hoo:s1.out=out:=ByteArray.ext (Array.ext' ho);have:=Kp.two hk hV hto;exact⟨by rw[hoo,he],run_wf hw hv hr,V',hx1,this.1,this.2⟩
theorem freshK (w:World) (hb:Below B W0 w) (hB:B<=w.heap.size):
  Calls Tryz.prog 16 #[] w fun e w'=>∃ xb,e=.returned (.pointer (some ⟨xb,0,none⟩))/\∃ V,PS w' xb V fsC/\WFs fsC/\Kp w w' (fun _=>False)/\∀ k,V k->w.heap.size<=k:=by
 obtain⟨l1,r1⟩:=after_run fa1;obtain⟨l2,r2⟩:=after_run fa2;obtain⟨l3,r3⟩:=after_run fa3;have q1:endL fsA=fsA:=if_pos fo1.2;have q3:endL fsC=fsC:=if_pos fo3.2.1;go_enter Tryz.func16,Tryz.ntmps16
 go_wp2_with fail
 refine (P.new w hb hB).mono ?_;rintro e w1 ⟨xb,V,rfl,hx,hk1,hV⟩;have H1:=lineK P w1 w xb 100 V st0 fsA l1 fl1 hx WFs.first hk1 hV fv1 r1 ⟨#[52,57,32]⟩ 0 fo1.1 fo1.2
 rw[q1] at H1;have H1:=hide H1;clear hx hk1 hV
 go_wp2_with fail
 refine H1.out.mono ?_;rintro e w2 ⟨rfl,wf1,V1,hx1,hk1,hV1⟩;have H2:=hide (lineK P w2 w xb 100 V1 fsA fsB0 l2 fl2 hx1 wf1 hk1 hV1 fv2 r2 ⟨#[]⟩ 6 fo2.1 fo2.2);clear hx1 hk1 hV1 wf1 H1
 go_wp2_with fail
 refine H2.out.mono ?_;rintro e w3 ⟨rfl,wf2,V2,hx2,hk2,hV2⟩;have H3:=P.cell w3 xb V2 fsB 3 hx2 ⟨by decide,by decide⟩;rw[fc] at H3;have H3:=hide H3;have HK2:=hide hk2;have HV2:=hide hV2;have HWF:=hide wf2;clear hx2 wf2 H2 hk2 hV2
 go_wp2_with fail
 refine H3.out.mono ?_;rintro e w4 ⟨rfl,V3,hx3,hto3⟩;have K3:=Kp.two HK2.out HV2.out hto3;have H4:=lineK P w4 w xb 100 V3 fsB fsC l3 fl3 hx3 HWF.out K3.1 K3.2 fv3 r3 ⟨#[]⟩ 0 fo3.1 fo3.2.1;rw[q3] at H4;have H4:=hide H4;clear hx3 hto3 K3 H3 HK2 HV2 HWF
 go_wp2_with fail
 refine H4.out.mono ?_;rintro e w5 ⟨rfl,wf3,V4,hx4,hk4,hV4⟩;have HF:Hid (∃ V,PS w5 xb V fsC/\WFs fsC/\Kp w w5 (fun _=>False)/\∀ k,V k->w.heap.size<=k):=⟨V4,hx4,wf3,hk4,hV4⟩;clear hx4 wf3 hk4 hV4 H4;go_wp2;go_ret;exact⟨xb,rfl,HF.out⟩
end
end
end Go.Proofs.YteainaiebcphlaaGreatDoor
