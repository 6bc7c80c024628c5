import Derived.Test.YteainaiebcphlaaGreatDoorX26
import Derived.Test.YteainaiebcphlaaGreatDoorX15
import Derived.Handy
namespace Go.Proofs.YteainaiebcphlaaGreatDoor
set_option maxRecDepth 1000000
set_option maxHeartbeats 4000000
set_option linter.all false
section
open Go.RowKit
def pkV (c n:Int):Int:=if c < 0 then (-(c+1)) % n else c % n
theorem pkV_lt (c n:Int) (hn:1<=n):0<=pkV c n/\pkV c n < n:=by
 unfold pkV
 split
 ·exact⟨Int.emod_nonneg _ (by omega),Int.emod_lt_of_pos _ (by omega)⟩
 ·exact⟨Int.emod_nonneg _ (by omega),Int.emod_lt_of_pos _ (by omega)⟩
theorem convK1 (w:World) (a:Int):(convert 85 9 (.slice (some ⟨w.heap.size,0,none⟩) 1 1)).run Tryz.prog (w.alloc (.cells #[.int .u8 a] 5))=.ok (.string ⟨#[UInt8.ofNat a.toNat]⟩) (w.alloc (.cells #[.int .u8 a] 5)):=by
 refine run_convert_bytes_arg _ 85 5 Tryz.underlying85 Tryz.underlying5 w.heap.size 0 1 1 [a] rfl ?_ 9 Tryz.underlying9;intro i hi;rcases (show i=0 by omega) with rfl
 simp
theorem pickK (c n:Int) (w:World) (h0:-9223372036854775808<=c) (h1:c<=9223372036854775807) (hn:1<=n) (hn2:n<=4611686018427387904):
  Calls Tryz.prog 20 #[.int .i64 c,.int .i64 n] w fun e w'=>e=.returned (.int .i64 (pkV c n))/\w'=w:=by
 have hne:¬ n=0:=by omega
 by_cases hc:c < 0
 ·have HV:Hid (pkV c n = -((c+1).tmod n)):=by
   have h2:pkV c n=(-(c+1)) % n:=if_pos hc;unfold Hid;rw[h2,<-Int.neg_tmod,Int.tmod_eq_emod_of_nonneg (by omega)]
  go_enter Tryz.func20,Tryz.ntmps20;go_wp2;go_ret;exact⟨by rw[HV.out];rfl,rfl⟩
 ·have HV:Hid (pkV c n=c % n):=if_neg hc;have hc0:0<=c:=by omega
  clear hc;go_enter Tryz.func20,Tryz.ntmps20;go_wp2;go_ret;exact⟨by rw[HV.out];rfl,rfl⟩
def dgt (i:Nat):UInt8:=UInt8.ofNat (48+i)
def preD (c:Nat):List UInt8:=if c < 10 then [] else Lib.decDigits (c / 10)
theorem dec_pre (c:Nat):Lib.decDigits c=preD c ++ [dgt (c % 10)]:=by
 unfold preD dgt;by_cases h:c < 10
 ·rw[if_pos h,Lib.decDigits_one h,show c % 10=c by omega];rfl
 ·rw[if_neg h];conv=>lhs;rw[Lib.decDigits,dif_neg h]
def decB (u:Nat):ByteArray:=⟨(Lib.decDigits u).toArray⟩
theorem decB_size (u:Nat) (h:u < 10000000):(decB u).size<=7:=by
 have:=(dec_len u h).2;show (Lib.decDigits u).toArray.size<=7
 simpa using this
def numB (n:Int):ByteArray:=⟨(Lib.itoa n).toArray⟩
theorem numB_size (n:Int) (h0:-10000000 < n) (h1:n < 10000000):(numB n).size<=8:=by
 have:=(numLen n h0 h1).2;show (Lib.itoa n).toArray.size<=8
 simpa using this
theorem digitsPos (u:Nat) (w:World) (hu:u < 10000000):
  Calls Tryz.prog 21 #[.int .i64 u] w fun e w'=>e=.returned (.string (decB u))/\Kp w w' (fun _=>False):=by
 have hcv:=convK1 w (48+(u:Int) % 10);have e0:(48+(u:Int) % 10).toNat=48+u % 10:=by omega
 rw[e0,show UInt8.ofNat (48+u % 10)=dgt (u % 10) from rfl] at hcv;go_enter Tryz.func21,Tryz.ntmps21;go_wp2
 go_loopw [0,3] (fun n s wr=>∃ (c:Nat) (S:ByteArray),c<=u/\n=.int .i64 c/\s=.string S/\Lib.decDigits u=preD c ++ S.data.toList/\Kp w wr (fun _=>False)) (fun n _ _=>(intOf n).toNat)
 case atStart=>exact⟨u,_,Nat.le_refl _,rfl,rfl,dec_pre u,(Kp.refl _ _).alloc _⟩
 case round=>
  obtain⟨c,S,hcu,rfl,rfl,hS,hk⟩:=hrel;have hsz:S.size<=7:=by
   have h1:=(dec_len u hu).2;rw[hS,List.length_append] at h1;show S.data.size<=7;rw[<-Array.length_toList];omega
  have HS:=hide hS;have HK:=hide hk;clear hS hk hcv e0;by_cases hc:c < 10
  ·have hR:S=decB u:=by
    apply ByteArray.ext
    apply Array.ext'
    show S.data.toList=_;rw[decB,HS.out,preD,if_pos hc];simp
   have HR:=hide hR;clear hR;go_wp2;go_ret;exact⟨by rw[HR.out];rfl,HK.out⟩
  ·have hcv:=convK1 wr (48+(c:Int) / 10 % 10);have e0:(48+(c:Int) / 10 % 10).toNat=48+c / 10 % 10:=by omega
   rw[e0,show UInt8.ofNat (48+c / 10 % 10)=dgt (c / 10 % 10) from rfl] at hcv;go_wp2
   go_roundw
   case rel=>
    refine⟨c / 10,_,by omega,by go_num,rfl,?_,HK.out.alloc _⟩;rw[HS.out,preD,if_neg hc,dec_pre (c / 10),ba_app];simp
   case measure=>simp[intOf];omega
theorem digitsK (n:Int) (w:World) (h0:-10000000 < n) (h1:n < 10000000):
  Calls Tryz.prog 21 #[.int .i64 n] w fun e w'=>e=.returned (.string (numB n))/\Kp w w' (fun _=>False):=by
 by_cases hn:n < 0
 ·have HR:Hid ((⟨#[45]⟩:ByteArray) ++ decB n.natAbs=numB n):=by
   unfold Hid numB decB Lib.itoa;rw[if_pos hn,ba_app];simp
  have HD:=hide (digitsPos n.natAbs w (by omega));rw[show ((n.natAbs:Nat):Int) = -n by omega] at HD;have hne:¬ n = -n:=by omega
  have hsz:=decB_size n.natAbs (by omega);go_enter Tryz.func21,Tryz.ntmps21
  go_wp2_with fail
  refine HD.out.mono ?_;rintro e w1 ⟨rfl,hk⟩;go_wp2;go_ret;exact⟨by rw[HR.out];rfl,hk⟩
 ·have h:=digitsPos n.toNat w (by omega);rw[show ((n.toNat:Nat):Int)=n by omega] at h;have e:decB n.toNat=numB n:=by unfold decB numB Lib.itoa;rw[if_neg hn]
  rw[e] at h;exact h
theorem lt_of_cell {w:World} {q j:Nat} {u:Value} (hc:w.cell? ⟨q,j,none⟩=some u):q < w.heap.size:=by
 rcases Nat.lt_or_ge q w.heap.size with h|h
 ·exact h
 ·unfold World.cell? at hc;rw[Array.getElem?_eq_none h] at hc;cases hc
theorem row_ints {w:World} {b0:Nat} {v:Value} {l:List Int} (h:w.ownsRow b0 3 1 v l.length (ints l)):
  ∃ ao cap,v=.slice ao l.length cap/\∀ i (hi:i < l.length),∃ g,ao=some ⟨g,0,none⟩/\g < w.heap.size/\w.cell? ⟨g,i,none⟩=some (.int .i64 l[i]):=by
 have h0:=Joins.ownsRow_le h (Nat.zero_le _);obtain⟨ao,cap,e⟩:=row_slice h0;refine⟨ao,cap,e,fun i hi=>?_⟩;obtain⟨g,capv,e1,hc⟩:=row_cell h0 (by omega);rw[e] at e1;injection e1 with e1 _ _;have c:=hc i (.int .i64 l[i]) (by simp[ints,List.getElem?_eq_getElem hi]);exact⟨g,e1,lt_of_cell c,c⟩
theorem Kp.two {w w1 w2:World} {V V':Nat->Prop} (h:Kp w w1 (fun _=>False)) (hV:∀ k,V k->w.heap.size<=k) (t:To (fun _=>False) w1 w2 V V'):Kp w w2 (fun _=>False)/\∀ k,V' k->w.heap.size<=k:=by
 refine⟨⟨t.kp.os.trans h.os,t.kp.tape.trans h.tape,t.kp.output.trans h.output,Nat.le_trans h.size t.kp.size,fun k hk _=>(t.kp.block k (Nat.lt_of_lt_of_le hk h.size) (fun e=>?_)).trans (h.block k hk (fun e=>e))⟩,fun k hk=>?_⟩
 ·rcases e with e|e
  ·exact e
  ·have:=hV k e;omega
 ·rcases t.nx k hk with e|e
  ·exact hV k e
  ·exact Nat.le_trans h.size e
section
variable {PS:World->Nat->(Nat->Prop)->St->Prop} {B:Nat} {W0:World} (P:PCon B W0 PS)
include P
theorem lineK (w w0:World) (xb g:Nat) (V:Nat->Prop) (s s1:St) (left:Bool) (t:ByteArray) (hx:PS w xb V s) (hw:WFs s) (hk:Kp w0 w (fun _=>False)) (hV:∀ k,V k->w0.heap.size<=k) (hv:validB t.data.toList=true) (hr:xRun g (jToks (Lib.fields t.data.toList)) (freshL s)=some (s1,left)) (out:ByteArray) (er:Int) (ho:s1.out.data.toList=out.data.toList) (he:s1.e=er):
  Calls Tryz.prog 18 #[.pointer (some ⟨xb,0,none⟩),.string t] w fun e w'=>e=.returned (.tuple #[.string out,.int .i64 er])/\WFs (endL s1)/\∃ V',PS w' xb V' (endL s1)/\Kp w0 w' (fun _=>False)/\∀ k,V' k->w0.heap.size<=k:=by
 refine (P.line w xb V s s1 left g t hx hw hw.g hv hr).mono ?_;rintro e w1 ⟨rfl,V',hx1,hto⟩;have hoo:s1.out=out:=ByteArray.ext (Array.ext' ho);have:=Kp.two hk hV hto;exact⟨by rw[hoo,he],run_wf hw hv hr,V',hx1,this.1,this.2⟩
theorem freshK (w:World) (hb:Below B W0 w) (hB:B<=w.heap.size):
  Calls Tryz.prog 16 #[] w fun e w'=>∃ xb,e=.returned (.pointer (some ⟨xb,0,none⟩))/\∃ V,PS w' xb V fsC/\WFs fsC/\Kp w w' (fun _=>False)/\∀ k,V k->w.heap.size<=k:=by
 obtain⟨l1,r1⟩:=after_run fa1;obtain⟨l2,r2⟩:=after_run fa2;obtain⟨l3,r3⟩:=after_run fa3;have q1:endL fsA=fsA:=if_pos fo1.2;have q3:endL fsC=fsC:=if_pos fo3.2.1;go_enter Tryz.func16,Tryz.ntmps16
 go_wp2_with fail
 refine (P.new w hb hB).mono ?_;rintro e w1 ⟨xb,V,rfl,hx,hk1,hV⟩;have H1:=lineK P w1 w xb 100 V st0 fsA l1 fl1 hx WFs.first hk1 hV fv1 r1 ⟨#[52,57,32]⟩ 0 fo1.1 fo1.2
 rw[q1] at H1;have H1:=hide H1;clear hx hk1 hV
 go_wp2_with fail
 refine H1.out.mono ?_;rintro e w2 ⟨rfl,wf1,V1,hx1,hk1,hV1⟩;have H2:=hide (lineK P w2 w xb 100 V1 fsA fsB0 l2 fl2 hx1 wf1 hk1 hV1 fv2 r2 ⟨#[]⟩ 6 fo2.1 fo2.2);clear hx1 hk1 hV1 wf1 H1
 go_wp2_with fail
 refine H2.out.mono ?_;rintro e w3 ⟨rfl,wf2,V2,hx2,hk2,hV2⟩;have H3:=P.cell w3 xb V2 fsB 3 hx2 ⟨by decide,by decide⟩;rw[fc] at H3;have H3:=hide H3;have HK2:=hide hk2;have HV2:=hide hV2;have HWF:=hide wf2;clear hx2 wf2 H2 hk2 hV2
 go_wp2_with fail
 refine H3.out.mono ?_;rintro e w4 ⟨rfl,V3,hx3,hto3⟩;have K3:=Kp.two HK2.out HV2.out hto3;have H4:=lineK P w4 w xb 100 V3 fsB fsC l3 fl3 hx3 HWF.out K3.1 K3.2 fv3 r3 ⟨#[]⟩ 0 fo3.1 fo3.2.1;rw[q3] at H4;have H4:=hide H4;clear hx3 hto3 K3 H3 HK2 HV2 HWF
 go_wp2_with fail
 refine H4.out.mono ?_;rintro e w5 ⟨rfl,wf3,V4,hx4,hk4,hV4⟩;have HF:Hid (∃ V,PS w5 xb V fsC/\WFs fsC/\Kp w w5 (fun _=>False)/\∀ k,V k->w.heap.size<=k):=⟨V4,hx4,wf3,hk4,hV4⟩;clear hx4 wf3 hk4 hV4 H4;go_wp2;go_ret;exact⟨xb,rfl,HF.out⟩
end
end
section
open Go.RowKit
theorem XR.callI {f:Fr} {lp:List Int} {s s1:St} {t:Tok} {d:Def} (he:s.e=0) (hs:s.steps < 2000) (hd:s.defs.find? (fun d=>d.name == t)=some d) (h1:XR (jEnter ⟨d.id,d.name,d.body⟩) s.up s1) (he1:s1.e=0):XR (jItem f lp ⟨99,0,t,[],[],[]⟩) s s1:=by
 obtain⟨g,h1⟩:=h1;refine⟨g+1+1,?_⟩;rw[x_one (g+1) f lp s _ (by decide:¬ (99:Nat)=63) (by decide:¬ (99:Nat)=117) (by decide:¬ (99:Nat)=119),step_up hs,if_neg (by show ¬ s.e ≠ 0;simp[he])]
 show (match xRun (g+1) (jCall t) s.up with
  | none=>none
  | some (s2,_)=>some (s2,decide (s2.e ≠ 0)))=_
 rw[x_call,show s.up.defs.find? (fun d=>d.name == t)=some d from hd];dsimp only;rw[h1];dsimp only;rw[he1];rfl
def kA:Tok:=[97]
def kB:Tok:=[98]
def kC:Tok:=[99]
def kDot:Tok:=[46]
def nIt (v:Int):It:=⟨110,v,[],[],[],[]⟩
def cIt (t:Tok):It:=⟨99,0,t,[],[],[]⟩
def wIt (t:Tok):It:=⟨112,0,t,[],[],[]⟩
def cBody:List It:=[cIt kB,cIt kB,wIt kPlus]
def LS (mem:Nat->Int) (N ia ib ic va:Int) (Bb:List It) (ca cb cc:Int) (rs:List Int) (steps depth:Int) (out:ByteArray):St:=
 ⟨rs,mem,[⟨[115,113],2,[],0,false,[]⟩,⟨kA,ia,[nIt va],ca,false,[]⟩,⟨kB,ib,Bb,cb,false,[]⟩,⟨kC,ic,cBody,cc,false,[]⟩],N,1000,1,0,steps,depth,out⟩
theorem wrap_small {n:Int} (h0:-1000000<=n) (h1:n<=1000000):wrap64 n=n:=by unfold wrap64;omega
section
variable {mem:Nat->Int} {N ia ib ic va x:Int} {Bb:List It} {ca cb cc:Int} {rs:List Int} {steps depth:Int} {out:ByteArray}
theorem comeA (h0:0<=ca) (h1:ca < 900):xCome 10 ⟨ia,kA,[nIt va]⟩ (LS mem N ia ib ic va Bb ca cb cc rs steps depth out)=some (LS mem N ia ib ic va Bb (ca+1) cb cc rs steps depth out):=by
 have w:=wrap_small (n:=ca+1) (by omega) (by omega);simp[xCome,St.find,St.count,List.findIdx?_cons,LS,kA,w];omega
theorem comeB (h0:0<=cb) (h1:cb < 900):xCome 10 ⟨ib,kB,Bb⟩ (LS mem N ia ib ic va Bb ca cb cc rs steps depth out)=some (LS mem N ia ib ic va Bb ca (cb+1) cc rs steps depth out):=by
 have w:=wrap_small (n:=cb+1) (by omega) (by omega);simp[xCome,St.find,St.count,List.findIdx?_cons,LS,kA,kB,w];omega
theorem comeC (h0:0<=cc) (h1:cc < 900):xCome 10 ⟨ic,kC,cBody⟩ (LS mem N ia ib ic va Bb ca cb cc rs steps depth out)=some (LS mem N ia ib ic va Bb ca cb (cc+1) rs steps depth out):=by
 have w:=wrap_small (n:=cc+1) (by omega) (by omega);simp[xCome,St.find,St.count,List.findIdx?_cons,LS,kA,kB,kC,w];omega
theorem enterA (h0:0<=ca) (h1:ca < 900) (hs:steps < 2000) (hd:depth < 20) (hr:rs.length < 32):XR (jEnter ⟨ia,kA,[nIt va]⟩) (LS mem N ia ib ic va Bb ca cb cc rs steps depth out) (LS mem N ia ib ic va Bb (ca+1) cb cc (va :: rs) (steps+1) depth out):=by
 have k1:XR (jItem ⟨ia,kA,[nIt va]⟩ [] (nIt va)) (LS mem N ia ib ic va Bb (ca+1) cb cc rs steps (depth+1) out) (LS mem N ia ib ic va Bb (ca+1) cb cc (va :: rs) (steps+1) (depth+1) out):=XR.num va rfl hs hr;have k2:=XR.enter (s:=LS mem N ia ib ic va Bb ca cb cc rs steps depth out) hd (comeA h0 h1) (XR.cons k1 rfl XR.nil);have e:({ (LS mem N ia ib ic va Bb (ca+1) cb cc (va :: rs) (steps+1) (depth+1) out) with depth:=(LS mem N ia ib ic va Bb (ca+1) cb cc (va :: rs) (steps+1) (depth+1) out).depth - 1 }:St)=LS mem N ia ib ic va Bb (ca+1) cb cc (va :: rs) (steps+1) depth out:=by
  show LS mem N ia ib ic va Bb (ca+1) cb cc (va :: rs) (steps+1) (depth+1 - 1) out=_;rw[Int.add_sub_cancel]
 rw[e] at k2;exact k2
end
def BOk (va:Int) (Bb:List It) (x:Int) (sb:Int):Prop:=0<=sb/\sb<=10/\∀ (mem:Nat->Int) (N ia ib ic ca cb cc:Int) (rs:List Int) (steps depth:Int) (out:ByteArray) (f:Fr) (lp:List Int),0<=ca->ca < 900->steps+sb<=2000->depth < 20->rs.length+2<=32 ->
 XR (jBody f lp Bb) (LS mem N ia ib ic va Bb ca cb cc rs steps depth out) (LS mem N ia ib ic va Bb (ca+1) cb cc (x :: rs) (steps+sb) depth out)
theorem bok1 (va:Int):BOk va [cIt kA] va 2:=by
 refine⟨by decide,by decide,fun mem N ia ib ic ca cb cc rs steps depth out f lp h0 h1 hs hd hr=>?_⟩;have k0:=enterA (mem:=mem) (N:=N) (ia:=ia) (ib:=ib) (ic:=ic) (va:=va) (Bb:=[cIt kA]) (ca:=ca) (cb:=cb) (cc:=cc) (rs:=rs) (steps:=steps+1) (depth:=depth) (out:=out) h0 h1 (by omega) hd (by omega);have k1:XR (jItem f lp (cIt kA)) (LS mem N ia ib ic va [cIt kA] ca cb cc rs steps depth out) _:=XR.callI rfl (show steps < 2000 by omega) (d:=⟨kA,ia,[nIt va],ca,false,[]⟩) rfl k0 rfl;rw[show steps+1+1=steps+2 by omega] at k1;exact XR.cons k1 rfl XR.nil
theorem bok2 (va vb:Int):BOk va [cIt kA,nIt vb,wIt kPlus] (wrap64 (va+vb)) 4:=by
 refine⟨by decide,by decide,fun mem N ia ib ic ca cb cc rs steps depth out f lp h0 h1 hs hd hr=>?_⟩;have k0:=enterA (mem:=mem) (N:=N) (ia:=ia) (ib:=ib) (ic:=ic) (va:=va) (Bb:=[cIt kA,nIt vb,wIt kPlus]) (ca:=ca) (cb:=cb) (cc:=cc) (rs:=rs) (steps:=steps+1) (depth:=depth) (out:=out) h0 h1 (by omega) hd (by omega);have k1:XR (jItem f lp (cIt kA)) (LS mem N ia ib ic va [cIt kA,nIt vb,wIt kPlus] ca cb cc rs steps depth out) _:=XR.callI rfl (show steps < 2000 by omega) (d:=⟨kA,ia,[nIt va],ca,false,[]⟩) rfl k0 rfl;have k2:XR (jItem f lp (nIt vb)) (LS mem N ia ib ic va [cIt kA,nIt vb,wIt kPlus] (ca+1) cb cc (va :: rs) (steps+1+1) depth out) (LS mem N ia ib ic va [cIt kA,nIt vb,wIt kPlus] (ca+1) cb cc (vb :: va :: rs) (steps+1+1+1) depth out):=XR.num vb rfl (show steps+1+1 < 2000 by omega) (show (va :: rs).length < 32 by simp;omega);have k3:XR (jItem f lp (wIt kPlus)) (LS mem N ia ib ic va [cIt kA,nIt vb,wIt kPlus] (ca+1) cb cc (vb :: va :: rs) (steps+1+1+1) depth out) (LS mem N ia ib ic va [cIt kA,nIt vb,wIt kPlus] (ca+1) cb cc (wrap64 (va+vb) :: rs) (steps+1+1+1+1) depth out):=XR.word (k:=0) (by decide) rfl (show steps+1+1+1 < 2000 by omega) rfl;have k4:=XR.cons k1 rfl (XR.cons k2 rfl (XR.cons k3 rfl XR.nil));rw[show steps+1+1+1+1=steps+4 by omega] at k4;exact k4
section
variable {mem:Nat->Int} {N ia ib ic va x sb:Int} {Bb:List It} {ca cb cc:Int} {rs:List Int} {steps depth:Int} {out:ByteArray}
theorem enterB (hB:BOk va Bb x sb) (h0:0<=ca) (h1:ca < 900) (h2:0<=cb) (h3:cb < 900) (hs:steps+sb<=2000) (hd:depth < 19) (hr:rs.length+2<=32):XR (jEnter ⟨ib,kB,Bb⟩) (LS mem N ia ib ic va Bb ca cb cc rs steps depth out) (LS mem N ia ib ic va Bb (ca+1) (cb+1) cc (x :: rs) (steps+sb) depth out):=by
 have k1:=hB.2.2 mem N ia ib ic ca (cb+1) cc rs steps (depth+1) out ⟨ib,kB,Bb⟩ [] h0 h1 hs (by omega) hr;have k2:=XR.enter (s:=LS mem N ia ib ic va Bb ca cb cc rs steps depth out) (f:=⟨ib,kB,Bb⟩) (show depth < 20 by omega) (comeB h2 h3) k1;have e:({ (LS mem N ia ib ic va Bb (ca+1) (cb+1) cc (x :: rs) (steps+sb) (depth+1) out) with depth:=(LS mem N ia ib ic va Bb (ca+1) (cb+1) cc (x :: rs) (steps+sb) (depth+1) out).depth - 1 }:St)=LS mem N ia ib ic va Bb (ca+1) (cb+1) cc (x :: rs) (steps+sb) depth out:=by
  show LS mem N ia ib ic va Bb (ca+1) (cb+1) cc (x :: rs) (steps+sb) (depth+1 - 1) out=_;rw[Int.add_sub_cancel]
 rw[e] at k2;exact k2
theorem enterC (hB:BOk va Bb x sb) (h0:0<=ca) (h1:ca < 890) (h2:0<=cb) (h3:cb < 890) (h4:0<=cc) (h5:cc < 890) (hs:steps+30<=2000) (hd:depth < 18) (hr:rs.length+3<=32):XR (jEnter ⟨ic,kC,cBody⟩) (LS mem N ia ib ic va Bb ca cb cc rs steps depth out) (LS mem N ia ib ic va Bb (ca+2) (cb+2) (cc+1) (wrap64 (x+x) :: rs) (steps+(3+2 * sb)) depth out):=by
 have b0:=hB.1;have b1:=hB.2.1;have q1:=enterB (mem:=mem) (N:=N) (ia:=ia) (ib:=ib) (ic:=ic) (ca:=ca) (cb:=cb) (cc:=cc+1) (rs:=rs) (steps:=steps+1) (depth:=depth+1) (out:=out) hB h0 (by omega) h2 (by omega) (by omega) (by omega) (by omega);have k1:XR (jItem ⟨ic,kC,cBody⟩ [] (cIt kB)) (LS mem N ia ib ic va Bb ca cb (cc+1) rs steps (depth+1) out) _:=XR.callI rfl (show steps < 2000 by omega) (d:=⟨kB,ib,Bb,cb,false,[]⟩) rfl q1 rfl;have q2:=enterB (mem:=mem) (N:=N) (ia:=ia) (ib:=ib) (ic:=ic) (ca:=ca+1) (cb:=cb+1) (cc:=cc+1) (rs:=x :: rs) (steps:=steps+1+sb+1) (depth:=depth+1) (out:=out) hB (by omega) (by omega) (by omega) (by omega) (by omega) (by omega) (by simp;omega);have k2:XR (jItem ⟨ic,kC,cBody⟩ [] (cIt kB)) (LS mem N ia ib ic va Bb (ca+1) (cb+1) (cc+1) (x :: rs) (steps+1+sb) (depth+1) out) _:=XR.callI rfl (show steps+1+sb < 2000 by omega) (d:=⟨kB,ib,Bb,cb+1,false,[]⟩) rfl q2 rfl;have k3:XR (jItem ⟨ic,kC,cBody⟩ [] (wIt kPlus)) (LS mem N ia ib ic va Bb (ca+1+1) (cb+1+1) (cc+1) (x :: x :: rs) (steps+1+sb+1+sb) (depth+1) out) (LS mem N ia ib ic va Bb (ca+1+1) (cb+1+1) (cc+1) (wrap64 (x+x) :: rs) (steps+1+sb+1+sb+1) (depth+1) out):=XR.word (k:=0) (by decide) rfl (show steps+1+sb+1+sb < 2000 by omega) rfl;have k4:=XR.cons k1 rfl (XR.cons k2 rfl (XR.cons k3 rfl XR.nil));have k5:=XR.enter (s:=LS mem N ia ib ic va Bb ca cb cc rs steps depth out) (f:=⟨ic,kC,cBody⟩) (show depth < 20 by omega) (comeC h4 (by omega)) k4;have e:({ (LS mem N ia ib ic va Bb (ca+1+1) (cb+1+1) (cc+1) (wrap64 (x+x) :: rs) (steps+1+sb+1+sb+1) (depth+1) out) with depth:=(LS mem N ia ib ic va Bb (ca+1+1) (cb+1+1) (cc+1) (wrap64 (x+x) :: rs) (steps+1+sb+1+sb+1) (depth+1) out).depth - 1 }:St)=LS mem N ia ib ic va Bb (ca+2) (cb+2) (cc+1) (wrap64 (x+x) :: rs) (steps+(3+2 * sb)) depth out:=by
  show LS mem N ia ib ic va Bb (ca+1+1) (cb+1+1) (cc+1) (wrap64 (x+x) :: rs) (steps+1+sb+1+sb+1) (depth+1 - 1) out=_;rw[Int.add_sub_cancel,show ca+1+1=ca+2 by omega,show cb+1+1=cb+2 by omega,show steps+1+sb+1+sb+1=steps+(3+2 * sb) by omega]
 rw[e] at k5;exact k5
end
end
section
open Go.RowKit
section
variable {f:Fr} {lp:List Int} {s s1 s2:St}
end
def n7:It:=⟨110,7,[],[],[],[]⟩
end
section
open Go.RowKit
def LineIs (s:St) (t:ByteArray) (out:ByteArray) (er:Int) (s2:St):Prop:=
 (validB t.data.toList=true/\∃ g s1 l,xRun g (jToks (Lib.fields t.data.toList)) (freshL s)=some (s1,l)/\out=s1.out/\er=s1.e/\s2=endL s1) \/
 (validB t.data.toList=false/\out=⟨#[]⟩/\er=2/\s2=s)
theorem Sim.fresh {s s':St} (h:Sim s s'):Sim (freshL s) (freshL s'):=⟨h.rs,h.mem,h.defs,h.ids,rfl,rfl,rfl,rfl⟩
theorem Sim.ended {s s':St} (h:Sim s s'):Sim (endL s) (endL s'):=by
 unfold endL;rw[h.e]
 split
 ·exact h
 ·exact⟨rfl,h.mem,h.defs,h.ids,rfl,h.steps,h.depth,h.out⟩
theorem line_sim {s s':St} (h:Sim s s') {t out out':ByteArray} {er er':Int} {s2 s2':St} (h1:LineIs s t out er s2) (h2:LineIs s' t out' er' s2'):out=out'/\er=er'/\Sim s2 s2':=by
 rcases h1 with⟨hv,g,s1,l,hr,rfl,rfl,rfl⟩|⟨hv,rfl,rfl,rfl⟩
 ·rcases h2 with⟨_,g',s1',l',hr',rfl,rfl,rfl⟩|⟨hv',_⟩
  ·have q:=(sim_runs (fun {_ _} hg {_ _ _} h=>xRun_mono hg h) h.fresh hr hr').1;exact⟨q.out,q.e,q.ended⟩
  ·rw[hv] at hv';cases hv'
 ·rcases h2 with⟨hv',_⟩|⟨_,rfl,rfl,rfl⟩
  ·rw[hv] at hv';cases hv'
  ·exact⟨rfl,rfl,h⟩
def badU (hot built:Int):Prop:=hot < 1\/1000 < hot\/built < 0\/3 < built
def TuneC (PS:World->Nat->(Nat->Prop)->St->Prop):Prop:=∀ w xb V s hot built,PS w xb V s->In hot->In built ->
 Calls Tryz.prog 22 #[.pointer (some ⟨xb,0,none⟩),.int .i64 hot,.int .i64 built] w fun e w'=>∃ r:Int,e=.returned (.int .i64 r)/\(¬ badU hot built->r=0)/\∃ V' s',PS w' xb V' s'/\(WFs s->WFs s')/\Sim s' s/\To (fun _=>False) w w' V V'
section
variable {PS:World->Nat->(Nat->Prop)->St->Prop} {B:Nat} {W0:World} (P:PCon B W0 PS)
include P
theorem line_any (w:World) (xb:Nat) (V:Nat->Prop) (s:St) (t:ByteArray) (hx:PS w xb V s) (hw:WFs s):
  ∃ out er s2,WFs s2/\LineIs s t out er s2/\Calls Tryz.prog 18 #[.pointer (some ⟨xb,0,none⟩),.string t] w fun e w'=>e=.returned (.tuple #[.string out,.int .i64 er])/\∃ V',PS w' xb V' s2/\To (fun _=>False) w w' V V':=by
 cases hv:validB t.data.toList with
 | true=>
  obtain⟨g,s1,l,hr,hwf⟩:=line_total s hw t.data.toList (valid_fields hv);exact⟨s1.out,s1.e,endL s1,run_wf hw hv hr,.inl ⟨hv,g,s1,l,hr,rfl,rfl,rfl⟩,P.line w xb V s s1 l g t hx hw hw.g hv hr⟩
 | false=>exact⟨⟨#[]⟩,2,s,hw,.inr ⟨hv,rfl,rfl,rfl⟩,P.lineBad w xb V s t hx hv⟩
end
end
section
open Go.RowKit
def k7:Tok:=[55]
def k0:Tok:=[48]
section
variable {PS:World->Nat->(Nat->Prop)->St->Prop} {B:Nat} {W0:World} (P:PCon B W0 PS)
include P
theorem line_as (w:World) (xb:Nat) (V:Nat->Prop) (s s0 s2:St) (t out:ByteArray) (er:Int) (hx:PS w xb V s) (hw:WFs s) (hs:Sim s s0) (hl:LineIs s0 t out er s2):
  Calls Tryz.prog 18 #[.pointer (some ⟨xb,0,none⟩),.string t] w fun e w'=>e=.returned (.tuple #[.string out,.int .i64 er])/\∃ V' s',PS w' xb V' s'/\WFs s'/\Sim s' s2/\To (fun _=>False) w w' V V':=by
 obtain⟨out',er',s2',hw2,hl2,hc⟩:=line_any P w xb V s t hx hw;obtain⟨rfl,rfl,hs2⟩:=line_sim hs hl2 hl;refine hc.mono ?_;rintro e w' ⟨rfl,V',hx',hto⟩;exact⟨rfl,V',s2',hx',hw2,hs2,hto⟩
end
end
section
open Go.RowKit
def k1:Tok:=[49]
theorem callA':IsCall kA:=⟨by decide,by decide,by decide,by decide⟩
theorem callB':IsCall kB:=⟨by decide,by decide,by decide,by decide⟩
theorem callC':IsCall kC:=⟨by decide,by decide,by decide,by decide⟩
def sL (mem:Nat->Int) (built:Int):St:=⟨[],mem,[⟨[115,113],2,[],0,false,[]⟩,⟨kA,3,[nIt 0],0,false,[]⟩,⟨kB,4,[cIt kA],0,false,[]⟩,⟨kC,5,cBody,0,false,[]⟩],5,5,built,0,3,0,⟨#[]⟩⟩
def toks0:List Tok:=[kColon,kA,k0,kSemi,kColon,kB,kA,kSemi,kColon,kC,kB,kB,kPlus,kSemi]
theorem line_0 (s:St) (h:Fsh s):XR (jToks toks0) (freshL s) (sL s.mem s.built):=by
 obtain⟨rs,mem,defs,ids,hot,built,e,steps,depth,out⟩:=s;obtain⟨h1,h2,h3,h4⟩:=h;simp only at h1 h2 h3 h4;subst h1 h2 h3 h4;have w3:wrap64 3=3:=by decide +kernel
 have w4:wrap64 4=4:=by decide +kernel
 have w5:wrap64 5=5:=by decide +kernel
 have e1:(St.mk [] mem [⟨[115,113],2,[],0,false,[]⟩] 2 5 built 0 0 0 ⟨#[]⟩).up.set kA [nIt 0]=⟨[],mem,[⟨[115,113],2,[],0,false,[]⟩,⟨kA,3,[nIt 0],0,false,[]⟩],3,5,built,0,1,0,⟨#[]⟩⟩:=by
  simp[St.set,St.up,St.find,List.findIdx?_cons,kA,w3]
 have e2:(St.mk [] mem [⟨[115,113],2,[],0,false,[]⟩,⟨kA,3,[nIt 0],0,false,[]⟩] 3 5 built 0 1 0 ⟨#[]⟩).up.set kB [cIt kA]=⟨[],mem,[⟨[115,113],2,[],0,false,[]⟩,⟨kA,3,[nIt 0],0,false,[]⟩,⟨kB,4,[cIt kA],0,false,[]⟩],4,5,built,0,2,0,⟨#[]⟩⟩:=by
  simp[St.set,St.up,St.find,List.findIdx?_cons,kA,kB,w4]
 have e3:(St.mk [] mem [⟨[115,113],2,[],0,false,[]⟩,⟨kA,3,[nIt 0],0,false,[]⟩,⟨kB,4,[cIt kA],0,false,[]⟩] 4 5 built 0 2 0 ⟨#[]⟩).up.set kC cBody=sL mem built:=by
  simp[St.set,St.up,St.find,List.findIdx?_cons,kA,kB,kC,w5,sL]
 have p1:pDef 12 (St.mk [] mem [⟨[115,113],2,[],0,false,[]⟩] 2 5 built 0 0 0 ⟨#[]⟩) [kA,k0,kSemi,kColon,kB,kA,kSemi,kColon,kC,kB,kB,kPlus,kSemi]=some (.ok (kA,[nIt 0],[kColon,kB,kA,kSemi,kColon,kC,kB,kB,kPlus,kSemi])):=rfl;have p2:pDef 12 (St.mk [] mem [⟨[115,113],2,[],0,false,[]⟩,⟨kA,3,[nIt 0],0,false,[]⟩] 3 5 built 0 1 0 ⟨#[]⟩) [kB,kA,kSemi,kColon,kC,kB,kB,kPlus,kSemi]=some (.ok (kB,[cIt kA],[kColon,kC,kB,kB,kPlus,kSemi])):=rfl;have p3:pDef 12 (St.mk [] mem [⟨[115,113],2,[],0,false,[]⟩,⟨kA,3,[nIt 0],0,false,[]⟩,⟨kB,4,[cIt kA],0,false,[]⟩] 4 5 built 0 2 0 ⟨#[]⟩) [kC,kB,kB,kPlus,kSemi]=some (.ok (kC,cBody,[])):=rfl;have q3:XR (jToks [kColon,kC,kB,kB,kPlus,kSemi]) (St.mk [] mem [⟨[115,113],2,[],0,false,[]⟩,⟨kA,3,[nIt 0],0,false,[]⟩,⟨kB,4,[cIt kA],0,false,[]⟩] 4 5 built 0 2 0 ⟨#[]⟩) (sL mem built):=XR.tdef rfl (show (2:Int) < 2000 by decide) p3 (by rw[e3];exact XR.tnil);have q2:XR (jToks [kColon,kB,kA,kSemi,kColon,kC,kB,kB,kPlus,kSemi]) (St.mk [] mem [⟨[115,113],2,[],0,false,[]⟩,⟨kA,3,[nIt 0],0,false,[]⟩] 3 5 built 0 1 0 ⟨#[]⟩) (sL mem built):=XR.tdef rfl (show (1:Int) < 2000 by decide) p2 (by rw[e2];exact q3);have q1:XR (jToks toks0) (St.mk [] mem [⟨[115,113],2,[],0,false,[]⟩] 2 5 built 0 0 0 ⟨#[]⟩) (sL mem built):=XR.tdef rfl (show (0:Int) < 2000 by decide) p1 (by rw[e1];exact q2);exact q1
theorem sim_L (mem:Nat->Int) (built:Int):Sim (sL mem built) (LS mem 5 3 4 5 0 [cIt kA] 0 0 0 [] 3 0 ⟨#[]⟩):=⟨rfl,rfl,rfl,rfl,rfl,rfl,rfl,rfl⟩
section
variable {mem:Nat->Int} {N ia ib ic va x sb:Int} {Bb:List It}
theorem set_a (v:Int) (st:Int):(LS mem N ia ib ic va Bb 0 0 0 [] st 0 ⟨#[]⟩).up.set kA [nIt v]=LS mem (wrap64 (N+1)) (wrap64 (N+1)) ib ic v Bb 0 0 0 [] (st+1) 0 ⟨#[]⟩:=by
 simp[St.set,St.up,St.find,List.findIdx?_cons,LS,kA]
theorem set_b (b:List It):(LS mem N ia ib ic va Bb 0 0 0 [] 0 0 ⟨#[]⟩).up.set kB b=LS mem (wrap64 (N+1)) ia (wrap64 (N+1)) ic va b 0 0 0 [] 1 0 ⟨#[]⟩:=by
 simp[St.set,St.up,St.find,List.findIdx?_cons,LS,kA,kB]
theorem def_a (X:Tok) (v:Int) (hX:GoodT X) (hv:numP X=some v) (st:Int):pDef 3 (LS mem N ia ib ic va Bb 0 0 0 [] st 0 ⟨#[]⟩) [kA,X,kSemi]=some (.ok (kA,[nIt v],[])):=by
 have hn:isName kA=true:=by decide
 have hk:(LS mem N ia ib ic va Bb 0 0 0 [] st 0 ⟨#[]⟩).known kA=true:=rfl;have hr:=read_items (LS mem N ia ib ic va Bb 0 0 0 [] st 0 ⟨#[]⟩).known 0 [X] [] (one_good hX);have hi:itemOf X=nIt v:=by unfold itemOf;rw[hv];rfl
 simp only[pDef];rw[hn,if_neg (by decide),hk,if_neg (by simp)];have hr':pRead (LS mem N ia ib ic va Bb 0 0 0 [] st 0 ⟨#[]⟩).known 3 ⟨false,0,[kSemi],[]⟩ [X,kSemi]=some (.ok ([itemOf X],kSemi,[])):=hr;rw[hr',hi]
theorem line_a (X:Tok) (v:Int) (hX:GoodT X) (hv:numP X=some v):XR (jToks [kColon,kA,X,kSemi]) (LS mem N ia ib ic va Bb 0 0 0 [] 0 0 ⟨#[]⟩) (LS mem (wrap64 (N+1)) (wrap64 (N+1)) ib ic v Bb 0 0 0 [] 1 0 ⟨#[]⟩):=
 XR.tdef rfl (show (0:Int) < 2000 by decide) (def_a X v hX hv 0) (by rw[set_a];exact XR.tnil)
theorem def_b (X:Tok) (v:Int) (hX:GoodT X) (hv:numP X=some v) (r:List Tok):pDef 5 (LS mem N ia ib ic va Bb 0 0 0 [] 0 0 ⟨#[]⟩) (kB :: kA :: X :: kPlus :: kSemi :: r)=some (.ok (kB,[cIt kA,nIt v,wIt kPlus],r)):=by
 have hn:isName kB=true:=by decide
 have hk:(LS mem N ia ib ic va Bb 0 0 0 [] 0 0 ⟨#[]⟩).known kB=true:=rfl;have hi:itemOf X=nIt v:=by unfold itemOf;rw[hv];rfl
 have hr:=read_items (LS mem N ia ib ic va Bb 0 0 0 [] 0 0 ⟨#[]⟩).known 0 [X,kPlus] r (fun t ht=>by
  simp only[List.mem_cons,List.not_mem_nil,or_false] at ht;rcases ht with rfl|rfl
  ·exact hX
  ·exact good_all.1)
 have ha:pRead (LS mem N ia ib ic va Bb 0 0 0 [] 0 0 ⟨#[]⟩).known 4 ⟨true,0,[],kA⟩ (X :: kPlus :: kSemi :: r)=some (.ok ([cIt kA],[],X :: kPlus :: kSemi :: r)):=rfl;have hb:=pB_item (LS mem N ia ib ic va Bb 0 0 0 [] 0 0 ⟨#[]⟩).known 4 0 [kSemi] kA kSemi (X :: kPlus :: kSemi :: r) (X :: kPlus :: kSemi :: r) r [cIt kA] ([X,kPlus].map itemOf) (by decide) ha hr;simp only[pDef];rw[hn,if_neg (by decide),hk,if_neg (by simp),hb];simp only[List.map_cons,List.map_nil,hi];rfl
theorem line_b (X:Tok) (v:Int) (hX:GoodT X) (hv:numP X=some v):XR (jToks [kColon,kB,kA,X,kPlus,kSemi,kColon,kA,k1,kSemi]) (LS mem N ia ib ic va Bb 0 0 0 [] 0 0 ⟨#[]⟩) (LS mem (wrap64 (wrap64 (N+1)+1)) (wrap64 (wrap64 (N+1)+1)) (wrap64 (N+1)) ic 1 [cIt kA,nIt v,wIt kPlus] 0 0 0 [] (1+1) 0 ⟨#[]⟩):=by
 have hg:GoodT k1:=⟨by decide,by decide,.inl ⟨1,by decide⟩⟩;exact XR.tdef rfl (show (0:Int) < 2000 by decide) (def_b X v hX hv _) (by
  rw[set_b];exact XR.tdef rfl (show (1:Int) < 2000 by decide) (def_a k1 1 hg (by decide) 1) (by rw[set_a];exact XR.tnil))
theorem dot_one:dot (-1)=⟨#[45,49,32]⟩:=by
 have h:(dot (-1)).data.toList=[45,49,32]:=by decide +kernel
 exact ByteArray.ext (Array.ext' h)
theorem line_s (hB:BOk va Bb x sb):∃ ca cb cc st,XR (jToks [kB,kDup,kPlus,kC,kEq,kDot]) (LS mem N ia ib ic va Bb 0 0 0 [] 0 0 ⟨#[]⟩) (LS mem N ia ib ic va Bb ca cb cc [] st 0 ⟨#[45,49,32]⟩):=by
 have b0:=hB.1;have b1:=hB.2.1;have q1:=enterB (mem:=mem) (N:=N) (ia:=ia) (ib:=ib) (ic:=ic) (ca:=0) (cb:=0) (cc:=0) (rs:=[]) (steps:=0+1) (depth:=0) (out:=⟨#[]⟩) hB (by decide) (by decide) (by decide) (by decide) (by omega) (by decide) (by decide);have q2:=enterC (mem:=mem) (N:=N) (ia:=ia) (ib:=ib) (ic:=ic) (ca:=0+1) (cb:=0+1) (cc:=0) (rs:=[wrap64 (x+x)]) (steps:=0+1+sb+1+1+1) (depth:=0) (out:=⟨#[]⟩) hB (by decide) (by decide) (by decide) (by decide) (by decide) (by decide) (by omega) (by decide) (by simp);have hp:(wrap64 (x+x) == wrap64 (x+x))=true:=by simp
 have hw:(LS mem N ia ib ic va Bb (0+1+2) (0+1+2) (0+1) [sonum (wrap64 (x+x) == wrap64 (x+x))] (0+1+sb+1+1+1+(3+2 * sb)+1) 0 ⟨#[]⟩).up.word 12=LS mem N ia ib ic va Bb (0+1+2) (0+1+2) (0+1) [] (0+1+sb+1+1+1+(3+2 * sb)+1+1) 0 ⟨#[45,49,32]⟩:=by
  rw[hp];show ({ (LS mem N ia ib ic va Bb (0+1+2) (0+1+2) (0+1) [-1] (0+1+sb+1+1+1+(3+2 * sb)+1) 0 ⟨#[]⟩).up with rs:=(prtP mem ⟨#[]⟩ [] (dot (-1))).rs,mem:=(prtP mem ⟨#[]⟩ [] (dot (-1))).mem,out:=(prtP mem ⟨#[]⟩ [] (dot (-1))).out,e:=(prtP mem ⟨#[]⟩ [] (dot (-1))).e }:St)=_;rw[dot_one];rfl
 refine⟨0+1+2,0+1+2,0+1,0+1+sb+1+1+1+(3+2 * sb)+1+1,?_⟩;refine XR.tcall callB' rfl (d:=⟨kB,ib,Bb,0,false,[]⟩) rfl rfl (show (0:Int) < 2000 by decide) q1 ?_;refine XR.tword (k:=7) (by decide) rfl (show 0+1+sb < 2000 by omega) ?_;refine XR.tword (k:=0) (by decide) rfl (show 0+1+sb+1 < 2000 by omega) ?_;refine XR.tcall callC' rfl (d:=⟨kC,ic,cBody,0,false,[]⟩) rfl rfl (show 0+1+sb+1+1 < 2000 by omega) q2 ?_;refine XR.tword (k:=5) (by decide) rfl (show 0+1+sb+1+1+1+(3+2 * sb) < 2000 by omega) ?_;refine XR.tword (k:=12) (by decide) rfl (show 0+1+sb+1+1+1+(3+2 * sb)+1 < 2000 by omega) ?_;show XR (jToks []) ((LS mem N ia ib ic va Bb (0+1+2) (0+1+2) (0+1) [sonum (wrap64 (x+x) == wrap64 (x+x))] (0+1+sb+1+1+1+(3+2 * sb)+1) 0 ⟨#[]⟩).up.word 12) _;rw[hw];exact XR.tnil
theorem line_t (hB:BOk va Bb x sb) (hv0:-10000000 < va) (hv1:va < 10000000):∃ ca cb cc st,XR (jToks [kC,kC,kC,kA,kDot]) (LS mem N ia ib ic va Bb 0 0 0 [] 0 0 ⟨#[]⟩) (LS mem N ia ib ic va Bb ca cb cc [wrap64 (x+x),wrap64 (x+x),wrap64 (x+x)] st 0 (dot va)):=by
 have b0:=hB.1;have b1:=hB.2.1;obtain⟨S,hS⟩:∃ S,S=3+2 * sb:=⟨_,rfl⟩;have q1:=enterC (mem:=mem) (N:=N) (ia:=ia) (ib:=ib) (ic:=ic) (ca:=0) (cb:=0) (cc:=0) (rs:=[]) (steps:=0+1) (depth:=0) (out:=⟨#[]⟩) hB (by decide) (by decide) (by decide) (by decide) (by decide) (by decide) (by omega) (by decide) (by decide);have q2:=enterC (mem:=mem) (N:=N) (ia:=ia) (ib:=ib) (ic:=ic) (ca:=0+2) (cb:=0+2) (cc:=0+1) (rs:=[wrap64 (x+x)]) (steps:=0+1+(3+2 * sb)+1) (depth:=0) (out:=⟨#[]⟩) hB (by decide) (by decide) (by decide) (by decide) (by decide) (by decide) (by omega) (by decide) (by simp);have q3:=enterC (mem:=mem) (N:=N) (ia:=ia) (ib:=ib) (ic:=ic) (ca:=0+2+2) (cb:=0+2+2) (cc:=0+1+1) (rs:=[wrap64 (x+x),wrap64 (x+x)]) (steps:=0+1+(3+2 * sb)+1+(3+2 * sb)+1) (depth:=0) (out:=⟨#[]⟩) hB (by decide) (by decide) (by decide) (by decide) (by decide) (by decide) (by omega) (by decide) (by simp);have q4:=enterA (mem:=mem) (N:=N) (ia:=ia) (ib:=ib) (ic:=ic) (va:=va) (Bb:=Bb) (ca:=0+2+2+2) (cb:=0+2+2+2) (cc:=0+1+1+1) (rs:=[wrap64 (x+x),wrap64 (x+x),wrap64 (x+x)]) (steps:=0+1+(3+2 * sb)+1+(3+2 * sb)+1+(3+2 * sb)+1) (depth:=0) (out:=⟨#[]⟩) (by decide) (by decide) (by omega) (by decide) (by simp);have hd:¬ 300 < (⟨#[]⟩:ByteArray).size+(dot va).size:=by
  have h:=(numLen va hv0 hv1).2;have e:(dot va).size=(Lib.itoa va).length+1:=by unfold dot;show (Lib.itoa va ++ [32]).toArray.size=_;simp
  rw[e];show ¬ 300 < 0+((Lib.itoa va).length+1);omega
 have he:(⟨#[]⟩:ByteArray) ++ dot va=dot va:=by unfold dot;rw[ba_app];simp
 have hw:(LS mem N ia ib ic va Bb (0+2+2+2+1) (0+2+2+2) (0+1+1+1) [va,wrap64 (x+x),wrap64 (x+x),wrap64 (x+x)] (0+1+(3+2 * sb)+1+(3+2 * sb)+1+(3+2 * sb)+1+1) 0 ⟨#[]⟩).up.word 12=LS mem N ia ib ic va Bb (0+2+2+2+1) (0+2+2+2) (0+1+1+1) [wrap64 (x+x),wrap64 (x+x),wrap64 (x+x)] (0+1+(3+2 * sb)+1+(3+2 * sb)+1+(3+2 * sb)+1+1+1) 0 (dot va):=by
  have hp:prtP mem ⟨#[]⟩ [wrap64 (x+x),wrap64 (x+x),wrap64 (x+x)] (dot va)=⟨0,[wrap64 (x+x),wrap64 (x+x),wrap64 (x+x)],mem,dot va⟩:=by unfold prtP;rw[if_neg hd,he]
  show ({ (LS mem N ia ib ic va Bb (0+2+2+2+1) (0+2+2+2) (0+1+1+1) [va,wrap64 (x+x),wrap64 (x+x),wrap64 (x+x)] (0+1+(3+2 * sb)+1+(3+2 * sb)+1+(3+2 * sb)+1+1) 0 ⟨#[]⟩).up with rs:=(prtP mem ⟨#[]⟩ [wrap64 (x+x),wrap64 (x+x),wrap64 (x+x)] (dot va)).rs,mem:=(prtP mem ⟨#[]⟩ [wrap64 (x+x),wrap64 (x+x),wrap64 (x+x)] (dot va)).mem,out:=(prtP mem ⟨#[]⟩ [wrap64 (x+x),wrap64 (x+x),wrap64 (x+x)] (dot va)).out,e:=(prtP mem ⟨#[]⟩ [wrap64 (x+x),wrap64 (x+x),wrap64 (x+x)] (dot va)).e }:St)=_;rw[hp];rfl
 refine⟨0+2+2+2+1,0+2+2+2,0+1+1+1,0+1+(3+2 * sb)+1+(3+2 * sb)+1+(3+2 * sb)+1+1+1,?_⟩;refine XR.tcall callC' rfl (d:=⟨kC,ic,cBody,0,false,[]⟩) rfl rfl (show (0:Int) < 2000 by decide) q1 ?_;refine XR.tcall callC' rfl (d:=⟨kC,ic,cBody,0+1,false,[]⟩) rfl rfl (show 0+1+(3+2 * sb) < 2000 by omega) q2 ?_;refine XR.tcall callC' rfl (d:=⟨kC,ic,cBody,0+1+1,false,[]⟩) rfl rfl (show 0+1+(3+2 * sb)+1+(3+2 * sb) < 2000 by omega) q3 ?_;refine XR.tcall callA' rfl (d:=⟨kA,ia,[nIt va],0+2+2+2,false,[]⟩) rfl rfl (show 0+1+(3+2 * sb)+1+(3+2 * sb)+1+(3+2 * sb) < 2000 by omega) q4 ?_;refine XR.tword (k:=12) (by decide) rfl (show 0+1+(3+2 * sb)+1+(3+2 * sb)+1+(3+2 * sb)+1+1 < 2000 by omega) ?_;show XR (jToks []) ((LS mem N ia ib ic va Bb (0+2+2+2+1) (0+2+2+2) (0+1+1+1) [va,wrap64 (x+x),wrap64 (x+x),wrap64 (x+x)] (0+1+(3+2 * sb)+1+(3+2 * sb)+1+(3+2 * sb)+1+1) 0 ⟨#[]⟩).up.word 12) _;rw[hw];exact XR.tnil
theorem line_u (y:Int):XR (jToks [kDrop,kDrop,kDrop]) (LS mem N ia ib ic va Bb 0 0 0 [y,y,y] 0 0 ⟨#[]⟩) (LS mem N ia ib ic va Bb 0 0 0 [] (0+1+1+1) 0 ⟨#[]⟩):=
 XR.tword (k:=8) (by decide) rfl (show (0:Int) < 2000 by decide) (XR.tword (k:=8) (by decide) rfl (show (0+1:Int) < 2000 by decide) (XR.tword (k:=8) (by decide) rfl (show (0+1+1:Int) < 2000 by decide) XR.tnil))
end
end
section
open Go.RowKit
section
variable {PS:World->Nat->(Nat->Prop)->St->Prop} {B:Nat} {W0:World} (P:PCon B W0 PS)
include P
end
theorem pick_natS (c:Int) (n:Nat) (hn:1<=n):∃ p:Nat,pkV c n=p/\p < n:=by
 have:=pkV_lt c n (by omega);exact⟨(pkV c n).toNat,by omega,by omega⟩
section
variable {PS:World->Nat->(Nat->Prop)->St->Prop}
end
end
end Go.Proofs.YteainaiebcphlaaGreatDoor
