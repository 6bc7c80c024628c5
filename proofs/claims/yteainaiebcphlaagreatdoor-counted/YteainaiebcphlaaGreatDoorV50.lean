import Derived.Test.YteainaiebcphlaaGreatDoorV41
import Derived.Test.YteainaiebcphlaaGreatDoorV39
import Derived.Deep.DeepWitnessRowRef
import Derived.Test.YteainaiebcphlaaGreatDoorCards
import Derived.Test.YteainaiebcphlaaGreatDoorTie
import Derived.SevenTiedAt
import Derived.Handy
namespace Go.Proofs.YteainaiebcphlaaGreatDoor
set_option maxRecDepth 1000000
set_option maxHeartbeats 4000000
set_option linter.all false
section
open Go.RowKit
theorem l2_0:(List.range 30).all (fun n=>okL2 n 0)=true:=by decide +kernel
theorem l2_1:(List.range 30).all (fun n=>okL2 n 1)=true:=by decide +kernel
theorem l2_2:(List.range 30).all (fun n=>okL2 n 2)=true:=by decide +kernel
theorem l2_3:(List.range 30).all (fun n=>okL2 n 3)=true:=by decide +kernel
theorem l2_4:(List.range 30).all (fun n=>okL2 n 4)=true:=by decide +kernel
theorem l2_all (n m:Nat) (hn:n < 30) (hm:m < 5):okL2 n m=true:=by
 rcases (show m=0\/m=1\/m=2\/m=3\/m=4 by omega) with rfl|rfl|rfl|rfl|rfl
 ·exact List.all_eq_true.1 l2_0 n (List.mem_range.2 hn)
 ·exact List.all_eq_true.1 l2_1 n (List.mem_range.2 hn)
 ·exact List.all_eq_true.1 l2_2 n (List.mem_range.2 hn)
 ·exact List.all_eq_true.1 l2_3 n (List.mem_range.2 hn)
 ·exact List.all_eq_true.1 l2_4 n (List.mem_range.2 hn)
theorem line_2 (n m:Nat) (hn:n < 30) (hm:m < 5):validB (l2 n m)=true/\∃ s1 left,xRun 300 (jToks (Lib.fields (l2 n m))) (freshL fsC)=some (s1,left)/\s1.e=0/\s1.out=⟨#[]⟩/\s1.rs=[(n:Int),(n:Int)+1,(n:Int) * m]:=by
 have h:=l2_all n m hn hm;unfold okL2 at h;rw[Bool.and_eq_true] at h;refine⟨h.1,?_⟩;have h2:=h.2
 cases ha:after 300 fsC (l2 n m) with
 | none=>rw[ha] at h2;cases h2
 | some s1=>
  rw[ha] at h2;obtain⟨left,hr⟩:=after_run ha;simp only[Bool.and_eq_true,decide_eq_true_eq,beq_iff_eq] at h2;refine⟨s1,left,hr,h2.1.1,ByteArray.ext (Array.ext' ?_),h2.2⟩;rw[h2.1.2]
end
section
open Go.RowKit
theorem cell_kpC {w w':World} {S:Nat->Prop} {q j:Nat} {u:Value} (hk:Kp w w' S) (hq:¬ S q) (hc:w.cell? ⟨q,j,none⟩=some u):w'.cell? ⟨q,j,none⟩=some u:=by
 have hlt:q < w.heap.size:=by
  rcases Nat.lt_or_ge q w.heap.size with h|h
  ·exact h
  ·unfold World.cell? at hc;rw[Array.getElem?_eq_none h] at hc;cases hc
 have e:=hk.block q hlt hq;unfold World.cell? at hc ⊢;rw[e];exact hc
theorem pushes_get (a:Int) (n i:Nat) (hi:i < n):(pushes a n []).reverse[i]'(by rw[List.length_reverse,pushes_len];simpa using hi)=a+i:=by
 have e:=pushes_rev n a [];simp only[List.reverse_nil,List.nil_append] at e;have:(pushes a n []).reverse[i]? = some (a+i):=by rw[e];simp[hi]
 rw[List.getElem?_eq_getElem (by rw[List.length_reverse,pushes_len];simpa using hi)] at this;injection this
def dB (a:Int) (n:Nat):ByteArray:=⟨#[58,32,100,32,100,111,32,105,32,108,111,111,112,32,59,32]⟩ ++ numB (a+n) ++ ⟨#[32]⟩ ++ numB a ++ ⟨#[32,100]⟩
theorem dB_list (a:Int) (n:Nat):(dB a n).data.toList=textOf [kColon,kD,kDo,kI,kLoop,kSemi,Lib.itoa (a+n),Lib.itoa a] ++ kD:=by
 unfold dB numB;rw[ba_app,ba_app,ba_app,ba_app];simp[textOf,kColon,kD,kDo,kI,kLoop,kSemi]
theorem d_toks (a:Int) (n:Nat) (ha:-500000<=a) (ha2:a < 500000) (hn:n < 30):∀ t∈[kColon,kD,kDo,kI,kLoop,kSemi,Lib.itoa (a+n),Lib.itoa a],t.all tokB=true/\t ≠ []:=by
 intro t ht;simp only[List.mem_cons,List.not_mem_nil,or_false] at ht;rcases ht with rfl|rfl|rfl|rfl|rfl|rfl|rfl|rfl
 ·exact⟨by decide,by decide⟩
 ·exact⟨by decide,by decide⟩
 ·exact⟨by decide,by decide⟩
 ·exact⟨by decide,by decide⟩
 ·exact⟨by decide,by decide⟩
 ·exact⟨by decide,by decide⟩
 ·exact⟨itoa_tok _,itoa_ne _ (by omega) (by omega)⟩
 ·exact⟨itoa_tok _,itoa_ne _ (by omega) (by omega)⟩
theorem dB_fields (a:Int) (n:Nat) (ha:-500000<=a) (ha2:a < 500000) (hn:n < 30):Lib.fields (dB a n).data.toList=dToks (Lib.itoa (a+n)) (Lib.itoa a):=by
 rw[dB_list,fields_texts _ _ (d_toks a n ha ha2 hn),fields_end kD (by decide) (by decide)];rfl
theorem dB_valid (a:Int) (n:Nat) (ha:-500000<=a) (ha2:a < 500000) (hn:n < 30):validB (dB a n).data.toList=true:=by
 have h1:=(numLen (a+n) (by omega) (by omega)).2;have h2:=(numLen a (by omega) (by omega)).2;have hl:(dB a n).data.toList.length<=400:=by
  rw[dB_list];simp[textOf,kColon,kD,kDo,kI,kLoop,kSemi];omega
 unfold validB;rw[decide_eq_true hl,dB_list,List.all_append,texts_okB _ (d_toks a n ha ha2 hn)]
 decide
def eB (n m:Nat):ByteArray:=⟨#[58,32,101,32,48,32]⟩ ++ numB n ++ ⟨#[32,48,32,100,111,32]⟩ ++ numB m ++ ⟨#[32,48,32,100,111,32,49,32,43,32,108,111,111,112,32,108,111,111,112,32,59,32,101,32]⟩ ++ numB (n+1) ++ ⟨#[32,48,32,115,119,97,112,32,58,32,117,32,98,101,103,105,110,32,49,32,45,32,115,119,97,112,32,49,32,43,32,115,119,97,112,32,100,117,112,32,48,32,61,32,117,110,116,105,108,32,100,114,111,112,32,59,32,117,32]⟩ ++ numB n ++ ⟨#[32,48,32,115,119,97,112,32,58,32,119,32,98,101,103,105,110,32,100,117,112,32,119,104,105,108,101,32,49,32,45,32,115,119,97,112,32,49,32,43,32,115,119,97,112,32,114,101,112,101,97,116,32,100,114,111,112,32,59,32,119]⟩
theorem eB_list (n m:Nat):(eB n m).data.toList=l2 n m:=by
 unfold eB numB l2;simp only[ba_app];simp
section
variable {PS:World->Nat->(Nat->Prop)->St->Prop} {B:Nat} {W0:World} (P:PCon B W0 PS)
include P
theorem lineD (w w0:World) (xb:Nat) (V:Nat->Prop) (a:Int) (n:Nat) (ha:-500000<=a) (ha2:a < 500000) (hn:n < 30) (hx:PS w xb V fsC) (hw:WFs fsC) (hk:Kp w0 w (fun _=>False)) (hV:∀ k,V k->w0.heap.size<=k):
  Calls Tryz.prog 18 #[.pointer (some ⟨xb,0,none⟩),.string (dB a n)] w fun e w'=>e=.returned (.tuple #[.string ⟨#[]⟩,.int .i64 0])/\∃ V' s1,PS w' xb V' s1/\WFs s1/\s1.rs=pushes a n []/\Kp w0 w' (fun _=>False)/\∀ k,V' k->w0.heap.size<=k:=by
 obtain⟨s1,⟨g,hr⟩,he,ho,hrs⟩:=line_d fsC fsC_ok (Lib.itoa (a+n)) (Lib.itoa a) a n hn (numP_itoa _ (by omega) (by omega)) (numP_itoa _ (by omega) (by omega));rw[<-dB_fields a n ha ha2 hn] at hr;refine (lineK P w w0 xb g V fsC s1 false (dB a n) hx hw hk hV (dB_valid a n ha ha2 hn) hr ⟨#[]⟩ 0 (by rw[ho]) he).mono ?_;rintro e w' ⟨rfl,hwf,V',hx',hk',hV'⟩;have q:endL s1=s1:=if_pos he;rw[q] at hwf hx';exact⟨rfl,V',s1,hx',hwf,hrs,hk',hV'⟩
theorem lineE (w w0:World) (xb:Nat) (V:Nat->Prop) (n m:Nat) (hn:n < 30) (hm:m < 5) (hx:PS w xb V fsC) (hw:WFs fsC) (hk:Kp w0 w (fun _=>False)) (hV:∀ k,V k->w0.heap.size<=k):
  Calls Tryz.prog 18 #[.pointer (some ⟨xb,0,none⟩),.string (eB n m)] w fun e w'=>e=.returned (.tuple #[.string ⟨#[]⟩,.int .i64 0])/\∃ V' s1,PS w' xb V' s1/\WFs s1/\s1.rs=[(n:Int),(n:Int)+1,(n:Int) * m]/\Kp w0 w' (fun _=>False)/\∀ k,V' k->w0.heap.size<=k:=by
 obtain⟨hv,s1,left,hr,he,ho,hrs⟩:=line_2 n m hn hm;rw[<-eB_list] at hv hr;refine (lineK P w w0 xb 300 V fsC s1 left (eB n m) hx hw hk hV hv hr ⟨#[]⟩ 0 (by rw[ho]) he).mono ?_;rintro e w' ⟨rfl,hwf,V',hx',hk',hV'⟩;have q:endL s1=s1:=if_pos he;rw[q] at hwf hx';exact⟨rfl,V',s1,hx',hwf,hrs,hk',hV'⟩
theorem stackK (w w0:World) (xb:Nat) (V:Nat->Prop) (s:St) (l:List Int) (hl:s.rs.reverse=l) (hx:PS w xb V s) (hw:WFs s) (hk:Kp w0 w (fun _=>False)) (hV:∀ k,V k->w0.heap.size<=k):
  Calls Tryz.prog 19 #[.pointer (some ⟨xb,0,none⟩)] w fun e w'=>∃ ao cap,e=.returned (.slice ao l.length cap)/\(∀ i (hi:i < l.length),∃ g,ao=some ⟨g,0,none⟩/\g < w'.heap.size/\w'.cell? ⟨g,i,none⟩=some (.int .i64 l[i]))/\Kp w0 w' (fun _=>False):=by
 refine (P.stack w xb V s hx hw.g).mono ?_;rintro e w' ⟨v,rfl,hrow,V',hx',hto,_⟩;subst hl;rw[<-List.length_reverse] at hrow;obtain⟨ao,cap,rfl,hc⟩:=row_ints hrow;exact⟨ao,cap,rfl,hc,(Kp.two hk hV hto).1⟩
end
section
variable {PS:World->Nat->(Nat->Prop)->St->Prop} {B:Nat} {W0:World} (P:PCon B W0 PS)
include P
theorem stackD (w w0:World) (xb:Nat) (V:Nat->Prop) (s:St) (a:Int) (n:Nat) (hl:s.rs=pushes a n []) (hx:PS w xb V s) (hw:WFs s) (hk:Kp w0 w (fun _=>False)) (hV:∀ k,V k->w0.heap.size<=k):
  Calls Tryz.prog 19 #[.pointer (some ⟨xb,0,none⟩)] w fun e w'=>∃ ao cap,e=.returned (.slice ao n cap)/\(∀ i,i < n->∃ g,ao=some ⟨g,0,none⟩/\g < w'.heap.size/\w'.cell? ⟨g,i,none⟩=some (.int .i64 (a+i)))/\Kp w0 w' (fun _=>False):=by
 refine (stackK P w w0 xb V s (pushes a n []).reverse (by rw[hl]) hx hw hk hV).mono ?_;rintro e w' ⟨ao,cap,rfl,hc,hk'⟩;have e1:(pushes a n []).reverse.length=n:=by rw[List.length_reverse,pushes_len];simp
 refine⟨ao,cap,by rw[e1],fun i hi=>?_,hk'⟩;obtain⟨g,h1,h2,h3⟩:=hc i (by rw[e1];exact hi);rw[pushes_get a n i hi] at h3;exact⟨g,h1,h2,h3⟩
theorem stackE (w w0:World) (xb:Nat) (V:Nat->Prop) (s:St) (a b c:Int) (hl:s.rs=[c,b,a]) (hx:PS w xb V s) (hw:WFs s) (hk:Kp w0 w (fun _=>False)) (hV:∀ k,V k->w0.heap.size<=k):
  Calls Tryz.prog 19 #[.pointer (some ⟨xb,0,none⟩)] w fun e w'=>∃ g cap,e=.returned (.slice (some ⟨g,0,none⟩) 3 cap)/\g < w'.heap.size/\w'.cell? ⟨g,0,none⟩=some (.int .i64 a)/\w'.cell? ⟨g,1,none⟩=some (.int .i64 b)/\w'.cell? ⟨g,2,none⟩=some (.int .i64 c)/\Kp w0 w' (fun _=>False):=by
 refine (stackK P w w0 xb V s [a,b,c] (by rw[hl];rfl) hx hw hk hV).mono ?_;rintro e w' ⟨ao,cap,rfl,hc,hk'⟩;obtain⟨g,rfl,h2,h3⟩:=hc 0 (by simp);obtain⟨g',e',h4,h5⟩:=hc 1 (by simp);injection e' with e';injection e' with e';subst e';obtain⟨g',e',h6,h7⟩:=hc 2 (by simp);injection e' with e';injection e' with e';subst e';exact⟨g,cap,rfl,h2,h3,h5,h7,hk'⟩
end
theorem pick_nat (c:Int) (n:Nat) (hn:1<=n):∃ p:Nat,pkV c n=p/\p < n:=by
 have:=pkV_lt c n (by omega);exact⟨(pkV c n).toNat,by omega,by omega⟩
section
variable {PS:World->Nat->(Nat->Prop)->St->Prop}
theorem countedL (W:World) (P:PCon W.heap.size W PS) (fr mn nr:Int) (h1:In fr) (h2:In mn) (h3:In nr):
  Calls Tryz.prog 6 #[.int .i64 fr,.int .i64 mn,.int .i64 nr] W fun e w'=>e=.returned (.bool true)/\Below W.heap.size W w':=by
 obtain⟨p,hp,hpl⟩:=pick_nat fr 1000000 (by decide);obtain⟨n,hn,hnl⟩:=pick_nat mn 30 (by decide);obtain⟨m,hm,hml⟩:=pick_nat nr 5 (by decide);have HP:=hide (fun w=>pickK fr 1000000 w h1.1 h1.2 (by decide) (by decide));have HN:=hide (fun w=>pickK mn 30 w h2.1 h2.2 (by decide) (by decide));have HM:=hide (fun w=>pickK nr 5 w h3.1 h3.2 (by decide) (by decide));simp only[show ((1000000:Nat):Int)=1000000 from rfl,show ((30:Nat):Int)=30 from rfl,show ((5:Nat):Int)=5 from rfl] at hp hn hm;simp only[hp] at HP;simp only[hn] at HN;simp only[hm] at HM;clear hp hn hm h1 h2 h3;have HF1:=hide (freshK P W (Below.refl _ _) (Nat.le_refl _));go_enter Tryz.func6,Tryz.ntmps6
 go_wp2_with fail
 refine HF1.out.mono ?_;rintro e w1 ⟨xb,rfl,V,hx,hw,hk,hV⟩;have HX:=hide hx;have HW:=hide hw;have HK:=hide hk;have HV:=hide hV;clear hx hw hk hV HF1
 go_wp2_with fail
 refine (HP.out _).mono ?_;rintro e w' ⟨rfl,hw'⟩;subst hw'
 go_wp2_with fail
 refine (HN.out _).mono ?_;rintro e w'' ⟨rfl,hw'⟩;subst hw'
 go_wp2_with fail
 refine (HM.out _).mono ?_;rintro e wa ⟨rfl,hw'⟩;subst hw';clear HP HN HM
 go_wp2_with fail
 refine (digitsK _ _ (by omega) (by omega)).mono ?_;rintro e w2 ⟨rfl,hk2⟩;have hs2:=numB_size ((p:Int) - 500000+n) (by omega) (by omega);have HK2:=hide hk2;clear hk2
 go_wp2_with fail
 refine (digitsK _ _ (by omega) (by omega)).mono ?_;rintro e w3 ⟨rfl,hk3⟩;have hs3:=numB_size ((p:Int) - 500000) (by omega) (by omega);have k13:=HK2.out.trans hk3;have hx3:=P.frame _ _ _ _ _ _ HX.out k13 (fun _ _ h=>h) (fun _ _ h=>h) HK.out.size;have HL:=hide (lineD P w3 W xb V ((p:Int) - 500000) n (by omega) (by omega) hnl hx3 HW.out (HK.out.trans k13) HV.out);simp only[dB] at HL;clear hk3 k13 hx3 HK2 HX HW HK HV
 go_wp2_with fail
 refine HL.out.mono ?_;rintro e w4 ⟨rfl,V',s1,hx4,hwf,hrs,hk4,hV4⟩;have HS:=hide (stackD P w4 W xb V' s1 ((p:Int) - 500000) n hrs hx4 hwf hk4 hV4);clear hx4 hwf hrs hk4 hV4 HL
 go_wp2_with fail
 refine HS.out.mono ?_;rintro e w5 ⟨ao,cap,rfl,hc,hk5⟩;have HC:=hide hc;have HK5:=hide hk5;clear hc hk5 HS hs2 hs3;go_wp2
 go_loopw [14] (fun i wr=>∃ k:Nat,k<=n/\i=.int .i64 k/\Kp w5 wr (fun _=>False)) (fun i _=>n - (intOf i).toNat)
 case atStart=>exact⟨0,Nat.zero_le _,rfl,Kp.refl _ _⟩
 case round=>
  obtain⟨k,hk,rfl,hkp⟩:=hrel;by_cases hlt:k < n
  ·obtain⟨g,rfl,hg,c1⟩:=HC.out k hlt;have d1:=cell_kpC hkp (fun h=>h) c1;have hsz:=hkp.size;have hg':g < wr.heap.size:=by omega
   have HKP:=hide hkp;clear hkp c1 HC;go_wp2
   go_roundw
   case rel=>exact⟨k+1,by omega,by go_num,HKP.out⟩
   case measure=>simp[intOf];omega
  ·have kW:=HK5.out.trans hkp;have HF2:=hide (freshK P wr (kW.below (Nat.le_refl _) (fun _ _ h=>h)) kW.size);have HKW:=hide kW;clear kW hkp HK5 HC
   go_wp2_with fail
   refine HF2.out.mono ?_;rintro e v1 ⟨yb,rfl,V,hx,hw,hk,hV⟩;have HX:=hide hx;have HW:=hide hw;have HK:=hide hk;have HV:=hide hV;clear hx hw hk hV HF2
   go_wp2_with fail
   refine (digitsK _ _ (by omega) (by omega)).mono ?_;rintro e v2 ⟨rfl,hk2⟩;have hs1:=numB_size (n:Int) (by omega) (by omega);have HK2:=hide hk2;clear hk2
   go_wp2_with fail
   refine (digitsK _ _ (by omega) (by omega)).mono ?_;rintro e v3 ⟨rfl,hk3⟩;have hs2:=numB_size (m:Int) (by omega) (by omega);have HK3:=hide (HK2.out.trans hk3);clear hk3 HK2
   go_wp2_with fail
   refine (digitsK _ _ (by omega) (by omega)).mono ?_;rintro e v4 ⟨rfl,hk4⟩;have hs3:=numB_size ((n:Int)+1) (by omega) (by omega);have HK4:=hide (HK3.out.trans hk4);clear hk4 HK3
   go_wp2_with fail
   refine (digitsK _ _ (by omega) (by omega)).mono ?_;rintro e v5 ⟨rfl,hk5⟩;have k15:=HK4.out.trans hk5;have hx5:=P.frame _ _ _ _ _ _ HX.out k15 (fun _ _ h=>h) (fun _ _ h=>h) (Nat.le_trans HKW.out.size HK.out.size);have HL:=hide (lineE P v5 wr yb V n m hnl hml hx5 HW.out (HK.out.trans k15) HV.out);simp only[eB] at HL;clear hk5 k15 hx5 HK4 HX HW HK HV
   go_wp2_with fail
   refine HL.out.mono ?_;rintro e v6 ⟨rfl,V',s1,hx6,hwf,hrs,hk6,hV6⟩;have HS:=hide (stackE P v6 wr yb V' s1 ((n:Int) * m) ((n:Int)+1) n hrs hx6 hwf hk6 hV6);clear hx6 hwf hrs hk6 hV6 HL;have hnm:(n:Int) * m<=116:=by
    have h:=Nat.mul_le_mul (show n<=29 by omega) (show m<=4 by omega)
    exact_mod_cast h
   have hnm0:0<=(n:Int) * m:=Int.mul_nonneg (by omega) (by omega)
   go_wp2_with fail
   refine HS.out.mono ?_;rintro e v7 ⟨g,cap,rfl,hg,c0,c1,c2,hk7⟩;have HB:Hid (Below W.heap.size W v7):=(HKW.out.trans hk7).below (Nat.le_refl _) (fun _ _ h=>h);clear hk7 HS HKW;go_wp2;go_ret;exact⟨by simp,HB.out⟩
end
end
section
open Go.ChangeShapes Go.WideShapes Go.ChangeAt Go.RowKit
theorem counted_met (os:Os) (args:Array Value):laidMetH Tryz.prog Rows.countedRow.laid ((World.doorLaid Tryz.prog 400 os).forCall (fun _ _=>0) ⟨#[],args,[]⟩).memory:=
 laidMetH_of_parts3 (fuel:=8) (laidMet_of_run' 8 (by kernel_rfl) (by kernel_rfl)) (by kernel_rfl) (by kernel_rfl)
theorem int_in {H:Type} {enc:TypeId × Value->H} {W:World} {b0 base:Nat} {sp:Nat->Bool} {held:Bool} {v:Value} {d:DataW H} {p:List MemPlace} (hv:Value.okWide Tryz.prog W .any b0 3 v) (h:DataW.Trod enc Tryz.prog W base sp held 3 v d p):∃ n:Int,v=.int .i64 n/\In n:=by
 obtain⟨n,e,_,_,hw⟩:=open_int Tryz.underlying3 hv h;exact⟨n,e,bounds_i64 hw⟩
theorem counted_lifted (os:Os) (started:os.Started) (H:Type) (enc:TypeId × Value->H):
  ReturnsInHanded {} Tryz.checked os 6 .any (fun w args=>(Rows.countedSpec.pre enc Tryz.prog Tryz.f6 [] false w args/\laidMetH Tryz.prog Rows.countedRow.laid w)/\sizedMet enc Tryz.prog Tryz.f6 (OpenSpec.ofChange Rows.countedSpec) false w args)
   (Rows.countedSpec.post enc Tryz.prog Tryz.f6 false true false false):=by
 refine returnsInHanded_of_change_and (C:=Tryz.checked) (X:=fun w _=>laidMetH Tryz.prog Rows.countedRow.laid w) (fun _ _ _ hh h=>h.of_heap hh) Tryz.own started (by kernel_rfl) Tryz.func6
  (ChangeSpec.witness_shaped (enc:=enc) (C:=Tryz.checked) (os:=os) (X:=fun w _=>laidMetH Tryz.prog Rows.countedRow.laid w) false (World.doorLaid Tryz.prog 400 os) #[.int .i64 0,.int .i64 0,.int .i64 0] 8 rfl (World.shaped_of_RefB (by kernel_rfl) (by kernel_rfl)) (by kernel_rfl) (by kernel_rfl) (by kernel_rfl) (counted_met os _)) ?_
 intro W base args ds gs before hval0 hW _ hsz0 hL _;have hval:∀ (j:Nat) t v,Tryz.f6.params[j]? = some t->args[j]? = some v->Value.okWide Tryz.prog W .any base t v:=hval0;have hW':=hW;obtain⟨p,q,hA0,hV,rfl,hfz,hnd⟩:=hW;have hA:DataW.TrodAll enc Tryz.prog W 0 (fun _=>true) true Tryz.f6.params.toList args.toList ds p:=hA0;rw[Tryz.params6] at hA hval;obtain⟨v0,v1,v2,d0,d1,d2,p0,p1,p2,rfl,rfl,rfl,t0,t1,t2⟩:=trodAll_three hA;obtain⟨rfl,rfl⟩:=trodVars_none hV;have hE:Env W.heap.size W:=of_laid hL;clear hA0 hval0;simp only[List.append_nil] at hW';have hlt:∀ x∈p0 ++ (p1 ++ p2),x.block < W.heap.size:=fun x hx=>by simpa using hW'.lt x (by simpa using hx)
 obtain⟨n0,rfl,b0⟩:=int_in (hval 0 3 v0 rfl rfl) t0;obtain⟨n1,rfl,b1⟩:=int_in (hval 1 3 v1 rfl rfl) t1;obtain⟨n2,rfl,b2⟩:=int_in (hval 2 3 v2 rfl rfl) t2;have walk:=countedL W (conP hE) n0 n1 n2 b0 b1 b2;refine walk.mono fun e W' ⟨he,hB⟩=>?_;subst he;refine⟨_,rfl,_,_,_,[],p0 ++ p1 ++ p2,[],hW',?_,?_,rfl,hB.frame _,fun h=>by cases h⟩
 ·exact trodAll_mk1 (shut_bool Tryz.underlying4 _)
 ·rw[List.append_assoc];exact trodAll_mk3 (Below.trod Tryz.laidOut (by kernel_rfl) (of_decide_eq_true (by kernel_rfl)) t0 hB (fun x hx=>hlt x (by simp[hx]))) (Below.trod Tryz.laidOut (by kernel_rfl) (of_decide_eq_true (by kernel_rfl)) t1 hB (fun x hx=>hlt x (by simp[hx]))) (Below.trod Tryz.laidOut (by kernel_rfl) (of_decide_eq_true (by kernel_rfl)) t2 hB (fun x hx=>hlt x (by simp[hx])))
end
section
open Go
theorem counted_said:Rows.CountedSaid:=
 OpenClaim.holds_of_wide 6 Tryz.f6 rfl rfl rfl rfl rfl rfl rfl ⟨rfl,rfl,rfl,rfl,rfl⟩ rfl rfl rfl rfl rfl (by kernel_rfl) Tryz.func6 (by kernel_rfl)
  (of_decide_eq_true (by kernel_rfl)) (by unfold Func.isWrapper;first|(rw[if_pos (by decide +kernel)];kernel_rfl)|(rw[if_neg (by decide +kernel)];exact⟨rfl,rfl⟩))
  (fun os started H enc _=>counted_lifted os started H enc)
theorem counted_plain (f : FuncId) (fn : Func) (hf : Tryz.pinned.checked.prog.funcNamed "anvil/anvilkeep.Counted" = some f) (hfn : Tryz.pinned.checked.prog.funcs[f]? = some fn) :
  true=Tryz.pinned.checked.prog.looks []/\∀ (j:Nat) t,fn.params[j]? = some t->Tryz.pinned.checked.prog.wantsStandIn t=false:=by
 obtain rfl : f = 6 := Option.some.inj ((show Tryz.prog.funcNamed "anvil/anvilkeep.Counted" = some 6 by kernel_rfl).symm.trans hf) |>.symm
 obtain rfl:fn=Tryz.f6:=(Option.some.inj (Tryz.func6.symm.trans hfn)).symm;refine⟨by kernel_rfl,fun j t ht=>?_⟩;rw[Tryz.params6] at ht;obtain rfl:t=3:=by simpa using Array.mem_of_getElem? ht
 exact (show Tryz.prog.wantsStandIn 3=false by kernel_rfl)
theorem counted_card:Rows.CountedCardSaid:=
 Claim7.holds_tied_plain_at .later [] _ _ _ _ counted_said (fun _ h=>by cases h) (by kernel_rfl) (fun _ h=>by cases h) counted_row_tie rfl ⟨rfl,rfl⟩ (by kernel_rfl) rfl counted_plain (by kernel_rfl)
end
#print axioms counted_card
end Go.Proofs.YteainaiebcphlaaGreatDoor
