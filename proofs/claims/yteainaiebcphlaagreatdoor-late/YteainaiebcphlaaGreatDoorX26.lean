import Derived.Test.YteainaiebcphlaaGreatDoorX25
import Derived.Test.YteainaiebcphlaaGreatDoorX14
import Derived.Test.YteainaiebcphlaaGreatDoorXIter
import Derived.Deep.OwnRows
import Derived.Carry
import Derived.Test.YteainaiebcphlaaGreatDoorRows
import Derived.ProofKit
import Derived.LaidMore
import Derived.OpenShut
import Derived.Stop.Joined
import Derived.Lib.LaidTab
import Derived.Test.YteainaiebcphlaaGreatDoorX15
import Derived.Handy
namespace Go.Proofs.YteainaiebcphlaaGreatDoor
set_option maxRecDepth 1000000
set_option maxHeartbeats 4000000
set_option linter.all false
section
open Go.RowKit
section
variable {B:Nat} {W w w':World}
theorem splitM (hG:Glo B W) (t:ByteArray) (hv:validB t.data.toList=true) (w:World) (hb:Below B W w) (hs:B<=w.heap.size):
  Calls Tryz.prog 43 #[.string t] w fun e w'=>∃ n v ws,e=.returned (.slice (some v) n n)/\Kp w w' (fun _=>False)/\TokAt (Blk w') (.slice (some v) n n) ws/\texts ws=Lib.fields t.data.toList/\(∀ x∈ws,okW x)/\ws.length<=1000:=by
 have hsz:t.size<=400:=by unfold validB at hv;rw[Bool.and_eq_true] at hv;exact of_decide_eq_true hv.1
 have HCl:=hide (Tryz.stringslite_Clone t);have HC:=hide (Tryz.strings_Fields t);have HG:=hide hG;have HV:=hide hv;clear hG hv;go_enter Tryz.func43,Tryz.ntmps43
 go_wp2_with (first
  | (go_at_call 59;go_in)
  | (go_at_call 78;refine (HCl.out _ (by omega)).mono ?_;rintro e w1 ⟨rfl,hk1⟩;have HK1:=hide hk1;clear hk1)
  | (go_at_call 58;refine (HC.out _ (by omega) (ascii_of HV.out) (by exact (HG.out.asc.on (hb.trans (HK1.out.mono hs))).here)).mono ?_;rintro e w2 ⟨rfl,rfl⟩))
 go_ret;have hlen:(Lib.fields t.data.toList).length<=401:=by
  have h1:=fields_len t.data.toList [];have h3:t.data.toList.length=t.size:=rfl;have:(Lib.fields t.data.toList).length<=t.data.toList.length+1:=h1;omega
 refine⟨_,_,(Lib.fields t.data.toList).map fun l=>⟨l.toArray⟩,rfl,(Kp.ofBelow HK1.out).alloc _,.inr ⟨_,0,_,_,by rw[List.length_map],Blk.new _ _ _,by rw[List.length_map];exact Nat.le_refl _,by unfold maxLen;omega,by simp,fun i hi=>?_⟩,?_,fun x hx=>?_,by rw[List.length_map];omega⟩
 ·simp at hi;simp[hi]
 ·unfold texts;rw[List.map_map];exact List.map_id _
 ·obtain⟨l,hl,rfl⟩:=List.mem_map.1 hx;have h1:=fields_ne _ _ _ hl;have h2:=fields_size _ _ _ hl;have h3:t.data.toList.length=t.size:=rfl;refine⟨by rw[ByteArray.toList_eq];exact h1,?_⟩;show l.toArray.size<=1000;simp at h2 h3 ⊢;omega
theorem lineM_bad (w:World) (xb:Nat) (t:ByteArray) (hv:validB t.data.toList=false):
  Calls Tryz.prog 18 #[pt xb,.string t] w fun e w'=>e=.returned (.tuple #[.string ⟨#[]⟩,.int .i64 2])/\w'=w:=by
 go_enter Tryz.func18,Tryz.ntmps18
 go_wp2_with fail
 refine (validM _ _).mono ?_;rintro e w' ⟨rfl,hw⟩;rw[hw,hv];clear hw;go_wp2;go_ret2;exact⟨rfl,rfl⟩
abbrev runCells (xb:Nat):Array Value:=#[pt xb,.slice none 0 0,.int .i64 0,.int .i64 0]
theorem lineW (hG:Glo B W) (w:World) (xb bk:Nat) (sv:Value) (mem:Nat->Int) (t:ByteArray) (hv:validB t.data.toList=true) (hb:Below B W w) (hs:B<=w.heap.size) (hX:Blk w xb 80 (marr bk sv mem)) (e0:Int) (R:MS->World->Prop)
  (hrun:∀ w1 n v ws,Kp w w1 (fun _=>False)->Blk w1 w.heap.size 100 (runCells xb)->TokAt (Blk w1) (.slice (some v) n n) ws->texts ws=Lib.fields t.data.toList->(∀ x∈ws,okW x)->ws.length<=1000->Calls Tryz.prog 42 #[pt bk,pt w.heap.size,.slice (some v) n n] w1 fun e w'=>∃ m' ns,e=.returned (.int .i64 e0)/\m'.bk=bk/\MInv w' xb w.heap.size m' ns/\R m' w'):
  Calls Tryz.prog 18 #[pt xb,.string t] w fun e w'=>∃ m' w3,R m' w3/\e=.returned (.tuple #[.string m'.out,.int .i64 e0])/\w'=if e0=0 then w3 else w3.setCell ⟨xb,0,none⟩ (.slice none 0 0):=by
 have HR:=hide hrun;have c17:w.cell? ⟨xb,17,none⟩=some (pt bk):=hX.cell rfl;have hxl:=hX.lt;have hk0:=(Kp.refl w (fun _=>False)).alloc (.cells (runCells xb) 100);have HB0:=hide (Blk.new w (runCells xb) 100);have hX0:=hk0.blk hX (by simp);have HX0:=hide hX0;have HSP:=hide (fun w0 hk=>splitM hG t hv w0 (hb.trans (Kp.below (S:=fun _=>False) hk hs (fun _ _ e=>e))) (Nat.le_trans hs (Kp.size (S:=fun _=>False) hk)));have c18:(w.alloc (.cells (runCells xb) 100)).cell? ⟨xb,17,none⟩=some (pt bk):=hX0.cell rfl;clear hrun hG;go_enter Tryz.func18,Tryz.ntmps18
 go_wp2_with fail
 refine (validM _ _).mono ?_;rintro e w' ⟨rfl,hw⟩;rw[hw,hv];clear hw
 go_wp2_with (go_at_call 41;go_in)
 generalize w.alloc (.cells (runCells xb) 100)=w0 at *
 go_region_held3 (fun w'=>w'.cell? ⟨xb,17,none⟩=some (pt bk)) (go_keep) (first
  | (go_at_call 43;refine (HSP.out _ hk0.drew).mono ?_;rintro e w1 ⟨n,v,ws,rfl,hk1,q1,q2,q3,q4⟩;have HK1:=hide hk1;have HQ1:=hide q1;have HQ2:=hide q2;have HQ3:=hide q3;have HQ4:=hide q4;have u0:w1.cell? ⟨xb,17,none⟩=some (pt bk):=(hk1.blk HX0.out.drew (by simp)).cell rfl;clear hk1 q1 q2 q3 q4)
  | (go_at_call 42;refine (HR.out w1 n v ws (hk0.drew.trans HK1.out) (HK1.out.blk HB0.out.drew (by simp)) HQ1.out HQ2.out HQ3.out HQ4.out).mono ?_;rintro e w3 ⟨m',ns,rfl,hbk,hi3,hr3⟩;have HR3:=hide hr3;have HI3:=hide hi3;have u1:w3.cell? ⟨xb,17,none⟩=some (.pointer (some ⟨m'.bk,0,none⟩)):=hi3.xblk.cell rfl;rw[hbk] at u1;clear hr3 hi3 hbk))
 by_cases he:e0=0
 ·have he':(e0 != 0)=false:=by simp[he]
  have HE:=hide he;clear he
  go_wp2_with fail
  refine (printedM _ _ _ _ _ HI3.out).mono ?_;rintro e w' ⟨rfl,hw⟩;rw[hw];clear hw;go_wp2;go_ret2
  first
   | exact⟨m',w3,HR3.out,rfl,by rw[if_pos HE.out]⟩
   | exact⟨m',HR3.out,rfl⟩
 ·have he':(e0 != 0)=true:=by simp[he]
  have HE:=hide he;have hi3:=HI3.out;have k0:w3.cell? ⟨xb,0,none⟩=some m'.sv:=hi3.xblk.cell rfl;have f0:=hi3.xblk.free 0;obtain⟨ao,cap,hvv⟩:=form_of hi3.srow;rw[hvv] at k0;have hi5:MInv (w3.setCell ⟨xb,0,none⟩ (.slice none 0 0)) xb w.heap.size { m' with sv:=.slice none 0 0 } []:=
   ⟨hi3.xblk.set 0 _,hi3.rblk.setOther hi3.ne.symm _,World.ownsRow_nil _ _ _ _,ownsRow_setCell_other hi3.orow (own_ne hi3.orow hi3.xblk (by decide)) _,by simp⟩
  have H5:=hide hi5;clear he hvv hi5 hi3
  go_wp2_with (go_at_call 44;go_in)
  refine (printedM _ _ _ _ _ H5.out).mono ?_;rintro e w' ⟨rfl,hw⟩;rw[hw];clear hw;go_wp2;go_ret2
  first
   | exact⟨m',w3,HR3.out,rfl,by rw[if_neg HE.out]⟩
   | exact⟨m',w3,HR3.out,rfl,rfl⟩
end
end
section
open Go.RowKit
section
variable {B:Nat} {W w w':World} {xb bk mb:Nat} {sv:Value} {D:GD} {V:Nat->Prop} {s:St}
theorem good_fresh (h:SGood s):SGood (freshL s):=
 ⟨⟨h.g.ins,h.g.mems,h.g.len,by show (0:Nat)<=300;decide⟩,by show (0:Int)<=0;decide,by show (0:Int)<=2001;decide,fun _=>by show (0:Int)<=2000;decide,by show (0:Int)<=0;decide,by show (0:Int)<=20;decide,h.b0,h.b1,h.cb⟩
theorem PSn.start (h:PSn B W w xb bk mb sv D V s) (hg:SGood s) (hk:Kp w w' (fun _=>False)) (hr:Blk w' w.heap.size 100 (runCells xb)):
  PR B W w' xb w.heap.size mb ⟨sv,s.mem,.slice none 0 0,0,⟨#[]⟩,0,bk⟩ D (freshL s):=by
 have h1:=h.kp hk;have nov:∀ k,¬ own (.slice none 0 0) k:=fun k e=>by simp[own,Value.ownBlock] at e
 refine⟨⟨s.rs.reverse,⟨h1.xblk,hr,h1.srow,World.ownsRow_nil _ _ _ _,by rw[List.length_reverse];exact h.len⟩,fun _=>rfl⟩,rfl,rfl,by show (0:Int)<=0;decide,by show (0:Int)<=2000;decide,fun _=>rfl,rfl,⟨h1.bel,h.bx,h.bs,fun k e=>e.elim (h.bv k) (fun q=>absurd q (nov k)),h1.bs⟩,h.bmb,h1.book,h1.words,fun k e=>?_,h1.us,good_fresh hg⟩;obtain⟨e0,e1,e2⟩:=h.sep k e;exact⟨Nat.lt_of_lt_of_le e0 hk.size,e1,by show k ≠ w.heap.size;omega,e2,nov k⟩
theorem lineOk (hE:Env B W) (h:PSn B W w xb bk mb sv D V s) (hg:SGood s) (t:ByteArray) (hv:validB t.data.toList=true) (g:Nat) (s1:St) (left:Bool) (hx:xRun g (jToks (Lib.fields t.data.toList)) (freshL s)=some (s1,left)):
  Calls Tryz.prog 18 #[pt xb,.string t] w fun e w'=>e=.returned (.tuple #[.string s1.out,.int .i64 s1.e])/\∃ V',PSes B W w' xb V' (endL s1)/\To (fun _=>False) w w' V V':=by
 refine (lineW hE.glo w xb bk sv s.mem t hv h.bel h.bs h.xblk s1.e (fun m' w3=>∃ D',PR B W w3 xb w.heap.size mb m' D' s1/\Kp w w3 V/\m'.bk=bk/\(∀ k,own m'.sv k->(own sv k\/D.u k)\/w.heap.size<=k)/\(∀ k,D'.d k->D.d k\/w.heap.size<=k)/\(∀ k,D'.u k->(own sv k\/D.u k)\/w.heap.size<=k)) ?_).mono ?_
 ·intro w1 n v ws hk hb hT htx hok hl;have h1:=h.start hg hk hb;refine ((allX hE g).2.2.2 w1 xb w.heap.size mb _ D (freshL s) s1 _ ws left h1 rfl hT hok hl (by rw[htx];exact hx)).mono ?_;rintro e w' ⟨rfl,m',D',hr,ht⟩;obtain⟨ns,hi,_⟩:=hr.inv;refine⟨m',ns,rfl,ht.bk,hi,D',hr,?_,ht.bk,fun k e=>?_,fun k e=>?_,fun k e=>?_⟩
  ·have hkp:=ht.wt.kp;refine⟨hkp.os.trans hk.os,hkp.tape.trans hk.tape,hkp.output.trans hk.output,Nat.le_trans hk.size hkp.size,fun k hlt hn=>?_⟩;refine (hkp.block k (Nat.lt_of_lt_of_le hlt hk.size) ?_).trans (hk.block k hlt (by simp));rintro (((e|e)|e)|((e|e)|e))
   ·exact hn ((h.vs k).2 (.inl e))
   ·omega
   ·exact hn ((h.vs k).2 (.inr (.inr (.inl e))))
   ·exact hn ((h.vs k).2 (.inr (.inr (.inr (.inl e)))))
   ·simp[own,Value.ownBlock] at e
   ·exact hn ((h.vs k).2 (.inr (.inr (.inr (.inr (.inr e))))))
  ·rcases ht.wt.nx k (.inl (.inl e)) with ((q|q)|q)|q
   ·exact .inl (.inl q)
   ·simp[own,Value.ownBlock] at q
   ·exact .inl (.inr q)
   ·exact .inr (Nat.le_trans hk.size q)
  ·rcases ht.nw k e with q|q
   ·exact .inl q
   ·exact .inr (Nat.le_trans hk.size q)
  ·rcases ht.wt.nx k (.inr e) with ((q|q)|q)|q
   ·exact .inl (.inl q)
   ·simp[own,Value.ownBlock] at q
   ·exact .inl (.inr q)
   ·exact .inr (Nat.le_trans hk.size q)
 ·rintro e w' ⟨m',w3,⟨D',hr,hkp,hbk,hsv,hD',hU'⟩,rfl,hw⟩;refine⟨by rw[hr.out],?_⟩;obtain⟨ns,hi,hns⟩:=hr.inv;have hVn:∀ (sv':Value),(∀ k,own sv' k->own m'.sv k)->∀ k,(k=xb\/k=bk\/k=mb\/own sv' k\/D'.d k\/D'.u k)->V k\/w.heap.size<=k:=by
   rintro sv' hs' k (e|e|e|e|e|e)
   ·exact .inl ((h.vs k).2 (.inl e))
   ·exact .inl ((h.vs k).2 (.inr (.inl e)))
   ·exact .inl ((h.vs k).2 (.inr (.inr (.inl e))))
   ·rcases hsv k (hs' k e) with (q|q)|q
    ·exact .inl ((h.vs k).2 (.inr (.inr (.inr (.inl q)))))
    ·exact .inl ((h.vs k).2 (.inr (.inr (.inr (.inr (.inr q))))))
    ·exact .inr q
   ·rcases hD' k e with q|q
    ·exact .inl ((h.vs k).2 (.inr (.inr (.inr (.inr (.inl q))))))
    ·exact .inr q
   ·rcases hU' k e with (q|q)|q
    ·exact .inl ((h.vs k).2 (.inr (.inr (.inr (.inl q)))))
    ·exact .inl ((h.vs k).2 (.inr (.inr (.inr (.inr (.inr q))))))
    ·exact .inr q
  have hbook:Blk w3 bk 106 #[.map (some mb),.int .i64 s1.hot,.int .i64 s1.built]:=by have:=hr.book;rw[hbk] at this;exact this
  have hwords:WordsR D' w3 bk mb s1.defs:=by have:=hr.words;rw[hbk] at this;exact this
  have hxb:Blk w3 xb 80 (marr bk m'.sv s1.mem):=by have:=hi.xblk;rw[hbk,hr.mem] at this;exact this
  have hnb:¬ D'.d bk:=fun e=>(hD' bk e).elim h.nb (fun q=>by have:=h.book.lt;omega);by_cases he:s1.e=0
  ·rw[if_pos he] at hw;subst hw;have hee:endL s1=s1:=by unfold endL;rw[if_pos he]
   rw[hee];refine⟨fun k=>k=xb\/k=bk\/k=mb\/own m'.sv k\/D'.d k\/D'.u k,⟨bk,mb,m'.sv,D',⟨hxb,?_,?_,hr.safe.bel,hr.safe.bx,fun k e=>hr.safe.bv k (.inl e),hr.safe.bs,hr.bmb,hbook,hwords,fun k e=>?_,hr.us,hnb,h.bbk,fun k=>Iff.rfl⟩⟩,⟨hkp.mono (fun k _ e=>.inr e),hVn m'.sv (fun _ e=>e)⟩⟩
   ·rw[<-hns he];exact hi.srow
   ·have:=hi.len;rw[hns he,List.length_reverse] at this;exact this
   ·obtain⟨q0,q1,q2,q3,q4⟩:=hr.sep k e;exact⟨q0,q1,q3⟩
  ·rw[if_neg he] at hw;subst hw;have hee:endL s1={ s1 with rs:=[] }:=by unfold endL;rw[if_neg he]
   rw[hee];have hk5:Kp w3 (w3.setCell ⟨xb,0,none⟩ (.slice none 0 0)) (fun k=>k=xb):=Kp.one _ _ _ _;have nov:∀ k,¬ own (.slice none 0 0) k:=fun k e=>by simp[own,Value.ownBlock] at e
   have hux:∀ k,D'.u k->¬ k=xb:=fun k e=>(hr.ux e).1;obtain⟨hpr,hwd⟩:=hwords.wds.out hk5 hux (fun k e=>(hr.sep k e).2.1);refine⟨fun k=>k=xb\/k=bk\/k=mb\/own (.slice none 0 0) k\/D'.d k\/D'.u k,⟨bk,mb,.slice none 0 0,D',⟨hxb.set 0 _,World.ownsRow_nil _ _ _ _,by show (0:Nat)<=32;decide,hr.safe.bel.trans (hk5.below hr.safe.bs (fun k hk e=>by have:=hr.safe.bx;omega)),hr.safe.bx,fun k e=>absurd e (nov k),Nat.le_trans hr.safe.bs hk5.size,hr.bmb,hk5.blk hbook (fun e=>by subst e;exact absurd (hbook.inj hi.xblk).1 (by decide)),hwords.pres hpr (fun _ _ h=>h) (fun _ _ h=>h) hwd (hk5.block mb hwords.ltm (fun e=>hwords.ne hi.xblk e)),fun k e=>?_,fun k e=>?_,hnb,h.bbk,fun k=>Iff.rfl⟩⟩,⟨?_,hVn (.slice none 0 0) (fun k e=>absurd e (nov k))⟩⟩
   ·obtain⟨q0,q1,q2,q3,q4⟩:=hr.sep k e;exact⟨Nat.lt_of_lt_of_le q0 hk5.size,q1,nov k⟩
   ·obtain⟨q0,q1,q2⟩:=hr.us k e;refine⟨q0,q1,?_⟩;rcases q2 with⟨c,hc⟩|⟨n,DD,hm⟩
    ·exact .inl ⟨c,hk5.blk hc (hux k e)⟩
    ·exact .inr ⟨n,DD,ownsMap_same hm (hk5.block k hm.lt (hux k e))⟩
   ·refine⟨hk5.os.trans hkp.os,hk5.tape.trans hkp.tape,hk5.output.trans hkp.output,Nat.le_trans hkp.size hk5.size,fun k hlt hn=>?_⟩;exact (hk5.block k (Nat.lt_of_lt_of_le hlt hkp.size) (fun e=>hn (.inr ((h.vs k).2 (.inl e))))).trans (hkp.block k hlt (fun e=>hn (.inr e)))
end
end
section
open Go.RowKit
theorem perm_nodup:∀ (a b:List Tok),a.Nodup->(∀ x∈a,x∈b)->b.length<=a.length->a.Perm b
 | [],b,_,_,h=>by
  have:b=[]:=List.length_eq_zero_iff.1 (by simpa using h);subst this;exact List.Perm.refl _
 | x :: a,b,hn,hs,hl=>by
  rw[List.nodup_cons] at hn;have hx:x∈b:=hs x (by simp);have hp:=List.perm_cons_erase hx;have hle:=hp.length_eq;simp only[List.length_cons] at hle hl;refine ((perm_nodup a (b.erase x) hn.2 (fun y hy=>?_) (by omega)).cons x).trans hp.symm;have hne:y ≠ x:=by rintro rfl;exact hn.1 hy
  exact (List.mem_erase_of_ne hne).2 (hs y (by simp[hy]))
theorem insN_perm (x:Tok):∀ (l:List Tok),(insN x l).Perm (x :: l)
 | []=>List.Perm.refl _
 | b :: r=>by
  unfold insN
  split
  ·exact ((insN_perm x r).cons b).trans (List.Perm.swap x b r)
  ·exact List.Perm.refl _
theorem insN_sorted (x:Tok):∀ (l:List Tok),l.Pairwise (fun a b=>leB b a=true)->(insN x l).Pairwise (fun a b=>leB b a=true)
 | [],_=>by simp[insN]
 | b :: r,h=>by
  rw[List.pairwise_cons] at h;unfold insN;by_cases hx:Op.bytesLess x b=true
  ·rw[if_pos hx,List.pairwise_cons];refine⟨fun y hy=>?_,insN_sorted x r h.2⟩;rcases List.mem_cons.1 ((insN_perm x r).mem_iff.1 hy) with e|e
   ·subst e;rw[bytesLess_eq] at hx;simp only[leB,decide_eq_true_eq] at hx ⊢;exact List.le_of_lt hx
   ·exact h.1 y e
  ·rw[if_neg hx,List.pairwise_cons,List.pairwise_cons];have hbx:leB b x=true:=by
    rw[bytesLess_eq] at hx;simp only[leB,decide_eq_true_eq] at hx ⊢;exact List.not_lt.1 hx
   refine⟨fun y hy=>?_,h⟩;rcases List.mem_cons.1 hy with e|e
   ·subst e;exact hbx
   ·have:=h.1 y e;simp only[leB,decide_eq_true_eq] at this hbx ⊢;exact List.le_trans this hbx
theorem rsortN_ok (l:List Tok):(rsortN l).Perm l/\(rsortN l).Pairwise (fun a b=>leB b a=true):=by
 have key:∀ (l rp:List Tok),rp.Pairwise (fun a b=>leB b a=true)->(l.foldl (fun rp x=>insN x rp) rp).Perm (l ++ rp)/\(l.foldl (fun rp x=>insN x rp) rp).Pairwise (fun a b=>leB b a=true):=by
  intro l
  induction l with
  | nil=>intro rp h;exact⟨List.Perm.refl _,h⟩
  | cons x l ih=>
   intro rp h;obtain⟨h1,h2⟩:=ih (insN x rp) (insN_sorted x rp h);refine⟨h1.trans (((insN_perm x rp).append_left l).trans ?_),h2⟩;exact List.perm_middle
 have:=key l [] List.Pairwise.nil;rw[List.append_nil] at this;exact this
theorem sortN_eq (l ss:List Tok) (h:ss.Perm l):ss.mergeSort leB=sortN l:=by
 obtain⟨h1,h2⟩:=rsortN_ok l;have tr:∀ a b c:List UInt8,leB a b=true->leB b c=true->leB a c=true:=fun a b c h1 h2=>by simp only[leB,decide_eq_true_eq] at *;exact List.le_trans h1 h2
 have tot:∀ a b:List UInt8,(leB a b || leB b a)=true:=fun a b=>by simp only[leB,Bool.or_eq_true,decide_eq_true_eq];exact List.le_total a b
 refine List.Perm.eq_of_pairwise (le:=fun a b=>leB a b=true) (fun a b _ _ h1 h2=>?_) (List.pairwise_mergeSort tr tot ss) ?_ (((List.mergeSort_perm ss leB).trans h).trans ?_)
 ·simp only[leB,decide_eq_true_eq] at h1 h2;exact List.le_antisymm h1 h2
 ·unfold sortN;exact List.pairwise_reverse.2 h2
 ·exact h1.symm.trans (List.reverse_perm _).symm
theorem WordsR.keys {D:GD} {w:World} {bk mb:Nat} {defs:List Def} (h:WordsR D w bk mb defs):∃ DD,w.ownsMap Tryz.prog 9 heldR mb defs.length DD/\Maps.size DD=defs.length/\defs.length<=30/\(strKeys DD).Perm (defs.map Def.name):=by
 obtain⟨obs,DD,hwr⟩:=h;have hown:=hwr.mp;have hsz:=hwr.sz;have hhas:=hwr.hs;refine⟨DD,hown,hsz,hwr.l30,?_⟩;have hle:=strKeys_le hown Tryz.underlying9;obtain⟨es,hD,hpw,_⟩:=hown.entries (Maps.string_keyed Tryz.underlying9);obtain⟨es',hD',hko⟩:=hown.keysOf;obtain rfl:es=es':=by rw[hD] at hD';simpa using hD'
 subst hD;have hk:∀ p∈es,∃ x,p.1=.string x:=fun p hp=>by obtain⟨v,hv⟩:=hko p hp;obtain⟨x,_,hx,_⟩:=Maps.keyOf_str Tryz.underlying9 hv;exact⟨x,hx⟩
 refine perm_nodup _ _ ?_ (fun x hx=>?_) ?_
 ·show (es.map fun p=>strOf p.1).Nodup;refine List.pairwise_map.2 (hpw.imp_of_mem fun {p q} hp' hq' hne e=>hne ?_);obtain⟨a,ha⟩:=hk p hp';obtain⟨b,hb⟩:=hk q hq';rw[ha,hb] at e ⊢;exact congrArg _ e
 ·have hl:=hle x hx;have:=hhas x hl;have hin:Maps.has (.map es) (.string x)=true:=by
   obtain⟨p,hp,rfl⟩:=List.mem_map.1 hx;obtain⟨a,ha⟩:=hk p hp;rw[Maps.has_eq,List.any_eq_true];exact⟨p,hp,by rw[ha];simp[Lit.sameKey,strOf]⟩
  rw[hin] at this;obtain⟨i,hi⟩:=Option.isSome_iff_exists.1 this.symm;obtain⟨hlt,hp,_⟩:=List.findIdx?_eq_some_iff_getElem.1 hi;exact List.mem_map.2 ⟨defs[i],List.getElem_mem hlt,beq_iff_eq.1 hp⟩
 ·show (defs.map Def.name).length<=(es.map fun p=>strOf p.1).length;have hsz:es.length=defs.length:=hsz;rw[List.length_map,List.length_map,hsz];exact Nat.le_refl _
section
variable {B:Nat} {W w w':World} {xb bk mb:Nat} {sv:Value} {D:GD} {V:Nat->Prop} {s:St}
theorem namesM (w:World) (bk mb n:Nat) (DD:DataW Value) {hh bl:Value} (hb:Blk w bk 106 #[.map (some mb),hh,bl]) (hown:w.ownsMap Tryz.prog 9 heldR mb n DD) (h30:Maps.size DD<=30):
  Calls Tryz.prog 53 #[pt bk] w fun e w'=>∃ (v:Value) (ss:List (List UInt8)),e=.returned v/\ss.Perm (strKeys DD)/\w'.ownsRow w.heap.size 9 1 v ss.length ((ss.mergeSort leB).map encStr)/\Below w.heap.size w w':=by
 have HK:=hide (fun w=>callsIn_wide.1 (Tryz.maps_Keys_65 (some mb) w));have HS:=hide (callsIn_wide.1 (Tryz.slices_Sorted_keys_64_65 mb n DD heldR w hown (by unfold maxLen;omega) (by omega)));have c0:w.cell? ⟨bk,0,none⟩=some (.map (some mb)):=hb.cell rfl;clear hown;go_enter Tryz.func53,Tryz.ntmps53
 go_wp2_with fail
 refine (HK.out _).mono ?_;rintro e w1 ⟨rfl,rfl⟩
 go_wp2_with fail
 refine HS.out.mono ?_;rintro e w1 ⟨v,ss,rfl,hp,hrow,hnil,hbl⟩;have HR:=hide hrow;have HB:=hide hbl;have HP:=hide hp;clear hrow hbl hnil hp;go_wp2;go_ret;exact⟨v,ss,rfl,HP.out,ownsRow_base_a HR.out (by simp),((Below.refl _ w).alloc (Nat.le_refl _) _).trans (HB.out.mono (by simp))⟩
theorem wordsM (h:PSn B W w xb bk mb sv D V s):
  Calls Tryz.prog 33 #[pt xb] w fun e w'=>∃ v,e=.returned v/\(∃ L:List ByteArray,w'.ownsRow w.heap.size 9 1 v L.length (L.map Value.string)/\texts L=wordsP s)/\∃ V',PSes B W w' xb V' s/\To (fun _=>False) w w' V V'/\∀ k,own v k->¬ V' k:=by
 obtain⟨DD,hown,hsz,h30,hperm⟩:=h.words.keys;have HN:=hide (namesM w bk mb _ DD h.book hown (by omega));have c17:w.cell? ⟨xb,17,none⟩=some (pt bk):=h.xblk.cell rfl;have H:=hide h;have HP:=hide hperm;clear h hown hperm;go_enter Tryz.func33,Tryz.ntmps33
 go_wp2_with fail
 refine HN.out.mono ?_;rintro e w1 ⟨v,ss,rfl,hp,hrow,hbl⟩;have HR:=hide hrow;have HB:=hide hbl;have HQ:=hide hp;clear hrow hbl hp;go_wp2;go_ret;refine⟨v,rfl,⟨(ss.mergeSort leB).map fun l=>⟨l.toArray⟩,?_,?_⟩,V,⟨bk,mb,sv,D,H.out.kp (Kp.ofBelow HB.out)⟩,⟨(Kp.ofBelow HB.out).mono (fun _ _ e=>e),fun k e=>.inl e⟩,fun k e hv=>?_⟩
 ·have:=HR.out;rw[List.map_map,List.length_map,(List.mergeSort_perm ss leB).length_eq];exact this
 ·unfold texts wordsP;rw[List.map_map,<-sortN_eq _ ss (HQ.out.trans HP.out)];exact List.map_id _
 ·have h1:=(HR.out.lt k e).1;have h2:=H.out.lt k hv;omega
end
end
section
open Go.RowKit
theorem info_int:(Tryz.prog.info? 3).map (fun i=>(i.zero,i.size,i.bytes))=some (some (.int .i64 0),1,8):=by kernel_rfl
section
variable {B:Nat} {W w w':World} {xb bk mb:Nat} {sv:Value} {D:GD} {V:Nat->Prop} {s:St}
structure StL (w wr:World) (ns:List Int) (k:Nat):Prop where
 blk:∃ c:Array Value,Blk wr w.heap.size 3 c/\c.size=ns.length/\(∀ i (h:i < ns.length),i < k->c[i]? = some (.int .i64 ns[i]))/\∀ i,i < ns.length->¬ i < k->c[i]? = some (.int .i64 0)
 kp:Kp w wr (fun _=>False)
theorem stackM (w:World) (xb bk:Nat) (sv:Value) (mem:Nat->Int) (ns:List Int) (h:Blk w xb 80 (marr bk sv mem)) (hrow:w.ownsRow 0 2 1 sv ns.length (ints ns)) (hin:∀ n∈ns,In n) (hl:ns.length<=32):
  Calls Tryz.prog 46 #[pt xb] w fun e w'=>e=.returned (.slice (some ⟨w.heap.size,0,none⟩) ns.length ns.length)/\StL w w' ns ns.length:=by
 have hmk:=run_make_row' 34 3 (.int .i64 0) 8 Tryz.underlying34 info_int rfl .i64 .i64 ns.length (by omega) (by omega) w;have c0:w.cell? ⟨xb,0,none⟩=some sv:=h.cell rfl;obtain⟨ao,cap,rfl⟩:=form_of hrow;have h0:Hid (StL w (w.alloc (.cells (madeCells #[.int .i64 0] ns.length) 3)) ns 0):=⟨⟨_,Blk.new _ _ _,size_madeCells _ _,fun i _ hi=>by omega,fun i hi _=>by simp[madeCells,hi,Nat.mod_one]⟩,(Kp.refl _ _).alloc _⟩;have HX:=hide h;have HR:=hide hrow;have c1:(w.alloc (.cells (madeCells #[.int .i64 0] ns.length) 3)).cell? ⟨xb,0,none⟩=some (.slice ao ns.length cap):=(h.alloc _).cell rfl;clear h hrow;go_enter Tryz.func46,Tryz.ntmps46;go_wp2
 go_loopw [17] (fun i wr=>∃ k:Nat,k<=ns.length/\i=.int .i64 k/\StL w wr ns k) (fun i _=>ns.length - (intOf i).toNat)
 case atStart=>exact⟨0,Nat.zero_le _,rfl,h0.out⟩
 case round=>
  obtain⟨k,hk,rfl,⟨⟨c,hb,hcs,h1,h2⟩,hkp⟩⟩:=hrel;by_cases hlt:k < ns.length
  ·have hrow:=hkp.row HR.out (by simp);obtain⟨gd,cap',hv,hcell⟩:=row_cell hrow (by omega);injection hv with e1 e2 e3;subst e1;clear e2 e3;have c2:=hcell _ _ (show (ints ns)[k]? = some (.int .i64 ns[k]) by simp[ints,hlt]);have c3:wr.cell? ⟨w.heap.size,k,none⟩=some (.int .i64 0):=hb.cell (h2 k hlt (by omega));have f3:=hb.free k;have hIn:=hin _ (List.getElem_mem hlt);have H1:Hid (StL w (wr.setCell ⟨w.heap.size,k,none⟩ (.int .i64 ns[k])) ns (k+1)):=by
    refine⟨⟨c.setIfInBounds k (.int .i64 ns[k]),hb.set k _,by simpa using hcs,fun i hi hik=>?_,fun i hi hik=>?_⟩,?_⟩
    ·by_cases e:i=k
     ·subst e;rw[Array.getElem?_setIfInBounds_self,if_pos (by omega)]
     ·rw[Array.getElem?_setIfInBounds_ne (fun q=>e q.symm)];exact h1 i hi (by omega)
    ·rw[Array.getElem?_setIfInBounds_ne (by omega)];exact h2 i hi (by omega)
    ·exact Kp.newer hkp (Kp.one _ _ _ _) (Nat.le_refl _)
   generalize ns[k]=nk at *;clear hrow hcell hb h1 h2 hkp hcs;go_wp2
   go_round
   case rel=>exact⟨k+1,by omega,by go_num,H1.out⟩
   case measure=>simp[intOf];omega
  ·have hkn:k=ns.length:=by omega
   subst hkn;have H1:Hid (StL w wr ns ns.length):=⟨⟨c,hb,hcs,h1,h2⟩,hkp⟩;clear hb h1 h2 hkp hcs;go_wp2;go_ret;exact⟨rfl,H1.out⟩
theorem StL.row {wr:World} {ns:List Int} (h:StL w wr ns ns.length) (hl:ns.length<=32):wr.ownsRow w.heap.size 3 1 (.slice (some ⟨w.heap.size,0,none⟩) ns.length ns.length) ns.length (ints ns):=by
 obtain⟨c,hb,hcs,h1,_⟩:=h.blk;refine⟨by simp[ints],.inr ⟨_,_,c,rfl,Nat.le_refl _,hb,Nat.le_refl _,by unfold maxLen;omega,by omega,?_⟩⟩;rw[Nat.mul_one,List.take_of_length_le (by simp[hcs])]
 apply List.ext_getElem?
 intro i;by_cases hi:i < ns.length
 ·rw[Array.getElem?_toList,h1 i hi hi];simp[ints,hi]
 ·rw[List.getElem?_eq_none (by simp[hcs];omega),List.getElem?_eq_none (by simp[ints];omega)]
theorem stackP (h:PSn B W w xb bk mb sv D V s) (hg:SGood s):
  Calls Tryz.prog 19 #[pt xb] w fun e w'=>∃ v,e=.returned v/\w'.ownsRow w.heap.size 3 1 v s.rs.length (ints s.rs.reverse)/\∃ V',PSes B W w' xb V' s/\To (fun _=>False) w w' V V'/\∀ k,own v k->¬ V' k:=by
 have hl:=h.len;have HS:=hide (stackM w xb bk sv s.mem s.rs.reverse h.xblk h.srow (fun n hn=>hg.g.ins n (List.mem_reverse.1 hn)) (by rw[List.length_reverse];exact h.len));have H:=hide h;have hxl:=h.xblk.lt;clear h;go_enter Tryz.func19,Tryz.ntmps19
 go_wp2_with fail
 refine HS.out.mono ?_;rintro e w1 ⟨rfl,hst⟩;have HT:=hide hst;clear hst;go_wp2;go_ret;have hrow:=HT.out.row (by rw[List.length_reverse];exact hl);refine⟨_,rfl,by have:=hrow;simpa using this,V,⟨bk,mb,sv,D,H.out.kp HT.out.kp⟩,⟨HT.out.kp.mono (fun _ _ e=>e.elim),fun k e=>.inl e⟩,fun k e hv=>?_⟩;have h1:=(hrow.lt k e).1;have h2:=H.out.lt k hv;omega
theorem cellPX (h:PSn B W w xb bk mb sv D V s) (n:Int):
  Calls Tryz.prog 39 #[pt xb,.int .i64 n] w fun e w'=>e=.returned (.tuple #[.int .i64 (cellP s n).1,.int .i64 (cellP s n).2])/\∃ V',PSes B W w' xb V' s/\To (fun _=>False) w w' V V':=by
 have HS:=hide (cellM w xb bk sv s.mem h.xblk n);have hh:cellP s n=if n < 0\/16<=n then ((0:Int),(10:Int)) else (s.mem n.toNat,0):=rfl;rw[<-hh] at HS;clear hh;generalize cellP s n=cc at *;have H:=hide h;have hxl:=h.xblk.lt;clear h;go_enter Tryz.func39,Tryz.ntmps39
 go_wp2_with fail
 refine HS.out.mono ?_;rintro e w1 ⟨rfl,hk⟩;have HK:=hide hk;clear hk;go_wp2;go_ret2;exact⟨rfl,H.out.to HK.out⟩
end
end
section
open Go.RowKit
theorem newM (w:World):Calls Tryz.prog 27 #[] w fun e w'=>∃ xb bk mb,e=.returned (.pointer (some ⟨xb,0,none⟩))/\Kp w w' (fun _=>False)/\w.heap.size<=xb/\w.heap.size<=bk/\w.heap.size<=mb/\Blk w' xb 80 (marr bk (.slice none 0 0) (fun _=>0))/\Blk w' bk 106 #[.map (some mb),.int .i64 5,.int .i64 1]/\w'.ownsMap Tryz.prog 9 heldR mb 0 (.map []):=by
 have hmm:=run_makeMap (P:=Tryz.prog) 104 w;go_enter Tryz.func27,Tryz.ntmps27
 go_wp2_with (go_at_call 51;go_in)
 go_ret;refine⟨_,w.heap.size+1,w.heap.size,rfl,(((Kp.refl _ _).alloc _).alloc _).alloc _,by omega,by omega,Nat.le_refl _,Blk.new2 w _ _ _ _,(Blk.new1 w _ _ _).alloc _,?_⟩;exact ((World.ownsMap_made w Tryz.prog 9 heldR).alloc _).alloc _
def noG:GD:=⟨fun _=>False,fun _=>False,fun _ _=>False,fun _=>(0,0)⟩
theorem words0 (w:World) (bk mb:Nat) (h:w.ownsMap Tryz.prog 9 heldR mb 0 (.map [])):WordsR noG w bk mb []:=
 ⟨[],.map [],rfl,h,rfl,fun t _=>rfl,by decide,fun t _=>rfl,fun i j hi=>absurd hi (Nat.not_lt_zero _),⟨fun _ _ h=>h.elim,fun _ _ _ h=>h.elim,fun _ h=>h.elim,fun _ h=>h.elim,fun _ h=>h.elim⟩,fun k hk=>absurd hk (Nat.not_lt_zero _),fun _ _ h=>h.elim⟩
section
variable {B:Nat} {W:World}
theorem newP (w:World) (hb:Below B W w) (hs:B<=w.heap.size):Calls Tryz.prog 27 #[] w fun e w'=>∃ xb V,e=.returned (.pointer (some ⟨xb,0,none⟩))/\PSes B W w' xb V st0/\Kp w w' (fun _=>False)/\∀ k,V k->w.heap.size<=k:=by
 refine (newM w).mono ?_;rintro e w' ⟨xb,bk,mb,rfl,hk,h1,h2,h3,b1,b2,hm⟩;have nov:∀ k,¬ own (.slice none 0 0) k:=fun k e=>by simp[own,Value.ownBlock] at e
 refine⟨xb,fun k=>k=xb\/k=bk\/k=mb\/own (.slice none 0 0) k\/False\/False,rfl,⟨bk,mb,.slice none 0 0,noG,⟨b1,World.ownsRow_nil _ _ _ _,by decide,hb.trans (hk.below hs (fun _ _ e=>e)),by omega,fun k e=>absurd e (nov k),Nat.le_trans hs hk.size,by omega,b2,words0 _ _ _ hm,fun k e=>e.elim,fun k e=>e.elim,fun e=>e.elim,by omega,fun k=>Iff.rfl⟩⟩,hk,?_⟩;rintro k (e|e|e|e|e|e)
 ·omega
 ·omega
 ·omega
 ·exact absurd e (nov k)
 ·exact e.elim
 ·exact e.elim
theorem conP (hE:Env B W):PCon B W (PSes B W) where
 lt:=fun w xb V s ⟨bk,mb,sv,D,h⟩=>h.lt
 frame:=fun w w' S xb V s ⟨bk,mb,sv,D,h⟩ hk hV hB _=>⟨bk,mb,sv,D,h.frame hk hV hB⟩
 new:=fun w hb hs=>newP w hb hs
 line:=fun w xb V s s1 left g t ⟨bk,mb,sv,D,h⟩ _ hg hv hx=>lineOk hE h hg t hv g s1 left hx
 lineBad:=fun w xb V s t ⟨bk,mb,sv,D,h⟩ hv=>(lineM_bad w xb t hv).mono (by
  rintro e w' ⟨rfl,rfl⟩;exact⟨rfl,h.to (Kp.refl _ _)⟩)
 stack:=fun w xb V s ⟨bk,mb,sv,D,h⟩ hg=>stackP h hg
 cell:=fun w xb V s n ⟨bk,mb,sv,D,h⟩ _=>cellPX h n
 words:=fun w xb V s ⟨bk,mb,sv,D,h⟩=>wordsM h
end
end
section
open Go.ChangeShapes Go.WideShapes Go.ChangeAt Go.RowKit
theorem gPow : Tryz.prog.globalNamed "internal/strconv.uint64pow10" = some 5 := by kernel_rfl
theorem gAsc : Tryz.prog.globalNamed "strings.asciiSpace" = some 0 := by kernel_rfl
theorem gSpl : Tryz.prog.globalNamed "anvil/token.spellings" = some 1 := by kernel_rfl
theorem tPow:(Tryz.prog.globals[5]?).map (·.type)=some 294:=by kernel_rfl
theorem tAsc:(Tryz.prog.globals[0]?).map (·.type)=some 130:=by kernel_rfl
theorem tSpl:(Tryz.prog.globals[1]?).map (·.type)=some 142:=by kernel_rfl
theorem dPow:(Rows.laid_internal_strconv_uint64pow10:DataW Unit)=Lib.tabData .u64 Lib.pow10Tab:=by rfl
theorem dAsc:(Rows.laid_strings_asciiSpace:DataW Unit)=Lib.tabData .u8 Lib.asciiSpaceTab:=by rfl
theorem dSpl:(Rows.laid_anvil_token_spellings:DataW Unit)=.agg (spellW.map fun s=>.lit (.string s.data.toList)):=by rfl
theorem cells_of_texts {H:Type} {enc:TypeId × Value->H} {P:Program} {w:World} {base:Nat} {sp:Nat->Bool} {held:Bool} {fuel:Nat} {t e:TypeId} {n:Nat} {cs:List Value} {zs:List ByteArray} {p:List MemPlace}
  (ht:P.underlying t=some (.array n e)) (he:P.underlying e=some .string) (hce:P.cellsOf e=1) (hct:P.cellsOf t=n)
  (h:DataW.trod enc P w base sp held fuel t cs=some (.agg (zs.map fun s=>.lit (.string s.data.toList)),p)):cs=zs.map Value.string:=by
 obtain⟨xs,m,_,hx,hlen,hxl,hel⟩:=DataW.trod_array ht h;simp only[Prod.mk.injEq,DataW.agg.injEq] at hx;have hzl:zs.length=n:=by have:=congrArg List.length hx.1;simp at this;omega
 apply List.ext_getElem?
 intro i;by_cases hi:i < n
 ·have h1:=hel i hi;rw[hce,Nat.mul_one,List.getElem?_eq_getElem (by omega)] at h1;obtain⟨s,e1,e2,_⟩:=DataW.trod_string he h1;have h2:(xs.map (·.1))[i]? = some (.lit (.string s.data.toList)):=by rw[List.getElem?_map,List.getElem?_eq_getElem (by omega),Option.map_some,e2]
  rw[<-hx.1,List.getElem?_map,List.getElem?_eq_getElem (by omega)] at h2;simp only[Option.map_some,Option.some.injEq,DataW.lit.injEq,Lit.string.injEq] at h2;have h3:zs[i]'(by omega)=s:=by apply ByteArray.ext;exact Array.toList_inj.1 h2
  have h4:cs[i]? = some (.string s):=by
   have:=congrArg (·[0]?) e1
   simpa [List.getElem?_take,List.getElem?_drop] using this
  rw[h4,List.getElem?_map,List.getElem?_eq_getElem (by omega),h3];rfl
 ·rw[List.getElem?_eq_none (by omega),List.getElem?_eq_none (by simp;omega)]
theorem Tryz.own:ownKnob Tryz.prog.godebug=none:=by kernel_rfl
theorem Tryz.laidOut:laidOutB Tryz.prog=true:=by kernel_rfl
theorem of_laid {W:World} (h:laidMetH Tryz.prog Rows.runsUptoRow.laid W):Env W.heap.size W:=by
 rw[MakeChecks.laidMetH_plain _ _ _ (by kernel_rfl)] at h;obtain⟨ps,h,_⟩:=h;simp only[Rows.runsUptoRow] at h;obtain⟨_,_,_,_,_,_,_,_,_,_,h,_⟩:=h;obtain⟨_,_,_,_,_,_,_,_,_,_,h,_⟩:=h;obtain⟨g2,t2,cs2,f2,p2,q2,hg2,ht2,hv2,hd2,h,_⟩:=h;obtain⟨_,_,_,_,_,_,_,_,_,_,h,_⟩:=h;obtain⟨_,_,_,_,_,_,_,_,_,_,h,_⟩:=h;obtain⟨_,_,_,_,_,_,_,_,_,_,h,_⟩:=h;obtain⟨g6,t6,cs6,f6,p6,q6,hg6,ht6,hv6,hd6,h,_⟩:=h;obtain⟨g7,t7,cs7,f7,p7,q7,hg7,ht7,hv7,hd7,h,_⟩:=h;obtain rfl:=Option.some.inj (gPow.symm.trans hg2);obtain rfl:=Option.some.inj (gAsc.symm.trans hg6);obtain rfl:=Option.some.inj (gSpl.symm.trans hg7);obtain rfl:=Option.some.inj (tPow.symm.trans ht2);obtain rfl:=Option.some.inj (tAsc.symm.trans ht6);obtain rfl:=Option.some.inj (tSpl.symm.trans ht7);rw[dPow] at hd2;rw[dAsc] at hd6;rw[dSpl] at hd7;have e2:=Lib.cells_of_tab Tryz.underlying294 Tryz.underlying177 (by kernel_rfl) (by kernel_rfl) hd2;have e6:=Lib.cells_of_tab Tryz.underlying130 Tryz.underlying5 (by kernel_rfl) (by kernel_rfl) hd6;have e7:=cells_of_texts Tryz.underlying142 Tryz.underlying9 (by kernel_rfl) (by kernel_rfl) hd7
 have hPow : Lib.TabIs Tryz.prog W "internal/strconv.uint64pow10" .u64 Lib.pow10Tab := by unfold Lib.TabIs; rw [hv2, ← e2]
 have hAsc : Lib.TabIs Tryz.prog W "strings.asciiSpace" .u8 Lib.asciiSpaceTab := by unfold Lib.TabIs; rw [hv6, ← e6]
 have hSp:∃ tt fr,W.heap[1]? = some (.cells spellA tt fr):=by
  unfold World.var? at hv7;rw[gSpl] at hv7;simp only[Option.bind_some] at hv7
  split at hv7
  ·rename_i c tt fr hh
   injection hv7 with hv7;refine⟨tt,fr,?_⟩;rw[hh];have:c=spellA:=by
    rw[hv7]
    apply Array.toList_inj.1
    rw[e7];rfl
   rw[this]
  ·cases hv7
 obtain⟨tt,fr,hh⟩:=hSp;exact⟨⟨Lib.tabBelow_of_tabIs hPow,Lib.tabBelow_of_tabIs hAsc,Nat.le_refl _⟩,⟨tt,fr,hh⟩,lt_of_block hh⟩
end
section
open Go.RowKit
theorem run_inj {g g':Nat} {j:XJ} {s:St} {r r':St × Bool} (h:xRun g j s=some r) (h':xRun g' j s=some r'):r=r':=by
 have h1:=xRun_mono (g':=g+g') (by omega) h;have h2:=xRun_mono (g':=g+g') (by omega) h';rw[h1] at h2;injection h2
theorem valid_fields {t:List UInt8} (hv:validB t=true):(Lib.fields t).length<=1000:=by
 have h1:=fields_len t [];have h3:t.length<=400:=by unfold validB at hv;rw[Bool.and_eq_true] at hv;exact of_decide_eq_true hv.1
 have:(Lib.fields t).length<=t.length+1:=h1;omega
theorem run_wf {g:Nat} {s s1:St} {left:Bool} {t:List UInt8} (hw:WFs s) (hv:validB t=true) (h:xRun g (jToks (Lib.fields t)) (freshL s)=some (s1,left)):WFs (endL s1):=by
 obtain⟨g',s2,l2,h2,hwf⟩:=line_total s hw t (valid_fields hv);have:=run_inj h h2;injection this with e1 e2;subst e1;exact hwf
def after (g:Nat) (s:St) (t:List UInt8):Option St:=(xRun g (jToks (Lib.fields t)) (freshL s)).map (fun p=>p.1)
theorem after_run {g:Nat} {s s1:St} {t:List UInt8} (h:after g s t=some s1):∃ left,xRun g (jToks (Lib.fields t)) (freshL s)=some (s1,left):=by
 unfold after at h
 cases hx:xRun g (jToks (Lib.fields t)) (freshL s) with
 | none=>rw[hx] at h;cases h
 | some p=>rw[hx] at h;injection h with h;subst h;exact⟨p.2,rfl⟩
theorem some_getD {α:Type} {o:Option α} {d:α} (h:o.isSome=true):o=some (o.getD d):=by cases o with|none=>cases h|some x=>rfl
end
section
open Go.RowKit
def fl1:ByteArray:=⟨#[58,32,115,113,32,100,117,112,32,42,32,59,32,55,32,115,113,32,46,32,53,32,51,32,33]⟩
def fw1:ByteArray:=⟨#[52,57,32]⟩
def fl2:ByteArray:=⟨#[43]⟩
def fl3:ByteArray:=⟨#[58,32,115,113,32,59,32,48,32,51,32,33]⟩
def fsA:St:=(after 100 st0 fl1.data.toList).getD st0
def fsB0:St:=(after 100 fsA fl2.data.toList).getD st0
def fsB:St:=endL fsB0
def fsC:St:=(after 100 fsB fl3.data.toList).getD st0
theorem fa1:after 100 st0 fl1.data.toList=some fsA:=some_getD (by decide +kernel)
theorem fa2:after 100 fsA fl2.data.toList=some fsB0:=some_getD (by decide +kernel)
theorem fa3:after 100 fsB fl3.data.toList=some fsC:=some_getD (by decide +kernel)
theorem fo1:fsA.out.data.toList=fw1.data.toList/\fsA.e=0:=by decide +kernel
theorem fo2:fsB0.out.data.toList=[]/\fsB0.e=6:=by decide +kernel
theorem fo3:fsC.out.data.toList=[]/\fsC.e=0/\fsC.rs=[]:=by decide +kernel
theorem fc:cellP fsB 3=(5,0):=by decide +kernel
theorem fv1:validB fl1.data.toList=true:=by decide +kernel
theorem fv2:validB fl2.data.toList=true:=by decide +kernel
theorem fv3:validB fl3.data.toList=true:=by decide +kernel
structure Fsh (s:St):Prop where
 rs:s.rs=[]
 defs:s.defs=[⟨[115,113],2,[],0,false,[]⟩]
 ids:s.ids=2
 hot:s.hot=5
theorem fsC_ok:Fsh fsC:=⟨by kernel_rfl,by kernel_rfl,by kernel_rfl,by kernel_rfl⟩
def l2 (n m:Int):List UInt8:=[58,32,101,32,48,32] ++ Lib.itoa n ++ [32,48,32,100,111,32] ++ Lib.itoa m ++ [32,48,32,100,111,32,49,32,43,32,108,111,111,112,32,108,111,111,112,32,59,32,101,32] ++ Lib.itoa (n+1) ++ [32,48,32,115,119,97,112,32,58,32,117,32,98,101,103,105,110,32,49,32,45,32,115,119,97,112,32,49,32,43,32,115,119,97,112,32,100,117,112,32,48,32,61,32,117,110,116,105,108,32,100,114,111,112,32,59,32,117,32] ++ Lib.itoa n ++ [32,48,32,115,119,97,112,32,58,32,119,32,98,101,103,105,110,32,100,117,112,32,119,104,105,108,101,32,49,32,45,32,115,119,97,112,32,49,32,43,32,115,119,97,112,32,114,101,112,101,97,116,32,100,114,111,112,32,59,32,119]
end
section
open Go.RowKit
def itemOf (t:Tok):It:=match numP t with
 | some n=>⟨110,n,[],[],[],[]⟩
 | none=>⟨112,0,t,[],[],[]⟩
structure GoodT (t:Tok):Prop where
 tok:t.all tokB=true
 ne:t ≠ []
 w:(∃ n,numP t=some n)\/∃ k,plainL.findIdx? (· == t)=some k
theorem GoodT.semi {t:Tok} (h:GoodT t):¬ t=kSemi:=by
 intro e;subst e;have q1:numP kSemi=none:=by decide
 have q2:plainL.findIdx? (· == kSemi)=none:=by decide
 rcases h.w with⟨n,hn⟩|⟨k,hk⟩
 ·rw[q1] at hn;cases hn
 ·rw[q2] at hk;cases hk
theorem plain_any {t:Tok} {k:Nat} (h:plainL.findIdx? (· == t)=some k):plainL.any (· == t)=true:=by
 rw[List.any_eq_true];obtain⟨x,hx⟩:=List.findIdx?_eq_some_iff_getElem.1 h;exact⟨plainL[k],List.getElem_mem _,hx.1⟩
theorem read_item (known:Tok->Bool) (g lo:Nat) (t:Tok) (r:List Tok) (h:GoodT t):pRead known (g+1) ⟨true,lo,[],t⟩ r=some (.ok ([itemOf t],[],r)):=by
 rcases h.w with⟨n,hn⟩|⟨k,hk⟩
 ·rw[pI_num hn];unfold itemOf;rw[hn]
 ·rw[pI_plain (plain_num hk) (plain_any hk)];unfold itemOf;rw[plain_num hk]
theorem pB_item (known:Tok->Bool) (g lo:Nat) (ends:List Tok) (t t':Tok) (r r1 r2:List Tok) (xs ys:List It) (h:ends.any (· == t)=false) (h1:pRead known g ⟨true,lo,[],t⟩ r=some (.ok (xs,[],r1))) (h2:pRead known g ⟨false,lo,ends,[]⟩ r1=some (.ok (ys,t',r2))):
  pRead known (g+1) ⟨false,lo,ends,[]⟩ (t :: r)=some (.ok (xs ++ ys,t',r2)):=by
 rw[pRead];simp only[if_true,h,Bool.false_eq_true,if_false,h1,h2]
theorem read_items (known:Tok->Bool) (lo:Nat):∀ (ts r:List Tok),(∀ t∈ts,GoodT t)->pRead known (ts.length+2) ⟨false,lo,[kSemi],[]⟩ (ts ++ kSemi :: r)=some (.ok (ts.map itemOf,kSemi,r))
 | [],r,_=>pB_stop known 1 lo [kSemi] kSemi r (by decide)
 | t :: ts,r,h=>by
  have hg:=h t (by simp);exact pB_item known (ts.length+2) lo [kSemi] t kSemi (ts ++ kSemi :: r) (ts ++ kSemi :: r) r [itemOf t] (ts.map itemOf) (by simpa using fun e=>hg.semi e.symm) (read_item known (ts.length+1) lo t _ hg) (read_items known lo ts r (fun x hx=>h x (by simp[hx])))
def kPlus:Tok:=[43]
def kMinus:Tok:=[45]
def kTimes:Tok:=[42]
def kSwap:Tok:=[115,119,97,112]
def kOver:Tok:=[111,118,101,114]
def kDrop:Tok:=[100,114,111,112]
def kDup:Tok:=[100,117,112]
def kLt:Tok:=[60]
def kEq:Tok:=[61]
section
variable {s:St} {a b:Int} {r:List Int}
end
theorem good_num (n:Int) (h0:-10000000 < n) (h1:n < 10000000):GoodT (Lib.itoa n):=⟨itoa_tok n,itoa_ne n h0 h1,.inl ⟨n,numP_itoa n h0 h1⟩⟩
theorem good_all:GoodT kPlus/\GoodT kMinus/\GoodT kTimes/\GoodT kSwap/\GoodT kOver/\GoodT kDrop/\GoodT kDup/\GoodT kLt/\GoodT kEq:=
 ⟨⟨by decide,by decide,.inr ⟨0,by decide⟩⟩,⟨by decide,by decide,.inr ⟨1,by decide⟩⟩,⟨by decide,by decide,.inr ⟨2,by decide⟩⟩,⟨by decide,by decide,.inr ⟨9,by decide⟩⟩,⟨by decide,by decide,.inr ⟨10,by decide⟩⟩,⟨by decide,by decide,.inr ⟨8,by decide⟩⟩,⟨by decide,by decide,.inr ⟨7,by decide⟩⟩,⟨by decide,by decide,.inr ⟨6,by decide⟩⟩,⟨by decide,by decide,.inr ⟨5,by decide⟩⟩⟩
theorem one_good {t:Tok} (h:GoodT t):∀ x∈[t],GoodT x:=fun x hx=>by simp at hx;subst hx;exact h
section
variable {ts:List Tok} {rs:List Int} {i:Nat} {a b:Int} {r:List Int}
end
end
end Go.Proofs.YteainaiebcphlaaGreatDoor
