import Derived.Test.YteainaiebcphlaaGreatDoorV24
namespace Go.Proofs.YteainaiebcphlaaGreatDoor
set_option maxRecDepth 1000000
set_option maxHeartbeats 4000000
set_option linter.all false
section
open Go.RowKit
variable {K:Nat->Prop}
def stepsOf (w:World) (yb:Nat):Int:=match w.cell? ⟨yb,22,none⟩ with
 | some (.int _ n)=>n
 | _=>0
theorem stepsOf_eq {w:World} {yb:Nat} {rs:RS} {s:St} (h:RRel K w yb rs s):stepsOf w yb=s.steps:=by
 have:w.cell? ⟨yb,22,none⟩=some (.int .i64 s.steps):=by rw[<-h.st];exact h.blk.cell rfl
 unfold stepsOf;rw[this]
def CIk (K:Nat->Prop) (kind:Nat) (g:Nat):Prop:=∀ (w:World) (yb fb:Nat) (rs:RS) (s s':St) (f:Fr) (lp:List Int) (lv:Value) (x:It) (nm:ByteArray) (va vb vt:Value) (left:Bool),x.kind=kind->RRel K w yb rs s->s.e=0->FrAt K w fb f lp lv rs.nv->(lp.length:Int)<=s.steps ->
 ItAt (Body K w) (Toks K w) x nm va vb vt->xRun g (jItem f lp x) s=some (s',left)->Calls Tryz.prog 189 #[.pointer (some ⟨yb,0,none⟩),.pointer (some ⟨fb,0,none⟩),itV x nm va vb vt] w fun e w'=>e=.returned (.bool left)/\FPost K yb fb w w' rs s' f lp lv
structure BeginAt (K:Nat->Prop) (kind g yb fb:Nat) (w wr:World) (rs:RS) (s':St) (f:Fr) (lp:List Int) (lv:Value) (x:It) (nm:ByteArray) (va vb vt:Value) (left:Bool):Prop where
 ex:∃ g' rsk lvk sk,g'<=g/\RRel K wr yb rsk sk/\sk.e=0/\FrAt K wr fb f lp lvk rsk.nv/\(lp.length:Int)<=sk.steps/\FTo yb fb w wr rs rsk lv lvk/\xRun g' (jItem f lp x) sk=some (s',left)
 a:Body K wr va x.a
 b:Body K wr vb x.b
 x:Blk wr w.heap.size 227 #[.int .u8 kind,.int .i64 x.n,.string nm,va,vb,vt]
theorem runIf (g:Nat) (hB:∀ g',g' < g->CB K g'):CIk K 63 g:=by
 intro w yb fb rs s s' f lp lv x nm va vb vt left hk hr he hf hlp hat hx;have HB:=hide hB;clear hB
 cases g with
 | zero=>cases hx
 | succ g=>
 rw[x_if _ _ _ _ _ hk] at hx;have hK0:Kp w (w.alloc (.cells #[.int .u8 63,.int .i64 x.n,.string nm,va,vb,vt] 227)) (fun _=>False):=(Kp.refl w _).alloc _;have hr0:=hr.kpF hK0;have hnk:nK K w.heap.size:=fun h=>Nat.lt_irrefl _ (hr.dr.old _ h);obtain⟨hf0,hto0⟩:=hf.sto hr (STo.kpF (rs:=rs) hK0);have hxb:=Blk.new w #[.int .u8 63,.int .i64 x.n,.string nm,va,vb,vt] 227;have hba:=hat.a.keep (Keeps.kpF hK0 (nK K));have hbb:=hat.b.keep (Keeps.kpF hK0 (nK K));have hbt:=toksIn_keep (Keeps.kpF hK0 (nK K)) hat.t;have hnm:=hat.nm;have hin:=hat.n;have HX:=hide hx;clear hr hf hK0 hat hx;rw[show itV x nm va vb vt=.agg #[.int .u8 63,.int .i64 x.n,.string nm,va,vb,vt] by unfold itV;rw[hk];rfl];have HK:=hide hk;clear hk;go_enter Tryz.func189,Tryz.ntmps189
 go_wp2_with fail
 generalize hW0:w.alloc (.cells #[.int .u8 63,.int .i64 x.n,.string nm,va,vb,vt] 227)=w0 at hr0 hf0 hto0 hxb hba hbb hbt ⊢;clear hW0;refine (testS _ yb rs s hr0 he).mono ?_;rintro e w1 ⟨rfl,rs1,hr1,hsto1⟩;obtain⟨hf1,hto1⟩:=hf0.sto hr0 hsto1;have hkp1:Keeps (nK K) (nK K) w0 w1:=Keeps.to hsto1 hr0.noB _;have hxb1:=(hkp1 _ _ _ hnk hxb (.inl rfl)).1;have hba1:=hba.keep hkp1;have hbb1:=hbb.keep hkp1;have ce:w1.cell? ⟨yb,21,none⟩=some (.int .i64 s.test.1.e):=by rw[<-hr1.e];exact hr1.blk.cell rfl
 have cx0:=hxb1.cell (o:=0) rfl;have cx3:=hxb1.cell (o:=3) rfl;have cx4:=hxb1.cell (o:=4) rfl;have hxx:=HX.out;clear hr0 hf0 hsto1 hxb hba hbb hbt hkp1 hxb1 HX;by_cases he1:s.test.1.e=0
 ·rw[if_neg (by simp[he1])] at hxx;rw[he1] at ce;by_cases ht:s.test.2=true
  ·rw[if_pos ht] at hxx;rw[ht];have HX1:=hide hxx;clear hxx ht hbb1
   go_wp2_with fail
   refine (HB.out g (by omega) _ yb fb _ _ s' f lp lv va x.a left hr1 he1 hf1 (by have:=St.test_steps s;omega) hba1 HX1.out).mono ?_;rintro e w2 ⟨rfl,rs2,lv2,hrel2,hf2,hto2⟩;have hTO:=hto0.trans (hto1.trans hto2);clear hr1 hf1 hto1 hto2;go_wp2;go_ret;exact⟨rfl,rs2,lv2,hrel2,hf2,hTO⟩
  ·rw[if_neg ht] at hxx;rw[show s.test.2=false by simpa using ht];have HX1:=hide hxx;clear hxx ht hba1
   go_wp2_with fail
   refine (HB.out g (by omega) _ yb fb _ _ s' f lp lv vb x.b left hr1 he1 hf1 (by have:=St.test_steps s;omega) hbb1 HX1.out).mono ?_;rintro e w2 ⟨rfl,rs2,lv2,hrel2,hf2,hto2⟩;have hTO:=hto0.trans (hto1.trans hto2);clear hr1 hf1 hto1 hto2;go_wp2;go_ret;exact⟨rfl,rs2,lv2,hrel2,hf2,hTO⟩
 ·rw[if_pos he1] at hxx;injection hxx with hxx;injection hxx with hx1 hx2;subst hx1;subst hx2;clear hba1 hbb1;go_wp2;go_ret;exact⟨rfl,rs1,lv,hr1,hf1,hto0.trans hto1⟩
theorem runUntil (g:Nat) (hB:∀ g',g' < g->CB K g'):CIk K 117 g:=by
 intro w yb fb rs s s' f lp lv x nm va vb vt left hk hr he hf hlp hat hx;have HB:=hide hB;clear hB;have hK0:Kp w (w.alloc (.cells #[.int .u8 117,.int .i64 x.n,.string nm,va,vb,vt] 227)) (fun _=>False):=(Kp.refl w _).alloc _;have hr0:=hr.kpF hK0;have hnk:nK K w.heap.size:=fun h=>Nat.lt_irrefl _ (hr.dr.old _ h);obtain⟨hf0,hto0⟩:=hf.sto hr (STo.kpF (rs:=rs) hK0);have hxb:=Blk.new w #[.int .u8 117,.int .i64 x.n,.string nm,va,vb,vt] 227;have hba:=hat.a.keep (Keeps.kpF hK0 (nK K));have hbb:=hat.b.keep (Keeps.kpF hK0 (nK K));have hbt:=toksIn_keep (Keeps.kpF hK0 (nK K)) hat.t;have hnm:=hat.nm;have hin:=hat.n;have HX:=hide hx;clear hr hf hK0 hat hx;rw[show itV x nm va vb vt=.agg #[.int .u8 117,.int .i64 x.n,.string nm,va,vb,vt] by unfold itV;rw[hk];rfl];have HK:=hide hk;clear hk;go_enter Tryz.func189,Tryz.ntmps189
 go_wp2_with fail
 generalize hW0:w.alloc (.cells #[.int .u8 117,.int .i64 x.n,.string nm,va,vb,vt] 227)=w0 at hr0 hf0 hto0 hxb hba hbb hbt ⊢;clear hW0;have HL:Hid (BeginAt K 117 g yb fb w w0 rs s' f lp lv x nm va vb vt left):=⟨⟨g,rs,lv,s,Nat.le_refl _,hr0,he,hf0,hlp,hto0,HX.out⟩,hba,hbb,hxb⟩;clear hr0 hf0 hto0 HX hba hbb hxb hbt he hlp
 go_loopw [8] (fun _ wr=>BeginAt K 117 g yb fb w wr rs s' f lp lv x nm va vb vt left) (fun _ wr=>(2002 - stepsOf wr yb).toNat)
 case atStart=>exact HL.out
 case round=>
  clear HL;obtain⟨⟨g',rsk,lvk,sk,hg',hrel,hek,hfk,hlpk,hto,hx⟩,hba,hbb,hxb⟩:=hrel;have HSO:=hide (stepsOf_eq hrel);have cx3:=hxb.cell (o:=3) rfl
  cases g' with
  | zero=>cases hx
  | succ g'=>
   rw[x_until _ _ _ _ _ HK.out] at hx
   split at hx
   ·cases hx
   ·rename_i s1 left1 hx1
    go_wp2_with fail
    refine (HB.out g' (by omega) _ yb fb _ _ s1 f lp lvk va x.a left1 hrel hek hfk hlpk hba hx1).mono ?_;rintro e w1 ⟨rfl,rs1,lv1,hrel1,hf1,hto1⟩;have hkp1:Keeps (nK K) (nK K) wr w1:=Keeps.to hto1 (hfk.noB hrel) _;have hxb1:=(hkp1 _ _ _ hnk hxb (.inl rfl)).1;have hba1:=hba.keep hkp1;have hbb1:=hbb.keep hkp1;have hst1:=(xRun_keep _ _ _ _ _ hx1).2;have HE1:Hid (left1=false->s1.e=0):=fun e=>by have h:=hx1;rw[e] at h;exact xBody_e _ _ _ _ _ _ hek h
    have hTO1:=hto.trans hto1;have hxx:=hx;clear hx hx1 hrel hfk hto hba hbb hxb cx3 hto1 hkp1 hek;by_cases hl1:left1=true
    ·subst hl1;rw[if_pos rfl] at hxx;injection hxx with hxx;injection hxx with hx1 hx2;subst hx1;subst hx2;clear hba1 hbb1 hxb1 HE1;go_wp2;go_ret;exact⟨rfl,rs1,lv1,hrel1,hf1,hTO1⟩
    ·have hl1:left1=false:=by simpa using hl1
     subst hl1;rw[if_neg (by simp)] at hxx;have he1:=HE1.out rfl
     go_wp2_with fail
     refine (testS _ yb rs1 s1 hrel1 he1).mono ?_;rintro e w2 ⟨rfl,rs2,hrel2,hsto2⟩;obtain⟨hf2,hto2⟩:=hf1.sto hrel1 hsto2;have hkp2:Keeps (nK K) (nK K) w1 w2:=Keeps.to hsto2 hrel1.noB _;have hxb2:=(hkp2 _ _ _ hnk hxb1 (.inl rfl)).1;have hba2:=hba1.keep hkp2;have hbb2:=hbb1.keep hkp2;have hTO2:=hTO1.trans hto2;have hst2:=St.test_steps s1;have hst3:=hrel2.good.s1;have ce:w2.cell? ⟨yb,21,none⟩=some (.int .i64 s1.test.1.e):=by rw[<-hrel2.e];exact hrel2.blk.cell rfl
     have HSO2:=hide (stepsOf_eq hrel2);have HR2:=hide hrel2;have HF2:=hide hf2;have HT2:=hide hTO2;have HX2:=hide hxb2;have HA2:=hide hba2;have HB2:=hide hbb2;clear hrel1 hf1 hTO1 hxb1 hba1 hbb1 hkp2 hsto2 hto2 hrel2 hf2 hTO2 hba2 hbb2 HE1;by_cases he2:s1.test.1.e=0
     ·rw[if_neg (by simp[he2])] at hxx;rw[he2] at ce;by_cases ht:s1.test.2=true
      ·rw[if_pos ht] at hxx;rw[ht];clear ht;injection hxx with hxx;injection hxx with hx1 hx2;subst hx1;subst hx2;go_wp2;go_ret;exact⟨rfl,rs2,lv1,HR2.out,HF2.out,HT2.out⟩
      ·rw[if_neg ht] at hxx;rw[show s1.test.2=false by simpa using ht];have HXX:=hide hxx;clear ht hxx;go_wp2
       go_roundw
       case rel=>exact⟨⟨g',rs2,lv1,_,by omega,HR2.out,he2,HF2.out,by omega,HT2.out,HXX.out⟩,HA2.out,HB2.out,HX2.out⟩
       case measure=>rw[HSO.out,HSO2.out];omega
     ·rw[if_pos he2] at hxx;injection hxx with hxx;injection hxx with hx1 hx2;subst hx1;subst hx2
      cases ht:s1.test.2 with
      | true=>
       go_wp2;go_ret;exact⟨by first|rfl|(show Ending.returned (.bool (s1.test.1.e != 0))=_;simp[he2]),rs2,lv1,HR2.out,HF2.out,HT2.out⟩
      | false=>
       go_wp2;go_ret;exact⟨by first|rfl|(show Ending.returned (.bool (s1.test.1.e != 0))=_;simp[he2]),rs2,lv1,HR2.out,HF2.out,HT2.out⟩
theorem runWhile (g:Nat) (hB:∀ g',g' < g->CB K g'):CIk K 119 g:=by
 intro w yb fb rs s s' f lp lv x nm va vb vt left hk hr he hf hlp hat hx;have HB:=hide hB;clear hB;have hK0:Kp w (w.alloc (.cells #[.int .u8 119,.int .i64 x.n,.string nm,va,vb,vt] 227)) (fun _=>False):=(Kp.refl w _).alloc _;have hr0:=hr.kpF hK0;have hnk:nK K w.heap.size:=fun h=>Nat.lt_irrefl _ (hr.dr.old _ h);obtain⟨hf0,hto0⟩:=hf.sto hr (STo.kpF (rs:=rs) hK0);have hxb:=Blk.new w #[.int .u8 119,.int .i64 x.n,.string nm,va,vb,vt] 227;have hba:=hat.a.keep (Keeps.kpF hK0 (nK K));have hbb:=hat.b.keep (Keeps.kpF hK0 (nK K));have hbt:=toksIn_keep (Keeps.kpF hK0 (nK K)) hat.t;have hnm:=hat.nm;have hin:=hat.n;have HX:=hide hx;clear hr hf hK0 hat hx;rw[show itV x nm va vb vt=.agg #[.int .u8 119,.int .i64 x.n,.string nm,va,vb,vt] by unfold itV;rw[hk];rfl];have HK:=hide hk;clear hk;go_enter Tryz.func189,Tryz.ntmps189
 go_wp2_with fail
 generalize hW0:w.alloc (.cells #[.int .u8 119,.int .i64 x.n,.string nm,va,vb,vt] 227)=w0 at hr0 hf0 hto0 hxb hba hbb hbt ⊢;clear hW0;have HL:Hid (BeginAt K 119 g yb fb w w0 rs s' f lp lv x nm va vb vt left):=⟨⟨g,rs,lv,s,Nat.le_refl _,hr0,he,hf0,hlp,hto0,HX.out⟩,hba,hbb,hxb⟩;clear hr0 hf0 hto0 HX hba hbb hxb hbt he hlp
 go_loopw [10] (fun _ wr=>BeginAt K 119 g yb fb w wr rs s' f lp lv x nm va vb vt left) (fun _ wr=>(2002 - stepsOf wr yb).toNat)
 case atStart=>exact HL.out
 case round=>
  clear HL;obtain⟨⟨g',rsk,lvk,sk,hg',hrel,hek,hfk,hlpk,hto,hx⟩,hba,hbb,hxb⟩:=hrel;have HSO:=hide (stepsOf_eq hrel);have cx3:=hxb.cell (o:=3) rfl
  cases g' with
  | zero=>cases hx
  | succ g'=>
   rw[x_while _ _ _ _ _ HK.out] at hx
   split at hx
   ·cases hx
   ·rename_i s1 left1 hx1
    go_wp2_with fail
    refine (HB.out g' (by omega) _ yb fb _ _ s1 f lp lvk va x.a left1 hrel hek hfk hlpk hba hx1).mono ?_;rintro e w1 ⟨rfl,rs1,lv1,hrel1,hf1,hto1⟩;have hkp1:Keeps (nK K) (nK K) wr w1:=Keeps.to hto1 (hfk.noB hrel) _;have hxb1:=(hkp1 _ _ _ hnk hxb (.inl rfl)).1;have hba1:=hba.keep hkp1;have hbb1:=hbb.keep hkp1;have hst1:=(xRun_keep _ _ _ _ _ hx1).2;have HE1:Hid (left1=false->s1.e=0):=fun e=>by have h:=hx1;rw[e] at h;exact xBody_e _ _ _ _ _ _ hek h
    have hTO1:=hto.trans hto1;have hxx:=hx;clear hx hx1 hrel hfk hto hba hbb hxb cx3 hto1 hkp1 hek;by_cases hl1:left1=true
    ·subst hl1;rw[if_pos rfl] at hxx;injection hxx with hxx;injection hxx with hx1 hx2;subst hx1;subst hx2;clear hba1 hbb1 hxb1 HE1;go_wp2;go_ret;exact⟨rfl,rs1,lv1,hrel1,hf1,hTO1⟩
    ·have hl1:left1=false:=by simpa using hl1
     subst hl1;rw[if_neg (by simp)] at hxx;have he1:=HE1.out rfl
     go_wp2_with fail
     refine (testS _ yb rs1 s1 hrel1 he1).mono ?_;rintro e w2 ⟨rfl,rs2,hrel2,hsto2⟩;obtain⟨hf2,hto2⟩:=hf1.sto hrel1 hsto2;have hkp2:Keeps (nK K) (nK K) w1 w2:=Keeps.to hsto2 hrel1.noB _;have hxb2:=(hkp2 _ _ _ hnk hxb1 (.inl rfl)).1;have hba2:=hba1.keep hkp2;have hbb2:=hbb1.keep hkp2;have hTO2:=hTO1.trans hto2;have hst2:=St.test_steps s1;have hst3:=hrel2.good.s1;have ce:w2.cell? ⟨yb,21,none⟩=some (.int .i64 s1.test.1.e):=by rw[<-hrel2.e];exact hrel2.blk.cell rfl
     have HSO2:=hide (stepsOf_eq hrel2);have HR2:=hide hrel2;have HF2:=hide hf2;have HT2:=hide hTO2;have HX2:=hide hxb2;have HA2:=hide hba2;have HB2:=hide hbb2;clear hrel1 hf1 hTO1 hxb1 hba1 hbb1 hkp2 hsto2 hto2 hrel2 hf2 hTO2 hba2 hbb2 HE1;by_cases he2:s1.test.1.e=0
     ·rw[if_neg (by simp[he2])] at hxx;rw[he2] at ce;by_cases ht:s1.test.2=false
      ·rw[if_pos ht] at hxx;rw[ht];clear ht;injection hxx with hxx;injection hxx with hx1 hx2;subst hx1;subst hx2;go_wp2;go_ret;exact⟨rfl,rs2,lv1,HR2.out,HF2.out,HT2.out⟩
      ·rw[if_neg ht] at hxx;rw[show s1.test.2=true by simpa using ht];clear ht
       split at hxx
       ·cases hxx
       ·rename_i s3 left3 hx3
        have cx4:=hxb2.cell (o:=4) rfl
        go_wp2_with fail
        refine (HB.out g' (by omega) _ yb fb _ _ s3 f lp lv1 vb x.b left3 HR2.out he2 HF2.out (by omega) HB2.out hx3).mono ?_;rintro e w3 ⟨rfl,rs3,lv3,hrel3,hf3,hto3⟩;have hkp3:Keeps (nK K) (nK K) w2 w3:=Keeps.to hto3 (HF2.out.noB HR2.out) _;have hxb3:=(hkp3 _ _ _ hnk HX2.out (.inl rfl)).1;have hba3:=HA2.out.keep hkp3;have hbb3:=HB2.out.keep hkp3;have hst4:=(xRun_keep _ _ _ _ _ hx3).2;have hst5:=hrel3.good.s1;have HE3:Hid (left3=false->s3.e=0):=fun e=>by have h:=hx3;rw[e] at h;exact xBody_e _ _ _ _ _ _ he2 h
        have hTO3:=HT2.out.trans hto3;have HSO3:=hide (stepsOf_eq hrel3);clear hx3 ce cx4 hto3 hkp3 HR2 HF2 HT2 HX2 HA2 HB2 hxb2;by_cases hl3:left3=true
        ·subst hl3;rw[if_pos rfl] at hxx;injection hxx with hxx;injection hxx with hx1 hx2;subst hx1;subst hx2;clear hba3 hbb3 hxb3 HE3;go_wp2;go_ret;exact⟨rfl,rs3,lv3,hrel3,hf3,hTO3⟩
        ·have hl3:left3=false:=by simpa using hl3
         subst hl3;rw[if_neg (by simp)] at hxx;have HXX:=hide hxx;have he3:=HE3.out rfl;have HR3:=hide hrel3;have HF3:=hide hf3;have HT3:=hide hTO3;have HX3:=hide hxb3;have HA3:=hide hba3;have HB3:=hide hbb3;clear hxx hrel3 hf3 hTO3 hxb3 hba3 hbb3 HE3;go_wp2
         go_roundw
         case rel=>exact⟨⟨g',rs3,lv3,_,by omega,HR3.out,he3,HF3.out,by omega,HT3.out,HXX.out⟩,HA3.out,HB3.out,HX3.out⟩
         case measure=>rw[HSO.out,HSO3.out];omega
     ·rw[if_pos he2] at hxx;injection hxx with hxx;injection hxx with hx1 hx2;subst hx1;subst hx2
      cases ht:s1.test.2 with
      | true=>
       go_wp2;go_ret;exact⟨by first|rfl|(show Ending.returned (.bool (s1.test.1.e != 0))=_;simp[he2]),rs2,lv1,HR2.out,HF2.out,HT2.out⟩
      | false=>
       go_wp2;go_ret;exact⟨by first|rfl|(show Ending.returned (.bool (s1.test.1.e != 0))=_;simp[he2]),rs2,lv1,HR2.out,HF2.out,HT2.out⟩
end
section
open Go.RowKit
variable {K:Nat->Prop}
section
variable (g:Nat) (f:Fr) (lp:List Int) (x:It) (s:St)
theorem one_n (h:x.kind=110):xOne g f lp x s=some (s.put x.n,decide ((s.put x.n).e ≠ 0)):=by unfold xOne;rw[if_pos h]
theorem one_p (h:x.kind=112):xOne g f lp x s=match plainL.findIdx? (· == x.name) with
  | none=>none
  | some k=>some (s.word k,decide ((s.word k).e ≠ 0)):=by unfold xOne;rw[if_neg (by omega),if_pos h];rfl
theorem one_i (h:x.kind=105):xOne g f lp x s=match lp with
  | []=>none
  | i :: _=>some (s.put i,decide ((s.put i).e ≠ 0)):=by unfold xOne;rw[if_neg (by omega),if_neg (by omega),if_pos h];rfl
theorem one_x (h:x.kind=120):xOne g f lp x s=some (s,true):=by unfold xOne;rw[if_neg (by omega),if_neg (by omega),if_neg (by omega),if_pos h]
theorem one_r (h:x.kind=114):xOne g f lp x s=match xRun g (jEnter f) s with
  | none=>none
  | some (s2,_)=>some (s2,decide (s2.e ≠ 0)):=by unfold xOne;rw[if_neg (by omega),if_neg (by omega),if_neg (by omega),if_neg (by omega),if_pos h];rfl
theorem one_c (h:x.kind=99):xOne g f lp x s=match xRun g (jCall x.name) s with
  | none=>none
  | some (s2,_)=>some (s2,decide (s2.e ≠ 0)):=by unfold xOne;rw[if_neg (by omega),if_neg (by omega),if_neg (by omega),if_neg (by omega),if_neg (by omega),if_pos h];rfl
theorem one_b (h:x.kind=123):xOne g f lp x s=if 20<=s.depth then some (s.err 8,true) else
  match xRun g (jToks x.toks) { s with depth:=s.depth+1 } with
  | none=>none
  | some (s2,_)=>some ({ s2 with depth:=s2.depth - 1 },decide (s2.e ≠ 0)):=by unfold xOne;rw[if_neg (by omega),if_neg (by omega),if_neg (by omega),if_neg (by omega),if_neg (by omega),if_neg (by omega),if_pos h];rfl
theorem one_d (h:x.kind=100):xOne g f lp x s=xLoop g f lp x.a s:=by unfold xOne xLoop;rw[if_neg (by omega),if_neg (by omega),if_neg (by omega),if_neg (by omega),if_neg (by omega),if_neg (by omega),if_neg (by omega),if_pos h];rfl
theorem one_none (h1:¬ x.kind=110) (h2:¬ x.kind=112) (h3:¬ x.kind=105) (h4:¬ x.kind=120) (h5:¬ x.kind=114) (h6:¬ x.kind=99) (h7:¬ x.kind=123) (h8:¬ x.kind=100):xOne g f lp x s=none:=by
 unfold xOne;rw[if_neg h1,if_neg h2,if_neg h3,if_neg h4,if_neg h5,if_neg h6,if_neg h7,if_neg h8]
end
theorem plain_at {t:Tok} {k:Nat} (h:plainL.findIdx? (· == t)=some k):plainL[k]? = some t:=by
 obtain⟨h1,h2,_⟩:=List.findIdx?_eq_some_iff_getElem.1 h;rw[List.getElem?_eq_getElem h1];simp at h2;rw[h2]
theorem ne_dec (e:Int):(e != 0)=decide (e ≠ 0):=by by_cases h:e=0 <;> simp[h]
theorem runNu (g:Nat):CIk K 110 g:=by
 intro w yb fb rs s s' f lp lv x nm va vb vt left hk hr he hf hlp hat hx
 cases g with
 | zero=>cases hx
 | succ g=>
 rw[x_one _ _ _ _ _ (by omega) (by omega) (by omega)] at hx;have hK0:Kp w (w.alloc (.cells #[.int .u8 110,.int .i64 x.n,.string nm,va,vb,vt] 227)) (fun _=>False):=(Kp.refl w _).alloc _;have hr0:=hr.kpF hK0;have hnk:nK K w.heap.size:=fun h=>Nat.lt_irrefl _ (hr.dr.old _ h);obtain⟨hf0,hto0⟩:=hf.sto hr (STo.kpF (rs:=rs) hK0);have hxb:=Blk.new w #[.int .u8 110,.int .i64 x.n,.string nm,va,vb,vt] 227;have hba:=hat.a.keep (Keeps.kpF hK0 (nK K));have hbb:=hat.b.keep (Keeps.kpF hK0 (nK K));have hbt:=toksIn_keep (Keeps.kpF hK0 (nK K)) hat.t;have hnm:=hat.nm;have hin:=hat.n;have HX:=hide hx;clear hr hf hK0 hat hx;rw[show itV x nm va vb vt=.agg #[.int .u8 110,.int .i64 x.n,.string nm,va,vb,vt] by unfold itV;rw[hk];rfl];have HK:=hide hk;clear hk;go_enter Tryz.func189,Tryz.ntmps189
 go_wp2_with fail
 generalize hW0:w.alloc (.cells #[.int .u8 110,.int .i64 x.n,.string nm,va,vb,vt] 227)=w0 at hr0 hf0 hto0 hxb hba hbb hbt ⊢;clear hW0;refine (stepS _ yb rs s hr0 he).mono ?_;rintro e w1 ⟨rfl,rs1,hr1,hsto1,-⟩;obtain⟨hf1,hto1⟩:=hf0.sto hr0 hsto1;have hkp1:Keeps (nK K) (nK K) w0 w1:=Keeps.to hsto1 hr0.noB _;have hxb1:=(hkp1 _ _ _ hnk hxb (.inl rfl)).1;have hxx:=HX.out;have cx0:=hxb1.cell (o:=0) rfl;have hTO1:=hto0.trans hto1;have hst1:=St.step_steps s;have HBA:=hide (hba.keep hkp1);have HBB:=hide (hbb.keep hkp1);have HBT:=hide (toksIn_keep hkp1 hbt);clear hr0 hf0 hsto1 hxb hba hbb hbt hkp1 HX hto0 hto1;by_cases he1:s.step.e=0
 ·rw[if_neg (by simp[he1])] at hxx;rw[decide_eq_true he1];generalize s.step=s1 at hr1 hst1 hxx he1;have cx1:=hxb1.cell (o:=1) rfl;rw[one_n _ _ _ _ _ HK.out] at hxx;injection hxx with hxx;injection hxx with hx1 hx2;subst hx1;subst hx2
  go_wp2_with fail
  refine (putS _ yb rs1 s1 x.n hr1 he1 hin.1).mono ?_;rintro e w2 ⟨rfl,rs2,hr2,hsto2⟩;obtain⟨hf2,hto2⟩:=hf1.sto hr1 hsto2;clear hr1 hf1 hsto2 hxb1 cx1;have ce:w2.cell? ⟨yb,21,none⟩=some (.int .i64 (s1.put x.n).e):=by rw[<-hr2.e];exact hr2.blk.cell rfl
  go_wp2;go_ret;exact⟨by show Ending.returned (.bool ((s1.put x.n).e != 0))=_;rw[ne_dec],rs2,lv,hr2,hf2,hTO1.trans hto2⟩
 ·rw[if_pos he1] at hxx;rw[decide_eq_false he1];injection hxx with hxx;injection hxx with hx1 hx2;subst hx1;subst hx2;clear cx0;go_wp2;go_ret;exact⟨rfl,rs1,lv,hr1,hf1,hTO1⟩
theorem runPl (g:Nat):CIk K 112 g:=by
 intro w yb fb rs s s' f lp lv x nm va vb vt left hk hr he hf hlp hat hx
 cases g with
 | zero=>cases hx
 | succ g=>
 rw[x_one _ _ _ _ _ (by omega) (by omega) (by omega)] at hx;have hK0:Kp w (w.alloc (.cells #[.int .u8 112,.int .i64 x.n,.string nm,va,vb,vt] 227)) (fun _=>False):=(Kp.refl w _).alloc _;have hr0:=hr.kpF hK0;have hnk:nK K w.heap.size:=fun h=>Nat.lt_irrefl _ (hr.dr.old _ h);obtain⟨hf0,hto0⟩:=hf.sto hr (STo.kpF (rs:=rs) hK0);have hxb:=Blk.new w #[.int .u8 112,.int .i64 x.n,.string nm,va,vb,vt] 227;have hba:=hat.a.keep (Keeps.kpF hK0 (nK K));have hbb:=hat.b.keep (Keeps.kpF hK0 (nK K));have hbt:=toksIn_keep (Keeps.kpF hK0 (nK K)) hat.t;have hnm:=hat.nm;have hin:=hat.n;have HX:=hide hx;clear hr hf hK0 hat hx;rw[show itV x nm va vb vt=.agg #[.int .u8 112,.int .i64 x.n,.string nm,va,vb,vt] by unfold itV;rw[hk];rfl];have HK:=hide hk;clear hk;go_enter Tryz.func189,Tryz.ntmps189
 go_wp2_with fail
 generalize hW0:w.alloc (.cells #[.int .u8 112,.int .i64 x.n,.string nm,va,vb,vt] 227)=w0 at hr0 hf0 hto0 hxb hba hbb hbt ⊢;clear hW0;refine (stepS _ yb rs s hr0 he).mono ?_;rintro e w1 ⟨rfl,rs1,hr1,hsto1,-⟩;obtain⟨hf1,hto1⟩:=hf0.sto hr0 hsto1;have hkp1:Keeps (nK K) (nK K) w0 w1:=Keeps.to hsto1 hr0.noB _;have hxb1:=(hkp1 _ _ _ hnk hxb (.inl rfl)).1;have hxx:=HX.out;have cx0:=hxb1.cell (o:=0) rfl;have hTO1:=hto0.trans hto1;have hst1:=St.step_steps s;have HBA:=hide (hba.keep hkp1);have HBB:=hide (hbb.keep hkp1);have HBT:=hide (toksIn_keep hkp1 hbt);clear hr0 hf0 hsto1 hxb hba hbb hbt hkp1 HX hto0 hto1;by_cases he1:s.step.e=0
 ·rw[if_neg (by simp[he1])] at hxx;rw[decide_eq_true he1];generalize s.step=s1 at hr1 hst1 hxx he1;have cx2:=hxb1.cell (o:=2) rfl;rw[one_p _ _ _ _ _ HK.out] at hxx
  split at hxx
  ·cases hxx
  ·rename_i k hkk
   have hkk:=plain_at hkk;injection hxx with hxx;injection hxx with hx1 hx2;subst hx1;subst hx2
   go_wp2_with fail
   refine (wordS _ yb rs1 s1 k nm (by rw[ByteArray.toList_eq,hnm];exact hkk) hr1 he1).mono ?_;rintro e w2 ⟨rfl,rs2,hr2,hsto2⟩;obtain⟨hf2,hto2⟩:=hf1.sto hr1 hsto2;clear hr1 hf1 hsto2 hxb1 cx2 hkk;have ce:w2.cell? ⟨yb,21,none⟩=some (.int .i64 (s1.word k).e):=by rw[<-hr2.e];exact hr2.blk.cell rfl
   go_wp2;go_ret;exact⟨by show Ending.returned (.bool ((s1.word k).e != 0))=_;rw[ne_dec],rs2,lv,hr2,hf2,hTO1.trans hto2⟩
 ·rw[if_pos he1] at hxx;rw[decide_eq_false he1];injection hxx with hxx;injection hxx with hx1 hx2;subst hx1;subst hx2;clear cx0;go_wp2;go_ret;exact⟨rfl,rs1,lv,hr1,hf1,hTO1⟩
theorem runEx (g:Nat):CIk K 120 g:=by
 intro w yb fb rs s s' f lp lv x nm va vb vt left hk hr he hf hlp hat hx
 cases g with
 | zero=>cases hx
 | succ g=>
 rw[x_one _ _ _ _ _ (by omega) (by omega) (by omega)] at hx;have hK0:Kp w (w.alloc (.cells #[.int .u8 120,.int .i64 x.n,.string nm,va,vb,vt] 227)) (fun _=>False):=(Kp.refl w _).alloc _;have hr0:=hr.kpF hK0;have hnk:nK K w.heap.size:=fun h=>Nat.lt_irrefl _ (hr.dr.old _ h);obtain⟨hf0,hto0⟩:=hf.sto hr (STo.kpF (rs:=rs) hK0);have hxb:=Blk.new w #[.int .u8 120,.int .i64 x.n,.string nm,va,vb,vt] 227;have hba:=hat.a.keep (Keeps.kpF hK0 (nK K));have hbb:=hat.b.keep (Keeps.kpF hK0 (nK K));have hbt:=toksIn_keep (Keeps.kpF hK0 (nK K)) hat.t;have hnm:=hat.nm;have hin:=hat.n;have HX:=hide hx;clear hr hf hK0 hat hx;rw[show itV x nm va vb vt=.agg #[.int .u8 120,.int .i64 x.n,.string nm,va,vb,vt] by unfold itV;rw[hk];rfl];have HK:=hide hk;clear hk;go_enter Tryz.func189,Tryz.ntmps189
 go_wp2_with fail
 generalize hW0:w.alloc (.cells #[.int .u8 120,.int .i64 x.n,.string nm,va,vb,vt] 227)=w0 at hr0 hf0 hto0 hxb hba hbb hbt ⊢;clear hW0;refine (stepS _ yb rs s hr0 he).mono ?_;rintro e w1 ⟨rfl,rs1,hr1,hsto1,-⟩;obtain⟨hf1,hto1⟩:=hf0.sto hr0 hsto1;have hkp1:Keeps (nK K) (nK K) w0 w1:=Keeps.to hsto1 hr0.noB _;have hxb1:=(hkp1 _ _ _ hnk hxb (.inl rfl)).1;have hxx:=HX.out;have cx0:=hxb1.cell (o:=0) rfl;have hTO1:=hto0.trans hto1;have hst1:=St.step_steps s;have HBA:=hide (hba.keep hkp1);have HBB:=hide (hbb.keep hkp1);have HBT:=hide (toksIn_keep hkp1 hbt);clear hr0 hf0 hsto1 hxb hba hbb hbt hkp1 HX hto0 hto1;by_cases he1:s.step.e=0
 ·rw[if_neg (by simp[he1])] at hxx;rw[decide_eq_true he1];generalize s.step=s1 at hr1 hst1 hxx he1;rw[one_x _ _ _ _ _ HK.out] at hxx;injection hxx with hxx;injection hxx with hx1 hx2;subst hx1;subst hx2;go_wp2;go_ret;exact⟨rfl,rs1,lv,hr1,hf1,hTO1⟩
 ·rw[if_pos he1] at hxx;rw[decide_eq_false he1];injection hxx with hxx;injection hxx with hx1 hx2;subst hx1;subst hx2;clear cx0;go_wp2;go_ret;exact⟨rfl,rs1,lv,hr1,hf1,hTO1⟩
theorem runCa (g:Nat)(hC:∀ g',g' < g->CC K g'):CIk K 99 g:=by
 intro w yb fb rs s s' f lp lv x nm va vb vt left hk hr he hf hlp hat hx
 cases g with
 | zero=>cases hx
 | succ g=>
 rw[x_one _ _ _ _ _ (by omega) (by omega) (by omega)] at hx;have hK0:Kp w (w.alloc (.cells #[.int .u8 99,.int .i64 x.n,.string nm,va,vb,vt] 227)) (fun _=>False):=(Kp.refl w _).alloc _;have hr0:=hr.kpF hK0;have hnk:nK K w.heap.size:=fun h=>Nat.lt_irrefl _ (hr.dr.old _ h);obtain⟨hf0,hto0⟩:=hf.sto hr (STo.kpF (rs:=rs) hK0);have hxb:=Blk.new w #[.int .u8 99,.int .i64 x.n,.string nm,va,vb,vt] 227;have hba:=hat.a.keep (Keeps.kpF hK0 (nK K));have hbb:=hat.b.keep (Keeps.kpF hK0 (nK K));have hbt:=toksIn_keep (Keeps.kpF hK0 (nK K)) hat.t;have hnm:=hat.nm;have hin:=hat.n;have HX:=hide hx;clear hr hf hK0 hat hx;rw[show itV x nm va vb vt=.agg #[.int .u8 99,.int .i64 x.n,.string nm,va,vb,vt] by unfold itV;rw[hk];rfl];have HK:=hide hk;clear hk;go_enter Tryz.func189,Tryz.ntmps189
 go_wp2_with fail
 generalize hW0:w.alloc (.cells #[.int .u8 99,.int .i64 x.n,.string nm,va,vb,vt] 227)=w0 at hr0 hf0 hto0 hxb hba hbb hbt ⊢;clear hW0;refine (stepS _ yb rs s hr0 he).mono ?_;rintro e w1 ⟨rfl,rs1,hr1,hsto1,-⟩;obtain⟨hf1,hto1⟩:=hf0.sto hr0 hsto1;have hkp1:Keeps (nK K) (nK K) w0 w1:=Keeps.to hsto1 hr0.noB _;have hxb1:=(hkp1 _ _ _ hnk hxb (.inl rfl)).1;have hxx:=HX.out;have cx0:=hxb1.cell (o:=0) rfl;have hTO1:=hto0.trans hto1;have hst1:=St.step_steps s;have HBA:=hide (hba.keep hkp1);have HBB:=hide (hbb.keep hkp1);have HBT:=hide (toksIn_keep hkp1 hbt);clear hr0 hf0 hsto1 hxb hba hbb hbt hkp1 HX hto0 hto1;by_cases he1:s.step.e=0
 ·rw[if_neg (by simp[he1])] at hxx;rw[decide_eq_true he1];generalize s.step=s1 at hr1 hst1 hxx he1;have cx2:=hxb1.cell (o:=2) rfl;rw[one_c _ _ _ _ _ HK.out] at hxx
  split at hxx
  ·cases hxx
  ·rename_i s2 l2 hx2
   have HC2:=hC g (by omega) w1 yb rs1 s1 s2 nm l2 hr1 he1 (by rw[hnm];exact hx2);injection hxx with hxx;injection hxx with hx1 hx2;subst hx1;subst hx2
   go_wp2_with fail
   refine HC2.mono ?_;rintro e w2 ⟨rfl,rs2,hr2,hsto2⟩;obtain⟨hf2,hto2⟩:=hf1.sto hr1 hsto2;clear hr1 hf1 hsto2 hxb1 cx2 hx2 HC2;have ce:w2.cell? ⟨yb,21,none⟩=some (.int .i64 s2.e):=by rw[<-hr2.e];exact hr2.blk.cell rfl
   go_wp2;go_ret;exact⟨by show Ending.returned (.bool (s2.e != 0))=_;rw[ne_dec],rs2,lv,hr2,hf2,hTO1.trans hto2⟩
 ·rw[if_pos he1] at hxx;rw[decide_eq_false he1];injection hxx with hxx;injection hxx with hx1 hx2;subst hx1;subst hx2;clear cx0;go_wp2;go_ret;exact⟨rfl,rs1,lv,hr1,hf1,hTO1⟩
end
end Go.Proofs.YteainaiebcphlaaGreatDoor
