import Derived.Test.YteainaiebcphlaaGreatDoorV19
import Derived.Test.YteainaiebcphlaaGreatDoorV13
import Derived.Lib.SmallJoins
namespace Go.Proofs.YteainaiebcphlaaGreatDoor
set_option maxRecDepth 1000000
set_option maxHeartbeats 4000000
set_option linter.all false
section
open Go.RowKit
variable {K:Nat->Prop}
theorem runI (g:Nat):CIk K 105 g:=by
 intro w yb fb rs s s' f lp lv x nm va vb vt left hk hr he hf hlp hat hx
 cases g with
 | zero=>cases hx
 | succ g=>
 rw[x_one _ _ _ _ _ (by omega) (by omega) (by omega)] at hx;have hK0:Kp w (w.alloc (.cells #[.int .u8 105,.int .i64 x.n,.string nm,va,vb,vt] 227)) (fun _=>False):=(Kp.refl w _).alloc _;have hr0:=hr.kpF hK0;have hnk:nK K w.heap.size:=fun h=>Nat.lt_irrefl _ (hr.dr.old _ h);obtain⟨hf0,hto0⟩:=hf.sto hr (STo.kpF (rs:=rs) hK0);have hxb:=Blk.new w #[.int .u8 105,.int .i64 x.n,.string nm,va,vb,vt] 227;have hba:=hat.a.keep (Keeps.kpF hK0 (nK K));have hbb:=hat.b.keep (Keeps.kpF hK0 (nK K));have hbt:=toksIn_keep (Keeps.kpF hK0 (nK K)) hat.t;have hnm:=hat.nm;have hin:=hat.n;have HX:=hide hx;clear hr hf hK0 hat hx;rw[show itV x nm va vb vt=.agg #[.int .u8 105,.int .i64 x.n,.string nm,va,vb,vt] by unfold itV;rw[hk];rfl];have HK:=hide hk;clear hk;go_enter Tryz.func189,Tryz.ntmps189
 go_wp2_with fail
 generalize hW0:w.alloc (.cells #[.int .u8 105,.int .i64 x.n,.string nm,va,vb,vt] 227)=w0 at hr0 hf0 hto0 hxb hba hbb hbt ⊢;clear hW0;refine (stepS _ yb rs s hr0 he).mono ?_;rintro e w1 ⟨rfl,rs1,hr1,hsto1,-⟩;obtain⟨hf1,hto1⟩:=hf0.sto hr0 hsto1;have hkp1:Keeps (nK K) (nK K) w0 w1:=Keeps.to hsto1 hr0.noB _;have hxb1:=(hkp1 _ _ _ hnk hxb (.inl rfl)).1;have hxx:=HX.out;have cx0:=hxb1.cell (o:=0) rfl;have hTO1:=hto0.trans hto1;have hst1:=St.step_steps s;have HBA:=hide (hba.keep hkp1);have HBB:=hide (hbb.keep hkp1);have HBT:=hide (toksIn_keep hkp1 hbt);clear hr0 hf0 hsto1 hxb hba hbb hbt hkp1 HX hto0 hto1;by_cases he1:s.step.e=0
 ·rw[if_neg (by simp[he1])] at hxx;rw[decide_eq_true he1];generalize s.step=s1 at hr1 hst1 hxx he1;rw[one_i _ _ _ _ _ HK.out] at hxx;obtain⟨i,lr,rfl⟩:∃ i lr,lp=i :: lr:=by
   cases lp with
   | nil=>cases hxx
   | cons i lr=>exact⟨i,lr,rfl⟩
  dsimp only at hxx
  ·have hini:=hf1.ins i (by simp);obtain⟨gl,pl,hlve⟩:∃ gl cap',lv=.slice (some ⟨gl,0,none⟩) (lr.length+1) cap':=by
    rcases hf1.row.2 with⟨_,h0⟩|⟨g,cap',_,hv,_⟩
    ·simp at h0
    ·exact⟨g,cap',hv⟩
   obtain⟨nmf,vbf,hbf,-⟩:=hf1.blk;obtain⟨m,hm⟩:∃ m,m=lr.length+1:=⟨_,rfl⟩;have cf:w1.cell? ⟨fb,3,none⟩=some (.slice (some ⟨gl,0,none⟩) m pl):=by rw[hm,<-hlve];exact hbf.cell rfl
   have cl:w1.cell? ⟨gl,m - 1,none⟩=some (.int .i64 i):=by
    rw[show m - 1=lr.length by omega];obtain⟨g',cap',hv,hc⟩:=row_cell hf1.row (by simp);rw[hlve] at hv;injection hv with e1 e2 e3;injection e1 with e1;injection e1 with e1;subst e1;exact hc lr.length _ (by simp[ints])
   have hll:m<=3000:=by have:=hr1.good.s1;simp only[List.length_cons] at hlp;omega
   have hm1:1<=m:=by omega
   have hwm:IntKind.i64.wrap ((m:Int) - 1)=((m - 1:Nat):Int):=by
    rw[show (m:Int) - 1=((m - 1:Nat):Int) by omega];rw[IntKind.wrap_i64];omega
   clear hbf hm;have HPUT:Hid (∀ w2:World,Kp w1 w2 (fun _=>False)->Calls Tryz.prog 87 #[.pointer (some ⟨yb,0,none⟩),.int .i64 i] w2 fun e w'=>e=.returned (.tuple #[])/\∃ rs2,RRel K w' yb rs2 (s1.put i)/\STo yb w1 w' rs1 rs2):=by
    intro w2 hK;refine (putS w2 yb rs1 s1 i (hr1.kpF hK) he1 hini).mono ?_;rintro e w3 ⟨rfl,rs3,hr3,hsto3⟩;exact⟨rfl,rs3,hr3,(STo.kpF (rs:=rs1) hK).trans hsto3⟩
   injection hxx with hxx;injection hxx with hx1 hx2;subst hx1;subst hx2;go_wp2
   go_region_with (go_at_call 87;refine (HPUT.out _ ?_).mono ?_;exact (Kp.refl w1 _).drew;rintro e w2 ⟨rfl,rs2,hr2,hsto2⟩)
   all_goals
    obtain⟨hf2,hto2⟩:=hf1.sto hr1 hsto2;have ce:w2.cell? ⟨yb,21,none⟩=some (.int .i64 (s1.put i).e):=by rw[<-hr2.e];exact hr2.blk.cell rfl
    go_wp2;go_ret;exact⟨by show Ending.returned (.bool ((s1.put i).e != 0))=_;rw[ne_dec],rs2,lv,hr2,hf2,hTO1.trans hto2⟩
 ·rw[if_pos he1] at hxx;rw[decide_eq_false he1];injection hxx with hxx;injection hxx with hx1 hx2;subst hx1;subst hx2;clear cx0;go_wp2;go_ret;exact⟨rfl,rs1,lv,hr1,hf1,hTO1⟩
theorem runRe (g:Nat)(hE:∀ g',g' < g->CE K g'):CIk K 114 g:=by
 intro w yb fb rs s s' f lp lv x nm va vb vt left hk hr he hf hlp hat hx
 cases g with
 | zero=>cases hx
 | succ g=>
 rw[x_one _ _ _ _ _ (by omega) (by omega) (by omega)] at hx;have hK0:Kp w (w.alloc (.cells #[.int .u8 114,.int .i64 x.n,.string nm,va,vb,vt] 227)) (fun _=>False):=(Kp.refl w _).alloc _;have hr0:=hr.kpF hK0;have hnk:nK K w.heap.size:=fun h=>Nat.lt_irrefl _ (hr.dr.old _ h);obtain⟨hf0,hto0⟩:=hf.sto hr (STo.kpF (rs:=rs) hK0);have hxb:=Blk.new w #[.int .u8 114,.int .i64 x.n,.string nm,va,vb,vt] 227;have hba:=hat.a.keep (Keeps.kpF hK0 (nK K));have hbb:=hat.b.keep (Keeps.kpF hK0 (nK K));have hbt:=toksIn_keep (Keeps.kpF hK0 (nK K)) hat.t;have hnm:=hat.nm;have hin:=hat.n;have HX:=hide hx;clear hr hf hK0 hat hx;rw[show itV x nm va vb vt=.agg #[.int .u8 114,.int .i64 x.n,.string nm,va,vb,vt] by unfold itV;rw[hk];rfl];have HK:=hide hk;clear hk;go_enter Tryz.func189,Tryz.ntmps189
 go_wp2_with fail
 generalize hW0:w.alloc (.cells #[.int .u8 114,.int .i64 x.n,.string nm,va,vb,vt] 227)=w0 at hr0 hf0 hto0 hxb hba hbb hbt ⊢;clear hW0;refine (stepS _ yb rs s hr0 he).mono ?_;rintro e w1 ⟨rfl,rs1,hr1,hsto1,-⟩;obtain⟨hf1,hto1⟩:=hf0.sto hr0 hsto1;have hkp1:Keeps (nK K) (nK K) w0 w1:=Keeps.to hsto1 hr0.noB _;have hxb1:=(hkp1 _ _ _ hnk hxb (.inl rfl)).1;have hxx:=HX.out;have cx0:=hxb1.cell (o:=0) rfl;have hTO1:=hto0.trans hto1;have hst1:=St.step_steps s;have HBA:=hide (hba.keep hkp1);have HBB:=hide (hbb.keep hkp1);have HBT:=hide (toksIn_keep hkp1 hbt);clear hr0 hf0 hsto1 hxb hba hbb hbt hkp1 HX hto0 hto1;by_cases he1:s.step.e=0
 ·rw[if_neg (by simp[he1])] at hxx;rw[decide_eq_true he1];generalize s.step=s1 at hr1 hst1 hxx he1;rw[one_r _ _ _ _ _ HK.out] at hxx
  split at hxx
  ·cases hxx
  ·rename_i s2 l2 hx2
   obtain⟨nmf,vbf,hbf,hnmf,hbdf⟩:=hf1.blk;obtain⟨xsf,hrf,-⟩:=hbdf.out;obtain⟨abf,pbf,rfl⟩:=row_slice hrf;have cf0:w1.cell? ⟨fb,0,none⟩=some (.int .i64 f.id):=hbf.cell rfl;have cf1:w1.cell? ⟨fb,1,none⟩=some (.string nmf):=hbf.cell rfl;have cf2:w1.cell? ⟨fb,2,none⟩=some (.slice abf f.body.length pbf):=hbf.cell rfl;have HEN:Hid (∀ w2:World,Kp w1 w2 (fun _=>False)->(fbn:Nat)->w1.heap.size<=fbn->Blk w2 fbn 191 #[.int .i64 f.id,.string nmf,.slice abf f.body.length pbf,.slice none 0 0]->Calls Tryz.prog 143 #[.pointer (some ⟨yb,0,none⟩),.pointer (some ⟨fbn,0,none⟩)] w2 fun e w'=>e=.returned (.tuple #[])/\∃ rs',RRel K w' yb rs' s2/\STo yb w1 w' rs1 rs'):=by
    intro w2 hK fbn hfn hB;have hF:FrAt K w2 fbn f [] (.slice none 0 0) rs1.nv:=⟨⟨nmf,_,hB,hnmf,hbdf.keep (Keeps.kpF hK _)⟩,World.ownsRow_nil _ _ _ _,by simp,fun q hq=>by simp[own,Value.ownBlock] at hq⟩;refine (hE g (by omega) _ yb _ rs1 s1 s2 _ _ l2 (hr1.kpF hK) he1 hF hx2).mono ?_;rintro e w3 ⟨rfl,rs3,lv3,hrel3,hf3,hto3⟩;exact⟨rfl,rs3,hrel3,FTo.away hto3 hK hfn⟩
   have hfl:=hbf.lt;clear hbf hrf hbdf;injection hxx with hxx;injection hxx with hx1 hx2;subst hx1;subst hx2;go_wp2
   go_region_with (go_at_call 143;refine (HEN.out _ ?_ _ ?_ ?_).mono ?_;exact ((Kp.refl w1 _).alloc _).drew;exact Nat.le_refl _;exact (Blk.new w1 _ _).drew;rintro e w2 ⟨rfl,rs2,hr2,hsto2⟩)
   all_goals
    obtain⟨hf2,hto2⟩:=hf1.sto hr1 hsto2;have ce:w2.cell? ⟨yb,21,none⟩=some (.int .i64 s2.e):=by rw[<-hr2.e];exact hr2.blk.cell rfl
    go_wp2;go_ret;exact⟨by show Ending.returned (.bool (s2.e != 0))=_;rw[ne_dec],rs2,lv,hr2,hf2,hTO1.trans hto2⟩
 ·rw[if_pos he1] at hxx;rw[decide_eq_false he1];injection hxx with hxx;injection hxx with hx1 hx2;subst hx1;subst hx2;clear cx0;go_wp2;go_ret;exact⟨rfl,rs1,lv,hr1,hf1,hTO1⟩
theorem runBr (g:Nat)(hT:∀ g',g' < g->CT K g'):CIk K 123 g:=by
 intro w yb fb rs s s' f lp lv x nm va vb vt left hk hr he hf hlp hat hx
 cases g with
 | zero=>cases hx
 | succ g=>
 rw[x_one _ _ _ _ _ (by omega) (by omega) (by omega)] at hx;have hK0:Kp w (w.alloc (.cells #[.int .u8 123,.int .i64 x.n,.string nm,va,vb,vt] 227)) (fun _=>False):=(Kp.refl w _).alloc _;have hr0:=hr.kpF hK0;have hnk:nK K w.heap.size:=fun h=>Nat.lt_irrefl _ (hr.dr.old _ h);obtain⟨hf0,hto0⟩:=hf.sto hr (STo.kpF (rs:=rs) hK0);have hxb:=Blk.new w #[.int .u8 123,.int .i64 x.n,.string nm,va,vb,vt] 227;have hba:=hat.a.keep (Keeps.kpF hK0 (nK K));have hbb:=hat.b.keep (Keeps.kpF hK0 (nK K));have hbt:=toksIn_keep (Keeps.kpF hK0 (nK K)) hat.t;have hnm:=hat.nm;have hin:=hat.n;have HX:=hide hx;clear hr hf hK0 hat hx;rw[show itV x nm va vb vt=.agg #[.int .u8 123,.int .i64 x.n,.string nm,va,vb,vt] by unfold itV;rw[hk];rfl];have HK:=hide hk;clear hk;go_enter Tryz.func189,Tryz.ntmps189
 go_wp2_with fail
 generalize hW0:w.alloc (.cells #[.int .u8 123,.int .i64 x.n,.string nm,va,vb,vt] 227)=w0 at hr0 hf0 hto0 hxb hba hbb hbt ⊢;clear hW0;refine (stepS _ yb rs s hr0 he).mono ?_;rintro e w1 ⟨rfl,rs1,hr1,hsto1,-⟩;obtain⟨hf1,hto1⟩:=hf0.sto hr0 hsto1;have hkp1:Keeps (nK K) (nK K) w0 w1:=Keeps.to hsto1 hr0.noB _;have hxb1:=(hkp1 _ _ _ hnk hxb (.inl rfl)).1;have hxx:=HX.out;have cx0:=hxb1.cell (o:=0) rfl;have hTO1:=hto0.trans hto1;have hst1:=St.step_steps s;have HBA:=hide (hba.keep hkp1);have HBB:=hide (hbb.keep hkp1);have HBT:=hide (toksIn_keep hkp1 hbt);clear hr0 hf0 hsto1 hxb hba hbb hbt hkp1 HX hto0 hto1;by_cases he1:s.step.e=0
 ·rw[if_neg (by simp[he1])] at hxx;rw[decide_eq_true he1];generalize s.step=s1 at hr1 hst1 hxx he1;have cx5:=hxb1.cell (o:=5) rfl;have cd:w1.cell? ⟨yb,23,none⟩=some (.int .i64 s1.depth):=by rw[<-hr1.dp];exact hr1.blk.cell rfl
  have fd:=hr1.blk.free 23;have fe:=hr1.blk.free 21;have cee:w1.cell? ⟨yb,21,none⟩=some (.int .i64 s1.e):=by rw[<-hr1.e];exact hr1.blk.cell rfl
  have hd0:=hr1.good.d0;have hd1:=hr1.good.d1;rw[one_b _ _ _ _ _ HK.out] at hxx;by_cases h20:20<=s1.depth
  ·rw[if_pos h20] at hxx;injection hxx with hxx;injection hxx with hx1 hx2;subst hx1;subst hx2;rw[show s1.depth=20 by omega] at cd;obtain⟨hr2,hsto2⟩:=hr1.setEr 8 (by decide);obtain⟨hf2,hto2⟩:=hf1.sto hr1 hsto2;clear h20 hd0 hd1 hf1 hsto2 cx5;go_wp2;go_ret;exact⟨rfl,_,lv,hr2,hf2,hTO1.trans hto2⟩
  ·rw[if_neg h20] at hxx
   split at hxx
   ·cases hxx
   ·rename_i s2 l2 hx2
    obtain⟨hr2,hsto2⟩:=hr1.setDp (s1.depth+1) (by omega) (by omega);obtain⟨hf2,hto2⟩:=hf1.sto hr1 hsto2;have hyx:¬ w.heap.size=yb:=by intro e;rw[e] at hxb1;exact absurd (hxb1.inj hr1.blk).1 (by decide)
    have HTK:=hide (hT g (by omega) _ yb _ _ s2 vt x.toks l2 hr2 (toksIn_keep (Keeps.to hsto2 hr1.noB (nK K)) HBT.out) hin.2 hx2);have hdp:=(xRun_keep _ _ _ _ _ hx2).1;dsimp only at hdp;have HR2:=hide hr2;have HF2:=hide hf2;have HT2:=hide (hTO1.trans hto2);clear hr2 hf2 hto2 hsto2 hxb1 hx2 hr1 hf1 hTO1 cee fe
    go_wp2_with fail
    refine HTK.out.mono ?_;rintro e w3 ⟨rfl,rs3,hr3,hsto3⟩;obtain⟨hf3,hto3⟩:=HF2.out.sto HR2.out hsto3;have cd3:w3.cell? ⟨yb,23,none⟩=some (.int .i64 s2.depth):=by rw[<-hr3.dp];exact hr3.blk.cell rfl
    rw[hdp] at cd3;have fd3:=hr3.blk.free 23;have ce3:w3.cell? ⟨yb,21,none⟩=some (.int .i64 s2.e):=by rw[<-hr3.e];exact hr3.blk.cell rfl
    obtain⟨hr4,hsto4⟩:=hr3.setDp s1.depth (by omega) (by omega);obtain⟨hf4,hto4⟩:=hf3.sto hr3 hsto4;have HTO:=hide (HT2.out.trans (hto3.trans hto4));have HR4:=hide hr4;have HF4:=hide hf4;have HS2':Hid (s2.depth - 1=s1.depth):=by unfold Hid;omega
    injection hxx with hxx;injection hxx with hx1 hx2;subst hx2;have HX1:=hide hx1;clear hx1 hdp hr3 hsto3 hf3 hto3 hr4 hf4 hsto4 hto4 HTK HR2 HF2 HT2;go_wp2;go_ret;refine⟨by show Ending.returned (.bool (s2.e != 0))=_;rw[ne_dec],{ rs3 with d:={ rs3.d with dp:=s1.depth } },lv,?_,HF4.out,by simpa using HTO.out⟩;rw[<-HX1.out,HS2'.out]
    simpa using HR4.out
 ·rw[if_pos he1] at hxx;rw[decide_eq_false he1];injection hxx with hxx;injection hxx with hx1 hx2;subst hx1;subst hx2;clear cx0;go_wp2;go_ret;exact⟨rfl,rs1,lv,hr1,hf1,hTO1⟩
theorem runDo (g:Nat)(hL:∀ g',g' < g->CL K g'):CIk K 100 g:=by
 intro w yb fb rs s s' f lp lv x nm va vb vt left hk hr he hf hlp hat hx
 cases g with
 | zero=>cases hx
 | succ g=>
 rw[x_one _ _ _ _ _ (by omega) (by omega) (by omega)] at hx;have hK0:Kp w (w.alloc (.cells #[.int .u8 100,.int .i64 x.n,.string nm,va,vb,vt] 227)) (fun _=>False):=(Kp.refl w _).alloc _;have hr0:=hr.kpF hK0;have hnk:nK K w.heap.size:=fun h=>Nat.lt_irrefl _ (hr.dr.old _ h);obtain⟨hf0,hto0⟩:=hf.sto hr (STo.kpF (rs:=rs) hK0);have hxb:=Blk.new w #[.int .u8 100,.int .i64 x.n,.string nm,va,vb,vt] 227;have hba:=hat.a.keep (Keeps.kpF hK0 (nK K));have hbb:=hat.b.keep (Keeps.kpF hK0 (nK K));have hbt:=toksIn_keep (Keeps.kpF hK0 (nK K)) hat.t;have hnm:=hat.nm;have hin:=hat.n;have HX:=hide hx;clear hr hf hK0 hat hx;rw[show itV x nm va vb vt=.agg #[.int .u8 100,.int .i64 x.n,.string nm,va,vb,vt] by unfold itV;rw[hk];rfl];have HK:=hide hk;clear hk;go_enter Tryz.func189,Tryz.ntmps189
 go_wp2_with fail
 generalize hW0:w.alloc (.cells #[.int .u8 100,.int .i64 x.n,.string nm,va,vb,vt] 227)=w0 at hr0 hf0 hto0 hxb hba hbb hbt ⊢;clear hW0;refine (stepS _ yb rs s hr0 he).mono ?_;rintro e w1 ⟨rfl,rs1,hr1,hsto1,-⟩;obtain⟨hf1,hto1⟩:=hf0.sto hr0 hsto1;have hkp1:Keeps (nK K) (nK K) w0 w1:=Keeps.to hsto1 hr0.noB _;have hxb1:=(hkp1 _ _ _ hnk hxb (.inl rfl)).1;have hxx:=HX.out;have cx0:=hxb1.cell (o:=0) rfl;have hTO1:=hto0.trans hto1;have hst1:=St.step_steps s;have HBA:=hide (hba.keep hkp1);have HBB:=hide (hbb.keep hkp1);have HBT:=hide (toksIn_keep hkp1 hbt);clear hr0 hf0 hsto1 hxb hba hbb hbt hkp1 HX hto0 hto1;by_cases he1:s.step.e=0
 ·rw[if_neg (by simp[he1])] at hxx;rw[decide_eq_true he1];generalize s.step=s1 at hr1 hst1 hxx he1;have cx1:=hxb1.cell (o:=1) rfl;have cx2:=hxb1.cell (o:=2) rfl;have cx3:=hxb1.cell (o:=3) rfl;have cx4:=hxb1.cell (o:=4) rfl;have cx5:=hxb1.cell (o:=5) rfl;rw[one_d _ _ _ _ _ HK.out] at hxx;have HLL:Hid (Calls Tryz.prog 212 #[.pointer (some ⟨yb,0,none⟩),.pointer (some ⟨fb,0,none⟩),.agg #[.int .u8 100,.int .i64 x.n,.string nm,va,vb,vt]] w1 fun e w'=>e=.returned (.bool left)/\FPost K yb fb w1 w' rs1 s' f lp lv):=by
   have:=hL g (by omega) w1 yb fb rs1 s1 s' f lp lv x nm va vb vt left hr1 he1 hf1 (by omega) ⟨hnm,HBA.out,HBB.out,HBT.out,hin⟩ hxx;rw[show itV x nm va vb vt=.agg #[.int .u8 100,.int .i64 x.n,.string nm,va,vb,vt] by unfold itV;rw[HK.out];rfl] at this;exact this
  clear hxb1 hxx
  go_wp2_with fail
  refine HLL.out.mono ?_;rintro e w2 ⟨rfl,rs2,lv2,hr2,hf2,hto2⟩;clear hr1 hf1 HLL;go_wp2;go_ret;exact⟨rfl,rs2,lv2,hr2,hf2,hTO1.trans hto2⟩
 ·rw[if_pos he1] at hxx;rw[decide_eq_false he1];injection hxx with hxx;injection hxx with hx1 hx2;subst hx1;subst hx2;clear cx0;go_wp2;go_ret;exact⟨rfl,rs1,lv,hr1,hf1,hTO1⟩
end
section
open Go.RowKit
variable {K:Nat->Prop}
theorem runErr (g:Nat) (w:World) (yb fb:Nat) (rs:RS) (s s':St) (f:Fr) (lp:List Int) (lv:Value) (x:It) (nm:ByteArray) (va vb vt:Value) (left:Bool) (h1:¬ x.kind=63) (h2:¬ x.kind=117) (h3:¬ x.kind=119) (hr:RRel K w yb rs s) (he:s.e=0) (hf:FrAt K w fb f lp lv rs.nv)
  (hse:s.step.e ≠ 0) (hx:xRun g (jItem f lp x) s=some (s',left)):Calls Tryz.prog 189 #[.pointer (some ⟨yb,0,none⟩),.pointer (some ⟨fb,0,none⟩),itV x nm va vb vt] w fun e w'=>e=.returned (.bool left)/\FPost K yb fb w w' rs s' f lp lv:=by
 cases g with
 | zero=>cases hx
 | succ g=>
 rw[x_one _ _ _ _ _ h1 h2 h3,if_pos hse] at hx;injection hx with hx;injection hx with hx1 hx2;subst hx1;subst hx2;have hK0:Kp w (w.alloc (.cells #[.int .u8 x.kind,.int .i64 x.n,.string nm,va,vb,vt] 227)) (fun _=>False):=(Kp.refl w _).alloc _;have hr0:=hr.kpF hK0;obtain⟨hf0,hto0⟩:=hf.sto hr (STo.kpF (rs:=rs) hK0);clear hr hf hK0;have q1:¬ (x.kind:Int)=63:=by omega
 have q2:¬ (x.kind:Int)=117:=by omega
 have q3:¬ (x.kind:Int)=119:=by omega
 clear h1 h2 h3;go_enter Tryz.func189,Tryz.ntmps189
 go_wp2_with fail
 refine (stepS _ yb rs s hr0 he).mono ?_;rintro e w1 ⟨rfl,rs1,hr1,hsto1,-⟩;obtain⟨hf1,hto1⟩:=hf0.sto hr0 hsto1;rw[decide_eq_false hse];clear hr0 hf0 hsto1 q1 q2 q3;go_wp2;go_ret;exact⟨rfl,rs1,lv,hr1,hf1,hto0.trans hto1⟩
theorem itemX_ (g:Nat) (hB:∀ g',g' < g->CB K g') (hL:∀ g',g' < g->CL K g') (hE:∀ g',g' < g->CE K g') (hC:∀ g',g' < g->CC K g') (hT:∀ g',g' < g->CT K g'):CI K g:=by
 intro w yb fb rs s s' f lp lv x nm va vb vt left hr he hf hlp hat hx;by_cases h1:x.kind=63
 ·exact runIf g hB w yb fb rs s s' f lp lv x nm va vb vt left h1 hr he hf hlp hat hx
 by_cases h2:x.kind=117
 ·exact runUntil g hB w yb fb rs s s' f lp lv x nm va vb vt left h2 hr he hf hlp hat hx
 by_cases h3:x.kind=119
 ·exact runWhile g hB w yb fb rs s s' f lp lv x nm va vb vt left h3 hr he hf hlp hat hx
 by_cases hse:s.step.e ≠ 0
 ·exact runErr g w yb fb rs s s' f lp lv x nm va vb vt left h1 h2 h3 hr he hf hse hx
 by_cases k1:x.kind=110
 ·exact runNu g w yb fb rs s s' f lp lv x nm va vb vt left k1 hr he hf hlp hat hx
 by_cases k2:x.kind=112
 ·exact runPl g w yb fb rs s s' f lp lv x nm va vb vt left k2 hr he hf hlp hat hx
 by_cases k3:x.kind=105
 ·exact runI g w yb fb rs s s' f lp lv x nm va vb vt left k3 hr he hf hlp hat hx
 by_cases k4:x.kind=120
 ·exact runEx g w yb fb rs s s' f lp lv x nm va vb vt left k4 hr he hf hlp hat hx
 by_cases k5:x.kind=114
 ·exact runRe g hE w yb fb rs s s' f lp lv x nm va vb vt left k5 hr he hf hlp hat hx
 by_cases k6:x.kind=99
 ·exact runCa g hC w yb fb rs s s' f lp lv x nm va vb vt left k6 hr he hf hlp hat hx
 by_cases k7:x.kind=123
 ·exact runBr g hT w yb fb rs s s' f lp lv x nm va vb vt left k7 hr he hf hlp hat hx
 by_cases k8:x.kind=100
 ·exact runDo g hL w yb fb rs s s' f lp lv x nm va vb vt left k8 hr he hf hlp hat hx
 ·exfalso
  cases g with
  | zero=>cases hx
  | succ g=>
   rw[x_one _ _ _ _ _ h1 h2 h3,if_neg hse,one_none _ _ _ _ _ k1 k2 k3 k4 k5 k6 k7 k8] at hx
   cases hx
end
section
open Go.RowKit
variable {K:Nat->Prop}
theorem plain_any_some {l:List UInt8} {k:Nat} (hk:plainL.findIdx? (· == l)=some k):plainL.any (· == l)=true:=by
 obtain⟨hlt,h1,_⟩:=List.findIdx?_eq_some_iff_getElem.1 hk;exact List.any_eq_true.2 ⟨_,List.getElem_mem hlt,h1⟩
theorem plain_any_none {l:List UInt8} (hk:plainL.findIdx? (· == l)=none):plainL.any (· == l)=false:=by
 rw[List.findIdx?_eq_none_iff] at hk;rw[List.any_eq_false];intro x hx;rw[hk x hx];decide
theorem known_findI {s:St} {t:Tok}:s.known t=decide (¬ findI s.defs t < 0):=by
 unfold St.known St.find findI
 cases s.defs.findIdx? (fun d=>d.name == t) with
 | none=>simp
 | some k=>first|(simp;done)|(simp;omega)
structure TokStd (K:Nat->Prop) (g yb:Nat) (w wr:World) (rs:RS) (s':St) (v:Value) (ws:List ByteArray) (left:Bool) (k:Nat):Prop where
 ex:∃ g' rsk sk,g'<=g/\RRel K wr yb rsk sk/\STo yb w wr rs rsk/\xRun g' (jToks ((texts ws).drop k)) sk=some (s',left)
 row:wr.ownsRow 0 9 1 v ws.length (ws.map Value.string)
theorem row9_keep {w w':World} {v:Value} {ws:List ByteArray} (hv:∀ b,own v b->nK K b) (h:w.ownsRow 0 9 1 v ws.length (ws.map Value.string)) (hk:Keeps (nK K) (nK K) w w'):w'.ownsRow 0 9 1 v ws.length (ws.map Value.string):=
 row_keep h (fun b c hb hc=>(hk b _ c (hv b hb) hc (.inr rfl)).1)
theorem toksX (g:Nat) (hC:∀ g',g' < g->CC K g'):CT K g:=by
 intro w yb rs s s' v ts left hr htk hl hx;obtain⟨ws,hrow,hws,hvk⟩:=htk;have hws:texts ws=ts:=hws;subst hws;have hl:ws.length<=1000:=by simpa [texts] using hl
 have HC:=hide hC;have HL:Hid (TokStd K g yb w w rs s' v ws left 0):=⟨⟨g,rs,s,Nat.le_refl _,hr,To.refl _ _ _,by simpa using hx⟩,hrow⟩;obtain⟨ao,cap,rfl⟩:=row_slice hrow;have HV:=hide hvk;clear hvk;clear hC hr hx hrow;go_enter Tryz.func63,Tryz.ntmps63;go_wp2
 go_loopw [4] (fun i wr=>∃ k:Nat,k<=ws.length/\i=.int .i64 k/\TokStd K g yb w wr rs s' (.slice ao ws.length cap) ws left k) (fun i _=>ws.length - (intOf i).toNat)
 case atStart=>exact⟨0,Nat.zero_le _,rfl,HL.out⟩
 case round=>
  clear HL;obtain⟨k,hk,rfl,⟨g',rsk,sk,hg',hrel,hto,hx⟩,hrow⟩:=hrel;have ce:wr.cell? ⟨yb,21,none⟩=some (.int .i64 sk.e):=by rw[<-hrel.e];exact hrel.blk.cell rfl
  by_cases he:sk.e=0
  ·rw[he] at ce;by_cases hlt:k < ws.length
   ·obtain⟨gd,cap',hv,hc⟩:=row_cell hrow (by omega);injection hv with e1 e2 e3;subst e1;clear e2 e3;have ct:=hc k (.string ws[k]) (by simp[hlt]);clear hc;rw[texts_drop ws k hlt] at hx;obtain⟨t,ht⟩:∃ t,t=ws[k]:=⟨_,rfl⟩;rw[<-ht] at hx ct;have HTT:=hide ht;clear ht
    cases g' with
    | zero=>cases hx
    | succ g'=>
     have HH:Hid (wr.ownsRow 0 9 1 (.slice (some ⟨gd,0,none⟩) ws.length cap) ws.length (ws.map Value.string)):=hrow;clear hrow;by_cases htc:t.data.toList=kColon
     ·have hcol:(t.toList == [58])=true:=by rw[ByteArray.toList_eq,htc];decide
      have htl:t.toList=[58]:=by simpa using hcol
      rw[htc,x_def g' sk _ he,pDef_eq] at hx
      cases hpd:pDefD g' sk.defs ((texts ws).drop (k+1)) with
      | none=>rw[hpd] at hx;cases hx
      | some res=>
       rw[hpd] at hx;have HPD:=hide hpd;have HX:=hide hx;clear hpd hx
       go_wp2_with fail
       refine (numberR _ _).mono ?_;rintro e w' ⟨rfl,hw⟩;rw[hw,numV_none (by rw[htl];decide)];clear hw
       go_wp2_with fail
       refine (isPlainR _ _).mono ?_;rintro e w1 ⟨rfl,hk1⟩
       go_wp2_with fail
       refine (isKeptR _ _).mono ?_;rintro e w2 ⟨rfl,hk2⟩;have hrel2:=(hrel.kpF hk1).kpF hk2;have hto2:STo yb w w2 rs rsk:=hto.trans ((STo.kpF (rs:=rsk) hk1).trans (STo.kpF (rs:=rsk) hk2));have hrow2:=row9_keep HV.out (row9_keep HV.out HH.out (Keeps.kpF hk1 _)) (Keeps.kpF hk2 _);rw[htl];clear hk1 hk2 hrel hto ce ct htc
       go_wp2_with fail
       refine (defineS w2 yb rsk sk.defs _ ws (k+1) (by omega) hrel2.blk hrel2.dr hrow2 hl g' res HPD.out).mono ?_;rintro e w3 ⟨hk3,hP⟩;have hrel3:=hrel2.kpF hk3;have hto3:STo yb w w3 rs rsk:=hto2.trans (STo.kpF (rs:=rsk) hk3);have hrow3:=row9_keep HV.out hrow2 (Keeps.kpF hk3 _);clear hrel2 hto2 hrow2 hk3
       cases res with
       | error er=>
        obtain⟨hne,tb,vb,nn,rfl⟩:=hP;have hxx:=HX.out;injection hxx with hxx;injection hxx with hx1 hx2;subst hx1;obtain⟨hrel4,hto4⟩:=hrel3.setEr er hne;have fe:=hrel3.blk.free 21;have ce3:w3.cell? ⟨yb,21,none⟩=some (.int .i64 rsk.e):=hrel3.blk.cell rfl;have hne':(er != 0)=true:=by simpa using hne
        clear hx2 hne hrel3 HX HPD;go_wp2;refine bodyPost_ret (results_none rfl _ _ _) rfl ?_;exact⟨rfl,_,hrel4,hto3.trans hto4⟩
       | ok q=>
        obtain⟨nm,b,r1⟩:=q;obtain⟨tb,vb,k',rfl,hnm,hbd,hr1,hkk,hk'⟩:=hP;obtain⟨hcb,h30⟩:=pDefD_ok (by simp[texts];omega) HPD.out;have H30:=hide h30;clear h30;have hxx:=HX.out;clear HX HPD;dsimp only at hxx;obtain⟨xsb,hrb,-⟩:=hbd.out;obtain⟨ab,pb,rfl⟩:=row_slice hrb;clear hrb
        go_wp2_with fail
        refine (stepS w3 yb rsk sk hrel3 he).mono ?_;rintro e w4 ⟨rfl,rs4,hrel4,hto4,-⟩;have hkp4:Keeps (nK K) (nK K) w3 w4:=Keeps.to hto4 hrel3.noB _;have hbd4:=hbd.keep hkp4;have hrow4:=row9_keep HV.out hrow3 hkp4;have hTO4:=hto3.trans hto4;clear hrel3 hto3 hto4 hrow3 hbd hkp4;by_cases hse:sk.step.e=0
        ·rw[if_neg (by simp[hse])] at hxx;rw[decide_eq_true hse];have hdf:sk.step.defs=sk.defs:=by unfold St.step;split <;> rfl
         go_wp2_with fail
         refine (setS w4 yb rs4 sk.step tb _ b hrel4 hbd4 hcb (by rw[hdf,hnm];exact H30.out.imp (fun h=>by omega) (fun h=>h))).mono ?_;rintro e w5 ⟨rfl,rs5,hrel5,hto5⟩;have hkp5:Keeps (nK K) (nK K) w4 w5:=Keeps.to hto5 hrel4.noB _;have hrow5:=row9_keep HV.out hrow4 hkp5;rw[hnm] at hrel5;rw[hr1] at hxx;have HN:Hid (TokStd K g yb w w5 rs s' (.slice (some ⟨gd,0,none⟩) ws.length cap) ws left k'):=⟨⟨g',rs5,_,by omega,hrel5,hTO4.trans hto5,hxx⟩,hrow5⟩;clear hrel4 hbd4 hrow4 hTO4 hkp5 hrow5 hrel5 hto5 hxx hcb H30 hr1 hnm hse hdf;have hwk:wrap64 ((k':Int) - 1)=((k' - 1:Nat):Int):=by unfold wrap64;omega
         go_wp2
         go_roundw
         case rel=>exact⟨k',by omega,by first|(go_num;done)|(congr 1;unfold wrap64;omega),HN.out⟩
         case measure=>simp[intOf];omega
        ·rw[if_pos hse] at hxx;rw[decide_eq_false hse];injection hxx with hxx;injection hxx with hx1 hx2;subst hx1;clear hbd4 hrow4 hx2 hcb H30 hr1 hnm;go_wp2;refine bodyPost_ret (results_none rfl _ _ _) rfl ?_;exact⟨rfl,rs4,hrel4,hTO4⟩
     ·rw[x_tok g' sk _ _ he htc] at hx;have hc58:(t.toList == [58])=false:=by rw[ByteArray.toList_eq];simpa [kColon] using htc
      have HX:=hide hx;clear hx htc
      cases hnum:numP t.toList with
      | some n=>
       have HXN:Hid (sk.step.e=0->xRun g' (jToks ((texts ws).drop (k+1))) (sk.step.put n)=some (s',left)):=by
        intro hse;have h:=HX.out;unfold xTok at h;rw[ByteArray.toList_eq] at hnum;rw[hnum] at h;dsimp only at h;rw[if_neg (by simp[hse])] at h;exact h
       have HXE:Hid (¬ sk.step.e=0->xRun g' (jToks ((texts ws).drop (k+1))) sk.step=some (s',left)):=by
        intro hse;have h:=HX.out;unfold xTok at h;rw[ByteArray.toList_eq] at hnum;rw[hnum] at h;dsimp only at h;rw[if_pos hse] at h;exact h
       have hinn:In n:=numP_range hnum
       go_wp2_with fail
       refine (numberR _ _).mono ?_;rintro e w' ⟨rfl,hw⟩;rw[hw,numV_some hnum];clear hw
       go_wp2_with fail
       refine (isPlainR _ _).mono ?_;rintro e w1 ⟨rfl,hk1⟩
       go_wp2_with fail
       refine (isKeptR _ _).mono ?_;rintro e w2 ⟨rfl,hk2⟩;have hrel2:=(hrel.kpF hk1).kpF hk2;have hto2:STo yb w w2 rs rsk:=hto.trans ((STo.kpF (rs:=rsk) hk1).trans (STo.kpF (rs:=rsk) hk2));have hrow2:=row9_keep HV.out (row9_keep HV.out HH.out (Keeps.kpF hk1 _)) (Keeps.kpF hk2 _);clear hk1 hk2 hrel hto ce ct hnum HX
       go_wp2_with fail
       refine (stepS w2 yb rsk sk hrel2 he).mono ?_;rintro e w3 ⟨rfl,rs3,hrel3,hto3,-⟩;have hkp3:Keeps (nK K) (nK K) w2 w3:=Keeps.to hto3 hrel2.noB _;have hrow3:=row9_keep HV.out hrow2 hkp3;have hTO3:=hto2.trans hto3;clear hrel2 hto2 hrow2 hto3 hkp3;by_cases hse:sk.step.e=0
       ·rw[decide_eq_true hse];have HXT:=HXN.out hse
        go_wp2_with fail
        refine (putS w3 yb rs3 sk.step n hrel3 hse hinn).mono ?_;rintro e w4 ⟨rfl,rs4,hrel4,hto4⟩;have hkp4:Keeps (nK K) (nK K) w3 w4:=Keeps.to hto4 hrel3.noB _;have HN:Hid (TokStd K g yb w w4 rs s' (.slice (some ⟨gd,0,none⟩) ws.length cap) ws left (k+1)):=⟨⟨g',rs4,_,by omega,hrel4,hTO3.trans hto4,HXT⟩,row9_keep HV.out hrow3 hkp4⟩;clear hrel3 hto4 hrow3 hTO3 hkp4 hrel4 HXT hse HXN HXE;go_wp2
        go_roundw
        case rel=>exact⟨k+1,by omega,by go_num,HN.out⟩
        case measure=>simp[intOf];omega
       ·rw[decide_eq_false hse];have HN:Hid (TokStd K g yb w w3 rs s' (.slice (some ⟨gd,0,none⟩) ws.length cap) ws left (k+1)):=⟨⟨g',rs3,_,by omega,hrel3,hTO3,HXE.out hse⟩,hrow3⟩;clear hrel3 hrow3 hTO3 hse HXN HXE;go_wp2
        go_roundw
        case rel=>exact⟨k+1,by omega,by go_num,HN.out⟩
        case measure=>simp[intOf];omega
      | none=>
       cases hpl:plainL.findIdx? (· == t.toList) with
       | some j=>
        have HXN:Hid (sk.step.e=0->xRun g' (jToks ((texts ws).drop (k+1))) (sk.step.word j)=some (s',left)):=by
         intro hse;have h:=HX.out;unfold xTok at h;rw[ByteArray.toList_eq] at hnum hpl;rw[hnum] at h;dsimp only at h;rw[hpl] at h;dsimp only at h;rw[if_neg (by simp[hse])] at h;exact h
        have HXE:Hid (¬ sk.step.e=0->xRun g' (jToks ((texts ws).drop (k+1))) sk.step=some (s',left)):=by
         intro hse;have h:=HX.out;unfold xTok at h;rw[ByteArray.toList_eq] at hnum hpl;rw[hnum] at h;dsimp only at h;rw[hpl] at h;dsimp only at h;rw[if_pos hse] at h;exact h
        have hp1:=plain_any_some hpl;have HP:=hide (plain_at hpl)
        go_wp2_with fail
        refine (numberR _ _).mono ?_;rintro e w' ⟨rfl,hw⟩;rw[hw,numV_none hnum];clear hw
        go_wp2_with fail
        refine (isPlainR _ _).mono ?_;rintro e w1 ⟨rfl,hk1⟩
        go_wp2_with fail
        refine (isKeptR _ _).mono ?_;rintro e w2 ⟨rfl,hk2⟩;have hrel2:=(hrel.kpF hk1).kpF hk2;have hto2:STo yb w w2 rs rsk:=hto.trans ((STo.kpF (rs:=rsk) hk1).trans (STo.kpF (rs:=rsk) hk2));have hrow2:=row9_keep HV.out (row9_keep HV.out HH.out (Keeps.kpF hk1 _)) (Keeps.kpF hk2 _);clear hk1 hk2 hrel hto ce ct hnum HX hp1 hpl
        go_wp2_with fail
        refine (stepS w2 yb rsk sk hrel2 he).mono ?_;rintro e w3 ⟨rfl,rs3,hrel3,hto3,-⟩;have hkp3:Keeps (nK K) (nK K) w2 w3:=Keeps.to hto3 hrel2.noB _;have hrow3:=row9_keep HV.out hrow2 hkp3;have hTO3:=hto2.trans hto3;clear hrel2 hto2 hrow2 hto3 hkp3;by_cases hse:sk.step.e=0
        ·rw[decide_eq_true hse];have HXT:=HXN.out hse
         go_wp2_with fail
         refine (wordS w3 yb rs3 sk.step j t HP.out hrel3 hse).mono ?_;rintro e w4 ⟨rfl,rs4,hrel4,hto4⟩;have hkp4:Keeps (nK K) (nK K) w3 w4:=Keeps.to hto4 hrel3.noB _;have HN:Hid (TokStd K g yb w w4 rs s' (.slice (some ⟨gd,0,none⟩) ws.length cap) ws left (k+1)):=⟨⟨g',rs4,_,by omega,hrel4,hTO3.trans hto4,HXT⟩,row9_keep HV.out hrow3 hkp4⟩;clear hrel3 hto4 hrow3 hTO3 hkp4 hrel4 HXT hse HXN HXE;go_wp2
         go_roundw
         case rel=>exact⟨k+1,by omega,by go_num,HN.out⟩
         case measure=>simp[intOf];omega
        ·rw[decide_eq_false hse];have HN:Hid (TokStd K g yb w w3 rs s' (.slice (some ⟨gd,0,none⟩) ws.length cap) ws left (k+1)):=⟨⟨g',rs3,_,by omega,hrel3,hTO3,HXE.out hse⟩,hrow3⟩;clear hrel3 hrow3 hTO3 hse HXN HXE;go_wp2
         go_roundw
         case rel=>exact⟨k+1,by omega,by go_num,HN.out⟩
         case measure=>simp[intOf];omega
       | none=>
        have hp1:plainL.any (· == t.toList)=false:=plain_any_none hpl
        go_wp2_with fail
        refine (numberR _ _).mono ?_;rintro e w' ⟨rfl,hw⟩;rw[hw,numV_none hnum];clear hw
        go_wp2_with fail
        refine (isPlainR _ _).mono ?_;rintro e w1 ⟨rfl,hk1⟩
        go_wp2_with fail
        refine (isKeptR _ _).mono ?_;rintro e w2 ⟨rfl,hk2⟩;have hrel2:=(hrel.kpF hk1).kpF hk2;have hto2:STo yb w w2 rs rsk:=hto.trans ((STo.kpF (rs:=rsk) hk1).trans (STo.kpF (rs:=rsk) hk2));have hrow2:=row9_keep HV.out (row9_keep HV.out HH.out (Keeps.kpF hk1 _)) (Keeps.kpF hk2 _);clear hk1 hk2 hrel hto ce ct hp1
        cases b1:keptL.any (· == t.toList)
        ·cases b2:(t.toList == [59])
         ·cases b3:(t.toList == [123])
          ·cases b4:(t.toList == [125])
           ·have HXW:Hid (∀ sx,xRun g' (jToks ((texts ws).drop (k+1))) sx=some (s',left)\/True->(sk.known t.data.toList=false->xRun g' (jToks ((texts ws).drop (k+1))) (sk.err 3)=some (s',left))/\(sk.known t.data.toList=true->¬ sk.step.e=0->xRun g' (jToks ((texts ws).drop (k+1))) sk.step=some (s',left))/\(sk.known t.data.toList=true->sk.step.e=0->∃ s2 l2,xRun g' (jCall t.data.toList) sk.step=some (s2,l2)/\xRun g' (jToks ((texts ws).drop (k+1))) s2=some (s',left))):=by
             intro _ _;have h:=HX.out;unfold xTok at h;rw[ByteArray.toList_eq] at hnum hpl;rw[hnum] at h;dsimp only at h;rw[hpl] at h;dsimp only at h;rw[if_neg (by rw[<-ByteArray.toList_eq];show ¬ (keptL.any (· == t.toList) || t.toList == [59] || t.toList == [123] || t.toList == [125])=true;rw[b1,b2,b3,b4];decide)] at h;refine⟨fun hkn=>?_,fun hkn hse=>?_,fun hkn hse=>?_⟩
             ·rw[if_pos hkn] at h;exact h
             ·rw[if_neg (by rw[hkn];decide),if_pos hse] at h;exact h
             ·rw[if_neg (by rw[hkn];decide),if_neg (by simp[hse])] at h
              cases hcc:xRun g' (jCall t.data.toList) sk.step with
              | none=>rw[hcc] at h;cases h
              | some q=>
               obtain⟨s2,l2⟩:=q;rw[hcc] at h;exact⟨s2,l2,rfl,h⟩
            obtain⟨hX1,hX2,hX3⟩:=HXW.out sk (.inr trivial);have HX1:=hide hX1;have HXE0:=hide hX2;have HX3:=hide hX3;clear hX1 hX2 hX3 HXW HX hnum hpl
            go_wp2_with fail
            refine (findS w2 yb rsk sk.defs t hrel2.blk hrel2.dr).mono ?_;rintro e w' ⟨rfl,hw⟩;rw[hw];clear hw;by_cases hfi:findI sk.defs t.data.toList < 0
            ·have hkn:sk.known t.data.toList=false:=by rw[known_findI];simp[hfi]
             have ce2:w2.cell? ⟨yb,21,none⟩=some (.int .i64 rsk.e):=hrel2.blk.cell rfl;have fe:=hrel2.blk.free 21;obtain⟨hrel3,hto3⟩:=hrel2.setEr 3 (by decide);have hkp3:Keeps (nK K) (nK K) w2 _:=Keeps.to hto3 hrel2.noB _;have HN:Hid (TokStd K g yb w (w2.setCell ⟨yb,21,none⟩ (.int .i64 3)) rs s' (.slice (some ⟨gd,0,none⟩) ws.length cap) ws left (k+1)):=⟨⟨g',_,_,by omega,hrel3,hto2.trans hto3,HX1.out hkn⟩,row9_keep HV.out hrow2 hkp3⟩;clear hrel2 hto2 hrow2 hto3 hkp3 hrel3 HX1 HXE0 HX3 hkn;go_wp2
             go_roundw
             case rel=>exact⟨k+1,by omega,by go_num,HN.out⟩
             case measure=>simp[intOf];omega
            ·have hkn:sk.known t.data.toList=true:=by rw[known_findI];simp;omega
             have HXN:Hid (sk.step.e=0->∃ s2 l2,xRun g' (jCall t.data.toList) sk.step=some (s2,l2)/\xRun g' (jToks ((texts ws).drop (k+1))) s2=some (s',left)):=HX3.out hkn;have HXE:Hid (¬ sk.step.e=0->xRun g' (jToks ((texts ws).drop (k+1))) sk.step=some (s',left)):=HXE0.out hkn;obtain⟨kd,hkd,hfk,-⟩:=findI_lt hfi;rw[hfk];clear HX1 HXE0 HX3 hkn hfi hfk
             go_wp2_with fail
             refine (stepS w2 yb rsk sk hrel2 he).mono ?_;rintro e w3 ⟨rfl,rs3,hrel3,hto3,-⟩;have hkp3:Keeps (nK K) (nK K) w2 w3:=Keeps.to hto3 hrel2.noB _;have hrow3:=row9_keep HV.out hrow2 hkp3;have hTO3:=hto2.trans hto3;clear hrel2 hto2 hrow2 hto3 hkp3;by_cases hse:sk.step.e=0
             ·rw[decide_eq_true hse];have HXT:=HXN.out hse;obtain⟨s2,l2,hxc,HXT⟩:=HXT
              go_wp2_with fail
              refine (HC.out g' (by omega) w3 yb rs3 sk.step s2 t l2 hrel3 hse hxc).mono ?_;rintro e w4 ⟨rfl,rs4,hrel4,hto4⟩;have hkp4:Keeps (nK K) (nK K) w3 w4:=Keeps.to hto4 hrel3.noB _;have HN:Hid (TokStd K g yb w w4 rs s' (.slice (some ⟨gd,0,none⟩) ws.length cap) ws left (k+1)):=⟨⟨g',rs4,_,by omega,hrel4,hTO3.trans hto4,HXT⟩,row9_keep HV.out hrow3 hkp4⟩;clear hrel3 hto4 hrow3 hTO3 hkp4 hrel4 HXT hse HXN HXE;go_wp2
              go_roundw
              case rel=>exact⟨k+1,by omega,by go_num,HN.out⟩
              case measure=>simp[intOf];omega
             ·rw[decide_eq_false hse];have HN:Hid (TokStd K g yb w w3 rs s' (.slice (some ⟨gd,0,none⟩) ws.length cap) ws left (k+1)):=⟨⟨g',rs3,_,by omega,hrel3,hTO3,HXE.out hse⟩,hrow3⟩;clear hrel3 hrow3 hTO3 hse HXN HXE;go_wp2
              go_roundw
              case rel=>exact⟨k+1,by omega,by go_num,HN.out⟩
              case measure=>simp[intOf];omega
           ·have HXF:Hid (xRun g' (jToks ((texts ws).drop (k+1))) (sk.err 4)=some (s',left)):=by
             have h:=HX.out;unfold xTok at h;rw[ByteArray.toList_eq] at hnum hpl;rw[hnum] at h;dsimp only at h;rw[hpl] at h;dsimp only at h;rw[if_pos (by rw[<-ByteArray.toList_eq];simp[kSemi,kOpen,kClose, *])] at h;exact h
            have ce2:w2.cell? ⟨yb,21,none⟩=some (.int .i64 rsk.e):=hrel2.blk.cell rfl;have fe:=hrel2.blk.free 21;obtain⟨hrel3,hto3⟩:=hrel2.setEr 4 (by decide);have hkp3:Keeps (nK K) (nK K) w2 _:=Keeps.to hto3 hrel2.noB _;have HN:Hid (TokStd K g yb w (w2.setCell ⟨yb,21,none⟩ (.int .i64 4)) rs s' (.slice (some ⟨gd,0,none⟩) ws.length cap) ws left (k+1)):=⟨⟨g',_,_,by omega,hrel3,hto2.trans hto3,HXF.out⟩,row9_keep HV.out hrow2 hkp3⟩;clear hrel2 hto2 hrow2 hto3 hkp3 hrel3 HXF HX hnum hpl;go_wp2
            go_roundw
            case rel=>exact⟨k+1,by omega,by go_num,HN.out⟩
            case measure=>simp[intOf];omega
          ·have HXF:Hid (xRun g' (jToks ((texts ws).drop (k+1))) (sk.err 4)=some (s',left)):=by
            have h:=HX.out;unfold xTok at h;rw[ByteArray.toList_eq] at hnum hpl;rw[hnum] at h;dsimp only at h;rw[hpl] at h;dsimp only at h;rw[if_pos (by rw[<-ByteArray.toList_eq];simp[kSemi,kOpen,kClose, *])] at h;exact h
           have ce2:w2.cell? ⟨yb,21,none⟩=some (.int .i64 rsk.e):=hrel2.blk.cell rfl;have fe:=hrel2.blk.free 21;obtain⟨hrel3,hto3⟩:=hrel2.setEr 4 (by decide);have hkp3:Keeps (nK K) (nK K) w2 _:=Keeps.to hto3 hrel2.noB _;have HN:Hid (TokStd K g yb w (w2.setCell ⟨yb,21,none⟩ (.int .i64 4)) rs s' (.slice (some ⟨gd,0,none⟩) ws.length cap) ws left (k+1)):=⟨⟨g',_,_,by omega,hrel3,hto2.trans hto3,HXF.out⟩,row9_keep HV.out hrow2 hkp3⟩;clear hrel2 hto2 hrow2 hto3 hkp3 hrel3 HXF HX hnum hpl;go_wp2
           go_roundw
           case rel=>exact⟨k+1,by omega,by go_num,HN.out⟩
           case measure=>simp[intOf];omega
         ·have HXF:Hid (xRun g' (jToks ((texts ws).drop (k+1))) (sk.err 4)=some (s',left)):=by
           have h:=HX.out;unfold xTok at h;rw[ByteArray.toList_eq] at hnum hpl;rw[hnum] at h;dsimp only at h;rw[hpl] at h;dsimp only at h;rw[if_pos (by rw[<-ByteArray.toList_eq];simp[kSemi,kOpen,kClose, *])] at h;exact h
          have ce2:w2.cell? ⟨yb,21,none⟩=some (.int .i64 rsk.e):=hrel2.blk.cell rfl;have fe:=hrel2.blk.free 21;obtain⟨hrel3,hto3⟩:=hrel2.setEr 4 (by decide);have hkp3:Keeps (nK K) (nK K) w2 _:=Keeps.to hto3 hrel2.noB _;have HN:Hid (TokStd K g yb w (w2.setCell ⟨yb,21,none⟩ (.int .i64 4)) rs s' (.slice (some ⟨gd,0,none⟩) ws.length cap) ws left (k+1)):=⟨⟨g',_,_,by omega,hrel3,hto2.trans hto3,HXF.out⟩,row9_keep HV.out hrow2 hkp3⟩;clear hrel2 hto2 hrow2 hto3 hkp3 hrel3 HXF HX hnum hpl;go_wp2
          go_roundw
          case rel=>exact⟨k+1,by omega,by go_num,HN.out⟩
          case measure=>simp[intOf];omega
        ·have HXF:Hid (xRun g' (jToks ((texts ws).drop (k+1))) (sk.err 4)=some (s',left)):=by
          have h:=HX.out;unfold xTok at h;rw[ByteArray.toList_eq] at hnum hpl;rw[hnum] at h;dsimp only at h;rw[hpl] at h;dsimp only at h;rw[if_pos (by rw[<-ByteArray.toList_eq];simp[kSemi,kOpen,kClose, *])] at h;exact h
         have ce2:w2.cell? ⟨yb,21,none⟩=some (.int .i64 rsk.e):=hrel2.blk.cell rfl;have fe:=hrel2.blk.free 21;obtain⟨hrel3,hto3⟩:=hrel2.setEr 4 (by decide);have hkp3:Keeps (nK K) (nK K) w2 _:=Keeps.to hto3 hrel2.noB _;have HN:Hid (TokStd K g yb w (w2.setCell ⟨yb,21,none⟩ (.int .i64 4)) rs s' (.slice (some ⟨gd,0,none⟩) ws.length cap) ws left (k+1)):=⟨⟨g',_,_,by omega,hrel3,hto2.trans hto3,HXF.out⟩,row9_keep HV.out hrow2 hkp3⟩;clear hrel2 hto2 hrow2 hto3 hkp3 hrel3 HXF HX hnum hpl;go_wp2
         go_roundw
         case rel=>exact⟨k+1,by omega,by go_num,HN.out⟩
         case measure=>simp[intOf];omega
   ·rw[List.drop_of_length_le (by simp[texts];omega)] at hx
    cases g' with
    | zero=>cases hx
    | succ g'=>
     rw[x_tnil] at hx;injection hx with hx;injection hx with hx1 hx2;subst hx1;clear hx2 hrow;go_wp2
     go_end0
     exact⟨rfl,rsk,hrel,hto⟩
  ·have he':(sk.e == 0)=false:=by simpa using he
   cases g' with
   | zero=>cases hx
   | succ g'=>
    rw[x_terr _ _ _ he] at hx;injection hx with hx;injection hx with hx1 hx2;subst hx1;clear hx2 hrow he;by_cases hlt:k < ws.length
    all_goals
     go_wp2
     go_end0
     exact⟨rfl,rsk,hrel,hto⟩
end
section
open Go.RowKit
variable {K:Nat->Prop}
structure RunAll (K:Nat->Prop) (g:Nat):Prop where
 b:CB K g
 i:CI K g
 l:CL K g
 e:CE K g
 c:CC K g
 t:CT K g
theorem runAll:∀ g,RunAll K g:=by
 intro g
 induction g using Nat.strongRecOn with
 | ind g ih=>
  have hb:=fun g' (h:g' < g)=>(ih g' h).b;have hi:=fun g' (h:g' < g)=>(ih g' h).i;have hl:=fun g' (h:g' < g)=>(ih g' h).l;have he:=fun g' (h:g' < g)=>(ih g' h).e;have hc:=fun g' (h:g' < g)=>(ih g' h).c;have ht:=fun g' (h:g' < g)=>(ih g' h).t;exact⟨bodyX g hi,itemX_ g hb hl he hc ht,loopX g hb,enterX g hb,callX g he,toksX g hc⟩
structure Ses (K:Nat->Prop) (w:World) (yb:Nat) (rs:RS) (s:St):Prop where
 rel:RRel K w yb rs s
 inv:RInv w yb rs s.rs.reverse
def freshL (s:St):St:={ s with e:=0,steps:=0,depth:=0,out:=⟨#[]⟩ }
def freshR (rs:RS):RS:={ rs with e:=0,st:=0,out:=⟨#[]⟩,d:={ rs.d with dp:=0 } }
def freshW (w:World) (yb:Nat):World:=(((w.setCell ⟨yb,21,none⟩ (.int .i64 0)).setCell ⟨yb,22,none⟩ (.int .i64 0)).setCell ⟨yb,23,none⟩ (.int .i64 0)).setCell ⟨yb,24,none⟩ (.string ⟨#[]⟩)
theorem Ses.fresh {w:World} {yb:Nat} {rs:RS} {s:St} (h:Ses K w yb rs s):RRel K (freshW w yb) yb (freshR rs) (freshL s)/\STo yb w (freshW w yb) rs (freshR rs):=by
 have hi:=h.inv;have hk:Kp w (freshW w yb) (fun b=>b=yb):=((((Kp.refl w (fun b=>b=yb)).set (a:=⟨yb,21,none⟩) (fun _=>rfl) _).set (a:=⟨yb,22,none⟩) (fun _=>rfl) _).set (a:=⟨yb,23,none⟩) (fun _=>rfl) _).set (a:=⟨yb,24,none⟩) (fun _=>rfl) _;have hb:=hi.blk;have hg:=h.rel.good;refine⟨⟨⟨s.rs.reverse,⟨(((hb.set 21 (.int .i64 0)).set 22 (.int .i64 0)).set 23 (.int .i64 0)).set 24 (.string ⟨#[]⟩),?_,hi.len⟩,fun _=>rfl⟩,rfl,rfl,h.rel.mem,rfl,h.rel.ids,h.rel.hot,h.rel.blt,rfl,h.rel.dr.kp hk (NoB.one hb (by decide) (by decide)) (fun b c e hc=>by subst e;exact absurd (hc.inj hb).1 (by decide)),?_⟩,⟨hk.mono (fun b _ e=>.inl e),fun _ h=>.inl h⟩⟩
 ·exact hk.row hi.row (fun b hb' e=>by subst e;exact own_ne hi.row hb (by decide) hb')
 ·exact⟨⟨hg.g.ins,hg.g.mems,hg.g.len,by show (0:Nat)<=300;decide⟩,by show (0:Int)<=0;decide,by show (0:Int)<=2001;decide,fun _=>by show (0:Int)<=2000;decide,by show (0:Int)<=0;decide,by show (0:Int)<=20;decide,hg.b0,hg.b1,hg.cb⟩
theorem fields_len:∀ (l cur:List UInt8),(Lib.fieldsGo cur l).length<=l.length+1
 | [],cur=>by unfold Lib.fieldsGo;split <;> simp
 | b :: l,cur=>by
  unfold Lib.fieldsGo;have h1:=fields_len l [];have h2:=fields_len l (cur ++ [b])
  split
  ·split <;> simp <;> omega
  ·simp only[List.length_cons];omega
theorem RRel.setNil {w:World} {yb:Nat} {rs:RS} {s:St} (h:RRel K w yb rs s):Ses K (w.setCell ⟨yb,0,none⟩ (.slice none 0 0)) yb { rs with nv:=.slice none 0 0 } { s with rs:=[] }/\STo yb w (w.setCell ⟨yb,0,none⟩ (.slice none 0 0)) rs { rs with nv:=.slice none 0 0 }:=by
 obtain⟨ns,hi,hns⟩:=h.inv;have hk:Kp w (w.setCell ⟨yb,0,none⟩ (.slice none 0 0)) (fun b=>b=yb):=Kp.one _ _ _ _;have hb:=hi.blk;have hg:=h.good;have hI:RInv (w.setCell ⟨yb,0,none⟩ (.slice none 0 0)) yb { rs with nv:=.slice none 0 0 } []:=⟨hb.set 0 _,World.ownsRow_nil _ _ _ _,by simp⟩;refine⟨⟨⟨⟨[],hI,fun _=>rfl⟩,h.e,h.st,h.mem,h.out,h.ids,h.hot,h.blt,h.dp,h.dr.kp hk (NoB.one hb (by decide) (by decide)) (fun b c e hc=>by subst e;exact absurd (hc.inj hb).1 (by decide)),⟨⟨by simp,hg.g.mems,by simp,hg.g.osz⟩,hg.s0,hg.s1,hg.s2,hg.d0,hg.d1,hg.b0,hg.b1,hg.cb⟩⟩,hI⟩,⟨hk.mono (fun b _ e=>.inl e),fun k hk=>?_⟩⟩;rcases hk with e|e
 ·simp[own,Value.ownBlock] at e
 ·exact .inl (.inr e)
theorem Ses.kpF {w w':World} {yb:Nat} {rs:RS} {s:St} (h:Ses K w yb rs s) (hk:Kp w w' (fun _=>False)):Ses K w' yb rs s:=⟨h.rel.kpF hk,h.inv.kp hk⟩
theorem lineX_bad (w:World) (yb:Nat) (t:ByteArray) (hv:validB t.data.toList=false):
  Calls Tryz.prog 52 #[.pointer (some ⟨yb,0,none⟩),.string t] w fun e w'=>e=.returned (.tuple #[.string ⟨#[]⟩,.int .i64 2])/\Kp w w' (fun _=>False):=by
 go_enter Tryz.func52,Tryz.ntmps52
 go_wp2_with fail
 refine (tokensR_bad _ _ hv).mono ?_;rintro e w1 ⟨v,hk,rfl⟩;go_wp2;go_ret2;exact⟨rfl,hk⟩
theorem lineX_ok (w:World) (yb:Nat) (rs:RS) (s s1:St) (left:Bool) (t:ByteArray) (g:Nat) (hS:Ses K w yb rs s) (hv:validB t.data.toList=true) (hx:xRun g (jToks (Lib.fields t.data.toList)) (freshL s)=some (s1,left)):
  Calls Tryz.prog 52 #[.pointer (some ⟨yb,0,none⟩),.string t] w fun e w'=>e=.returned (.tuple #[.string s1.out,.int .i64 s1.e])/\∃ rs',Ses K w' yb rs' (if s1.e=0 then s1 else { s1 with rs:=[] })/\STo yb w w' rs rs':=by
 go_enter Tryz.func52,Tryz.ntmps52
 go_wp2_with fail
 refine (tokensR_valid _ _ hv).mono ?_;rintro e w1 ⟨v,hk,rfl,ts,hrow,hts⟩;have hS1:=hS.kpF hk;have hlen:ts.length<=401:=by
  have h1:=fields_len t.data.toList [];have h2:(ts.map (fun t=>t.data.toList)).length=(Lib.fields t.data.toList).length:=by rw[hts]
  have h3:t.data.toList.length<=400:=by unfold validB at hv;rw[Bool.and_eq_true] at hv;exact of_decide_eq_true hv.1
  simp only[List.length_map] at h2;have:(Lib.fields t.data.toList).length<=t.data.toList.length+1:=h1;omega
 have c1:w1.cell? ⟨yb,21,none⟩=some (.int .i64 rs.e):=hS1.inv.blk.cell rfl;have c2:w1.cell? ⟨yb,22,none⟩=some (.int .i64 rs.st):=hS1.inv.blk.cell rfl;have c3:w1.cell? ⟨yb,23,none⟩=some (.int .i64 rs.d.dp):=hS1.inv.blk.cell rfl;have c4:w1.cell? ⟨yb,24,none⟩=some (.string rs.out):=hS1.inv.blk.cell rfl;have f1:=hS1.inv.blk.free 21;have f2:=hS1.inv.blk.free 22;have f3:=hS1.inv.blk.free 23;have f4:=hS1.inv.blk.free 24;obtain⟨hr2,hto2⟩:=hS1.fresh;have hTO2:STo yb w (freshW w1 yb) rs (freshR rs):=(STo.kpF (rs:=rs) hk).trans hto2;have hrow1:=(Joins.ownsRow_le hrow (Nat.zero_le _));have htk1:Toks K w1 v (Lib.fields t.data.toList):=⟨ts,hrow1,hts,fun b hb hK=>by have h1:=hS.rel.dr.old b hK;have h2:=(hrow.lt b hb).1;omega⟩;have htk2:=toksIn_keep (Keeps.to hto2 hS1.rel.noB (nK K)) htk1;have HT:=hide ((runAll g).t _ yb _ _ s1 v _ left hr2 htk2 (by rw[<-hts];simp;omega) hx);clear hr2 hto2 hrow1 htk1 htk2 hrow hts hS1 hk hx
 go_wp2_with fail
 refine HT.out.mono ?_;rintro e w2 ⟨rfl,rs2,hrel2,hto3⟩;have hTO3:=hTO2.trans hto3;clear hTO2 hto3 c1 c2 c3 c4 f1 f2 f3 f4 hv HT;have k1:w2.cell? ⟨yb,21,none⟩=some (.int .i64 s1.e):=by rw[<-hrel2.e];exact hrel2.blk.cell rfl
 have k4:w2.cell? ⟨yb,24,none⟩=some (.string s1.out):=by rw[<-hrel2.out];exact hrel2.blk.cell rfl
 have k0:w2.cell? ⟨yb,0,none⟩=some rs2.nv:=hrel2.blk.cell rfl;have f0:=hrel2.blk.free 0;by_cases he:s1.e=0
 ·have he':(s1.e != 0)=false:=by simp[he]
  have hS3:Ses K w2 yb rs2 s1:=by
   obtain⟨ns,hi,hns⟩:=hrel2.inv;exact⟨hrel2,by rw[<-hns he];exact hi⟩
  have HE:=hide he;clear he;go_wp2
  go_quiet (fail)
  go_wp2;go_ret2;refine⟨rfl,rs2,?_,hTO3.trans (STo.kpF ((Kp.refl _ _).drewN _))⟩
  try rw[if_pos HE.out]
  exact hS3.kpF ((Kp.refl _ _).drewN _)
 ·have he':(s1.e != 0)=true:=by simp[he]
  obtain⟨hS3,hto4⟩:=hrel2.setNil;have HE:=hide he;have HS3:=hide hS3;clear he hS3;go_wp2
  go_quiet (fail)
  go_wp2;go_ret2;refine⟨rfl,{ rs2 with nv:=.slice none 0 0 },?_,(hTO3.trans hto4).trans (STo.kpF ((Kp.refl _ _).drewN _))⟩
  try rw[if_neg HE.out]
  exact HS3.out.kpF ((Kp.refl _ _).drewN _)
end
end Go.Proofs.YteainaiebcphlaaGreatDoor
