import Derived.Test.YteainaiebcphlaaGreatDoorQ19
import Derived.Test.YteainaiebcphlaaGreatDoorQ12
import Derived.Lib.SmallJoins
namespace Go.Proofs.YteainaiebcphlaaGreatDoor
set_option maxRecDepth 1000000
set_option maxHeartbeats 4000000
set_option linter.all false
open Go.Proofs.Tryz
section
open Go.RowKit
variable {K:Nat->Prop}
theorem Zw (g:Nat):Ht K 105 g:=by
 intro w yb fb rs s s' f lp lv x nm va vb vt left hk hr he hf hlp hat hx
 cases g with
 | zero=>cases hx
 | succ g=>
 rw[j5 _ _ _ _ _ (by omega) (by omega) (by omega)] at hx;have eO:Kp w (w.alloc (.cells #[.int .u8 105,.int .i64 x.n,.string nm,va,vb,vt] 227)) (λ_=>False):=(Kp.refl w _).alloc _;have cZ:=hr.cI eO;have hnk:nK K w.heap.size:=λh=>Nat.lt_irrefl _ (hr.dr.old _ h);obtain⟨iO,dP⟩:=hf.iF hr (fG.cI (rs:=rs) eO);have ir:=aC.new w #[.int .u8 105,.int .i64 x.n,.string nm,va,vb,vt] 227;have hba:=hat.a.keep (aF.cI eO (nK K));have hbb:=hat.b.keep (aF.cI eO (nK K));have jC:=aM (aF.cI eO (nK K)) hat.t;have hnm:=hat.nm;have hin:=hat.n;have HX:=az hx;clear hr hf eO hat hx;rw[show qs x nm va vb vt=.agg #[.int .u8 105,.int .i64 x.n,.string nm,va,vb,vt] by unfold qs;rw[hk];rfl];have HK:=az hk;clear hk;go_enter func189,ntmps189
 go_wp2_with fail
 generalize hW0:w.alloc (.cells #[.int .u8 105,.int .i64 x.n,.string nm,va,vb,vt] 227)=w0 at cZ iO dP ir hba hbb jC ⊢;clear hW0;refine(jH _ yb rs s cZ he).mono ?_;rintro e w1 ⟨rfl,fB,hr1,cU,-⟩;obtain⟨cY,bt⟩:=iO.iF cZ cU;have bg:aF (nK K) (nK K) w0 w1:=aF.to cU cZ.jX _;have eD:=(bg _ _ _ hnk ir (.inl rfl)).1;have aY:=HX.out;have wH:=eD.cell (o:=0) rfl;have gJ:=dP.trans bt;have mJ:=St.aO s;have Oy:=az (hba.keep bg);have Oz:=az (hbb.keep bg);have LP:=az (aM bg jC);clear cZ iO cU ir hba hbb jC bg HX dP bt;by_cases fA:s.step.e=0
 ·rw[af (by simp[fA])] at aY;rw[decide_eq_true fA];generalize s.step=s1 at hr1 mJ aY fA;rw[UN _ _ _ _ _ HK.out] at aY;obtain⟨i,lr,rfl⟩:∃i lr,lp=i::lr:=by
   cases lp with
   | nil=>cases aY
   | cons i lr=>exact⟨i,lr,rfl⟩
  dsimp only at aY
  ·have Zx:=cY.ins i (by simp);obtain⟨gl,pl,LL⟩:∃gl cap',lv=.slice (some ⟨gl,0,none⟩) (lr.length+1) cap':=by
    rcases cY.row.2 with⟨_,h0⟩|⟨g,cap',_,hv,_⟩
    ·simp at h0
    ·exact⟨g,cap',hv⟩
   obtain⟨Uo,vbf,kB,-⟩:=cY.blk;obtain⟨m,hm⟩:∃m,m=lr.length+1:=⟨_,rfl⟩;have cf:w1.cell? ⟨fb,3,none⟩=some (.slice (some ⟨gl,0,none⟩) m pl):=by rw[hm,<-LL];exact kB.cell rfl
   have cl:w1.cell? ⟨gl,m-1,none⟩=some (.int .i64 i):=by
    rw[show m-1=lr.length by omega];obtain⟨g',cap',hv,hc⟩:=bE cY.row (by simp);rw[LL] at hv;injection hv with e1 e2 e3;injection e1 with e1;injection e1 with e1;subst e1;exact hc lr.length _ (by simp[bD])
   have hll:m<=3000:=by have:=hr1.good.s1;simp only[aq] at hlp;omega
   have xJ:1<=m:=by omega
   have BW:IntKind.i64.wrap ((m:Int)-1)=((m-1:Nat):Int):=by
    rw[show(m:Int)-1=((m-1:Nat):Int) by omega];rw[IntKind.wrap_i64];omega
   clear kB hm;have Zy:Hid (∀w2:World,Kp w1 w2 (λ_=>False)->Calls prog 87 #[.pointer (some ⟨yb,0,none⟩),.int .i64 i] w2 λe w'=>e=.returned (.tuple #[])/\∃mo,bP K w' yb mo (s1.put i)/\fG yb w1 w' fB mo):=by
    intro w2 hK;refine(Po w2 yb fB s1 i (hr1.cI hK) fA Zx).mono ?_;rintro e w3 ⟨rfl,zi,hr3,Dg⟩;exact⟨rfl,zi,hr3,(fG.cI (rs:=fB) hK).trans Dg⟩
   injection aY with aY;injection aY with hx1 hx2;subst hx1 hx2;go_wp2
   go_region_with (go_at_call 87;refine(Zy.out _ ?_).mono ?_;exact(Kp.refl w1 _).drew;rintro e w2 ⟨rfl,mo,hr2,eF⟩)
   all_goals
    obtain⟨hf2,bM⟩:=cY.iF hr1 eF;have ce:w2.cell? ⟨yb,21,none⟩=some (.int .i64 (s1.put i).e):=by rw[<-hr2.e];exact hr2.blk.cell rfl
    go_wp2;go_ret;exact⟨by show Ending.returned (.bool ((s1.put i).e != 0))=_;rw[qH],mo,lv,hr2,hf2,gJ.trans bM⟩
 ·rw[ag fA] at aY;rw[decide_eq_false fA];injection aY with aY;injection aY with hx1 hx2;subst hx1 hx2;clear wH;go_wp2;go_ret;exact⟨rfl,fB,lv,hr1,cY,gJ⟩
theorem U0 (g:Nat)(hE:∀g',g'<g->CE K g'):Ht K 114 g:=by
 intro w yb fb rs s s' f lp lv x nm va vb vt left hk hr he hf hlp hat hx
 cases g with
 | zero=>cases hx
 | succ g=>
 rw[j5 _ _ _ _ _ (by omega) (by omega) (by omega)] at hx;have eO:Kp w (w.alloc (.cells #[.int .u8 114,.int .i64 x.n,.string nm,va,vb,vt] 227)) (λ_=>False):=(Kp.refl w _).alloc _;have cZ:=hr.cI eO;have hnk:nK K w.heap.size:=λh=>Nat.lt_irrefl _ (hr.dr.old _ h);obtain⟨iO,dP⟩:=hf.iF hr (fG.cI (rs:=rs) eO);have ir:=aC.new w #[.int .u8 114,.int .i64 x.n,.string nm,va,vb,vt] 227;have hba:=hat.a.keep (aF.cI eO (nK K));have hbb:=hat.b.keep (aF.cI eO (nK K));have jC:=aM (aF.cI eO (nK K)) hat.t;have hnm:=hat.nm;have hin:=hat.n;have HX:=az hx;clear hr hf eO hat hx;rw[show qs x nm va vb vt=.agg #[.int .u8 114,.int .i64 x.n,.string nm,va,vb,vt] by unfold qs;rw[hk];rfl];have HK:=az hk;clear hk;go_enter func189,ntmps189
 go_wp2_with fail
 generalize hW0:w.alloc (.cells #[.int .u8 114,.int .i64 x.n,.string nm,va,vb,vt] 227)=w0 at cZ iO dP ir hba hbb jC ⊢;clear hW0;refine(jH _ yb rs s cZ he).mono ?_;rintro e w1 ⟨rfl,fB,hr1,cU,-⟩;obtain⟨cY,bt⟩:=iO.iF cZ cU;have bg:aF (nK K) (nK K) w0 w1:=aF.to cU cZ.jX _;have eD:=(bg _ _ _ hnk ir (.inl rfl)).1;have aY:=HX.out;have wH:=eD.cell (o:=0) rfl;have gJ:=dP.trans bt;have mJ:=St.aO s;have Oy:=az (hba.keep bg);have Oz:=az (hbb.keep bg);have LP:=az (aM bg jC);clear cZ iO cU ir hba hbb jC bg HX dP bt;by_cases fA:s.step.e=0
 ·rw[af (by simp[fA])] at aY;rw[decide_eq_true fA];generalize s.step=s1 at hr1 mJ aY fA;rw[UQ _ _ _ _ _ HK.out] at aY
  split at aY
  ·cases aY
  ·rename_i s2 l2 hx2
   obtain⟨Uo,vbf,kB,Zz,Qd⟩:=cY.blk;obtain⟨xsf,hrf,-⟩:=Qd.out;obtain⟨abf,pbf,rfl⟩:=aB hrf;have cf0:w1.cell? ⟨fb,0,none⟩=some (.int .i64 f.id):=kB.cell rfl;have cf1:w1.cell? ⟨fb,1,none⟩=some (.string Uo):=kB.cell rfl;have cf2:w1.cell? ⟨fb,2,none⟩=some (.slice abf f.body.length pbf):=kB.cell rfl;have SR:Hid (∀w2:World,Kp w1 w2 (λ_=>False)->(U1:Nat)->w1.heap.size<=U1->aC w2 U1 191 #[.int .i64 f.id,.string Uo,.slice abf f.body.length pbf,.slice none 0 0]->Calls prog 143 #[.pointer (some ⟨yb,0,none⟩),.pointer (some ⟨U1,0,none⟩)] w2 λe w'=>e=.returned (.tuple #[])/\∃rs',bP K w' yb rs' s2/\fG yb w1 w' fB rs'):=by
    intro w2 hK U1 hfn hB;have hF:iq K w2 U1 f [] (.slice none 0 0) fB.nv:=⟨⟨Uo,_,hB,Zz,Qd.keep (aF.cI hK _)⟩,World.ownsRow_nil _ _ _ _,by simp,λq hq=>by simp[own,Value.ownBlock] at hq⟩;refine(hE g (by omega) _ yb _ fB s1 s2 _ _ l2 (hr1.cI hK) fA hF hx2).mono ?_;rintro e w3 ⟨rfl,zi,BR,cu,hf3,dI⟩;exact⟨rfl,zi,cu,yu.away dI hK hfn⟩
   have hfl:=kB.lt;clear kB hrf Qd;injection aY with aY;injection aY with hx1 hx2;subst hx1 hx2;go_wp2
   go_region_with (go_at_call 143;refine(SR.out _ ?_ _ ?_ ?_).mono ?_;exact((Kp.refl w1 _).alloc _).drew;exact ah _;exact(aC.new w1 _ _).drew;rintro e w2 ⟨rfl,mo,hr2,eF⟩)
   all_goals
    obtain⟨hf2,bM⟩:=cY.iF hr1 eF;have ce:w2.cell? ⟨yb,21,none⟩=some (.int .i64 s2.e):=by rw[<-hr2.e];exact hr2.blk.cell rfl
    go_wp2;go_ret;exact⟨by show Ending.returned (.bool (s2.e != 0))=_;rw[qH],mo,lv,hr2,hf2,gJ.trans bM⟩
 ·rw[ag fA] at aY;rw[decide_eq_false fA];injection aY with aY;injection aY with hx1 hx2;subst hx1 hx2;clear wH;go_wp2;go_ret;exact⟨rfl,fB,lv,hr1,cY,gJ⟩
theorem U2 (g:Nat)(hT:∀g',g'<g->CT K g'):Ht K 123 g:=by
 intro w yb fb rs s s' f lp lv x nm va vb vt left hk hr he hf hlp hat hx
 cases g with
 | zero=>cases hx
 | succ g=>
 rw[j5 _ _ _ _ _ (by omega) (by omega) (by omega)] at hx;have eO:Kp w (w.alloc (.cells #[.int .u8 123,.int .i64 x.n,.string nm,va,vb,vt] 227)) (λ_=>False):=(Kp.refl w _).alloc _;have cZ:=hr.cI eO;have hnk:nK K w.heap.size:=λh=>Nat.lt_irrefl _ (hr.dr.old _ h);obtain⟨iO,dP⟩:=hf.iF hr (fG.cI (rs:=rs) eO);have ir:=aC.new w #[.int .u8 123,.int .i64 x.n,.string nm,va,vb,vt] 227;have hba:=hat.a.keep (aF.cI eO (nK K));have hbb:=hat.b.keep (aF.cI eO (nK K));have jC:=aM (aF.cI eO (nK K)) hat.t;have hnm:=hat.nm;have hin:=hat.n;have HX:=az hx;clear hr hf eO hat hx;rw[show qs x nm va vb vt=.agg #[.int .u8 123,.int .i64 x.n,.string nm,va,vb,vt] by unfold qs;rw[hk];rfl];have HK:=az hk;clear hk;go_enter func189,ntmps189
 go_wp2_with fail
 generalize hW0:w.alloc (.cells #[.int .u8 123,.int .i64 x.n,.string nm,va,vb,vt] 227)=w0 at cZ iO dP ir hba hbb jC ⊢;clear hW0;refine(jH _ yb rs s cZ he).mono ?_;rintro e w1 ⟨rfl,fB,hr1,cU,-⟩;obtain⟨cY,bt⟩:=iO.iF cZ cU;have bg:aF (nK K) (nK K) w0 w1:=aF.to cU cZ.jX _;have eD:=(bg _ _ _ hnk ir (.inl rfl)).1;have aY:=HX.out;have wH:=eD.cell (o:=0) rfl;have gJ:=dP.trans bt;have mJ:=St.aO s;have Oy:=az (hba.keep bg);have Oz:=az (hbb.keep bg);have LP:=az (aM bg jC);clear cZ iO cU ir hba hbb jC bg HX dP bt;by_cases fA:s.step.e=0
 ·rw[af (by simp[fA])] at aY;rw[decide_eq_true fA];generalize s.step=s1 at hr1 mJ aY fA;have cx5:=eD.cell (o:=5) rfl;have cd:w1.cell? ⟨yb,23,none⟩=some (.int .i64 s1.depth):=by rw[<-hr1.dp];exact hr1.blk.cell rfl
  have fd:=hr1.blk.free 23;have fe:=hr1.blk.free 21;have cee:w1.cell? ⟨yb,21,none⟩=some (.int .i64 s1.e):=by rw[<-hr1.e];exact hr1.blk.cell rfl
  have hd0:=hr1.good.d0;have hd1:=hr1.good.d1;rw[UT _ _ _ _ _ HK.out] at aY;by_cases h20:20<=s1.depth
  ·rw[ag h20] at aY;injection aY with aY;injection aY with hx1 hx2;subst hx1 hx2;rw[show s1.depth=20 by omega] at cd;obtain⟨hr2,eF⟩:=hr1.r7 8 (by decide);obtain⟨hf2,bM⟩:=cY.iF hr1 eF;clear h20 hd0 hd1 cY eF cx5;go_wp2;go_ret;exact⟨rfl,_,lv,hr2,hf2,gJ.trans bM⟩
  ·rw[af h20] at aY
   split at aY
   ·cases aY
   ·rename_i s2 l2 hx2
    obtain⟨hr2,eF⟩:=hr1.kf (s1.depth+1) (by omega) (by omega);obtain⟨hf2,bM⟩:=cY.iF hr1 eF;have hyx:¬w.heap.size=yb:=by intro e;rw[e] at eD;exact ax (eD.inj hr1.blk).1 (by decide)
    have HTK:=az (hT g (by omega) _ yb _ _ s2 vt x.toks l2 hr2 (aM (aF.to eF hr1.jX (nK K)) LP.out) hin.2 hx2);have hdp:=(cH _ _ _ _ _ hx2).1;dsimp only at hdp;have kH:=az hr2;have sZ:=az hf2;have wI:=az (gJ.trans bM);clear hr2 hf2 bM eF eD hx2 hr1 cY gJ cee fe
    go_wp2_with fail
    refine HTK.out.mono ?_;rintro e w3 ⟨rfl,zi,hr3,Dg⟩;obtain⟨hf3,dI⟩:=sZ.out.iF kH.out Dg;have cd3:w3.cell? ⟨yb,23,none⟩=some (.int .i64 s2.depth):=by rw[<-hr3.dp];exact hr3.blk.cell rfl
    rw[hdp] at cd3;have fd3:=hr3.blk.free 23;have ce3:w3.cell? ⟨yb,21,none⟩=some (.int .i64 s2.e):=by rw[<-hr3.e];exact hr3.blk.cell rfl
    obtain⟨hr4,OB⟩:=hr3.kf s1.depth (by omega) (by omega);obtain⟨wG,gQ⟩:=hf3.iF hr3 OB;have HTO:=az (wI.out.trans (dI.trans gQ));have Dh:=az hr4;have X3:=az wG;have BN:Hid (s2.depth-1=s1.depth):=by unfold Hid;omega
    injection aY with aY;injection aY with hx1 hx2;subst hx2;have LO:=az hx1;clear hx1 hdp hr3 Dg hf3 dI hr4 wG OB gQ HTK kH sZ wI;go_wp2;go_ret;refine⟨by show Ending.returned (.bool (s2.e != 0))=_;rw[qH],{zi with d:={zi.d with dp:=s1.depth}},lv,?_,X3.out,by simpa using HTO.out⟩;rw[<-LO.out,BN.out]
    simpa using Dh.out
 ·rw[ag fA] at aY;rw[decide_eq_false fA];injection aY with aY;injection aY with hx1 hx2;subst hx1 hx2;clear wH;go_wp2;go_ret;exact⟨rfl,fB,lv,hr1,cY,gJ⟩
theorem U4 (g:Nat)(hL:∀g',g'<g->CL K g'):Ht K 100 g:=by
 intro w yb fb rs s s' f lp lv x nm va vb vt left hk hr he hf hlp hat hx
 cases g with
 | zero=>cases hx
 | succ g=>
 rw[j5 _ _ _ _ _ (by omega) (by omega) (by omega)] at hx;have eO:Kp w (w.alloc (.cells #[.int .u8 100,.int .i64 x.n,.string nm,va,vb,vt] 227)) (λ_=>False):=(Kp.refl w _).alloc _;have cZ:=hr.cI eO;have hnk:nK K w.heap.size:=λh=>Nat.lt_irrefl _ (hr.dr.old _ h);obtain⟨iO,dP⟩:=hf.iF hr (fG.cI (rs:=rs) eO);have ir:=aC.new w #[.int .u8 100,.int .i64 x.n,.string nm,va,vb,vt] 227;have hba:=hat.a.keep (aF.cI eO (nK K));have hbb:=hat.b.keep (aF.cI eO (nK K));have jC:=aM (aF.cI eO (nK K)) hat.t;have hnm:=hat.nm;have hin:=hat.n;have HX:=az hx;clear hr hf eO hat hx;rw[show qs x nm va vb vt=.agg #[.int .u8 100,.int .i64 x.n,.string nm,va,vb,vt] by unfold qs;rw[hk];rfl];have HK:=az hk;clear hk;go_enter func189,ntmps189
 go_wp2_with fail
 generalize hW0:w.alloc (.cells #[.int .u8 100,.int .i64 x.n,.string nm,va,vb,vt] 227)=w0 at cZ iO dP ir hba hbb jC ⊢;clear hW0;refine(jH _ yb rs s cZ he).mono ?_;rintro e w1 ⟨rfl,fB,hr1,cU,-⟩;obtain⟨cY,bt⟩:=iO.iF cZ cU;have bg:aF (nK K) (nK K) w0 w1:=aF.to cU cZ.jX _;have eD:=(bg _ _ _ hnk ir (.inl rfl)).1;have aY:=HX.out;have wH:=eD.cell (o:=0) rfl;have gJ:=dP.trans bt;have mJ:=St.aO s;have Oy:=az (hba.keep bg);have Oz:=az (hbb.keep bg);have LP:=az (aM bg jC);clear cZ iO cU ir hba hbb jC bg HX dP bt;by_cases fA:s.step.e=0
 ·rw[af (by simp[fA])] at aY;rw[decide_eq_true fA];generalize s.step=s1 at hr1 mJ aY fA;have cx1:=eD.cell (o:=1) rfl;have X0:=eD.cell (o:=2) rfl;have P8:=eD.cell (o:=3) rfl;have Zq:=eD.cell (o:=4) rfl;have cx5:=eD.cell (o:=5) rfl;rw[UU _ _ _ _ _ HK.out] at aY;have SU:Hid (Calls prog 212 #[.pointer (some ⟨yb,0,none⟩),.pointer (some ⟨fb,0,none⟩),.agg #[.int .u8 100,.int .i64 x.n,.string nm,va,vb,vt]] w1 λe w'=>e=.returned (.bool left)/\uw K yb fb w1 w' fB s' f lp lv):=by
   have:=hL g (by omega) w1 yb fb fB s1 s' f lp lv x nm va vb vt left hr1 fA cY (by omega) ⟨hnm,Oy.out,Oz.out,LP.out,hin⟩ aY;rw[show qs x nm va vb vt=.agg #[.int .u8 100,.int .i64 x.n,.string nm,va,vb,vt] by unfold qs;rw[HK.out];rfl] at this;exact this
  clear eD aY
  go_wp2_with fail
  refine SU.out.mono ?_;rintro e w2 ⟨rfl,mo,r8,hr2,hf2,bM⟩;clear hr1 cY SU;go_wp2;go_ret;exact⟨rfl,mo,r8,hr2,hf2,gJ.trans bM⟩
 ·rw[ag fA] at aY;rw[decide_eq_false fA];injection aY with aY;injection aY with hx1 hx2;subst hx1 hx2;clear wH;go_wp2;go_ret;exact⟨rfl,fB,lv,hr1,cY,gJ⟩
end
section
open Go.RowKit
variable {K:Nat->Prop}
theorem Qe (g:Nat)(w:World)(yb fb:Nat)(rs:RS)(s s':St)(f:Fr)(lp:List Int)(lv:Value)(x:It)(nm:ByteArray)(va vb vt:Value)(left:Bool)(h1:¬x.kind=63)(h2:¬x.kind=117)(h3:¬x.kind=119)(hr:bP K w yb rs s)(he:s.e=0)(hf:iq K w fb f lp lv rs.nv)
  (eX:s.step.e≠0) (hx:aI g (cT f lp x) s=some (s',left)):Calls prog 189 #[.pointer (some ⟨yb,0,none⟩),.pointer (some ⟨fb,0,none⟩),qs x nm va vb vt] w λe w'=>e=.returned (.bool left)/\uw K yb fb w w' rs s' f lp lv:=by
 cases g with
 | zero=>cases hx
 | succ g=>
 rw[j5 _ _ _ _ _ h1 h2 h3,ag eX] at hx;injection hx with hx;injection hx with hx1 hx2;subst hx1 hx2;have eO:Kp w (w.alloc (.cells #[.int .u8 x.kind,.int .i64 x.n,.string nm,va,vb,vt] 227)) (λ_=>False):=(Kp.refl w _).alloc _;have cZ:=hr.cI eO;obtain⟨iO,dP⟩:=hf.iF hr (fG.cI (rs:=rs) eO);clear hr hf eO;have q1:¬(x.kind:Int)=63:=by omega
 have q2:¬(x.kind:Int)=117:=by omega
 have q3:¬(x.kind:Int)=119:=by omega
 clear h1 h2 h3;go_enter func189,ntmps189
 go_wp2_with fail
 refine(jH _ yb rs s cZ he).mono ?_;rintro e w1 ⟨rfl,fB,hr1,cU,-⟩;obtain⟨cY,bt⟩:=iO.iF cZ cU;rw[decide_eq_false eX];clear cZ iO cU q1 q2 q3;go_wp2;go_ret;exact⟨rfl,fB,lv,hr1,cY,dP.trans bt⟩
theorem Qf (g:Nat)(hB:∀g',g'<g->CB K g')(hL:∀g',g'<g->CL K g')(hE:∀g',g'<g->CE K g')(hC:∀g',g'<g->CC K g')(hT:∀g',g'<g->CT K g'):CI K g:=by
 intro w yb fb rs s s' f lp lv x nm va vb vt left hr he hf hlp hat hx;by_cases h1:x.kind=63
 ·exact UH g hB w yb fb rs s s' f lp lv x nm va vb vt left h1 hr he hf hlp hat hx
 by_cases h2:x.kind=117
 ·exact Hu g hB w yb fb rs s s' f lp lv x nm va vb vt left h2 hr he hf hlp hat hx
 by_cases h3:x.kind=119
 ·exact Hx g hB w yb fb rs s s' f lp lv x nm va vb vt left h3 hr he hf hlp hat hx
 by_cases eX:s.step.e≠0
 ·exact Qe g w yb fb rs s s' f lp lv x nm va vb vt left h1 h2 h3 hr he hf eX hx
 by_cases k1:x.kind=110
 ·exact UW g w yb fb rs s s' f lp lv x nm va vb vt left k1 hr he hf hlp hat hx
 by_cases k2:x.kind=112
 ·exact UX g w yb fb rs s s' f lp lv x nm va vb vt left k2 hr he hf hlp hat hx
 by_cases k3:x.kind=105
 ·exact Zw g w yb fb rs s s' f lp lv x nm va vb vt left k3 hr he hf hlp hat hx
 by_cases k4:x.kind=120
 ·exact UY g w yb fb rs s s' f lp lv x nm va vb vt left k4 hr he hf hlp hat hx
 by_cases k5:x.kind=114
 ·exact U0 g hE w yb fb rs s s' f lp lv x nm va vb vt left k5 hr he hf hlp hat hx
 by_cases k6:x.kind=99
 ·exact UZ g hC w yb fb rs s s' f lp lv x nm va vb vt left k6 hr he hf hlp hat hx
 by_cases k7:x.kind=123
 ·exact U2 g hT w yb fb rs s s' f lp lv x nm va vb vt left k7 hr he hf hlp hat hx
 by_cases k8:x.kind=100
 ·exact U4 g hL w yb fb rs s s' f lp lv x nm va vb vt left k8 hr he hf hlp hat hx
 ·exfalso
  cases g with
  | zero=>cases hx
  | succ g=>
   rw[j5 _ _ _ _ _ h1 h2 h3,af eX,Hy _ _ _ _ _ k1 k2 k3 k4 k5 k6 k7 k8] at hx
   cases hx
end
section
open Go.RowKit
variable {K:Nat->Prop}
theorem uI {l:List UInt8}{k:Nat}(hk:aN.findIdx? (· == l)=some k):aN.any (· == l)=true:=by
 obtain⟨hlt,h1,_⟩:=List.findIdx?_eq_some_iff_getElem.1 hk;exact List.any_eq_true.2 ⟨_,List.getElem_mem hlt,h1⟩
theorem uJ {l:List UInt8}(hk:aN.findIdx? (· == l)=none):aN.any (· == l)=false:=by
 rw[List.findIdx?_eq_none_iff] at hk;rw[List.any_eq_false];intro x hx;rw[hk x hx];decide
theorem si {s:St}{t:Tok}:s.aA t=decide (¬cR s.ay t<0):=by
 unfold St.aA St.find cR
 cases s.ay.findIdx? (λd=>d.name==t) with
 | none=>simp
 | some k=>first|(simp;done)|(simp;omega)
structure iA (K:Nat->Prop)(g yb:Nat)(w wr:World)(rs:RS)(s':St)(v:Value)(ws:List ByteArray)(left:Bool)(k:Nat):Prop where
 ex:∃g' jc sk,g'<=g/\bP K wr yb jc sk/\fG yb w wr rs jc/\aI g' (aT ((aD ws).drop k)) sk=some (s',left)
 row:wr.ownsRow 0 9 1 v ws.length (ws.map Value.string)
theorem bX {w w':World}{v:Value}{ws:List ByteArray}(hv:∀b,own v b->nK K b)(h:w.ownsRow 0 9 1 v ws.length (ws.map Value.string))(hk:aF (nK K) (nK K) w w'):w'.ownsRow 0 9 1 v ws.length (ws.map Value.string):=
 iY h (λb c hb hc=>(hk b _ c (hv b hb) hc (.inr rfl)).1)
theorem U5 (g:Nat)(hC:∀g',g'<g->CC K g'):CT K g:=by
 intro w yb rs s s' v ts left hr htk hl hx;obtain⟨ws,aJ,hws,hvk⟩:=htk;have hws:aD ws=ts:=hws;subst hws;have hl:ws.length<=1000:=by simpa [aD] using hl
 have HC:=az hC;have HL:Hid (iA K g yb w w rs s' v ws left 0):=⟨⟨g,rs,s,ah _,hr,To.refl _ _ _,by simpa using hx⟩,aJ⟩;obtain⟨ao,cap,rfl⟩:=aB aJ;have HV:=az hvk;clear hvk;clear hC hr hx aJ;go_enter func63,ntmps63;go_wp2
 go_loopw [4] (λi wr=>∃k:Nat,k<=ws.length/\i=.int .i64 k/\iA K g yb w wr rs s' (.slice ao ws.length cap) ws left k) (λi _=>ws.length-(intOf i).toNat)
 case atStart=>exact⟨0,Nat.zero_le _,rfl,HL.out⟩
 case round=>
  clear HL;obtain⟨k,hk,rfl,⟨g',jc,sk,hg',hrel,hto,hx⟩,aJ⟩:=hrel;have ce:wr.cell? ⟨yb,21,none⟩=some (.int .i64 sk.e):=by rw[<-hrel.e];exact hrel.blk.cell rfl
  by_cases he:sk.e=0
  ·rw[he] at ce;by_cases hlt:k<ws.length
   ·obtain⟨gd,cap',hv,hc⟩:=bE aJ (by omega);injection hv with e1 e2 e3;subst e1;clear e2 e3;have ct:=hc k (.string ws[k]) (by simp[hlt]);clear hc;rw[jJ ws k hlt] at hx;obtain⟨t,ht⟩:∃t,t=ws[k]:=⟨_,rfl⟩;rw[<-ht] at hx ct;have HTT:=az ht;clear ht
    cases g' with
    | zero=>cases hx
    | succ g'=>
     have HH:Hid (wr.ownsRow 0 9 1 (.slice (some ⟨gd,0,none⟩) ws.length cap) ws.length (ws.map Value.string)):=aJ;clear aJ;by_cases SV:t.data.toList=dK
     ·have ZA:(t.toList==[58])=true:=by rw[ByteArray.toList_eq,SV];decide
      have htl:t.toList=[58]:=by simpa using ZA
      rw[SV,tO g' sk _ he,tB] at hx
      cases X4:xC g' sk.ay ((aD ws).drop (k+1)) with
      | none=>rw[X4] at hx;cases hx
      | some res=>
       rw[X4] at hx;have X5:=az X4;have HX:=az hx;clear X4 hx
       go_wp2_with fail
       refine(dZ _ _).mono ?_;rintro e w' ⟨rfl,hw⟩;rw[hw,bR (by rw[htl];decide)];clear hw
       go_wp2_with fail
       refine(cS _ _).mono ?_;rintro e w1 ⟨rfl,hk1⟩
       go_wp2_with fail
       refine(dQ _ _).mono ?_;rintro e w2 ⟨rfl,hk2⟩;have aU:=(hrel.cI hk1).cI hk2;have bM:fG yb w w2 rs jc:=hto.trans ((fG.cI (rs:=jc) hk1).trans (fG.cI (rs:=jc) hk2));have hrow2:=bX HV.out (bX HV.out HH.out (aF.cI hk1 _)) (aF.cI hk2 _);rw[htl];clear hk1 hk2 hrel hto ce ct SV
       go_wp2_with fail
       refine(LU w2 yb jc sk.ay _ ws (k+1) (by omega) aU.blk aU.dr hrow2 hl g' res X5.out).mono ?_;rintro e w3 ⟨hk3,hP⟩;have cu:=aU.cI hk3;have dI:fG yb w w3 rs jc:=bM.trans (fG.cI (rs:=jc) hk3);have hrow3:=bX HV.out hrow2 (aF.cI hk3 _);clear aU bM hrow2 hk3
       cases res with
       | error er=>
        obtain⟨hne,tb,vb,nn,rfl⟩:=hP;have aY:=HX.out;injection aY with aY;injection aY with hx1 hx2;subst hx1;obtain⟨iz,gQ⟩:=cu.r7 er hne;have fe:=cu.blk.free 21;have ce3:w3.cell? ⟨yb,21,none⟩=some (.int .i64 jc.e):=cu.blk.cell rfl;have aej:(er != 0)=true:=by simpa using hne
        clear hx2 hne cu HX X5;go_wp2;refine bodyPost_ret (results_none rfl _ _ _) rfl ?_;exact⟨rfl,_,iz,dI.trans gQ⟩
       | ok q=>
        obtain⟨nm,b,r1⟩:=q;obtain⟨tb,vb,k',rfl,hnm,hbd,hr1,hkk,hk'⟩:=hP;obtain⟨hcb,mD⟩:=ug (by simp[aD];omega) X5.out;have SX:=az mD;clear mD;have aY:=HX.out;clear HX X5;dsimp only at aY;obtain⟨Tv,hrb,-⟩:=hbd.out;obtain⟨ab,pb,rfl⟩:=aB hrb;clear hrb
        go_wp2_with fail
        refine(jH w3 yb jc sk cu he).mono ?_;rintro e w4 ⟨rfl,Hr,iz,gQ,-⟩;have fH:aF (nK K) (nK K) w3 w4:=aF.to gQ cu.jX _;have oY:=hbd.keep fH;have hrow4:=bX HV.out hrow3 fH;have oX:=dI.trans gQ;clear cu dI gQ hrow3 hbd fH;by_cases eX:sk.step.e=0
        ·rw[af (by simp[eX])] at aY;rw[decide_eq_true eX];have hdf:sk.step.ay=sk.ay:=by unfold St.step;split <;> rfl
         go_wp2_with fail
         refine(YS w4 yb Hr sk.step tb _ b iz oY hcb (by rw[hdf,hnm];exact SX.out.imp (λh=>by omega) (λh=>h))).mono ?_;rintro e w5 ⟨rfl,rs5,oq,mF⟩;have oN:aF (nK K) (nK K) w4 w5:=aF.to mF iz.jX _;have xA:=bX HV.out hrow4 oN;rw[hnm] at oq;rw[hr1] at aY;have HN:Hid (iA K g yb w w5 rs s' (.slice (some ⟨gd,0,none⟩) ws.length cap) ws left k'):=⟨⟨g',rs5,_,by omega,oq,oX.trans mF,aY⟩,xA⟩;clear iz oY hrow4 oX oN xA oq mF aY hcb SX hr1 hnm eX hdf;have hwk:wrap64 ((k':Int)-1)=((k'-1:Nat):Int):=by unfold wrap64;omega
         go_wp2
         go_roundw
         case rel=>exact⟨k',by omega,by first|(go_num;done)|(congr 1;unfold wrap64;omega),HN.out⟩
         case measure=>simp[intOf];omega
        ·rw[ag eX] at aY;rw[decide_eq_false eX];injection aY with aY;injection aY with hx1 hx2;subst hx1;clear oY hrow4 hx2 hcb SX hr1 hnm;go_wp2;refine bodyPost_ret (results_none rfl _ _ _) rfl ?_;exact⟨rfl,Hr,iz,oX⟩
     ·rw[zy g' sk _ _ he SV] at hx;have ael:(t.toList==[58])=false:=by rw[ByteArray.toList_eq];simpa [dK] using SV
      have HX:=az hx;clear hx SV
      cases bT:bA t.toList with
      | some n=>
       have Ic:Hid (sk.step.e=0->aI g' (aT ((aD ws).drop (k+1))) (sk.step.put n)=some (s',left)):=by
        intro eX;have h:=HX.out;unfold fV at h;rw[ByteArray.toList_eq] at bT;rw[bT] at h;dsimp only at h;rw[af (by simp[eX])] at h;exact h
       have Ie:Hid (¬sk.step.e=0->aI g' (aT ((aD ws).drop (k+1))) sk.step=some (s',left)):=by
        intro eX;have h:=HX.out;unfold fV at h;rw[ByteArray.toList_eq] at bT;rw[bT] at h;dsimp only at h;rw[ag eX] at h;exact h
       have LJ:In n:=iJ bT
       go_wp2_with fail
       refine(dZ _ _).mono ?_;rintro e w' ⟨rfl,hw⟩;rw[hw,nL bT];clear hw
       go_wp2_with fail
       refine(cS _ _).mono ?_;rintro e w1 ⟨rfl,hk1⟩
       go_wp2_with fail
       refine(dQ _ _).mono ?_;rintro e w2 ⟨rfl,hk2⟩;have aU:=(hrel.cI hk1).cI hk2;have bM:fG yb w w2 rs jc:=hto.trans ((fG.cI (rs:=jc) hk1).trans (fG.cI (rs:=jc) hk2));have hrow2:=bX HV.out (bX HV.out HH.out (aF.cI hk1 _)) (aF.cI hk2 _);clear hk1 hk2 hrel hto ce ct bT HX
       go_wp2_with fail
       refine(jH w2 yb jc sk aU he).mono ?_;rintro e w3 ⟨rfl,zi,cu,dI,-⟩;have dO:aF (nK K) (nK K) w2 w3:=aF.to dI aU.jX _;have hrow3:=bX HV.out hrow2 dO;have gI:=bM.trans dI;clear aU bM hrow2 dI dO;by_cases eX:sk.step.e=0
       ·rw[decide_eq_true eX];have KI:=Ic.out eX
        go_wp2_with fail
        refine(Po w3 yb zi sk.step n cu eX LJ).mono ?_;rintro e w4 ⟨rfl,Hr,iz,gQ⟩;have fH:aF (nK K) (nK K) w3 w4:=aF.to gQ cu.jX _;have HN:Hid (iA K g yb w w4 rs s' (.slice (some ⟨gd,0,none⟩) ws.length cap) ws left (k+1)):=⟨⟨g',Hr,_,by omega,iz,gI.trans gQ,KI⟩,bX HV.out hrow3 fH⟩;clear cu gQ hrow3 gI fH iz KI eX Ic Ie;go_wp2
        go_roundw
        case rel=>exact⟨k+1,by omega,by go_num,HN.out⟩
        case measure=>simp[intOf];omega
       ·rw[decide_eq_false eX];have HN:Hid (iA K g yb w w3 rs s' (.slice (some ⟨gd,0,none⟩) ws.length cap) ws left (k+1)):=⟨⟨g',zi,_,by omega,cu,gI,Ie.out eX⟩,hrow3⟩;clear cu hrow3 gI eX Ic Ie;go_wp2
        go_roundw
        case rel=>exact⟨k+1,by omega,by go_num,HN.out⟩
        case measure=>simp[intOf];omega
      | none=>
       cases hpl:aN.findIdx? (· == t.toList) with
       | some j=>
        have Ic:Hid (sk.step.e=0->aI g' (aT ((aD ws).drop (k+1))) (sk.step.word j)=some (s',left)):=by
         intro eX;have h:=HX.out;unfold fV at h;rw[ByteArray.toList_eq] at bT hpl;rw[bT] at h;dsimp only at h;rw[hpl] at h;dsimp only at h;rw[af (by simp[eX])] at h;exact h
        have Ie:Hid (¬sk.step.e=0->aI g' (aT ((aD ws).drop (k+1))) sk.step=some (s',left)):=by
         intro eX;have h:=HX.out;unfold fV at h;rw[ByteArray.toList_eq] at bT hpl;rw[bT] at h;dsimp only at h;rw[hpl] at h;dsimp only at h;rw[ag eX] at h;exact h
        have hp1:=uI hpl;have HP:=az (zY hpl)
        go_wp2_with fail
        refine(dZ _ _).mono ?_;rintro e w' ⟨rfl,hw⟩;rw[hw,bR bT];clear hw
        go_wp2_with fail
        refine(cS _ _).mono ?_;rintro e w1 ⟨rfl,hk1⟩
        go_wp2_with fail
        refine(dQ _ _).mono ?_;rintro e w2 ⟨rfl,hk2⟩;have aU:=(hrel.cI hk1).cI hk2;have bM:fG yb w w2 rs jc:=hto.trans ((fG.cI (rs:=jc) hk1).trans (fG.cI (rs:=jc) hk2));have hrow2:=bX HV.out (bX HV.out HH.out (aF.cI hk1 _)) (aF.cI hk2 _);clear hk1 hk2 hrel hto ce ct bT HX hp1 hpl
        go_wp2_with fail
        refine(jH w2 yb jc sk aU he).mono ?_;rintro e w3 ⟨rfl,zi,cu,dI,-⟩;have dO:aF (nK K) (nK K) w2 w3:=aF.to dI aU.jX _;have hrow3:=bX HV.out hrow2 dO;have gI:=bM.trans dI;clear aU bM hrow2 dI dO;by_cases eX:sk.step.e=0
        ·rw[decide_eq_true eX];have KI:=Ic.out eX
         go_wp2_with fail
         refine(Oc w3 yb zi sk.step j t HP.out cu eX).mono ?_;rintro e w4 ⟨rfl,Hr,iz,gQ⟩;have fH:aF (nK K) (nK K) w3 w4:=aF.to gQ cu.jX _;have HN:Hid (iA K g yb w w4 rs s' (.slice (some ⟨gd,0,none⟩) ws.length cap) ws left (k+1)):=⟨⟨g',Hr,_,by omega,iz,gI.trans gQ,KI⟩,bX HV.out hrow3 fH⟩;clear cu gQ hrow3 gI fH iz KI eX Ic Ie;go_wp2
         go_roundw
         case rel=>exact⟨k+1,by omega,by go_num,HN.out⟩
         case measure=>simp[intOf];omega
        ·rw[decide_eq_false eX];have HN:Hid (iA K g yb w w3 rs s' (.slice (some ⟨gd,0,none⟩) ws.length cap) ws left (k+1)):=⟨⟨g',zi,_,by omega,cu,gI,Ie.out eX⟩,hrow3⟩;clear cu hrow3 gI eX Ic Ie;go_wp2
         go_roundw
         case rel=>exact⟨k+1,by omega,by go_num,HN.out⟩
         case measure=>simp[intOf];omega
       | none=>
        have hp1:aN.any (· == t.toList)=false:=uJ hpl
        go_wp2_with fail
        refine(dZ _ _).mono ?_;rintro e w' ⟨rfl,hw⟩;rw[hw,bR bT];clear hw
        go_wp2_with fail
        refine(cS _ _).mono ?_;rintro e w1 ⟨rfl,hk1⟩
        go_wp2_with fail
        refine(dQ _ _).mono ?_;rintro e w2 ⟨rfl,hk2⟩;have aU:=(hrel.cI hk1).cI hk2;have bM:fG yb w w2 rs jc:=hto.trans ((fG.cI (rs:=jc) hk1).trans (fG.cI (rs:=jc) hk2));have hrow2:=bX HV.out (bX HV.out HH.out (aF.cI hk1 _)) (aF.cI hk2 _);clear hk1 hk2 hrel hto ce ct hp1
        cases b1:eB.any (· == t.toList)
        ·cases b2:(t.toList==[59])
         ·cases b3:(t.toList==[123])
          ·cases b4:(t.toList==[125])
           ·have HXW:Hid (∀sx,aI g' (aT ((aD ws).drop (k+1))) sx=some (s',left)\/True->(sk.aA t.data.toList=false->aI g' (aT ((aD ws).drop (k+1))) (sk.err 3)=some (s',left))/\(sk.aA t.data.toList=true->¬sk.step.e=0->aI g' (aT ((aD ws).drop (k+1))) sk.step=some (s',left))/\(sk.aA t.data.toList=true->sk.step.e=0->∃s2 l2,aI g' (gB t.data.toList) sk.step=some (s2,l2)/\aI g' (aT ((aD ws).drop (k+1))) s2=some (s',left))):=by
             intro _ _;have h:=HX.out;unfold fV at h;rw[ByteArray.toList_eq] at bT hpl;rw[bT] at h;dsimp only at h;rw[hpl] at h;dsimp only at h;rw[af (by rw[<-ByteArray.toList_eq];show ¬(eB.any (· == t.toList)||t.toList==[59]||t.toList==[123]||t.toList==[125])=true;rw[b1,b2,b3,b4];decide)] at h;refine⟨λhkn=>?_,λhkn eX=>?_,λhkn eX=>?_⟩
             ·rw[ag hkn] at h;exact h
             ·rw[af (by rw[hkn];decide),ag eX] at h;exact h
             ·rw[af (by rw[hkn];decide),af (by simp[eX])] at h
              cases hcc:aI g' (gB t.data.toList) sk.step with
              | none=>rw[hcc] at h;cases h
              | some q=>
               obtain⟨s2,l2⟩:=q;rw[hcc] at h;exact⟨s2,l2,rfl,h⟩
            obtain⟨hX1,Ig,hX3⟩:=HXW.out sk (.inr trivial);have LO:=az hX1;have Qg:=az Ig;have zg:=az hX3;clear hX1 Ig hX3 HXW HX bT hpl
            go_wp2_with fail
            refine(pM w2 yb jc sk.ay t aU.blk aU.dr).mono ?_;rintro e w' ⟨rfl,hw⟩;rw[hw];clear hw;by_cases hfi:cR sk.ay t.data.toList<0
            ·have hkn:sk.aA t.data.toList=false:=by rw[si];simp[hfi]
             have X6:w2.cell? ⟨yb,21,none⟩=some (.int .i64 jc.e):=aU.blk.cell rfl;have fe:=aU.blk.free 21;obtain⟨cu,dI⟩:=aU.r7 3 (by decide);have dO:aF (nK K) (nK K) w2 _:=aF.to dI aU.jX _;have HN:Hid (iA K g yb w (w2.setCell ⟨yb,21,none⟩ (.int .i64 3)) rs s' (.slice (some ⟨gd,0,none⟩) ws.length cap) ws left (k+1)):=⟨⟨g',_,_,by omega,cu,bM.trans dI,LO.out hkn⟩,bX HV.out hrow2 dO⟩;clear aU bM hrow2 dI dO cu LO Qg zg hkn;go_wp2
             go_roundw
             case rel=>exact⟨k+1,by omega,by go_num,HN.out⟩
             case measure=>simp[intOf];omega
            ·have hkn:sk.aA t.data.toList=true:=by rw[si];simp;omega
             have Ic:Hid (sk.step.e=0->∃s2 l2,aI g' (gB t.data.toList) sk.step=some (s2,l2)/\aI g' (aT ((aD ws).drop (k+1))) s2=some (s',left)):=zg.out hkn;have Ie:Hid (¬sk.step.e=0->aI g' (aT ((aD ws).drop (k+1))) sk.step=some (s',left)):=Qg.out hkn;obtain⟨kd,kG,mh,-⟩:=ur hfi;rw[mh];clear LO Qg zg hkn hfi mh
             go_wp2_with fail
             refine(jH w2 yb jc sk aU he).mono ?_;rintro e w3 ⟨rfl,zi,cu,dI,-⟩;have dO:aF (nK K) (nK K) w2 w3:=aF.to dI aU.jX _;have hrow3:=bX HV.out hrow2 dO;have gI:=bM.trans dI;clear aU bM hrow2 dI dO;by_cases eX:sk.step.e=0
             ·rw[decide_eq_true eX];have KI:=Ic.out eX;obtain⟨s2,l2,hxc,KI⟩:=KI
              go_wp2_with fail
              refine(HC.out g' (by omega) w3 yb zi sk.step s2 t l2 cu eX hxc).mono ?_;rintro e w4 ⟨rfl,Hr,iz,gQ⟩;have fH:aF (nK K) (nK K) w3 w4:=aF.to gQ cu.jX _;have HN:Hid (iA K g yb w w4 rs s' (.slice (some ⟨gd,0,none⟩) ws.length cap) ws left (k+1)):=⟨⟨g',Hr,_,by omega,iz,gI.trans gQ,KI⟩,bX HV.out hrow3 fH⟩;clear cu gQ hrow3 gI fH iz KI eX Ic Ie;go_wp2
              go_roundw
              case rel=>exact⟨k+1,by omega,by go_num,HN.out⟩
              case measure=>simp[intOf];omega
             ·rw[decide_eq_false eX];have HN:Hid (iA K g yb w w3 rs s' (.slice (some ⟨gd,0,none⟩) ws.length cap) ws left (k+1)):=⟨⟨g',zi,_,by omega,cu,gI,Ie.out eX⟩,hrow3⟩;clear cu hrow3 gI eX Ic Ie;go_wp2
              go_roundw
              case rel=>exact⟨k+1,by omega,by go_num,HN.out⟩
              case measure=>simp[intOf];omega
           ·have Ih:Hid (aI g' (aT ((aD ws).drop (k+1))) (sk.err 4)=some (s',left)):=by
             have h:=HX.out;unfold fV at h;rw[ByteArray.toList_eq] at bT hpl;rw[bT] at h;dsimp only at h;rw[hpl] at h;dsimp only at h;rw[ag (by rw[<-ByteArray.toList_eq];simp[eH,fu,dS, *])] at h;exact h
            have X6:w2.cell? ⟨yb,21,none⟩=some (.int .i64 jc.e):=aU.blk.cell rfl;have fe:=aU.blk.free 21;obtain⟨cu,dI⟩:=aU.r7 4 (by decide);have dO:aF (nK K) (nK K) w2 _:=aF.to dI aU.jX _;have HN:Hid (iA K g yb w (w2.setCell ⟨yb,21,none⟩ (.int .i64 4)) rs s' (.slice (some ⟨gd,0,none⟩) ws.length cap) ws left (k+1)):=⟨⟨g',_,_,by omega,cu,bM.trans dI,Ih.out⟩,bX HV.out hrow2 dO⟩;clear aU bM hrow2 dI dO cu Ih HX bT hpl;go_wp2
            go_roundw
            case rel=>exact⟨k+1,by omega,by go_num,HN.out⟩
            case measure=>simp[intOf];omega
          ·have Ih:Hid (aI g' (aT ((aD ws).drop (k+1))) (sk.err 4)=some (s',left)):=by
            have h:=HX.out;unfold fV at h;rw[ByteArray.toList_eq] at bT hpl;rw[bT] at h;dsimp only at h;rw[hpl] at h;dsimp only at h;rw[ag (by rw[<-ByteArray.toList_eq];simp[eH,fu,dS, *])] at h;exact h
           have X6:w2.cell? ⟨yb,21,none⟩=some (.int .i64 jc.e):=aU.blk.cell rfl;have fe:=aU.blk.free 21;obtain⟨cu,dI⟩:=aU.r7 4 (by decide);have dO:aF (nK K) (nK K) w2 _:=aF.to dI aU.jX _;have HN:Hid (iA K g yb w (w2.setCell ⟨yb,21,none⟩ (.int .i64 4)) rs s' (.slice (some ⟨gd,0,none⟩) ws.length cap) ws left (k+1)):=⟨⟨g',_,_,by omega,cu,bM.trans dI,Ih.out⟩,bX HV.out hrow2 dO⟩;clear aU bM hrow2 dI dO cu Ih HX bT hpl;go_wp2
           go_roundw
           case rel=>exact⟨k+1,by omega,by go_num,HN.out⟩
           case measure=>simp[intOf];omega
         ·have Ih:Hid (aI g' (aT ((aD ws).drop (k+1))) (sk.err 4)=some (s',left)):=by
           have h:=HX.out;unfold fV at h;rw[ByteArray.toList_eq] at bT hpl;rw[bT] at h;dsimp only at h;rw[hpl] at h;dsimp only at h;rw[ag (by rw[<-ByteArray.toList_eq];simp[eH,fu,dS, *])] at h;exact h
          have X6:w2.cell? ⟨yb,21,none⟩=some (.int .i64 jc.e):=aU.blk.cell rfl;have fe:=aU.blk.free 21;obtain⟨cu,dI⟩:=aU.r7 4 (by decide);have dO:aF (nK K) (nK K) w2 _:=aF.to dI aU.jX _;have HN:Hid (iA K g yb w (w2.setCell ⟨yb,21,none⟩ (.int .i64 4)) rs s' (.slice (some ⟨gd,0,none⟩) ws.length cap) ws left (k+1)):=⟨⟨g',_,_,by omega,cu,bM.trans dI,Ih.out⟩,bX HV.out hrow2 dO⟩;clear aU bM hrow2 dI dO cu Ih HX bT hpl;go_wp2
          go_roundw
          case rel=>exact⟨k+1,by omega,by go_num,HN.out⟩
          case measure=>simp[intOf];omega
        ·have Ih:Hid (aI g' (aT ((aD ws).drop (k+1))) (sk.err 4)=some (s',left)):=by
          have h:=HX.out;unfold fV at h;rw[ByteArray.toList_eq] at bT hpl;rw[bT] at h;dsimp only at h;rw[hpl] at h;dsimp only at h;rw[ag (by rw[<-ByteArray.toList_eq];simp[eH,fu,dS, *])] at h;exact h
         have X6:w2.cell? ⟨yb,21,none⟩=some (.int .i64 jc.e):=aU.blk.cell rfl;have fe:=aU.blk.free 21;obtain⟨cu,dI⟩:=aU.r7 4 (by decide);have dO:aF (nK K) (nK K) w2 _:=aF.to dI aU.jX _;have HN:Hid (iA K g yb w (w2.setCell ⟨yb,21,none⟩ (.int .i64 4)) rs s' (.slice (some ⟨gd,0,none⟩) ws.length cap) ws left (k+1)):=⟨⟨g',_,_,by omega,cu,bM.trans dI,Ih.out⟩,bX HV.out hrow2 dO⟩;clear aU bM hrow2 dI dO cu Ih HX bT hpl;go_wp2
         go_roundw
         case rel=>exact⟨k+1,by omega,by go_num,HN.out⟩
         case measure=>simp[intOf];omega
   ·rw[List.drop_of_length_le (by simp[aD];omega)] at hx
    cases g' with
    | zero=>cases hx
    | succ g'=>
     rw[Gy] at hx;injection hx with hx;injection hx with hx1 hx2;subst hx1;clear hx2 aJ;go_wp2
     go_end0
     exact⟨rfl,jc,hrel,hto⟩
  ·have he':(sk.e==0)=false:=by simpa using he
   cases g' with
   | zero=>cases hx
   | succ g'=>
    rw[yh _ _ _ he] at hx;injection hx with hx;injection hx with hx1 hx2;subst hx1;clear hx2 aJ he;by_cases hlt:k<ws.length
    all_goals
     go_wp2
     go_end0
     exact⟨rfl,jc,hrel,hto⟩
end
section
open Go.RowKit
variable {K:Nat->Prop}
structure Qh (K:Nat->Prop)(g:Nat):Prop where
 b:CB K g
 i:CI K g
 l:CL K g
 e:CE K g
 c:CC K g
 t:CT K g
theorem Qi:∀g,Qh K g:=by
 intro g
 induction g using Nat.strongRecOn with
 | ind g ih=>
  have hb:=λg' (h:g'<g)=>(ih g' h).b;have hi:=λg' (h:g'<g)=>(ih g' h).i;have hl:=λg' (h:g'<g)=>(ih g' h).l;have he:=λg' (h:g'<g)=>(ih g' h).e;have hc:=λg' (h:g'<g)=>(ih g' h).c;have ht:=λg' (h:g'<g)=>(ih g' h).t;exact⟨Ug g hi,Qf g hb hl he hc ht,Um g hb,P4 g hb,Uj g he,U5 g hc⟩
structure lK (K:Nat->Prop)(w:World)(yb:Nat)(rs:RS)(s:St):Prop where
 rel:bP K w yb rs s
 inv:aR w yb rs s.rs.reverse
def jP (s:St):St:={s with e:=0,steps:=0,depth:=0,out:=⟨#[]⟩}
def BX (rs:RS):RS:={rs with e:=0,st:=0,out:=⟨#[]⟩,d:={rs.d with dp:=0}}
def yD (w:World)(yb:Nat):World:=(((w.setCell ⟨yb,21,none⟩ (.int .i64 0)).setCell ⟨yb,22,none⟩ (.int .i64 0)).setCell ⟨yb,23,none⟩ (.int .i64 0)).setCell ⟨yb,24,none⟩ (.string ⟨#[]⟩)
theorem lK.fresh {w:World}{yb:Nat}{rs:RS}{s:St}(h:lK K w yb rs s):bP K (yD w yb) yb (BX rs) (jP s)/\fG yb w (yD w yb) rs (BX rs):=by
 have hi:=h.inv;have hk:Kp w (yD w yb) (λb=>b=yb):=((((Kp.refl w (λb=>b=yb)).set (a:=⟨yb,21,none⟩) (λ_=>rfl) _).set (a:=⟨yb,22,none⟩) (λ_=>rfl) _).set (a:=⟨yb,23,none⟩) (λ_=>rfl) _).set (a:=⟨yb,24,none⟩) (λ_=>rfl) _;have hb:=hi.blk;have hg:=h.rel.good;refine⟨⟨⟨s.rs.reverse,⟨(((hb.set 21 (.int .i64 0)).set 22 (.int .i64 0)).set 23 (.int .i64 0)).set 24 (.string ⟨#[]⟩),?_,hi.len⟩,λ_=>rfl⟩,rfl,rfl,h.rel.mem,rfl,h.rel.ids,h.rel.hot,h.rel.blt,rfl,h.rel.dr.kp hk (vZ.one hb (by decide) (by decide)) (λb c e hc=>by subst e;exact ax (hc.inj hb).1 (by decide)),?_⟩,⟨hk.mono (λb _ e=>.inl e),λ_ h=>.inl h⟩⟩
 ·exact hk.row hi.row (λb hb' e=>by subst e;exact aH hi.row hb (by decide) hb')
 ·exact⟨⟨hg.g.ins,hg.g.sP,hg.g.len,by show(0:Nat)<=300;decide⟩,by show(0:Int)<=0;decide,by show(0:Int)<=2001;decide,λ_=>by show(0:Int)<=2000;decide,by show(0:Int)<=0;decide,by show(0:Int)<=20;decide,hg.b0,hg.b1,hg.cb⟩
theorem iP:∀(l cur:List UInt8),(Lib.fieldsGo cur l).length<=l.length+1
 | [],cur=>by unfold Lib.fieldsGo;split <;> simp
 | b::l,cur=>by
  unfold Lib.fieldsGo;have h1:=iP l [];have h2:=iP l (cur++[b])
  split
  ·split <;> simp <;> omega
  ·simp only[aq];omega
theorem bP.Qj {w:World}{yb:Nat}{rs:RS}{s:St}(h:bP K w yb rs s):lK K (w.setCell ⟨yb,0,none⟩ (.slice none 0 0)) yb {rs with nv:=.slice none 0 0} {s with rs:=[]}/\fG yb w (w.setCell ⟨yb,0,none⟩ (.slice none 0 0)) rs {rs with nv:=.slice none 0 0}:=by
 obtain⟨ns,hi,hns⟩:=h.inv;have hk:Kp w (w.setCell ⟨yb,0,none⟩ (.slice none 0 0)) (λb=>b=yb):=Kp.one _ _ _ _;have hb:=hi.blk;have hg:=h.good;have hI:aR (w.setCell ⟨yb,0,none⟩ (.slice none 0 0)) yb {rs with nv:=.slice none 0 0} []:=⟨hb.set 0 _,World.ownsRow_nil _ _ _ _,by simp⟩;refine⟨⟨⟨⟨[],hI,λ_=>rfl⟩,h.e,h.st,h.mem,h.out,h.ids,h.hot,h.blt,h.dp,h.dr.kp hk (vZ.one hb (by decide) (by decide)) (λb c e hc=>by subst e;exact ax (hc.inj hb).1 (by decide)),⟨⟨by simp,hg.g.sP,by simp,hg.g.tQ⟩,hg.s0,hg.s1,hg.s2,hg.d0,hg.d1,hg.b0,hg.b1,hg.cb⟩⟩,hI⟩,⟨hk.mono (λb _ e=>.inl e),λk hk=>?_⟩⟩;rcases hk with e|e
 ·simp[own,Value.ownBlock] at e
 ·exact .inl (.inr e)
theorem lK.cI {w w':World}{yb:Nat}{rs:RS}{s:St}(h:lK K w yb rs s)(hk:Kp w w' (λ_=>False)):lK K w' yb rs s:=⟨h.rel.cI hk,h.inv.kp hk⟩
theorem EO (w:World)(yb:Nat)(t:ByteArray)(hv:cz t.data.toList=false):
  Calls prog 52 #[.pointer (some ⟨yb,0,none⟩),.string t] w λe w'=>e=.returned (.tuple #[.string ⟨#[]⟩,.int .i64 2])/\Kp w w' (λ_=>False):=by
 go_enter func52,ntmps52
 go_wp2_with fail
 refine(z7 _ _ hv).mono ?_;rintro e w1 ⟨v,hk,rfl⟩;go_wp2;go_ret2;exact⟨rfl,hk⟩
theorem Ii (w:World)(yb:Nat)(rs:RS)(s s1:St)(left:Bool)(t:ByteArray)(g:Nat)(hS:lK K w yb rs s)(hv:cz t.data.toList=true)(hx:aI g (aT (Lib.fields t.data.toList)) (jP s)=some (s1,left)):
  Calls prog 52 #[.pointer (some ⟨yb,0,none⟩),.string t] w λe w'=>e=.returned (.tuple #[.string s1.out,.int .i64 s1.e])/\∃rs',lK K w' yb rs' (if s1.e=0 then s1 else {s1 with rs:=[]})/\fG yb w w' rs rs':=by
 go_enter func52,ntmps52
 go_wp2_with fail
 refine(wK _ _ hv).mono ?_;rintro e w1 ⟨v,hk,rfl,ts,aJ,hts⟩;have hS1:=hS.cI hk;have hlen:ts.length<=401:=by
  have h1:=iP t.data.toList [];have h2:(ts.map (λt=>t.data.toList)).length=(Lib.fields t.data.toList).length:=by rw[hts]
  have h3:t.data.toList.length<=400:=by unfold cz at hv;rw[Bool.and_eq_true] at hv;exact of_decide_eq_true hv.1
  simp only[List.length_map] at h2;have:(Lib.fields t.data.toList).length<=t.data.toList.length+1:=h1;omega
 have c1:w1.cell? ⟨yb,21,none⟩=some (.int .i64 rs.e):=hS1.inv.blk.cell rfl;have c2:w1.cell? ⟨yb,22,none⟩=some (.int .i64 rs.st):=hS1.inv.blk.cell rfl;have c3:w1.cell? ⟨yb,23,none⟩=some (.int .i64 rs.d.dp):=hS1.inv.blk.cell rfl;have c4:w1.cell? ⟨yb,24,none⟩=some (.string rs.out):=hS1.inv.blk.cell rfl;have f1:=hS1.inv.blk.free 21;have f2:=hS1.inv.blk.free 22;have f3:=hS1.inv.blk.free 23;have f4:=hS1.inv.blk.free 24;obtain⟨hr2,bM⟩:=hS1.fresh;have jw:fG yb w (yD w1 yb) rs (BX rs):=(fG.cI (rs:=rs) hk).trans bM;have aZ:=(Joins.ownsRow_le aJ (Nat.zero_le _));have U6:zQ K w1 v (Lib.fields t.data.toList):=⟨ts,aZ,hts,λb hb hK=>by have h1:=hS.rel.dr.old b hK;have h2:=(aJ.lt b hb).1;omega⟩;have U7:=aM (aF.to bM hS1.rel.jX (nK K)) U6;have HT:=az ((Qi g).t _ yb _ _ s1 v _ left hr2 U7 (by rw[<-hts];simp;omega) hx);clear hr2 bM aZ U6 U7 aJ hts hS1 hk hx
 go_wp2_with fail
 refine HT.out.mono ?_;rintro e w2 ⟨rfl,mo,aU,dI⟩;have gI:=jw.trans dI;clear jw dI c1 c2 c3 c4 f1 f2 f3 f4 hv HT;have k1:w2.cell? ⟨yb,21,none⟩=some (.int .i64 s1.e):=by rw[<-aU.e];exact aU.blk.cell rfl
 have k4:w2.cell? ⟨yb,24,none⟩=some (.string s1.out):=by rw[<-aU.out];exact aU.blk.cell rfl
 have k0:w2.cell? ⟨yb,0,none⟩=some mo.nv:=aU.blk.cell rfl;have f0:=aU.blk.free 0;by_cases he:s1.e=0
 ·have he':(s1.e != 0)=false:=by simp[he]
  have iw:lK K w2 yb mo s1:=by
   obtain⟨ns,hi,hns⟩:=aU.inv;exact⟨aU,by rw[<-hns he];exact hi⟩
  have HE:=az he;clear he;go_wp2
  go_quiet (fail)
  go_wp2;go_ret2;refine⟨rfl,mo,?_,gI.trans (fG.cI ((Kp.refl _ _).drewN _))⟩
  try rw[ag HE.out]
  exact iw.cI ((Kp.refl _ _).drewN _)
 ·have he':(s1.e != 0)=true:=by simp[he]
  obtain⟨iw,gQ⟩:=aU.Qj;have HE:=az he;have YY:=az iw;clear he iw;go_wp2
  go_quiet (fail)
  go_wp2;go_ret2;refine⟨rfl,{mo with nv:=.slice none 0 0},?_,(gI.trans gQ).trans (fG.cI ((Kp.refl _ _).drewN _))⟩
  try rw[af HE.out]
  exact YY.out.cI ((Kp.refl _ _).drewN _)
end
end Go.Proofs.YteainaiebcphlaaGreatDoor
