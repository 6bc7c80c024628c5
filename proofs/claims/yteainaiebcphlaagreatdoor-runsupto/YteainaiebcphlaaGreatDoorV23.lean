import Derived.Test.YteainaiebcphlaaGreatDoorV22
namespace Go.Proofs.YteainaiebcphlaaGreatDoor
set_option maxRecDepth 1000000
set_option maxHeartbeats 4000000
set_option linter.all false
section
open Go.RowKit
variable {K:Nat->Prop}
theorem RRel.setDp {w:World} {yb:Nat} {rs:RS} {s:St} (h:RRel K w yb rs s) (n:Int) (h0:0<=n) (h1:n<=20):RRel K (w.setCell ⟨yb,23,none⟩ (.int .i64 n)) yb { rs with d:={ rs.d with dp:=n } } { s with depth:=n }/\STo yb w (w.setCell ⟨yb,23,none⟩ (.int .i64 n)) rs { rs with d:={ rs.d with dp:=n } }:=by
 obtain⟨ns,hi,hns⟩:=h.inv;have hk:Kp w (w.setCell ⟨yb,23,none⟩ (.int .i64 n)) (fun b=>b=yb):=Kp.one _ _ _ _;have hb:=hi.blk;refine⟨⟨⟨ns,⟨hi.blk.set 23 _,ownsRow_setCell_other hi.row (own_ne hi.row hi.blk (by decide)) _,hi.len⟩,hns⟩,h.e,h.st,h.mem,h.out,h.ids,h.hot,h.blt,rfl,h.dr.kp hk (NoB.one hb (by decide) (by decide)) (fun b c e hc=>by subst e;exact absurd (hc.inj hb).1 (by decide)),?_⟩,⟨hk.mono (fun b _ e=>.inl e),fun _ h=>.inl h⟩⟩;have hg:=h.good;exact⟨hg.g,hg.s0,hg.s1,hg.s2,h0,h1,hg.b0,hg.b1,hg.cb⟩
theorem RRel.setEr {w:World} {yb:Nat} {rs:RS} {s:St} (h:RRel K w yb rs s) (n:Int) (h0:n ≠ 0):RRel K (w.setCell ⟨yb,21,none⟩ (.int .i64 n)) yb { rs with e:=n } (s.err n)/\STo yb w (w.setCell ⟨yb,21,none⟩ (.int .i64 n)) rs { rs with e:=n }:=by
 obtain⟨ns,hi,hns⟩:=h.inv;have hk:Kp w (w.setCell ⟨yb,21,none⟩ (.int .i64 n)) (fun b=>b=yb):=Kp.one _ _ _ _;have hb:=hi.blk;refine⟨⟨⟨ns,⟨hi.blk.set 21 _,ownsRow_setCell_other hi.row (own_ne hi.row hi.blk (by decide)) _,hi.len⟩,fun h=>absurd h h0⟩,rfl,h.st,h.mem,h.out,h.ids,h.hot,h.blt,h.dp,h.dr.kp hk (NoB.one hb (by decide) (by decide)) (fun b c e hc=>by subst e;exact absurd (hc.inj hb).1 (by decide)),?_⟩,⟨hk.mono (fun b _ e=>.inl e),fun _ h=>.inl h⟩⟩;have hg:=h.good;exact⟨hg.g,hg.s0,hg.s1,fun h=>absurd h h0,hg.d0,hg.d1,hg.b0,hg.b1,hg.cb⟩
theorem count_e {g:Nat} {s s':St} {k:Nat} (h:s.count g k=some s'):s'.e=s.e:=by
 unfold St.count at h
 repeat' split at h
 all_goals first
  | (cases h;done)
  | (injection h with h;subst h;rfl)
theorem enter_tail {g:Nat} {f:Fr} {s1 s':St} {left:Bool} (h:(match (some s1:Option St) with
      | none=>none
      | some s1=>match xRun g (jBody f [] f.body) { s1 with depth:=s1.depth+1 } with
        | none=>none
        | some (s2,_)=>some ({ s2 with depth:=s2.depth - 1 },false))=some (s',left)):∃ s2 left2,xRun g (jBody f [] f.body) { s1 with depth:=s1.depth+1 }=some (s2,left2)/\s'={ s2 with depth:=s2.depth - 1 }:=by
  dsimp only at h
  split at h
  · cases h
  · rename_i s2 left2 hx
    injection h with h;injection h with h1 h2;exact⟨s2,left2,hx,h1.symm⟩
structure ComeAt (K:Nat->Prop) (yb fb:Nat) (w wr:World) (rs:RS) (s1:St) (f:Fr) (lv:Value):Prop where
 rel:RRel K wr yb rs s1
 fr:FrAt K wr fb f [] lv rs.nv
 tt:FTo yb fb w wr rs rs lv lv
theorem enterX (g:Nat) (hB:∀ g',g' < g->CB K g'):CE K g:=by
 intro w yb fb rs s s' f lv left hr he hf hx
 cases g with
 | zero=>cases hx
 | succ g=>
  have HB:=hide hB;clear hB;have cd:w.cell? ⟨yb,23,none⟩=some (.int .i64 s.depth):=by rw[<-hr.dp];exact hr.blk.cell rfl
  have fd:=hr.blk.free 23;have fe:=hr.blk.free 21;have ce:w.cell? ⟨yb,21,none⟩=some (.int .i64 s.e):=by rw[<-hr.e];exact hr.blk.cell rfl
  have hd0:=hr.good.d0;have hd1:=hr.good.d1;rw[x_enter] at hx;by_cases h20:20<=s.depth
  ·rw[if_pos h20] at hx;injection hx with hx;injection hx with hx1 hx2;subst hx1;clear hx2;rw[show s.depth=20 by omega] at cd;have HF:=hide hf;clear h20 hd0 hd1 hf;go_enter Tryz.func143,Tryz.ntmps143;go_wp2;refine bodyPost_ret (results_none rfl _ _ _) rfl ?_;obtain⟨hr1,hto1⟩:=hr.setEr 8 (by decide);obtain⟨hf1,hto2⟩:=HF.out.sto hr hto1;exact⟨rfl,_,lv,hr1,hf1,hto2⟩
  ·rw[if_neg h20] at hx;obtain⟨nm,vb,hbf,hnm,hbd⟩:=hf.blk;have q0:w.cell? ⟨fb,0,none⟩=some (.int .i64 f.id):=hbf.cell rfl;have q1:w.cell? ⟨fb,1,none⟩=some (.string nm):=hbf.cell rfl;have q2:w.cell? ⟨fb,2,none⟩=some vb:=hbf.cell rfl;have hfy:¬ fb=yb:=by rintro rfl;exact absurd (hbf.inj hr.blk).1 (by decide)
   have HX:=hide hx;have HC:Hid (ComeAt K yb fb w w rs s f lv):=⟨hr,hf,FTo.refl _ _ _ _ _⟩;have HE:=hide he;clear hx he hf ce fe;go_enter Tryz.func143,Tryz.ntmps143
   go_wp2_with fail
   refine (findS _ _ _ _ nm hr.blk hr.dr).mono ?_;rintro e w' ⟨rfl,hw⟩;rw[hw];clear hw;rw[hnm];by_cases hfi:findI s.defs f.name < 0
   ·have hn:=findI_none' hfi;have HCO:Hid (xCome g f s=some s):=by unfold Hid xCome St.find;rw[hn]
    rw[show findI s.defs f.name = -1 by unfold findI;rw[hn]];clear hn;go_wp2
    go_quiet (fail)
    have hK:Kp w (w.drewN nq) (fun _=>False):=(Kp.refl w (fun _=>False)).drewN nq;have hC:ComeAt K yb fb w (w.drewN nq) rs s f lv:=by
     obtain⟨hF,hTO⟩:=HC.out.fr.sto HC.out.rel (STo.kpF (rs:=rs) hK);exact⟨HC.out.rel.kpF hK,hF,hTO⟩
    have hbdW:=hbd.keep (Keeps.kpF hK (nK K));have HE1:=HE;have hKE:=HX.out;rw[HCO.out] at hKE;obtain⟨s2,left2,hx2,hs2⟩:=enter_tail hKE;have HX2:=hide hx2;have HS2:=hide hs2;clear hKE HCO hx2 hs2 HX;obtain⟨hR2,hTO2⟩:=hC.rel.setDp (s.depth+1) (by omega) (by omega);obtain⟨hF3,hTO3⟩:=hC.fr.sto hC.rel hTO2;have hTO4:=hC.tt.trans hTO3;have hbd4:=hbdW.keep (Keeps.to hTO2 hC.rel.noB (nK K));have HR2:=hide hR2;have HF3:=hide hF3;have HTO4:=hide hTO4;have HBD4:=hide hbd4;clear hR2 hF3 hTO2 hTO3 hTO4 hbd4 hbdW hC
    go_wp2_with fail
    refine (HB.out g (by omega) _ yb fb _ _ s2 f [] lv vb f.body left2 HR2.out HE1.out HF3.out (by simp;exact HR2.out.good.s0) HBD4.out HX2.out).mono ?_;rintro e w9 ⟨rfl,rs1,lv1,hrel1,hf1,hto1⟩;have hdp:=(xRun_keep _ _ _ _ _ HX2.out).1;dsimp only at hdp;have cd1:w9.cell? ⟨yb,23,none⟩=some (.int .i64 s2.depth):=by rw[<-hrel1.dp];exact hrel1.blk.cell rfl
    have fd1:=hrel1.blk.free 23;rw[hdp] at cd1;obtain⟨hR5,hTO5⟩:=hrel1.setDp s.depth (by omega) (by omega);obtain⟨hF6,hTO6⟩:=hf1.sto hrel1 hTO5;have hTO7:=HTO4.out.trans (hto1.trans hTO6);have HS2':Hid (s2.depth - 1=s.depth):=by unfold Hid;omega
    clear hdp hrel1 hf1 hto1 hTO5 hTO6;go_wp2
    go_end0
    rw[HS2.out,HS2'.out];exact⟨rfl,{ rs1 with d:={ rs1.d with dp:=s.depth } },lv1,by simpa using hR5,hF6,by simpa using hTO7⟩
   ·obtain⟨kd,hkd,hfk,hfx⟩:=findI_lt hfi;obtain⟨gd,capd,xs,nm',vb',vt',hD⟩:=hr.dr.cells kd hkd;have hdl:=hr.dr.len;have cy:w.cell? ⟨yb,17,none⟩=some (.slice (some ⟨gd,0,none⟩) s.defs.length capd):=by rw[<-hD.dv];exact hr.blk.cell rfl
    have k1:=hD.cell _ _ hD.x1;rw[hfk];have HCO:Hid (xCome g f s=if s.defs[kd].id=f.id then s.count g kd else some s):=by unfold Hid xCome St.find;rw[hfx];simp[hkd]
    clear hfk hfx hfi hD;by_cases hid:s.defs[kd].id=f.id
    ·rw[hid] at k1;have hKE:=HX.out;rw[HCO.out,if_pos hid] at hKE
     cases hcn:s.count g kd with
     | none=>rw[hcn] at hKE;cases hKE
     | some s1=>
      rw[hcn] at hKE;obtain⟨s2,left2,hx2,hs2⟩:=enter_tail hKE;have HX2:=hide hx2;have HS2:=hide hs2;have HCN:=hide hcn;have hc1:=St.count_keep hcn;have HE1:Hid (s1.e=0):=by unfold Hid;rw[count_e hcn];exact HE.out
      rw[hc1.1] at HX2;clear hKE HCO hx2 hs2 HX hcn hid hc1;go_wp2
      go_quiet (fail)
      have hK:Kp w (w.drewN nq) (fun _=>False):=(Kp.refl w (fun _=>False)).drewN nq
      go_wp2_with fail
      refine (countS _ yb rs s s1 kd g (hr.kpF hK) hkd HCN.out).mono ?_;rintro e w1 ⟨rfl,hrel1,hto1⟩;have hC:ComeAt K yb fb w w1 rs s1 f lv:=by
       have hto0:STo yb w w1 rs rs:=(STo.kpF (rs:=rs) hK).trans hto1;obtain⟨hF,hTO⟩:=HC.out.fr.sto HC.out.rel hto0;exact⟨hrel1,hF,hTO⟩
      have hbdW:=(hbd.keep (Keeps.kpF hK (nK K))).keep (Keeps.to hto1 (hr.kpF hK).noB (nK K));have hblk1:Blk w1 fb 191 #[.int .i64 f.id,.string nm,vb,lv]:=hto1.kp.blk (hK.blk hbf (by simp)) ((hr.kpF hK).ndef (hK.blk hbf (by simp)) (by decide) (by decide) (by decide));have q2':w1.cell? ⟨fb,2,none⟩=some vb:=hblk1.cell rfl;have cd':w1.cell? ⟨yb,23,none⟩=some (.int .i64 s.depth):=by rw[<-hr.dp];exact hrel1.blk.cell rfl
      have fd':=hrel1.blk.free 23;clear hblk1 hto1 hrel1 k1 cy cd fd q0 q1 q2;obtain⟨hR2,hTO2⟩:=hC.rel.setDp (s.depth+1) (by omega) (by omega);obtain⟨hF3,hTO3⟩:=hC.fr.sto hC.rel hTO2;have hTO4:=hC.tt.trans hTO3;have hbd4:=hbdW.keep (Keeps.to hTO2 hC.rel.noB (nK K));have HR2:=hide hR2;have HF3:=hide hF3;have HTO4:=hide hTO4;have HBD4:=hide hbd4;clear hR2 hF3 hTO2 hTO3 hTO4 hbd4 hbdW hC
      go_wp2_with fail
      refine (HB.out g (by omega) _ yb fb _ _ s2 f [] lv vb f.body left2 HR2.out HE1.out HF3.out (by simp;exact HR2.out.good.s0) HBD4.out HX2.out).mono ?_;rintro e w9 ⟨rfl,rs1,lv1,hrel1,hf1,hto1⟩;have hdp:=(xRun_keep _ _ _ _ _ HX2.out).1;dsimp only at hdp;have cd1:w9.cell? ⟨yb,23,none⟩=some (.int .i64 s2.depth):=by rw[<-hrel1.dp];exact hrel1.blk.cell rfl
      have fd1:=hrel1.blk.free 23;rw[hdp] at cd1;obtain⟨hR5,hTO5⟩:=hrel1.setDp s.depth (by omega) (by omega);obtain⟨hF6,hTO6⟩:=hf1.sto hrel1 hTO5;have hTO7:=HTO4.out.trans (hto1.trans hTO6);have HS2':Hid (s2.depth - 1=s.depth):=by unfold Hid;omega
      clear hdp hrel1 hf1 hto1 hTO5 hTO6;go_wp2
      go_end0
      rw[HS2.out,HS2'.out];exact⟨rfl,{ rs1 with d:={ rs1.d with dp:=s.depth } },lv1,by simpa using hR5,hF6,by simpa using hTO7⟩
    ·have HCO:Hid (xCome g f s=some s):=by unfold Hid;rw[HCO.out,if_neg hid]
     go_wp2
     go_quiet (fail)
     have hK:Kp w (w.drewN nq) (fun _=>False):=(Kp.refl w (fun _=>False)).drewN nq;have hC:ComeAt K yb fb w (w.drewN nq) rs s f lv:=by
      obtain⟨hF,hTO⟩:=HC.out.fr.sto HC.out.rel (STo.kpF (rs:=rs) hK);exact⟨HC.out.rel.kpF hK,hF,hTO⟩
     have hbdW:=hbd.keep (Keeps.kpF hK (nK K));have HE1:=HE;have hKE:=HX.out;rw[HCO.out] at hKE;obtain⟨s2,left2,hx2,hs2⟩:=enter_tail hKE;have HX2:=hide hx2;have HS2:=hide hs2;clear hKE HCO hx2 hs2 HX;obtain⟨hR2,hTO2⟩:=hC.rel.setDp (s.depth+1) (by omega) (by omega);obtain⟨hF3,hTO3⟩:=hC.fr.sto hC.rel hTO2;have hTO4:=hC.tt.trans hTO3;have hbd4:=hbdW.keep (Keeps.to hTO2 hC.rel.noB (nK K));have HR2:=hide hR2;have HF3:=hide hF3;have HTO4:=hide hTO4;have HBD4:=hide hbd4;clear hR2 hF3 hTO2 hTO3 hTO4 hbd4 hbdW hC
     go_wp2_with fail
     refine (HB.out g (by omega) _ yb fb _ _ s2 f [] lv vb f.body left2 HR2.out HE1.out HF3.out (by simp;exact HR2.out.good.s0) HBD4.out HX2.out).mono ?_;rintro e w9 ⟨rfl,rs1,lv1,hrel1,hf1,hto1⟩;have hdp:=(xRun_keep _ _ _ _ _ HX2.out).1;dsimp only at hdp;have cd1:w9.cell? ⟨yb,23,none⟩=some (.int .i64 s2.depth):=by rw[<-hrel1.dp];exact hrel1.blk.cell rfl
     have fd1:=hrel1.blk.free 23;rw[hdp] at cd1;obtain⟨hR5,hTO5⟩:=hrel1.setDp s.depth (by omega) (by omega);obtain⟨hF6,hTO6⟩:=hf1.sto hrel1 hTO5;have hTO7:=HTO4.out.trans (hto1.trans hTO6);have HS2':Hid (s2.depth - 1=s.depth):=by unfold Hid;omega
     clear hdp hrel1 hf1 hto1 hTO5 hTO6;go_wp2
     go_end0
     rw[HS2.out,HS2'.out];exact⟨rfl,{ rs1 with d:={ rs1.d with dp:=s.depth } },lv1,by simpa using hR5,hF6,by simpa using hTO7⟩
end
section
open Go.RowKit
variable {K:Nat->Prop}
theorem find_idx {defs:List Def} {t:Tok} {d:Def} (h:defs.find? (fun d=>d.name == t)=some d):∃ k,∃ hk:k < defs.length,findI defs t=k/\defs[k]=d:=by
 induction defs with
 | nil=>cases h
 | cons x l ih=>
  cases hx:(x.name == t) with
  | true=>
   rw[List.find?_cons_of_pos (by exact hx)] at h;injection h with h;refine⟨0,by simp,?_,h⟩;unfold findI;rw[List.findIdx?_cons,hx];rfl
  | false=>
   rw[List.find?_cons_of_neg (by simp[hx])] at h;obtain⟨k,hk,h1,h2⟩:=ih h;refine⟨k+1,by simpa using hk,?_,by simpa using h2⟩;unfold findI at h1 ⊢;rw[List.findIdx?_cons,hx]
   cases hl:l.findIdx? (fun d=>d.name == t) with
   | none=>rw[hl] at h1;dsimp only at h1;omega
   | some m=>rw[hl] at h1;dsimp only at h1;simp;omega
theorem FTo.away {yb fb:Nat} {w wa w':World} {rs rs':RS} {lv':Value} (h:FTo yb fb wa w' rs rs' (.slice none 0 0) lv') (hk:Kp w wa (fun _=>False)) (hfb:w.heap.size<=fb):STo yb w w' rs rs':=by
 refine⟨⟨h.kp.os.trans hk.os,h.kp.tape.trans hk.tape,h.kp.output.trans hk.output,Nat.le_trans hk.size h.kp.size,fun k hlt hn=>?_⟩,fun k hkk=>?_⟩
 ·refine (h.kp.block k (by have:=hk.size;omega) ?_).trans (hk.block k hlt (by simp));rintro ((e|e)|(e|e))
  ·exact hn (.inl e)
  ·omega
  ·exact hn (.inr e)
  ·simp[own,Value.ownBlock] at e
 ·rcases h.nx k (.inl hkk) with (e|e)|e
  ·exact .inl e
  ·simp[own,Value.ownBlock] at e
  ·right;have:=hk.size;omega
theorem callX (g:Nat) (hE:∀ g',g' < g->CE K g'):CC K g:=by
 intro w yb rs s s' tb left hr he hx
 cases g with
 | zero=>cases hx
 | succ g=>
  rw[x_call] at hx
  split at hx
  ·cases hx
  ·rename_i d hd
   obtain⟨k,hk,hfi,rfl⟩:=find_idx hd;obtain⟨gd,capd,xs,nm,vb,vt,hD⟩:=hr.dr.cells k hk;have hdl:=hr.dr.len;have cy:w.cell? ⟨yb,17,none⟩=some (.slice (some ⟨gd,0,none⟩) s.defs.length capd):=by rw[<-hD.dv];exact hr.blk.cell rfl
   have hat:=hD.at_;obtain⟨xsb,hrb,-⟩:=hat.body.out;obtain⟨ab,pb,rfl⟩:=row_slice hrb;obtain⟨wst,hrt,hwt,-⟩:=hat.built;obtain⟨a5,p5,rfl⟩:=row_slice hrt;have k0:=hD.cell _ _ hD.x0;have k1:=hD.cell _ _ hD.x1;have k2:=hD.cell _ _ hD.x2;have k3:=hD.cell _ _ hD.x3;have k4:=hD.cell _ _ hD.x4;have k5:=hD.cell _ _ hD.x5;have hyl:=hr.blk.lt;have hgl:gd < w.heap.size:=by obtain⟨c,hc⟩:=hD.blk;exact hc.lt
   have HE:=hide hE;have HX:=hide hx;have HFI:Hid (∀ w1:World,Kp w w1 (fun _=>False)->Calls Tryz.prog 89 #[.pointer (some ⟨yb,0,none⟩),.string tb] w1 fun e w'=>e=.returned (.int .i64 (k:Nat))/\w'=w1):=fun w1 hw1=>by
    have:=findS w1 yb rs s.defs tb (hr.kpF hw1).blk (hr.kpF hw1).dr;rw[hfi] at this;exact this
   have HEN:Hid (∀ o:Obj,Calls Tryz.prog 143 #[.pointer (some ⟨yb,0,none⟩),.pointer (some ⟨w.heap.size+1,0,none⟩)] ((w.alloc o).alloc (.cells #[.int .i64 s.defs[k].id,.string nm,.slice ab s.defs[k].body.length pb,.slice none 0 0] 191)).drew fun e w'=>e=.returned (.tuple #[])/\∃ rs',RRel K w' yb rs' s'/\STo yb w w' rs rs'):=by
    intro o;have hK1:Kp w (w.alloc o) (fun _=>False):=(Kp.refl w (fun _=>False)).alloc o;have hK:Kp w ((w.alloc o).alloc (.cells #[.int .i64 s.defs[k].id,.string nm,.slice ab s.defs[k].body.length pb,.slice none 0 0] 191)).drew (fun _=>False):=(hK1.alloc _).drew;have hB:=Blk.new (w.alloc o) #[.int .i64 s.defs[k].id,.string nm,.slice ab s.defs[k].body.length pb,.slice none 0 0] 191;rw[show (w.alloc o).heap.size=w.heap.size+1 by simp] at hB;have hF:FrAt K ((w.alloc o).alloc (.cells #[.int .i64 s.defs[k].id,.string nm,.slice ab s.defs[k].body.length pb,.slice none 0 0] 191)).drew (w.heap.size+1) ⟨s.defs[k].id,s.defs[k].name,s.defs[k].body⟩ [] (.slice none 0 0) rs.nv:=
     ⟨⟨nm,_,hB.drew,hat.nm,hat.body.keep (Keeps.kpF hK _)⟩,World.ownsRow_nil _ _ _ _,by simp,fun q hq=>by simp[own,Value.ownBlock] at hq⟩
    refine (hE g (by omega) _ yb _ rs s s' _ _ left (hr.kpF hK) he hF hx).mono ?_;rintro e w1 ⟨rfl,rs1,lv1,hrel1,hf1,hto1⟩;exact⟨rfl,rs1,hrel1,FTo.away hto1 hK (by omega)⟩
   clear hD hE hx hd hfi hrb hrt hwt;go_enter Tryz.func90,Tryz.ntmps90;go_wp2
   go_region_with (go_at_call 89;refine (HFI.out _ (by first|exact ((Kp.refl w (fun _=>False)).alloc _).drew|exact (Kp.refl w (fun _=>False)).drew)).mono ?_;rintro e w' ⟨rfl,hw⟩;rw[hw];clear hw)
   all_goals
    go_wp2_with fail
    refine (HEN.out _).mono ?_;rintro e w1 ⟨rfl,rs1,hrel1,hto1⟩;go_wp2
    go_end0
    exact⟨rfl,rs1,hrel1,hto1⟩
end
section
open Go.RowKit
variable {K:Nat->Prop}
theorem FTo.held {yb fb:Nat} {w w':World} {rs rs':RS} {s:St} {f:Fr} {lp:List Int} {lv lv':Value} {q:Nat} {c:Array Value} (hr:RRel K w yb rs s) (hf:FrAt K w fb f lp lv rs.nv) (hto:FTo yb fb w w' rs rs' lv lv') (hb:Blk w q 3 c) (h1:¬ own rs.nv q) (h2:¬ own lv q):
  Blk w' q 3 c/\¬ own rs'.nv q/\¬ own lv' q:=by
 obtain⟨nm,vb,hbf,_⟩:=hf.blk;obtain⟨xs,hrd,_⟩:=hr.dr.ex;have hd:¬ own rs.d.dv q:=own_ne hrd hb (by decide);have hlt:=hb.lt;have hV:¬ ((own rs.nv q\/own rs.d.dv q)\/own lv q):=by rintro ((e|e)|e);exact h1 e;exact hd e;exact h2 e
 refine⟨hto.blk hb ?_ hV,fun e=>?_,fun e=>?_⟩
 ·rintro (e|e)
  ·subst e;exact absurd (hb.inj hr.blk).1 (by decide)
  ·subst e;exact absurd (hb.inj hbf).1 (by decide)
 ·rcases hto.nx q (.inl (.inl e)) with h|h
  ·exact hV h
  ·omega
 ·rcases hto.nx q (.inr e) with h|h
  ·exact hV h
  ·omega
theorem FrAt.push {yb fb:Nat} {w w1:World} {rs:RS} {s:St} {f:Fr} {lp:List Int} {lv v':Value} {n:Int} {o:Obj} (hr:RRel K w yb rs s) (hf:FrAt K w fb f lp lv rs.nv) (hn:In n)
  (hown:w1.ownsRow 0 3 1 v' (lp.length+1) (ints lp.reverse ++ [.int .i64 n])) (hgrow:(w.alloc o).grownBy w1 lv.ownBlock) (hnx:∀ k,own v' k->own lv k\/w.heap.size+1<=k):
  Kp w w1 (fun b=>own lv b)/\(∃ nm vb,Blk w1 fb 191 #[.int .i64 f.id,.string nm,vb,lv])/\RRel K (w1.setCell ⟨fb,3,none⟩ v') yb rs s/\FrAt K (w1.setCell ⟨fb,3,none⟩ v') fb f (n :: lp) v' rs.nv/\FTo yb fb w (w1.setCell ⟨fb,3,none⟩ v') rs rs lv v'/\Keeps (nK K) (nK K) w (w1.setCell ⟨fb,3,none⟩ v'):=by
 obtain⟨nm,vb,hbf,hnm,hbd⟩:=hf.blk;obtain⟨ns,hi,hns⟩:=hr.inv;obtain⟨xs,hrd,_⟩:=hr.dr.ex;have hk1:Kp w w1 (fun b=>own lv b):=(((Kp.refl w _).alloc o)).grown hgrow (fun b _ e=>e);have hb1:Blk w1 fb 191 #[.int .i64 f.id,.string nm,vb,lv]:=hk1.blk hbf (own_ne hf.row hbf (by decide));have hkp:Kp w (w1.setCell ⟨fb,3,none⟩ v') (fun b=>b=fb\/own lv b):=(hk1.mono (fun _ _ h=>.inr h)).set (a:=⟨fb,3,none⟩) (fun _=>.inl rfl) _;have hNB:NoB w (fun b=>b=fb\/own lv b):=fun b t c hb hbl=>hf.noB hr b t c (by rcases hb with e|e;exact .inl (.inr e);exact .inr (.inr e)) hbl;have hkeep:Keeps (nK K) (nK K) w (w1.setCell ⟨fb,3,none⟩ v'):=Keeps.kp hkp hNB _;have hrow:(w1.setCell ⟨fb,3,none⟩ v').ownsRow 0 3 1 v' (lp.length+1) (ints lp.reverse ++ [.int .i64 n]):=ownsRow_setCell_other hown (a:=⟨fb,3,none⟩) (own_ne hown hb1 (by decide)) _;have hny:¬ (yb=fb\/own lv yb):=by
  rintro (e|e)
  ·subst e;exact absurd (hbf.inj hi.blk).1 (by decide)
  ·exact (own_ne hf.row hi.blk (by decide)) e
 refine⟨hk1,⟨nm,vb,hb1⟩,⟨⟨ns,⟨hkp.blk hi.blk hny,hkp.row hi.row (fun b hb hh=>?_),hi.len⟩,hns⟩,hr.e,hr.st,hr.mem,hr.out,hr.ids,hr.hot,hr.blt,hr.dp,hr.dr.kp hkp hNB (fun b c hb hc=>?_),hr.good⟩,⟨⟨nm,vb,hb1.set 3 v',hnm,hbd.keep hkeep⟩,by simpa [ints] using hrow,?_,fun k hk hn'=>?_⟩,⟨hkp.mono (fun b _ hb=>?_),fun k hk=>?_⟩,hkeep⟩
 ·obtain⟨c,hc⟩:=row_blk hi.row hb;rcases hh with e|e
  ·subst e;exact absurd (hc.inj hbf).1 (by decide)
  ·exact hf.sep b e hb
 ·rcases hb with e|e
  ·subst e;exact absurd (hc.inj hbf).1 (by decide)
  ·exact absurd (row_type hf.row e hc) (by decide)
 ·intro x hx;rcases List.mem_cons.1 hx with h|h
  ·rw[h];exact hn
  ·exact hf.ins x h
 ·rcases hnx k hk with h|h
  ·exact hf.sep k h hn'
  ·have:=own_lt hi.row hn';omega
 ·rcases hb with e|e
  ·exact .inl (.inr e)
  ·exact .inr (.inr e)
 ·rcases hk with e|e
  ·exact .inl (.inl e)
  ·rcases hnx k e with h|h
   ·exact .inl (.inr h)
   ·right;omega
theorem FrAt.pop {yb fb:Nat} {w:World} {rs:RS} {s:St} {f:Fr} {lp:List Int} {gl cap:Nat} {n:Int} (hr:RRel K w yb rs s) (hf:FrAt K w fb f (n :: lp) (.slice (some ⟨gl,0,none⟩) (lp.length+1) cap) rs.nv):
  RRel K (w.setCell ⟨fb,3,none⟩ (.slice (some ⟨gl,0,none⟩) lp.length cap)) yb rs s/\FrAt K (w.setCell ⟨fb,3,none⟩ (.slice (some ⟨gl,0,none⟩) lp.length cap)) fb f lp (.slice (some ⟨gl,0,none⟩) lp.length cap) rs.nv/\FTo yb fb w (w.setCell ⟨fb,3,none⟩ (.slice (some ⟨gl,0,none⟩) lp.length cap)) rs rs (.slice (some ⟨gl,0,none⟩) (lp.length+1) cap) (.slice (some ⟨gl,0,none⟩) lp.length cap)/\Keeps (nK K) (nK K) w (w.setCell ⟨fb,3,none⟩ (.slice (some ⟨gl,0,none⟩) lp.length cap)):=by
 obtain⟨nm,vb,hbf,hnm,hbd⟩:=hf.blk;obtain⟨ns,hi,hns⟩:=hr.inv;obtain⟨xs,hrd,_⟩:=hr.dr.ex;have hkp:Kp w (w.setCell ⟨fb,3,none⟩ (.slice (some ⟨gl,0,none⟩) lp.length cap)) (fun b=>b=fb):=Kp.one _ _ _ _;have hNB:NoB w (fun b=>b=fb):=NoB.one hbf (by decide) (by decide);have hkeep:Keeps (nK K) (nK K) w (w.setCell ⟨fb,3,none⟩ (.slice (some ⟨gl,0,none⟩) lp.length cap)):=Keeps.kp hkp hNB _;have hny:¬ yb=fb:=by
  intro e;subst e;exact absurd (hbf.inj hi.blk).1 (by decide)
 have hrow:w.ownsRow 0 3 1 (.slice (some ⟨gl,0,none⟩) lp.length cap) lp.length (ints lp.reverse):=by
  rcases hf.row.2 with⟨hv,_⟩|⟨g,cap',cur,hv,_,hgg,hnc,hcm,hcs,htk⟩
  ·cases hv
  ·injection hv with e1 e2 e3;injection e1 with e1;injection e1 with e1;subst e1;subst e3;have:=row_of (ns:=(n :: lp).reverse) (hb:=hgg) (by simpa using hnc) hcm hcs (by simpa using htk) lp.length (by simp)
   simpa [List.take_append_of_le_length] using this
 refine⟨⟨⟨ns,⟨hkp.blk hi.blk hny,hkp.row hi.row (fun b hb hh=>?_),hi.len⟩,hns⟩,hr.e,hr.st,hr.mem,hr.out,hr.ids,hr.hot,hr.blt,hr.dp,hr.dr.kp hkp hNB (fun b c hb hc=>?_),hr.good⟩,⟨⟨nm,vb,hbf.set 3 _,hnm,hbd.keep hkeep⟩,?_,fun x hx=>hf.ins x (by simp[hx]),fun k hk=>hf.sep k hk⟩,⟨hkp.mono (fun b _ hb=>.inl (.inr hb)),fun k hk=>.inl hk⟩,hkeep⟩
 ·obtain⟨c,hc⟩:=row_blk hi.row hb;subst hh;exact absurd (hc.inj hbf).1 (by decide)
 ·subst hb;exact absurd (hc.inj hbf).1 (by decide)
 ·exact ownsRow_setCell_other hrow (a:=⟨fb,3,none⟩) (own_ne hrow hbf (by decide)) _
theorem FrAt.popD {yb fb:Nat} {w:World} {rs:RS} {s:St} {f:Fr} {lp:List Int} {gl cap:Nat} {n:Int} (hr:RRel K w yb rs s) (hf:FrAt K w fb f (n :: lp) (.slice (some ⟨gl,0,none⟩) (lp.length+1) cap) rs.nv):
  RRel K (w.setCell ⟨fb,3,none⟩ (.slice (some ⟨gl,0,none⟩) lp.length cap)).drew yb rs s/\FrAt K (w.setCell ⟨fb,3,none⟩ (.slice (some ⟨gl,0,none⟩) lp.length cap)).drew fb f lp (.slice (some ⟨gl,0,none⟩) lp.length cap) rs.nv/\FTo yb fb w (w.setCell ⟨fb,3,none⟩ (.slice (some ⟨gl,0,none⟩) lp.length cap)).drew rs rs (.slice (some ⟨gl,0,none⟩) (lp.length+1) cap) (.slice (some ⟨gl,0,none⟩) lp.length cap)/\Keeps (nK K) (nK K) w (w.setCell ⟨fb,3,none⟩ (.slice (some ⟨gl,0,none⟩) lp.length cap)).drew:=by
 obtain⟨h1,h2,h3,h4⟩:=hf.pop hr;have hK:Kp (w.setCell ⟨fb,3,none⟩ (.slice (some ⟨gl,0,none⟩) lp.length cap)) (w.setCell ⟨fb,3,none⟩ (.slice (some ⟨gl,0,none⟩) lp.length cap)).drew (fun _=>False):=(Kp.refl _ _).drew;obtain⟨h5,h6⟩:=h2.sto h1 (STo.kpF (rs:=rs) hK);exact⟨h1.kpF hK,h5,h3.trans h6,fun b t c hs hb ht=>⟨(h4 b t c hs hb ht).1.drew,hs⟩⟩
theorem xBody_e:∀ (g:Nat) (f:Fr) (lp:List Int) (l:List It) (s s':St),s.e=0->xRun g (jBody f lp l) s=some (s',false)->s'.e=0
 | 0,_,_,_,_,_,_,h=>by cases h
 | g+1,f,lp,[],s,s',he,h=>by rw[x_nil] at h;injection h with h;injection h with h1 h2;subst h1;exact he
 | g+1,f,lp,x :: l,s,s',he,h=>by
  rw[x_cons] at h
  split at h
  ·cases h
  ·split at h
   ·injection h with h;injection h with h1 h2;cases h2
   ·rename_i s1 left1 _ hc
    exact xBody_e g f lp l s1 s' (by simp at hc;exact hc.2) h
structure LoopAt (K:Nat->Prop) (g yb fb gt:Nat) (w wr:World) (rs:RS) (s':St) (f:Fr) (lp:List Int) (lv va:Value) (l:List It) (left:Bool) (b m n:Int):Prop where
 ex:∃ g' rsk lvk sk,g'<=g/\RRel K wr yb rsk sk/\sk.e=0/\FrAt K wr fb f lp lvk rsk.nv/\(lp.length:Int)<=sk.steps/\FTo yb fb w wr rs rsk lv lvk/\xRun g' (jDo f lp n m l) sk=some (s',left)/\Blk wr gt 3 #[.int .i64 b,.int .i64 m,.int .i64 0]/\¬ own rsk.nv gt/\¬ own lvk gt
 body:Body K wr va l
 inn:In n
end
end Go.Proofs.YteainaiebcphlaaGreatDoor
