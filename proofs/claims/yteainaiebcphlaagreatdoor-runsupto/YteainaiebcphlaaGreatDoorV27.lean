import Derived.Test.YteainaiebcphlaaGreatDoorV26
import Derived.Lib.SmallJoins
import Derived.Test.YteainaiebcphlaaGreatDoorV24
import Derived.Test.YteainaiebcphlaaGreatDoorV17
namespace Go.Proofs.YteainaiebcphlaaGreatDoor
set_option maxRecDepth 1000000
set_option maxHeartbeats 4000000
set_option linter.all false
section
open Go.RowKit
variable {K:Nat->Prop}
structure RunAll (K:Nat->Prop) (g:Nat):Prop where
 b:CB K g
 i:CI K g
 l:CL K g
 e:CE K g
 c:CC K g
 t:CT K g
theorem runAll:∀ g,RunAll K g:=by
 intro g
 induction g using Nat.strongRecOn with
 | ind g ih=>
  have hb:=fun g' (h:g' < g)=>(ih g' h).b;have hi:=fun g' (h:g' < g)=>(ih g' h).i;have hl:=fun g' (h:g' < g)=>(ih g' h).l;have he:=fun g' (h:g' < g)=>(ih g' h).e;have hc:=fun g' (h:g' < g)=>(ih g' h).c;have ht:=fun g' (h:g' < g)=>(ih g' h).t;exact⟨bodyX g hi,itemX_ g hb hl he hc ht,loopX g hb,enterX g hb,callX g he,toksX g hc⟩
structure Ses (K:Nat->Prop) (w:World) (yb:Nat) (rs:RS) (s:St):Prop where
 rel:RRel K w yb rs s
 inv:RInv w yb rs s.rs.reverse
def freshL (s:St):St:={ s with e:=0,steps:=0,depth:=0,out:=⟨#[]⟩ }
def freshR (rs:RS):RS:={ rs with e:=0,st:=0,out:=⟨#[]⟩,d:={ rs.d with dp:=0 } }
def freshW (w:World) (yb:Nat):World:=(((w.setCell ⟨yb,21,none⟩ (.int .i64 0)).setCell ⟨yb,22,none⟩ (.int .i64 0)).setCell ⟨yb,23,none⟩ (.int .i64 0)).setCell ⟨yb,24,none⟩ (.string ⟨#[]⟩)
theorem Ses.fresh {w:World} {yb:Nat} {rs:RS} {s:St} (h:Ses K w yb rs s):RRel K (freshW w yb) yb (freshR rs) (freshL s)/\STo yb w (freshW w yb) rs (freshR rs):=by
 have hi:=h.inv;have hk:Kp w (freshW w yb) (fun b=>b=yb):=((((Kp.refl w (fun b=>b=yb)).set (a:=⟨yb,21,none⟩) (fun _=>rfl) _).set (a:=⟨yb,22,none⟩) (fun _=>rfl) _).set (a:=⟨yb,23,none⟩) (fun _=>rfl) _).set (a:=⟨yb,24,none⟩) (fun _=>rfl) _;have hb:=hi.blk;have hg:=h.rel.good;refine⟨⟨⟨s.rs.reverse,⟨(((hb.set 21 (.int .i64 0)).set 22 (.int .i64 0)).set 23 (.int .i64 0)).set 24 (.string ⟨#[]⟩),?_,hi.len⟩,fun _=>rfl⟩,rfl,rfl,h.rel.mem,rfl,h.rel.ids,h.rel.hot,h.rel.blt,rfl,h.rel.dr.kp hk (NoB.one hb (by decide) (by decide)) (fun b c e hc=>by subst e;exact absurd (hc.inj hb).1 (by decide)),?_⟩,⟨hk.mono (fun b _ e=>.inl e),fun _ h=>.inl h⟩⟩
 ·exact hk.row hi.row (fun b hb' e=>by subst e;exact own_ne hi.row hb (by decide) hb')
 ·exact⟨⟨hg.g.ins,hg.g.mems,hg.g.len,by show (0:Nat)<=300;decide⟩,by show (0:Int)<=0;decide,by show (0:Int)<=2001;decide,fun _=>by show (0:Int)<=2000;decide,by show (0:Int)<=0;decide,by show (0:Int)<=20;decide,hg.b0,hg.b1,hg.cb⟩
theorem fields_len:∀ (l cur:List UInt8),(Lib.fieldsGo cur l).length<=l.length+1
 | [],cur=>by unfold Lib.fieldsGo;split <;> simp
 | b :: l,cur=>by
  unfold Lib.fieldsGo;have h1:=fields_len l [];have h2:=fields_len l (cur ++ [b])
  split
  ·split <;> simp <;> omega
  ·simp only[List.length_cons];omega
theorem RRel.setNil {w:World} {yb:Nat} {rs:RS} {s:St} (h:RRel K w yb rs s):Ses K (w.setCell ⟨yb,0,none⟩ (.slice none 0 0)) yb { rs with nv:=.slice none 0 0 } { s with rs:=[] }/\STo yb w (w.setCell ⟨yb,0,none⟩ (.slice none 0 0)) rs { rs with nv:=.slice none 0 0 }:=by
 obtain⟨ns,hi,hns⟩:=h.inv;have hk:Kp w (w.setCell ⟨yb,0,none⟩ (.slice none 0 0)) (fun b=>b=yb):=Kp.one _ _ _ _;have hb:=hi.blk;have hg:=h.good;have hI:RInv (w.setCell ⟨yb,0,none⟩ (.slice none 0 0)) yb { rs with nv:=.slice none 0 0 } []:=⟨hb.set 0 _,World.ownsRow_nil _ _ _ _,by simp⟩;refine⟨⟨⟨⟨[],hI,fun _=>rfl⟩,h.e,h.st,h.mem,h.out,h.ids,h.hot,h.blt,h.dp,h.dr.kp hk (NoB.one hb (by decide) (by decide)) (fun b c e hc=>by subst e;exact absurd (hc.inj hb).1 (by decide)),⟨⟨by simp,hg.g.mems,by simp,hg.g.osz⟩,hg.s0,hg.s1,hg.s2,hg.d0,hg.d1,hg.b0,hg.b1,hg.cb⟩⟩,hI⟩,⟨hk.mono (fun b _ e=>.inl e),fun k hk=>?_⟩⟩;rcases hk with e|e
 ·simp[own,Value.ownBlock] at e
 ·exact .inl (.inr e)
theorem Ses.kpF {w w':World} {yb:Nat} {rs:RS} {s:St} (h:Ses K w yb rs s) (hk:Kp w w' (fun _=>False)):Ses K w' yb rs s:=⟨h.rel.kpF hk,h.inv.kp hk⟩
theorem lineX_bad (w:World) (yb:Nat) (t:ByteArray) (hv:validB t.data.toList=false):
  Calls Tryz.prog 52 #[.pointer (some ⟨yb,0,none⟩),.string t] w fun e w'=>e=.returned (.tuple #[.string ⟨#[]⟩,.int .i64 2])/\Kp w w' (fun _=>False):=by
 go_enter Tryz.func52,Tryz.ntmps52
 go_wp2_with fail
 refine (tokensR_bad _ _ hv).mono ?_;rintro e w1 ⟨v,hk,rfl⟩;go_wp2;go_ret2;exact⟨rfl,hk⟩
theorem lineX_ok (w:World) (yb:Nat) (rs:RS) (s s1:St) (left:Bool) (t:ByteArray) (g:Nat) (hS:Ses K w yb rs s) (hv:validB t.data.toList=true) (hx:xRun g (jToks (Lib.fields t.data.toList)) (freshL s)=some (s1,left)):
  Calls Tryz.prog 52 #[.pointer (some ⟨yb,0,none⟩),.string t] w fun e w'=>e=.returned (.tuple #[.string s1.out,.int .i64 s1.e])/\∃ rs',Ses K w' yb rs' (if s1.e=0 then s1 else { s1 with rs:=[] })/\STo yb w w' rs rs':=by
 go_enter Tryz.func52,Tryz.ntmps52
 go_wp2_with fail
 refine (tokensR_valid _ _ hv).mono ?_;rintro e w1 ⟨v,hk,rfl,ts,hrow,hts⟩;have hS1:=hS.kpF hk;have hlen:ts.length<=401:=by
  have h1:=fields_len t.data.toList [];have h2:(ts.map (fun t=>t.data.toList)).length=(Lib.fields t.data.toList).length:=by rw[hts]
  have h3:t.data.toList.length<=400:=by unfold validB at hv;rw[Bool.and_eq_true] at hv;exact of_decide_eq_true hv.1
  simp only[List.length_map] at h2;have:(Lib.fields t.data.toList).length<=t.data.toList.length+1:=h1;omega
 have c1:w1.cell? ⟨yb,21,none⟩=some (.int .i64 rs.e):=hS1.inv.blk.cell rfl;have c2:w1.cell? ⟨yb,22,none⟩=some (.int .i64 rs.st):=hS1.inv.blk.cell rfl;have c3:w1.cell? ⟨yb,23,none⟩=some (.int .i64 rs.d.dp):=hS1.inv.blk.cell rfl;have c4:w1.cell? ⟨yb,24,none⟩=some (.string rs.out):=hS1.inv.blk.cell rfl;have f1:=hS1.inv.blk.free 21;have f2:=hS1.inv.blk.free 22;have f3:=hS1.inv.blk.free 23;have f4:=hS1.inv.blk.free 24;obtain⟨hr2,hto2⟩:=hS1.fresh;have hTO2:STo yb w (freshW w1 yb) rs (freshR rs):=(STo.kpF (rs:=rs) hk).trans hto2;have hrow1:=(Joins.ownsRow_le hrow (Nat.zero_le _));have htk1:Toks K w1 v (Lib.fields t.data.toList):=⟨ts,hrow1,hts,fun b hb hK=>by have h1:=hS.rel.dr.old b hK;have h2:=(hrow.lt b hb).1;omega⟩;have htk2:=toksIn_keep (Keeps.to hto2 hS1.rel.noB (nK K)) htk1;have HT:=hide ((runAll g).t _ yb _ _ s1 v _ left hr2 htk2 (by rw[<-hts];simp;omega) hx);clear hr2 hto2 hrow1 htk1 htk2 hrow hts hS1 hk hx
 go_wp2_with fail
 refine HT.out.mono ?_;rintro e w2 ⟨rfl,rs2,hrel2,hto3⟩;have hTO3:=hTO2.trans hto3;clear hTO2 hto3 c1 c2 c3 c4 f1 f2 f3 f4 hv HT;have k1:w2.cell? ⟨yb,21,none⟩=some (.int .i64 s1.e):=by rw[<-hrel2.e];exact hrel2.blk.cell rfl
 have k4:w2.cell? ⟨yb,24,none⟩=some (.string s1.out):=by rw[<-hrel2.out];exact hrel2.blk.cell rfl
 have k0:w2.cell? ⟨yb,0,none⟩=some rs2.nv:=hrel2.blk.cell rfl;have f0:=hrel2.blk.free 0;by_cases he:s1.e=0
 ·have he':(s1.e != 0)=false:=by simp[he]
  have hS3:Ses K w2 yb rs2 s1:=by
   obtain⟨ns,hi,hns⟩:=hrel2.inv;exact⟨hrel2,by rw[<-hns he];exact hi⟩
  have HE:=hide he;clear he;go_wp2
  go_quiet (fail)
  go_wp2;go_ret2;refine⟨rfl,rs2,?_,hTO3.trans (STo.kpF ((Kp.refl _ _).drewN _))⟩
  try rw[if_pos HE.out]
  exact hS3.kpF ((Kp.refl _ _).drewN _)
 ·have he':(s1.e != 0)=true:=by simp[he]
  obtain⟨hS3,hto4⟩:=hrel2.setNil;have HE:=hide he;have HS3:=hide hS3;clear he hS3;go_wp2
  go_quiet (fail)
  go_wp2;go_ret2;refine⟨rfl,{ rs2 with nv:=.slice none 0 0 },?_,(hTO3.trans hto4).trans (STo.kpF ((Kp.refl _ _).drewN _))⟩
  try rw[if_neg HE.out]
  exact HS3.out.kpF ((Kp.refl _ _).drewN _)
end
section
open Go.RowKit
theorem do_tot {N:Nat} (H:TotN N) (G:Nat) (s:St) (f:Fr) (lp:List Int) (n m:Int) (l:List It) (hw:WFs s) (he:s.e=0) (hr:rem s<=N+1) (hl:wb (knows s) G true l) (hf:wbF s f) (hlI:∀ n∈lp,In n) (hnI:In n) (hmI:In m):Tot (jDo f lp n m l) s:=by
 obtain⟨sw,sk,sr⟩:=step_next hw he hr;by_cases hnm:n < m
 ·by_cases e1:s.step.e=0
  ·obtain⟨srr,s20⟩:=sr e1;obtain⟨g1,s1,left1,h1,w1,kk1⟩:=H.body G s.step f (n :: lp) l true sw e1 srr (wb_known sk _ _ _ hl) (hf.mono sk) (fun _=>by simp) (by intro q hq;rcases List.mem_cons.1 hq with h|h;rw[h];exact hnI;exact hlI q h);by_cases e2:left1=true
   ·exact tot_of (g:=g1+1) (by rw[x_do,if_pos hnm,if_neg (by simp[e1]),h1];dsimp only;rw[if_pos e2]) w1 (fun t ht=>kk1 t (sk t ht))
   have e2':left1=false:=by simpa using e2
   subst e2';have he1:=xBody_e _ _ _ _ _ _ e1 h1;have kt:∀ t,knows s t->knows s1 t:=fun t ht=>kk1 t (sk t ht);obtain⟨g2,s2,left2,h2,w2,kk2⟩:=H.do_ G s1 f lp (n+1) m l w1 he1 (Nat.le_trans (rem_le h1) srr) (wb_known kt _ _ _ hl) (hf.mono kt) hlI (by unfold In at hnI hmI ⊢;omega) hmI;have h1':=xRun_mono (g':=g1+g2) (by omega) h1;have h2':=xRun_mono (g':=g1+g2) (by omega) h2;exact tot_of (g:=g1+g2+1) (by rw[x_do,if_pos hnm,if_neg (by simp[e1]),h1'];dsimp only;rw[if_neg (by simp)];exact h2') w2 (fun t ht=>kk2 t (kt t ht))
  ·exact tot_of (g:=1) (by rw[x_do,if_pos hnm,if_pos e1]) sw sk
 ·exact tot_of (g:=1) (by rw[x_do,if_neg hnm]) hw (fun _ h=>h)
theorem count_e' {g:Nat} {s s':St} {k:Nat} (h:s.count g k=some s'):s'.e=s.e:=by
 unfold St.count at h
 repeat' split at h
 all_goals first
  | (cases h;done)
  | (injection h with h;subst h;rfl)
theorem come_tot {s:St} (hw:WFs s) (f:Fr):∃ g s1,xCome g f s=some s1/\WFs s1/\(∀ t,knows s t->knows s1 t)/\s1.e=s.e/\s1.steps=s.steps/\s1.depth=s.depth:=by
 cases hf:s.find f.name with
 | none=>exact⟨0,s,by unfold xCome;rw[hf],hw,fun _ h=>h,rfl,rfl,rfl⟩
 | some k=>
  have hk:k < s.defs.length:=(List.findIdx?_eq_some_iff_getElem.1 hf).1;by_cases hid:s.defs[k].id=f.id
  ·obtain⟨g,s1,h1,w1,k1⟩:=count_total hw hk;exact⟨g,s1,by unfold xCome;rw[hf];dsimp only;rw[List.getElem?_eq_getElem hk];dsimp only;rw[if_pos hid];exact h1,w1,fun t ht=>(k1 t).2 ht,count_e' h1,(St.count_keep h1).2,(St.count_keep h1).1⟩
  ·exact⟨0,s,by unfold xCome;rw[hf];dsimp only;rw[List.getElem?_eq_getElem hk];dsimp only;rw[if_neg hid],hw,fun _ h=>h,rfl,rfl,rfl⟩
theorem xCome_le {g g':Nat} (hg:g<=g') {f:Fr} {s s':St} (h:xCome g f s=some s'):xCome g' f s=some s':=by
 induction hg with
 | refl=>exact h
 | step _ ih=>exact xCome_mono ih
theorem enter_tot {N:Nat} (H:TotN N) (s:St) (f:Fr) (hw:WFs s) (he:s.e=0) (hr:rem s<=N+1) (hf:wbF s f):Tot (jEnter f) s:=by
 by_cases hd:20<=s.depth
 ·have hn:=hw.same (s':=s.err 8) (hw.g.err (by decide)) rfl;exact tot_of (g:=1) (by rw[x_enter,if_pos hd]) hn.1 hn.2
 obtain⟨g1,s1,h1,w1,kk1,e1,st1,dp1⟩:=come_tot hw f;have hn:=w1.same (s':={ s1 with depth:=s1.depth+1 }) (w1.g.dep (by have:=w1.g.d0;omega) (by omega)) rfl;have kt:∀ t,knows s t->knows { s1 with depth:=s1.depth+1 } t:=fun t ht=>hn.2 t (kk1 t ht);obtain⟨Gf,hGf⟩:=hf;obtain⟨g2,s2,left2,h2,w2,kk2⟩:=body_tot H Gf { s1 with depth:=s1.depth+1 } f [] f.body false hn.1 (by show s1.e=0;rw[e1];exact he) (by show rem s1<=N+1;unfold rem at hr ⊢;rw[st1];exact hr) (wb_known kt _ _ _ hGf) ⟨Gf,wb_known kt _ _ _ hGf⟩ (fun h=>by cases h) (fun q hq=>by cases hq);have hdp:=(xRun_keep _ _ _ _ _ h2).1;dsimp only at hdp;have hn2:=w2.same (s':={ s2 with depth:=s2.depth - 1 }) (w2.g.dep (by have:=w1.g.d0;omega) (by have:=w2.g.d1;omega)) rfl;exact tot_of (g:=g1+g2+1) (by rw[x_enter,if_neg hd,xCome_le (by omega) h1];dsimp only;rw[xRun_mono (by omega) h2]) hn2.1 (fun t ht=>hn2.2 t (kk2 t (kt t ht)))
theorem call_tot {N:Nat} (H:TotN N) (s:St) (t:Tok) (hw:WFs s) (he:s.e=0) (hr:rem s<=N+1) (hk:knows s t):Tot (jCall t) s:=by
 have hin:=known_in hk;unfold inDefs at hin
 cases hf:s.defs.find? (fun d=>d.name == t) with
 | none=>rw[hf] at hin;cases hin
 | some d=>
  obtain⟨g,s',left,h,w1,kk⟩:=enter_tot H s ⟨d.id,d.name,d.body⟩ hw he hr (hw.d d (List.mem_of_find?_eq_some hf));exact tot_of (g:=g+1) (by rw[x_call,hf];exact h) w1 kk
theorem pDef_le {g g':Nat} (hg:g<=g') {s:St} {r:List Tok} {res:DRes} (h:pDef g s r=some res):pDef g' s r=some res:=by
 induction hg with
 | refl=>exact h
 | step _ ih=>exact pDef_mono ih
theorem tok_tot {N:Nat} (H:TotN N) (s:St) (t:Tok) (hw:WFs s) (he:s.e=0) (hr:rem s<=N+1):∃ g s',xTok g t s=some s'/\WFs s'/\(∀ t,knows s t->knows s' t)/\(s'.e=0->rem s'<=N):=by
 obtain⟨sw,sk,sr⟩:=step_next hw he hr;by_cases e1:s.step.e=0
 ·obtain⟨srr,s20⟩:=sr e1
  cases hn:numP t with
  | some n=>
   have hn2:=sw.same (s':=s.step.put n) (sw.g.put (numP_range hn)) (put_defs _ _);exact⟨0,_,by unfold xTok;rw[hn];dsimp only;rw[if_neg (by simp[e1])],hn2.1,fun t ht=>hn2.2 t (sk t ht),fun _=>by unfold rem at srr ⊢;rw[St.put_steps];exact srr⟩
  | none=>
   cases hp:plainL.findIdx? (· == t) with
   | some k=>
    have hn2:=sw.same (s':=s.step.word k) (sw.g.word e1 k) rfl;exact⟨0,_,by unfold xTok;rw[hn];dsimp only;rw[hp];dsimp only;rw[if_neg (by simp[e1])],hn2.1,fun t ht=>hn2.2 t (sk t ht),fun _=>srr⟩
   | none=>
    by_cases q1:(keptL.any (· == t) || t == kSemi || t == kOpen || t == kClose)=true
    ·have hn2:=hw.same (s':=s.err 4) (hw.g.err (by decide)) rfl;exact⟨0,_,by unfold xTok;rw[hn];dsimp only;rw[hp];dsimp only;rw[if_pos q1],hn2.1,hn2.2,fun h=>by cases h⟩
    by_cases q2:s.known t=false
    ·have hn2:=hw.same (s':=s.err 3) (hw.g.err (by decide)) rfl;exact⟨0,_,by unfold xTok;rw[hn];dsimp only;rw[hp];dsimp only;rw[if_neg q1,if_pos q2],hn2.1,hn2.2,fun h=>by cases h⟩
    ·obtain⟨g,s2,l2,hx2,w2,kk2⟩:=H.call s.step t sw e1 srr (sk _ (by unfold knows;simpa using q2));exact⟨g,s2,by unfold xTok;rw[hn];dsimp only;rw[hp];dsimp only;rw[if_neg q1,if_neg q2,if_neg (by simp[e1]),hx2],w2,fun t ht=>kk2 t (sk t ht),fun _=>Nat.le_trans (rem_le hx2) srr⟩
 ·cases hn:numP t with
  | some n=>exact⟨0,_,by unfold xTok;rw[hn];dsimp only;rw[if_pos e1],sw,sk,fun h=>absurd h e1⟩
  | none=>
   cases hp:plainL.findIdx? (· == t) with
   | some k=>exact⟨0,_,by unfold xTok;rw[hn];dsimp only;rw[hp];dsimp only;rw[if_pos e1],sw,sk,fun h=>absurd h e1⟩
   | none=>
    by_cases q1:(keptL.any (· == t) || t == kSemi || t == kOpen || t == kClose)=true
    ·have hn2:=hw.same (s':=s.err 4) (hw.g.err (by decide)) rfl;exact⟨0,_,by unfold xTok;rw[hn];dsimp only;rw[hp];dsimp only;rw[if_pos q1],hn2.1,hn2.2,fun h=>by cases h⟩
    by_cases q2:s.known t=false
    ·have hn2:=hw.same (s':=s.err 3) (hw.g.err (by decide)) rfl;exact⟨0,_,by unfold xTok;rw[hn];dsimp only;rw[hp];dsimp only;rw[if_neg q1,if_pos q2],hn2.1,hn2.2,fun h=>by cases h⟩
    ·exact⟨0,_,by unfold xTok;rw[hn];dsimp only;rw[hp];dsimp only;rw[if_neg q1,if_neg q2,if_pos e1],sw,sk,fun h=>absurd h e1⟩
theorem xTok_le {g g':Nat} (hg:g<=g') {t:Tok} {s s':St} (h:xTok g t s=some s'):xTok g' t s=some s':=by
 induction hg with
 | refl=>exact h
 | step _ ih=>exact xTok_mono (fun j s r h=>xRun_mono1 _ j s r h) ih
theorem pDef_len {g:Nat} {s:St} {r:List Tok} {nm:Tok} {b:List It} {r1:List Tok} (h:pDef g s r=some (.ok (nm,b,r1))):r1.length<=r.length:=by
 cases r with
 | nil=>cases h
 | cons t r=>
  unfold pDef at h;dsimp only at h
  split at h
  ·cases h
  split at h
  ·cases h
  split at h
  ·cases h
  ·cases h
  ·rename_i b' t' r' hr
   injection h with h;injection h with h;injection h with e1 e2;injection e2 with e2 e3;subst e3;obtain⟨_,_,_,hl⟩:=pRead_calls _ _ _ _ _ _ _ hr;simp;omega
theorem toks_tot {N:Nat} (H:TotN N) (s:St) (ts:List Tok) (hw:WFs s) (hr:s.e=0->rem s<=N+1) (hlt:ts.length<=1000):Tot (jToks ts) s:=by
 by_cases he:s.e=0
 ·have hr:=hr he
  cases ts with
  | nil=>exact tot_of (x_tnil 0 s) hw (fun _ h=>h)
  | cons t r=>
   have hlr:r.length<=1000:=by simp at hlt;omega
   by_cases ht:t=kColon
   ·subst ht;obtain⟨sw,sk,sr⟩:=step_next hw he hr;obtain⟨g1,res,hp⟩:=pDef_total s r
    cases res with
    | error e=>
     have hg:=hw.g;have hn:=hw.same (s':=s.err e) ⟨hg.g,hg.s0,hg.s1,fun _=>hw.st he,hg.d0,hg.d1,hg.b0,hg.b1,hg.cb⟩ rfl;exact tot_of (g:=g1+1) (by rw[x_def _ _ _ he,hp]) hn.1 hn.2
    | ok q=>
     obtain⟨nm,b,r1⟩:=q;by_cases e1:s.step.e=0
     ·obtain⟨srr,s20⟩:=sr e1;obtain⟨G,hG⟩:=pDef_wb hlr hp;have hcb:=(pDefD_ok hlr (by rw[<-pDef_eq];exact hp)).1;have hl1:=pDef_len hp;have w2:=sw.set (nm:=nm) (b:=b) (wb_known sk _ _ _ hG) hcb;obtain⟨g2,s2,l2,h2,w3,kk3⟩:=H.toks (s.step.set nm b) r1 w2 (fun _=>srr) (by omega);exact tot_of (g:=g1+g2+1) (by rw[x_def _ _ _ he,pDef_le (by omega) hp];dsimp only;rw[if_neg (by simp[e1])];exact xRun_mono (by omega) h2) w3 (fun t ht=>kk3 t (set_knows (sk t ht)))
     ·exact tot_of (g:=g1+1) (by rw[x_def _ _ _ he,hp];dsimp only;rw[if_pos e1]) sw sk
   ·obtain⟨g1,s1,h1,w1,kk1,r1⟩:=tok_tot H s t hw he hr;obtain⟨g2,s2,l2,h2,w2,kk2⟩:=H.toks s1 r w1 r1 hlr;exact tot_of (g:=g1+g2+1) (by rw[x_tok _ _ _ _ he ht,xTok_le (by omega) h1];exact xRun_mono (by omega) h2) w2 (fun t ht=>kk2 t (kk1 t ht))
 ·exact tot_of (x_terr 0 s ts he) hw (fun _ h=>h)
theorem totN:∀ N,TotN N
 | 0=>TotN.zero
 | N+1=>⟨fun G s f lp l lo=>body_tot (totN N) G s f lp l lo,fun G s f lp x lo=>item_tot (totN N) G (body_tot (totN N) G) s f lp x lo,fun G s f lp n m l=>do_tot (totN N) G s f lp n m l,fun s f=>enter_tot (totN N) s f,fun s t=>call_tot (totN N) s t,fun s ts=>toks_tot (totN N) s ts⟩
theorem line_total (s:St) (hw:WFs s) (text:List UInt8) (hlt:(Lib.fields text).length<=1000):∃ g s1 left,xRun g (jToks (Lib.fields text)) { s with e:=0,steps:=0,depth:=0,out:=⟨#[]⟩ }=some (s1,left)/\WFs (if s1.e=0 then s1 else { s1 with rs:=[] }):=by
 have hg:=hw.g;have hn:=hw.same (s':={ s with e:=0,steps:=0,depth:=0,out:=⟨#[]⟩ }) ⟨⟨hg.g.ins,hg.g.mems,hg.g.len,by show (0:Nat)<=300;decide⟩,by show (0:Int)<=0;decide,by show (0:Int)<=2001;decide,fun _=>by show (0:Int)<=2000;decide,by show (0:Int)<=0;decide,by show (0:Int)<=20;decide,hg.b0,hg.b1,hg.cb⟩ rfl;obtain⟨g,s1,left,h,w1,_⟩:=(totN 2001).toks _ (Lib.fields text) hn.1 (fun _=>by unfold rem;simp) hlt;refine⟨g,s1,left,h,?_⟩
 split
 ·exact w1
 ·exact (w1.same (s':={ s1 with rs:=[] }) (w1.g.tail (fun x hx=>by cases hx) (by simp)) rfl).1
end
section
open Go.RowKit
variable {K:Nat->Prop}
theorem Keeps.out {w w':World} {S:Nat->Prop} (hk:Kp w w' S) (hS:∀ b,b < w.heap.size->S b->K b):Keeps (nK K) (nK K) w w':=fun b _ _ hb hbl _=>⟨hk.blk hbl (fun h=>hb (hS b hbl.lt h)),hb⟩
theorem Ses.frame {w w':World} {S:Nat->Prop} {yb:Nat} {rs:RS} {s:St} (h:Ses K w yb rs s) (hk:Kp w w' S) (hS:∀ b,b < w.heap.size->S b->K b) (h1:¬ S yb) (h2:∀ b,own rs.nv b->¬ S b) (h3:∀ b,own rs.d.dv b->¬ S b):Ses K w' yb rs s:=by
 have hi:=h.inv;have hi':RInv w' yb rs s.rs.reverse:=⟨hk.blk hi.blk h1,hk.row hi.row h2,hi.len⟩;have hr:=h.rel;have hd:DRel K w' rs.d.dv s.defs:=hr.dr.keep (Keeps.out hk hS) (fun b hb=>by
  obtain⟨xs,hrow,_⟩:=hr.dr.ex;exact hk.block b (own_lt hrow hb) (h3 b hb)) hk.size
 exact⟨⟨⟨_,hi',fun _=>rfl⟩,hr.e,hr.st,hr.mem,hr.out,hr.ids,hr.hot,hr.blt,hr.dp,hd,hr.good⟩,hi'⟩
theorem Ses.move {w w1:World} {S:Nat->Prop} {yb:Nat} {rs:RS} {s:St} {K':Nat->Prop} (h:Ses K w yb rs s) (hk:Kp w w1 S) (hS:∀ b,b < w.heap.size->S b->K b) (q1:¬ S yb) (q2:∀ b,own rs.nv b->¬ S b) (q3:∀ b,own rs.d.dv b->¬ S b) (h1:∀ b,K' b->K b\/w.heap.size<=b) (h2:∀ b,K' b->b < w1.heap.size):Ses K' w1 yb rs s:=by
 have hi:=h.inv;have hi':RInv w1 yb rs s.rs.reverse:=⟨hk.blk hi.blk q1,hk.row hi.row q2,hi.len⟩;have hr:=h.rel;have hkeep:Keeps (nK K) (nK K') w w1:=fun b _ _ hb hbl _=>⟨hk.blk hbl (fun h=>hb (hS b hbl.lt h)),fun hK=>by
  rcases h1 b hK with h|h
  ·exact hb h
  ·have:=hbl.lt;omega⟩
 obtain⟨xs,hrow,hx⟩:=hr.dr.ex;have hdefs:∀ (l:List Def) (xs:List Value),defsIn K w l xs->defsIn K' w1 l xs:=by
  intro l
  induction l with
  | nil=>intro xs h;exact h
  | cons d l ih=>
   rintro xs ⟨nm,vb,vt,rest,h1,h2,h3,h4,h5⟩;exact⟨nm,vb,vt,rest,h1,h2,h3.keep hkeep,toksIn_keep hkeep h4,ih rest h5⟩
 exact⟨⟨⟨_,hi',fun _=>rfl⟩,hr.e,hr.st,hr.mem,hr.out,hr.ids,hr.hot,hr.blt,hr.dp,⟨⟨xs,hk.row hrow q3,hdefs _ _ hx⟩,hr.dr.len,h2⟩,hr.good⟩,hi'⟩
theorem Ses.bar {w w1:World} {yb:Nat} {rs:RS} {s:St} {K':Nat->Prop} (h:Ses K w yb rs s) (hk:Kp w w1 (fun _=>False)) (h1:∀ b,K' b->K b\/w.heap.size<=b) (h2:∀ b,K' b->b < w1.heap.size):Ses K' w1 yb rs s:=
 h.move hk (fun _ _ h=>h.elim) (fun h=>h) (fun _ _ h=>h) (fun _ _ h=>h) h1 h2
theorem Ses.less {w:World} {yb:Nat} {rs:RS} {s:St} {K':Nat->Prop} (h:Ses K w yb rs s) (h1:∀ b,K' b->K b):Ses K' w yb rs s:=
 h.bar (Kp.refl _ _) (fun b hb=>.inl (h1 b hb)) (fun b hb=>h.rel.dr.old b (h1 b hb))
def rs0:RS:=⟨.slice none 0 0,fun _=>0,0,0,⟨#[]⟩,⟨.slice none 0 0,0,5,1,0⟩⟩
theorem SGood.first:SGood st0:=
 ⟨⟨(by intro x hx;cases hx),(fun i=>by show In 0;unfold In;decide),by show (0:Nat)<=32;decide,by show (0:Nat)<=300;decide⟩,by show (0:Int)<=0;decide,by show (0:Int)<=2001;decide,fun _=>by show (0:Int)<=2000;decide,by show (0:Int)<=0;decide,by show (0:Int)<=20;decide,by show (0:Int)<=1;decide,by show (1:Int)<=3;decide,(by intro d hd;cases hd)⟩
theorem Ses.first (w:World) (hK:∀ b,K b->b < (w.alloc (.cells rs0.arr 67)).heap.size):Ses K (w.alloc (.cells rs0.arr 67)) w.heap.size rs0 st0:=by
 have hi:RInv (w.alloc (.cells rs0.arr 67)) w.heap.size rs0 []:=⟨Blk.new _ _ _,World.ownsRow_nil _ _ _ _,by simp⟩;exact⟨⟨⟨[],hi,fun _=>rfl⟩,rfl,rfl,rfl,rfl,rfl,rfl,rfl,rfl,⟨⟨[],World.ownsRow_nil _ _ _ _,rfl⟩,by decide,hK⟩,SGood.first⟩,hi⟩
theorem WFs.first:WFs st0:=⟨SGood.first,(fun d hd=>by cases hd),fun _=>by show (0:Int)<=2000;decide⟩
theorem freshX (w:World):Calls Tryz.prog 29 #[] w fun e w'=>e=.returned (.pointer (some ⟨w.heap.size,0,none⟩))/\w'=w.alloc (.cells rs0.arr 67):=by
 go_enter Tryz.func29,Tryz.ntmps29;go_wp2;go_ret;exact⟨rfl,rfl⟩
end
section
open Go.RowKit
def insN (x:Tok):List Tok->List Tok
 | []=>[x]
 | b :: r=>if Op.bytesLess x b=true then b :: insN x r else x :: b :: r
def rsortN (l:List Tok):List Tok:=l.foldl (fun rp x=>insN x rp) []
def sortN (l:List Tok):List Tok:=(rsortN l).reverse
def sink:Nat->List Tok->List Tok
 | 0,l=>l
 | k+1,l=>match l[k+1]?,l[k]? with
  | some a,some b=>if Op.bytesLess a b=true then sink k ((l.set (k+1) b).set k a) else l
  | _,_=>l
theorem sink_eq (x:Tok):∀ (rp post:List Tok),sink rp.length (rp.reverse ++ x :: post)=(insN x rp).reverse ++ post
 | [],post=>by simp[sink,insN]
 | b :: r,post=>by
  have e1:((b :: r).reverse ++ x :: post)[r.length+1]? = some x:=by
   rw[List.getElem?_append_right (by simp)];simp
  have e2:((b :: r).reverse ++ x :: post)[r.length]? = some b:=by
   rw[List.reverse_cons,List.append_assoc,List.getElem?_append_right (by simp)];simp
  have e3:((((b :: r).reverse ++ x :: post).set (r.length+1) b).set r.length x)=r.reverse ++ x :: (b :: post):=by
   rw[List.reverse_cons,List.append_assoc];rw[List.set_append_right _ _ (by simp),List.set_append_right _ _ (by simp)];simp
  show sink (r.length+1) _=_;rw[sink,e1,e2];dsimp only;rw[insN];by_cases h:Op.bytesLess x b=true
  ·rw[if_pos h,if_pos h,e3,sink_eq x r (b :: post)];simp
  ·rw[if_neg h,if_neg h];simp
def sortTo (i:Nat) (l:List Tok):List Tok:=(rsortN (l.take i)).reverse ++ l.drop i
theorem insN_len (x:Tok):∀ (rp:List Tok),(insN x rp).length=rp.length+1
 | []=>rfl
 | b :: r=>by unfold insN;split <;> simp[insN_len x r]
theorem rsortN_snoc (l:List Tok) (x:Tok):rsortN (l ++ [x])=insN x (rsortN l):=by unfold rsortN;rw[List.foldl_append];rfl
theorem rsortN_len:∀ (l:List Tok),(rsortN l).length=l.length:=by
 have key:∀ (l rp:List Tok),(l.foldl (fun rp x=>insN x rp) rp).length=rp.length+l.length:=by
  intro l
  induction l with
  | nil=>intro rp;simp
  | cons x l ih=>intro rp;rw[List.foldl_cons,ih,insN_len];simp;omega
 intro l;unfold rsortN;rw[key];simp
theorem sortTo_succ (l:List Tok) (i:Nat) (h:i < l.length):sink i (sortTo i l)=sortTo (i+1) l:=by
 unfold sortTo;rw[List.drop_eq_getElem_cons h,List.take_succ_eq_append_getElem h,rsortN_snoc];have:(rsortN (l.take i)).length=i:=by rw[rsortN_len];simp;omega
 have h2:=sink_eq l[i] (rsortN (l.take i)) (l.drop (i+1));rw[this] at h2;exact h2
theorem sortTo_one (l:List Tok):sortTo 1 l=l:=by
 unfold sortTo
 cases l with
 | nil=>rfl
 | cons x r=>simp[rsortN,insN]
def wordsP (s:St):List Tok:=sortN (s.defs.map Def.name)
def cellP (s:St) (n:Int):Int × Int:=if n < 0\/16<=n then (0,10) else (s.mem n.toNat,0)
def badT (hot built:Int):Prop:=hot < 1\/1000 < hot\/built < 0\/3 < built
def tuneS (s:St) (hot built:Int):St:={ s with hot:=hot,built:=built,defs:=s.defs.map slowD }
end
section
open Go.RowKit
variable {K:Nat->Prop}
theorem cellX (w:World) (yb:Nat) (rs:RS) (s:St) (n:Int) (h:Ses K w yb rs s) (hn:In n):
  Calls Tryz.prog 49 #[.pointer (some ⟨yb,0,none⟩),.int .i64 n] w fun e w'=>e=.returned (.tuple #[.int .i64 (cellP s n).1,.int .i64 (cellP s n).2])/\Kp w w' (fun _=>False):=by
 by_cases h0:n < 0
 ·have HP:Hid (cellP s n=(0,10)):=by unfold Hid cellP;rw[if_pos (.inl h0)]
  go_enter Tryz.func49,Tryz.ntmps49;go_wp2;go_ret2;rw[HP.out];exact⟨rfl,Kp.refl _ _⟩
 by_cases h1:16<=n
 ·have HP:Hid (cellP s n=(0,10)):=by unfold Hid cellP;rw[if_pos (.inr h1)]
  go_enter Tryz.func49,Tryz.ntmps49;go_wp2;go_ret2;rw[HP.out];exact⟨rfl,Kp.refl _ _⟩
 ·obtain⟨k,rfl⟩:∃ k:Nat,n=k:=⟨n.toNat,by omega⟩;have hk:k < 16:=by omega
  have HP:Hid (cellP s k=(s.mem k,0)):=by unfold Hid cellP;rw[if_neg (by omega)];simp
  have c:w.cell? ⟨yb,1+k,none⟩=some (.int .i64 (s.mem k)):=by rw[<-h.rel.mem];exact h.inv.blk.cell (RS.at _ _ hk)
  clear h0 h1;go_enter Tryz.func49,Tryz.ntmps49;go_wp2;go_ret2;rw[HP.out];exact⟨rfl,Kp.refl _ _⟩
structure SortAt (w wr:World) (v:Value) (n:Nat) (T:List Tok) (k:Nat):Prop where
 ex:∃ L:List ByteArray,L.length=n/\wr.ownsRow 0 9 1 v n (L.map Value.string)/\sink k (texts L)=T
 kp:Kp w wr (fun b=>own v b)
theorem texts_set (L:List ByteArray) (i:Nat) (t:ByteArray):texts (L.set i t)=(texts L).set i t.data.toList:=by unfold texts;rw[List.map_set]
theorem texts_at (L:List ByteArray) (i:Nat) (h:i < L.length):(texts L)[i]? = some L[i].data.toList:=by unfold texts;simp[h]
theorem texts_len (L:List ByteArray):(texts L).length=L.length:=by simp[texts]
theorem sortedX (w:World) (v:Value) (ws:List ByteArray) (hr:w.ownsRow 0 9 1 v ws.length (ws.map Value.string)) (hl:ws.length<=100):
  Calls Tryz.prog 54 #[v] w fun e w'=>e=.returned v/\(∃ L:List ByteArray,w'.ownsRow 0 9 1 v L.length (L.map Value.string)/\texts L=sortN (texts ws))/\Kp w w' (fun b=>own v b):=by
 have HO:Hid (∃ L:List ByteArray,L.length=ws.length/\w.ownsRow 0 9 1 v ws.length (L.map Value.string)/\texts L=sortTo 1 (texts ws)):=⟨ws,rfl,hr,(sortTo_one _).symm⟩;obtain⟨ao,cap,rfl⟩:=row_slice hr;clear hr;go_enter Tryz.func54,Tryz.ntmps54;go_wp2
 go_loopw [3] (fun i wr=>∃ k:Nat,1<=k/\(k<=ws.length\/k=1)/\i=.int .i64 k/\(∃ L:List ByteArray,L.length=ws.length/\wr.ownsRow 0 9 1 (.slice ao ws.length cap) ws.length (L.map Value.string)/\texts L=sortTo k (texts ws))/\Kp w wr (fun b=>own (.slice ao ws.length cap) b)) (fun i _=>ws.length - (intOf i).toNat)
 case atStart=>exact⟨1,Nat.le_refl _,.inr rfl,rfl,HO.out,Kp.refl _ _⟩
 case round=>
  obtain⟨i,h1,h2,rfl,⟨L,hL,hrow,hT⟩,hkp⟩:=hrel;clear HO;by_cases hlt:i < ws.length
  ·have HS:Hid (SortAt w wr (.slice ao ws.length cap) ws.length (sortTo (i+1) (texts ws)) i):=⟨⟨L,hL,hrow,by rw[hT];exact sortTo_succ _ _ (by rw[texts_len];exact hlt)⟩,hkp⟩;clear hrow hT hkp hL;go_wp2
   go_loopw [4] (fun j wr2=>∃ m:Nat,m<=i/\j=.int .i64 m/\SortAt w wr2 (.slice ao ws.length cap) ws.length (sortTo (i+1) (texts ws)) m) (fun j _=>(intOf j).toNat)
   case atStart=>exact⟨i,Nat.le_refl _,rfl,HS.out⟩
   case round=>
    clear HS;obtain⟨m,hm,rfl,⟨L,hL,hrow,hT⟩,hkp⟩:=hrel
    cases m with
    | zero=>
     have HN:Hid ((∃ L:List ByteArray,L.length=ws.length/\wr.ownsRow 0 9 1 (.slice ao ws.length cap) ws.length (L.map Value.string)/\texts L=sortTo (i+1) (texts ws))/\Kp w wr (fun b=>own (.slice ao ws.length cap) b)):=⟨⟨L,hL,hrow,hT⟩,hkp⟩;clear hrow hT hL hkp;go_wp2
     go_quiet (fail)
     go_wp2
     go_roundw
     case rel=>exact⟨i+1,by omega,by omega,by go_num,HN.out.1,HN.out.2.drewN _⟩
     case measure=>simp[intOf];omega
    | succ m=>
     obtain⟨g,cap',hv,hc⟩:=row_cell hrow (by omega);injection hv with e1 e2 e3;subst e1;clear e2 e3;have hm1:m+1 < L.length:=by omega
     have c1:=hc (m+1) (.string L[m+1]) (by simp[hm1]);have c0:=hc m (.string L[m]) (by first|(simp;done)|(simp;omega))
     have hwm:IntKind.i64.wrap (((m+1:Nat):Int) - 1)=(m:Int):=by
      rw[show ((m+1:Nat):Int) - 1=(m:Int) by omega,IntKind.wrap_i64];omega
     have hwm2:IntKind.i64.wrap ((m:Int)+1 - 1)=(m:Int):=by
      rw[show (m:Int)+1 - 1=(m:Int) by omega,IntKind.wrap_i64];omega
     clear hc;have hTT:Hid (sink (m+1) (texts L)=if Op.bytesLess L[m+1].toList L[m].toList=true then sink m (texts ((L.set (m+1) L[m]).set m L[m+1])) else texts L):=by
      unfold Hid;rw[sink,texts_at L (m+1) hm1,texts_at L m (by omega),texts_set,texts_set,ByteArray.toList_eq,ByteArray.toList_eq]
     cases hb:Op.bytesLess L[m+1].toList L[m].toList with
     | false=>
      have HN:Hid ((∃ L:List ByteArray,L.length=ws.length/\wr.ownsRow 0 9 1 (.slice (some ⟨g,0,none⟩) ws.length cap) ws.length (L.map Value.string)/\texts L=sortTo (i+1) (texts ws))/\Kp w wr (fun b=>own (.slice (some ⟨g,0,none⟩) ws.length cap) b)):=⟨⟨L,hL,hrow,by rw[<-hT,hTT.out,if_neg (by rw[hb];decide)]⟩,hkp⟩;clear hrow hT hkp hTT;go_wp2
      go_quiet (fail)
      go_wp2
      go_roundw
      case rel=>exact⟨i+1,by omega,by omega,by go_num,HN.out.1,HN.out.2.drewN _⟩
      case measure=>simp[intOf];omega
     | true=>
      have hgo:own (.slice (some ⟨g,0,none⟩) ws.length cap) g:=rfl;obtain⟨cc,hcc⟩:=row_blk hrow hgo;have f1:=hcc.free (m+1);have f0:=hcc.free m;have HROW:=hide hrow;have HT:=hide hT;have HKP:=hide hkp;clear hrow hT hkp hcc;go_wp2
      go_quiet (fail)
      go_wp2;have hK:Kp w (((wr.drewN nq).setCell ⟨g,m+1,none⟩ (.string L[m])).setCell ⟨g,m,none⟩ (.string L[m+1])) (fun b=>own (.slice (some ⟨g,0,none⟩) ws.length cap) b):=((HKP.out.drewN nq).set (a:=⟨g,m+1,none⟩) (fun _=>hgo) _).set (a:=⟨g,m,none⟩) (fun _=>hgo) _;have hR:=row_set (row_set (row_drewN HROW.out nq) hgo (m+1) (.string L[m])) hgo m (.string L[m+1]);refine⟨⟨m,by omega,rfl,⟨⟨(L.set (m+1) L[m]).set m L[m+1],by simp;exact hL,by rw[List.map_set,List.map_set];exact hR,?_⟩,hK⟩⟩,by simp[intOf]⟩;rw[<-HT.out,hTT.out,if_pos hb]
  ·have HN:Hid (texts L=sortN (texts ws)):=by
    unfold Hid;rw[hT];unfold sortTo sortN;rw[List.take_of_length_le (by rw[texts_len];omega),List.drop_of_length_le (by rw[texts_len];omega)];simp
   clear hT;go_wp2;go_ret;exact⟨rfl,⟨L,by rw[hL];exact hrow,HN.out⟩,hkp⟩
end
section
open Go.RowKit
variable {K:Nat->Prop}
theorem Kp.newS {w w1 w2:World} {S:Nat->Prop} (h:Kp w w1 (fun _=>False)) (hk:Kp w1 w2 S) (hb:∀ b,S b->w.heap.size<=b):Kp w w2 (fun _=>False):=
 ⟨hk.os.trans h.os,hk.tape.trans h.tape,hk.output.trans h.output,Nat.le_trans h.size hk.size,fun k hlt hn=>(hk.block k (Nat.lt_of_lt_of_le hlt h.size) (fun hS=>by have:=hb k hS;omega)).trans (h.block k hlt hn)⟩
structure NamesAt (w wr:World) (v:Value) (l:List Tok):Prop where
 ex:∃ L:List ByteArray,wr.ownsRow 0 9 1 v L.length (L.map Value.string)/\texts L=l
 new:∀ b,own v b->w.heap.size<=b
 kp:Kp w wr (fun _=>False)
theorem NamesAt.nil (w:World):NamesAt w w (.slice none 0 0) []:=⟨⟨[],World.ownsRow_nil _ _ _ _,rfl⟩,fun b hb=>by simp[own,Value.ownBlock] at hb,Kp.refl _ _⟩
theorem NamesAt.more {w wr w1:World} {v v':Value} {l:List Tok} {L:List ByteArray} {t:ByteArray} {o:Obj} (hL:texts L=l) (hnew:∀ b,own v b->w.heap.size<=b) (hkp:Kp w wr (fun _=>False))
  (hown:w1.ownsRow 0 9 1 v' (L.length+1) (L.map Value.string ++ [.string t])) (hg:(wr.alloc o).grownBy w1 v.ownBlock) (hnx:∀ k,own v' k->own v k\/wr.heap.size+1<=k):NamesAt w w1 v' (l ++ [t.data.toList]):=by
 refine⟨⟨L ++ [t],by simpa using hown,by rw[<-hL];simp[texts]⟩,fun b hb=>?_,(hkp.alloc o).grown hg (fun b hb e=>?_)⟩
 ·rcases hnx b hb with h|h
  ·exact hnew b h
  ·have:=hkp.size;omega
 ·have:=hnew b e;omega
theorem wordsX (w:World) (yb:Nat) (rs:RS) (s:St) (h:Ses K w yb rs s):
  Calls Tryz.prog 34 #[.pointer (some ⟨yb,0,none⟩)] w fun e w'=>∃ v,e=.returned v/\NamesAt w w' v (wordsP s):=by
 have hdl:=h.rel.dr.len;have HS:=hide h;obtain⟨i0,hi,hz0,hz1,hz2⟩:=info_parts Tryz.info9;clear h;go_enter Tryz.func34,Tryz.ntmps34;go_wp2
 go_loopw [3,4] (fun v i wr=>∃ k:Nat,k<=s.defs.length/\i=.int .i64 k/\NamesAt w wr v ((s.defs.take k).map Def.name)) (fun _ i _=>s.defs.length - (intOf i).toNat)
 case atStart=>exact⟨0,Nat.zero_le _,rfl,by simpa using NamesAt.nil w⟩
 case round=>
  obtain⟨k,hk,rfl,⟨⟨L,hrow,hL⟩,hnew,hkp⟩⟩:=hrel;have hS:=HS.out.kpF hkp;have hLl:L.length<=30:=by have:=congrArg List.length hL;rw[texts_len] at this;simp at this;omega
  have HL:=hide hL;clear hL;by_cases hlt:k < s.defs.length
  ·obtain⟨gd,capd,xs,nm,vb,vt,hD⟩:=hS.rel.dr.cells k hlt;have cy:wr.cell? ⟨yb,17,none⟩=some (.slice (some ⟨gd,0,none⟩) s.defs.length capd):=by rw[<-hD.dv];exact hS.inv.blk.cell rfl
   have k0:=hD.cell _ _ hD.x0;have hyl:=hS.inv.blk.lt;have HNM:=hide hD.at_.nm;obtain⟨ao,cap,rfl⟩:=row_slice hrow;clear hD hS
   go_wp2_with (first
    | (at_builtin;refine wpList_append_to _ rfl _ _ 47 rfl 9 i0 (.string ByteArray.empty) 1 16 Tryz.underlying47 hi hz0 hz1 hz2 rfl (by decide) _ _ _ rfl (hrow.alloc _) ⟨wr.heap.size,0,none⟩ 1 1 [.string nm] rfl rfl ?c1 ?c2 ?c3 ?c4 ?_)
    | go_in)
   case c1=>intro j u hj;match j,hj with|0,hj=>simp at hj;subst hj;simp[Addr.add]
   case c2=>intro u hu;simp at hu;subst hu;rfl
   case c3=>unfold maxLen;omega
   case c4=>omega
   intro v1 w1 hown hgrow hnx;have HN0:=NamesAt.more HL.out hnew hkp hown hgrow (fun q hq=>(hnx q hq).imp (fun h=>h) (fun h=>by simpa using h));have HN:Hid (NamesAt w w1 v1 ((s.defs.take (k+1)).map Def.name)):=by
    unfold Hid;rw[List.take_succ_eq_append_getElem hlt,List.map_append];rw[HNM.out] at HN0;exact HN0
   clear HN0 hown hgrow hnx hrow hnew hkp cy k0;go_wp2
   go_roundw
   case rel=>exact⟨k+1,by omega,by go_num,HN.out⟩
   case measure=>simp[intOf];omega
  ·have cy0:wr.cell? ⟨yb,17,none⟩=some rs.d.dv:=hS.inv.blk.cell rfl;obtain⟨xsd,hrd,-⟩:=hS.rel.dr.ex;obtain⟨aod,capd,hvd⟩:=row_slice hrd;rw[hvd] at cy0;have HLL:Hid (texts L=s.defs.map Def.name):=by have:=HL.out;rw[List.take_of_length_le (by omega)] at this;exact this
   clear hrd hvd hS
   go_wp2_with fail
   refine (sortedX wr _ L hrow (by omega)).mono ?_;rintro e w2 ⟨rfl,⟨L2,hrow2,hL2⟩,hkp2⟩;have HN:Hid (NamesAt w w2 _ (wordsP s)):=⟨⟨L2,hrow2,by rw[hL2,HLL.out];rfl⟩,hnew,hkp.newS hkp2 hnew⟩;clear hrow2 hL2 hkp2 hrow hnew hkp;go_wp2;go_ret;exact⟨_,rfl,HN.out⟩
end
end Go.Proofs.YteainaiebcphlaaGreatDoor
