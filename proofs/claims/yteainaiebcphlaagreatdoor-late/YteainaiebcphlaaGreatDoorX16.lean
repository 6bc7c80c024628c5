import Derived.Test.YteainaiebcphlaaGreatDoorX9
import Derived.Laws.IdiomRangeMap
import Derived.Deep.RegionLaw
import Derived.Test.YteainaiebcphlaaGreatDoorX12
import Derived.Test.YteainaiebcphlaaGreatDoorX13
import Derived.Test.YteainaiebcphlaaGreatDoorX14
import Derived.Handy
namespace Go.Proofs.YteainaiebcphlaaGreatDoor
set_option maxRecDepth 1000000
set_option maxHeartbeats 4000000
set_option linter.all false
section
open Go.RowKit
theorem keyStr_inv {key:Value} {kl:Lit} (h:keyOf Tryz.prog 9 key=some kl):∃ x:ByteArray,key=.string x/\kl=.string x.data.toList:=by
 cases key <;> simp[keyOf,Tryz.underlying9,mapKey] at h
 exact⟨_,rfl,h.2.symm⟩
theorem step_delete_run {P:Program} {w:World} (w':World) {ops:Array Oper} {o:Oper} {a:Act} {K:Act->World->Prop} {Q:Exit->Act->World->Prop} {E:Prop} (hg:o.guard=none) (m x:Operand) (t k:TypeId) (hop:o.op=Op.call { callee:=Callee.builtin Builtin.delete,args:=#[m,x],argTypes:=#[t,k] }) (vm vx:Value)
  (hm:a.eval m=vm) (hx:a.eval x=vx) (hrun:∀ ty,(Builtin.delete_ #[t,k] ty #[vm,vx]).run P w=.ok (.tuple #[]) w') (h:K (a.put o.dst (.tuple #[])) w'):if Region.wanted o (yielded ops a.tmps)=true then Oper.wp P o a w K Q else E:=by
 have hw:Region.wanted o (yielded ops a.tmps)=true:=by simp[Region.wanted,hg]
 rw[if_pos hw];unfold Oper.wp;simp[execOp,hop,resolve,invoke,builtin,hm,hx,hrun,Result.andThen];exact h
theorem MapB.del {r:Nat->Fr->Prop} {w:World} {b:Nat} {DD:DataW Value} (h:MapB r w b DD) (nm:ByteArray) (hs:nm.size<=1000):∃ w',(∀ ty,(Builtin.delete_ #[104,9] ty #[.map (some b),.string nm]).run Tryz.prog w=.ok (.tuple #[]) w')/\Kp w w' (fun k=>k=b)/\w'.heap.size=w.heap.size/\∃ DD',MapB r w' b DD':=by
 obtain⟨⟨n,h1⟩,h2⟩:=h;have hk:=keyS nm (Nat.le_trans hs (by decide));obtain⟨w',hrun,hown,ht⟩:=h1.drop (Maps.string_keyed Tryz.underlying9) Tryz.underlying104 hk 0;have htd:=h1.tidy (Maps.string_keyed Tryz.underlying9);have hg:=ht.grown;refine⟨w',fun ty=>?_,(Kp.refl w _).grown hg (fun k _ e=>(Option.some.inj e).symm),?_,_,⟨⟨n,hown⟩,fun kl hkl=>?_⟩⟩
 ·exact hrun
 ·obtain⟨es,cl,es',cl',hb,rfl⟩:=ht;simp[ChangeMaps.setBlock]
 ·have hne:¬ kl=.string nm.data.toList:=by
   rintro rfl;rw[Maps.has_del_same] at hkl;cases hkl
  rw[Maps.has_del_other hne] at hkl;obtain⟨ob,f,e1,e2,e3⟩:=h2 kl hkl;exact⟨ob,f,e1,e2,fun zd=>by rw[Maps.atKey_del_other hne];exact e3 zd⟩
section
variable {D:GD} {w:World} {bk ob:Nat} {f:Fr}
theorem coolEnd {w:World} {c:WC} (hW:Wds D w bk) (hr:D.r ob f) (hc:WordC D w bk ob f c):Pres D D w ((((w.setCell ⟨ob,4,none⟩ (.bool false)).setCell ⟨ob,5,none⟩ (.int .i64 0)).setCell ⟨ob,3,none⟩ c.sv).setCell ⟨ob,7,none⟩ (.map none)) bk/\Kp w ((((w.setCell ⟨ob,4,none⟩ (.bool false)).setCell ⟨ob,5,none⟩ (.int .i64 0)).setCell ⟨ob,3,none⟩ c.sv).setCell ⟨ob,7,none⟩ (.map none)) (fun k=>k=ob):=by
 have hk:Kp w ((((w.setCell ⟨ob,4,none⟩ (.bool false)).setCell ⟨ob,5,none⟩ (.int .i64 0)).setCell ⟨ob,3,none⟩ c.sv).setCell ⟨ob,7,none⟩ (.map none)) (fun k=>k=ob):=
  ((((Kp.refl w (fun k=>k=ob)).set (a:=⟨ob,4,none⟩) (fun _=>rfl) _).set (a:=⟨ob,5,none⟩) (fun _=>rfl) _).set (a:=⟨ob,3,none⟩) (fun _=>rfl) _).set (a:=⟨ob,7,none⟩) (fun _=>rfl) _
 have hbd:=BD_u hW.ud (fun k e=>by have e:k=ob:=e;rw[e];exact hc.u) hk;refine⟨hW.word hr hc hk (c':={ c with fa:=false,ct:=0,av:=c.sv,pm:=none }) ⟨((((hc.blk.set 4 _).set 5 _).set 3 _).set 7 _),hc.nm,hc.ns,hc.it.mono hbd,hc.sl.mono hbd (fun _ _ h=>h),hc.sl.mono hbd (fun _ _ h=>h),(fun b e=>by cases e),hc.wm.frame hk (GLe.refl _ _) (fun b hb e=>hc.wm.neBlk hb hc.blk e),hc.wn,hc.u,hc.wf⟩ rfl rfl rfl rfl rfl,hk⟩
structure CoolAt (D:GD) (bk pb r n:Nat) (DD:DataW Value) (w wr:World) (left:Lit->Bool) (cnt:Nat):Prop where
 rg:wr.ranges Tryz.prog 9 heldR pb r n DD left cnt
 sub:∀ kl,left kl=true->Maps.has DD kl=true
 kp:Kp w wr (FU D w bk)
 pr:Pres D D w wr bk
theorem CoolAt.wds {pb r n cnt:Nat} {DD:DataW Value} {wr:World} {left:Lit->Bool} (h:CoolAt D bk pb r n DD w wr left cnt) (hW:Wds D w bk):Wds D wr bk:=hW.next h.kp.size h.pr
theorem coolM (hW:Wds D w bk) (hr:D.r ob f):
  Calls Tryz.prog 60 #[pt ob] w fun e w'=>e=.returned (.tuple #[])/\Kp w w' (FU D w bk)/\Pres D D w w' bk:=by
 obtain⟨c,hc⟩:=hW.ok ob f hr;have hu:∀ k,k=ob->FU D w bk k:=fun k e=>by rw[e];exact .inl ⟨f,hr⟩
 have c7:w.cell? ⟨ob,7,none⟩=some (.map c.pm):=hc.blk.cell rfl;obtain⟨a0,m0,p0,hsv⟩:∃ a m p,c.sv=.slice a m p:=by obtain⟨a,p,e⟩:=hc.sl.form;exact⟨a,_,p,e⟩
 cases hpm:c.pm with
 | none=>
  rw[hpm] at c7;have hk0:=(Kp.refl w (fun _=>False)).alloc (.mapIter none 0 #[] 0);obtain⟨hp0,hW0⟩:=hW.kp hk0;obtain⟨c1,hc1⟩:=hW0.ok ob f hr;obtain⟨c0,e1,e2,e3,e4,e5,hc0⟩:=hp0 ob f c hr hc;have hcc:=hc0.inj hc1;subst hcc;obtain⟨hpr,hkp⟩:=coolEnd hW0 hr hc0;have d2:(w.alloc (.mapIter none 0 #[] 0)).cell? ⟨ob,2,none⟩=some (.slice a0 m0 p0):=by rw[<-hsv,<-e4];exact hc0.blk.cell rfl
  have d3:(w.alloc (.mapIter none 0 #[] 0)).cell? ⟨ob,3,none⟩=some c0.av:=hc0.blk.cell rfl;have d4:(w.alloc (.mapIter none 0 #[] 0)).cell? ⟨ob,4,none⟩=some (.bool c0.fa):=hc0.blk.cell rfl;have d5:(w.alloc (.mapIter none 0 #[] 0)).cell? ⟨ob,5,none⟩=some (.int .i64 c0.ct):=hc0.blk.cell rfl;have d7:(w.alloc (.mapIter none 0 #[] 0)).cell? ⟨ob,7,none⟩=some (.map c0.pm):=hc0.blk.cell rfl;have g2:=hc0.blk.free 2;have g3:=hc0.blk.free 3;have g4:=hc0.blk.free 4;have g5:=hc0.blk.free 5;have g7:=hc0.blk.free 7;rw[show c0.sv=.slice a0 m0 p0 by rw[e4];exact hsv] at hpr hkp;have HP:=hide (hp0.trans (fun _ _ h=>h) hpr);have HK:Hid (Kp w _ (FU D w bk)):=((hk0.mono (T:=FU D w bk) (fun _ _ e=>e.elim)).trans (hkp.mono (fun k _ e=>hu k e)));have hrg:=run_range_nilMap (P:=Tryz.prog) w 104 9 107 Tryz.underlying104;have hnx:∀ ty,(Instr.next (.pointer (some ⟨w.heap.size,0,none⟩)) false ty).run Tryz.prog (w.alloc (.mapIter none 0 #[] 0))=_:=fun ty=>run_next_nilMap w ty 0 0 #[];clear hW hc hp0 hW0 hc0 hc1 hpr hkp hk0 e1 e2 e3 e4 e5 hsv hu hpm;go_enter Tryz.func60,Tryz.ntmps60;go_wp2;refine wp_loop_rounds 1 ?_;rw[rounds_succ];go_wp2;refine bodyPost_end (results_none rfl _ _ _) rfl ?_;exact⟨rfl,HK.out,HP.out⟩
 | some pb=>
  rw[hpm] at c7;obtain⟨hpu,hpt,DD,⟨⟨n,hown⟩,hE⟩⟩:=hc.pm pb hpm;have HW:=hide hW;have HC:=hide hc;have HE:=hide hE;clear hW hc hE;go_enter Tryz.func60,Tryz.ntmps60
  go_wp2_with (first
   | (at_range;refine wpList_range_own _ rfl _ 104 rfl 9 107 (Maps.string_keyed Tryz.underlying9) Tryz.underlying104 _ pb n _ rfl hown ?_;intro w0 hrg0 hg0 hs0)
   | go_in)
  go_frame
  go_loopw [3] (fun _ wr=>∃ left cnt,CoolAt D bk pb w.heap.size n DD w wr left cnt) (fun _ wr=>wr.rangeLeft pb w.heap.size)
  case atStart=>
   have hk0:Kp w w0 (fun _=>False):=(Kp.refl w _).grown hg0 (fun k _ e=>by cases e);exact⟨_,_,⟨hrg0,fun _ h=>h,hk0.mono (fun _ _ e=>e.elim),(HW.out.kp hk0).1⟩⟩
  case round=>
   obtain⟨left,cnt,hat0⟩:=hrel;have hWr:=hat0.wds HW.out;have hrg:=hat0.rg
   go_wp2_with (first
    | (at_next;refine wpList_next_ranges _ rfl _ rfl 9 (Maps.string_keyed Tryz.underlying9) heldR Value.string (fun v:Value=>v) (fun key kl h=>(keyStr_inv h).imp (fun _ q=>q.1)) (fun v _ _=>⟨v,rfl⟩) pb w.heap.size n _ _ _ rfl hrg ?_ ?_)
    | go_in)
   ·intro hc0 hl0;obtain⟨c1,hc1⟩:=hWr.ok ob f hr;obtain⟨c2,e1,e2,e3,e4,e5,hc2⟩:=hat0.pr ob f c hr HC.out;have hcc:=hc2.inj hc1;subst hcc;obtain⟨hpr,hkp⟩:=coolEnd hWr hr hc2;have d2:wr.cell? ⟨ob,2,none⟩=some (.slice a0 m0 p0):=by rw[<-hsv,<-e4];exact hc2.blk.cell rfl
    have d3:wr.cell? ⟨ob,3,none⟩=some c2.av:=hc2.blk.cell rfl;have d4:wr.cell? ⟨ob,4,none⟩=some (.bool c2.fa):=hc2.blk.cell rfl;have d5:wr.cell? ⟨ob,5,none⟩=some (.int .i64 c2.ct):=hc2.blk.cell rfl;have d7:wr.cell? ⟨ob,7,none⟩=some (.map c2.pm):=hc2.blk.cell rfl;have g2:=hc2.blk.free 2;have g3:=hc2.blk.free 3;have g4:=hc2.blk.free 4;have g5:=hc2.blk.free 5;have g7:=hc2.blk.free 7;rw[show c2.sv=.slice a0 m0 p0 by rw[e4];exact hsv] at hpr hkp;have HP:=hide (hat0.pr.trans (fun _ _ h=>h) hpr);have HK:Hid (Kp w _ (FU D w bk)):=hat0.kp.trans (hkp.mono (fun k _ e=>hu k e));clear hpr hkp hat0 hWr hrg hc1 hc2 e1 e2 e3 e4 e5 hc0 hl0 hown hg0 hs0 hrg0;go_wp2;refine bodyPost_end (results_none rfl _ _ _) rfl ?_;exact⟨rfl,HK.out,HP.out⟩
   ·intro x v kl yd yp w1 cnt1 hkey hlk hv hat hrg1 hlt hg1 hs1 hen;obtain⟨o2,f2,rfl,hr2,hat2⟩:=HE.out kl (hat0.sub kl hlk);have hvv:v=pt o2:=by
     have h1:=hat (.held (.pointer none));rw[hat2] at h1;have h2:some (DataW.held v,[])=some (yd,yp):=hv;have h3:DataW.held v=yd:=congrArg Prod.fst (Option.some.inj h2);have h4:DataW.held (pt o2)=yd:=h1;rw[<-h3] at h4;exact (DataW.held.inj h4).symm
    subst hvv;have hrn:w.heap.size < wr.heap.size:=hrg.lt;have hk1:Kp wr w1 (fun k=>k=w.heap.size):=(Kp.refl wr _).grown hg1 (fun k _ e=>(Option.some.inj e).symm);have hnu:∀ k,D.u k->¬ k=w.heap.size:=fun k hk e=>by have:=HW.out.lt k hk;omega
    obtain⟨hp1,hW1⟩:=hWr.out hk1.drew hnu (fun k hd e=>by have:=HW.out.dl k hd;omega);obtain⟨c2,hc2⟩:=hW1.ok o2 f2 hr2;obtain⟨c1,hc1⟩:=hW1.ok ob f hr;have hpa:=hat0.pr.trans (fun _ _ h=>h) hp1;have hka:Kp w w1.drew (FU D w bk):=((hat0.kp.mono (T:=fun k=>FU D w bk k\/k=w.heap.size) (fun _ _ e=>.inl e)).trans (hk1.drew.mono (fun _ _ e=>.inr e))).mono (fun k hk e=>e.elim id (fun e=>by omega));have d8:w1.cell? ⟨o2,8,none⟩=some (.map c2.wm):=hc2.blk.cell rfl;have d0:w1.cell? ⟨ob,0,none⟩=some (.string c1.nm):=hc1.blk.cell rfl;have hdel:∃ w2,(∀ ty,(Builtin.delete_ #[104,9] ty #[.map c2.wm,.string c1.nm]).run Tryz.prog w1.drew=.ok (.tuple #[]) w2)/\CoolAt D bk pb w.heap.size n DD w w2 (fun z=>left z && !z.sameKey (.string f2.name)) cnt1:=by
     cases hwm:c2.wm with
     | none=>
      refine⟨w1.drew,fun ty=>Maps.drop_nil (Maps.string_keyed Tryz.underlying9) Tryz.underlying104 (keyS c1.nm (Nat.le_trans hc1.ns (by decide))) ty,⟨ranges_same hrg1 rfl rfl,fun k hk=>hat0.sub k (by simp at hk;exact hk.1),hka,hpa⟩⟩
     | some b2=>
      obtain⟨hu2,ht2,DD2,hm2⟩:=hc2.wm b2 hwm;obtain⟨w2,hrun,hk2,hs2,DD3,hm3⟩:=hm2.del c1.nm hc1.ns;have hne:¬ pb=b2:=by rintro rfl;rw[hpt] at ht2;cases ht2
      have hlt2:=HW.out.lt b2 hu2;have hpl:=HW.out.lt pb hpu;have hs1:wr.heap.size<=w1.drew.heap.size:=hk1.size;have hw1:=hat0.kp.size;refine⟨w2,hrun,⟨ranges_same (ranges_same hrg1 (w':=w1.drew) rfl rfl) (hk2.block pb (by omega) hne) (hk2.block w.heap.size (by omega) (by show ¬ _=_;omega)),fun k hk=>hat0.sub k (by simp at hk;exact hk.1),?_,hpa.trans (fun _ _ h=>h) (hW1.wmap hr2 hc2 hwm hk2 hm3)⟩⟩;exact hka.trans (hk2.mono (fun k _ e=>by
       have e:k=b2:=e;rw[e];exact FU.back HW.out hpa (.inr ⟨o2,f2,c2,hr2,hc2,hwm⟩)))
    obtain⟨w2,hrun,hat2'⟩:=hdel;have HN:=hide hat2';have hcnt:=hat2'.rg.left_eq;have hcn0:=hrg.left_eq;clear hat2' hpa hka hp1 hW1 hc1 hc2 hk1 hnu hat0 hWr hrg hrg1 hg1 hs1 hat hat2 hv hkey hlk;go_wp2
    go_region_law (refine step_delete_run w2 rfl (.tmp 16) (.tmp 20) 104 9 rfl (.map c2.wm) (.string c1.nm) rfl rfl hrun ?_)
    all_goals go_wp2
    all_goals go_roundw
    all_goals first
     | exact⟨_,_,HN.out⟩
     | (rw[hcnt,hcn0];exact hlt)
end
end
section
open Go.RowKit
def PresG (D:GD) (w w':World) (bk ob:Nat):Prop:=∀ o f c,D.r o f->WordC D w bk o f c->∃ c',(o ≠ ob->c'.gn=c.gn)/\(o=ob->c'.gn=true)/\WordC D w' bk o f c'
theorem PresG.wds {D:GD} {w w':World} {bk ob:Nat} (h:Wds D w bk) (hk:w.heap.size<=w'.heap.size) (hp:PresG D w w' bk ob):Wds D w' bk:=
 ⟨fun o f hr=>by obtain⟨c,hc⟩:=h.ok o f hr;obtain⟨c',_,_,h'⟩:=hp o f c hr hc;exact⟨c',h'⟩,h.fn,h.ud,fun k hk'=>Nat.lt_of_lt_of_le (h.lt k hk') hk,fun k hk'=>Nat.lt_of_lt_of_le (h.dl k hk') hk⟩
theorem PresG.then {D:GD} {w w1 w2:World} {bk ob:Nat} (h:PresG D w w1 bk ob) (g:Pres D D w1 w2 bk):PresG D w w2 bk ob:=fun o f c hr hc=>by
 obtain⟨c1,a1,a2,h1⟩:=h o f c hr hc;obtain⟨c2,b1,_,_,_,_,h2⟩:=g o f c1 hr h1;exact⟨c2,fun e=>b1.trans (a1 e),fun e=>b1.trans (a2 e),h2⟩
section
variable {D:GD} {w:World} {bk ob:Nat} {f:Fr}
theorem goneC {c:WC} (hW:Wds D w bk) (hr:D.r ob f) (hc:WordC D w bk ob f c):PresG D w ((w.setCell ⟨ob,6,none⟩ (.bool true)).setCell ⟨ob,8,none⟩ (.map none)) bk ob/\Kp w ((w.setCell ⟨ob,6,none⟩ (.bool true)).setCell ⟨ob,8,none⟩ (.map none)) (fun k=>k=ob)/\WordC D ((w.setCell ⟨ob,6,none⟩ (.bool true)).setCell ⟨ob,8,none⟩ (.map none)) bk ob f { c with gn:=true,wm:=none }:=by
 have hk:Kp w ((w.setCell ⟨ob,6,none⟩ (.bool true)).setCell ⟨ob,8,none⟩ (.map none)) (fun k=>k=ob):=
  ((Kp.refl w (fun k=>k=ob)).set (a:=⟨ob,6,none⟩) (fun _=>rfl) _).set (a:=⟨ob,8,none⟩) (fun _=>rfl) _
 have hbd:=BD_u hW.ud (fun k e=>by have e:k=ob:=e;rw[e];exact hc.u) hk;have hc':WordC D ((w.setCell ⟨ob,6,none⟩ (.bool true)).setCell ⟨ob,8,none⟩ (.map none)) bk ob f { c with gn:=true,wm:=none }:=⟨(hc.blk.set 6 _).set 8 _,hc.nm,hc.ns,hc.it.mono hbd,hc.sl.mono hbd (fun _ _ h=>h),hc.ac.mono hbd (fun _ _ h=>h),hc.pm.frame hk (GLe.refl _ _) (fun b hb e=>hc.pm.neBlk hb hc.blk e),(fun b e=>by cases e),(fun e=>by cases e),hc.u,hc.wf⟩;refine⟨fun o g c0 hr0 hc0=>?_,hk,hc'⟩;by_cases ho:o=ob
 ·subst ho;have:=hW.fn o g f hr0 hr;subst this;exact⟨_,fun e=>absurd rfl e,fun _=>rfl,hc'⟩
 ·exact⟨c0,fun _=>rfl,fun e=>absurd e ho,hc0.frame hk (GLe.refl _ _) hbd ho (fun b hb e=>hc0.pm.neBlk hb hc.blk e) (fun b hb e=>hc0.wm.neBlk hb hc.blk e)⟩
structure RetAt (D:GD) (bk ob hb r n:Nat) (DD:DataW Value) (w w1 wr:World) (left:Lit->Bool) (cnt:Nat):Prop where
 rg:wr.ranges Tryz.prog 9 heldR hb r n DD left cnt
 sub:∀ kl,left kl=true->Maps.has DD kl=true
 kp:Kp w1 wr (FU D w1 bk)
 pr:Pres D D w1 wr bk
end
end
section
open Go.RowKit
def knowD (defs:List Def) (t:Tok):Prop:=(defs.findIdx? (fun d=>d.name == t)).isSome=true
abbrev frD (d:Def):Fr:=⟨d.id,d.name,d.body⟩
structure WR (D:GD) (w:World) (bk mb:Nat) (defs:List Def) (obs:List Nat) (DD:DataW Value):Prop where
 ol:obs.length=defs.length
 mp:w.ownsMap Tryz.prog 9 heldR mb defs.length DD
 sz:Maps.size DD=defs.length
 hs:∀ t:Tok,t.length<=maxLen->Maps.has DD (.string t)=(defs.findIdx? (fun d=>d.name == t)).isSome
 l30:defs.length<=30
 lk:∀ t:Tok,t.length<=maxLen->DD.atKey (.string t) (.held (.pointer none))=.held (.pointer ((defs.findIdx? (fun d=>d.name == t)).map (fun k=>(⟨obs.getD k 0,0,none⟩:Addr))))
 nd:∀ i j (hi:i < defs.length) (hj:j < defs.length),defs[i].name=defs[j].name->i=j
 wd:Wds D w bk
 cur:∀ k (h:k < defs.length),D.r (obs.getD k 0) (frD defs[k])/\(∃ c,WordC D w bk (obs.getD k 0) (frD defs[k]) c/\c.gn=false)/\∃ G,wb (knowD defs) G false defs[k].body
 reg:∀ o f,D.r o f->knowD defs f.name/\((∃ k,∃ h:k < defs.length,defs.findIdx? (fun d=>d.name == f.name)=some k/\obs.getD k 0=o/\f=frD defs[k])\/∃ c,WordC D w bk o f c/\c.gn=true)
def WordsR (D:GD) (w:World) (bk mb:Nat) (defs:List Def):Prop:=∃ obs DD,WR D w bk mb defs obs DD
section
variable {D D':GD} {w w':World} {bk mb:Nat} {defs:List Def}
theorem WordsR.wds (h:WordsR D w bk mb defs):Wds D w bk:=by obtain⟨_,_,h⟩:=h;exact h.wd
theorem WordsR.ltm (h:WordsR D w bk mb defs):mb < w.heap.size:=by obtain⟨_,_,h⟩:=h;exact h.mp.lt
theorem WordsR.ne (h:WordsR D w bk mb defs) {b:Nat} {t:TypeId} {c:Array Value} (hb:Blk w b t c):mb ≠ b:=by obtain⟨_,_,h⟩:=h;exact map_ne h.mp hb
theorem WordsR.known {s:St} {hot blt:Int} (h:WordsR D w bk mb s.defs) (hb:Blk w bk 106 #[.map (some mb),.int .i64 hot,.int .i64 blt]):BookK w bk mb s.known:=by
 obtain⟨obs,DD,h⟩:=h;refine⟨⟨_,_,hb⟩,_,DD,h.mp,fun t ht=>⟨_,h.lk t ht,?_⟩⟩;unfold St.known St.find
 cases s.defs.findIdx? (fun d=>d.name == t) <;> rfl
theorem WordsR.pres (h:WordsR D w bk mb defs) (hp:Pres D D' w w' bk) (hr:∀ o f,D'.r o f->D.r o f) (hr2:∀ o f,D.r o f->D'.r o f) (hw:Wds D' w' bk) (hm:w'.heap[mb]? = w.heap[mb]?):WordsR D' w' bk mb defs:=by
 obtain⟨obs,DD,h⟩:=h;refine⟨obs,DD,h.ol,ownsMap_same h.mp hm,h.sz,h.hs,h.l30,h.lk,h.nd,hw,fun k hk=>?_,fun o f ho=>?_⟩
 ·obtain⟨h1,⟨c,h2,h3⟩,h4⟩:=h.cur k hk;obtain⟨c',e1,_,_,_,_,h5⟩:=hp _ _ c h1 h2;exact⟨hr2 _ _ h1,⟨c',h5,e1.trans h3⟩,h4⟩
 ·obtain⟨q,h1|⟨c,h2,h3⟩⟩:=h.reg o f (hr o f ho)
  ·exact⟨q,.inl h1⟩
  ·obtain⟨c',e1,_,_,_,_,h5⟩:=hp _ _ c (hr o f ho) h2;exact⟨q,.inr ⟨c',h5,e1.trans h3⟩⟩
end
structure PR (B:Nat) (W w:World) (xb rb mb:Nat) (m:MS) (D:GD) (s:St):Prop where
 inv:∃ ns,MInv w xb rb m ns/\(s.e=0->ns=s.rs.reverse)
 mem:m.mem=s.mem
 out:m.out=s.out
 st0:0<=m.st
 st1:m.st<=2000
 st:s.e=0->m.st=s.steps
 dp:m.dp=s.depth
 safe:Safe B W w xb rb m
 bmb:B<=mb
 book:Blk w m.bk 106 #[.map (some mb),.int .i64 s.hot,.int .i64 s.built]
 words:WordsR D w m.bk mb s.defs
 sep:∀ k,D.d k->k < w.heap.size/\k ≠ xb/\k ≠ rb/\¬ own m.sv k/\¬ own m.ov k
 us:∀ k,D.u k->B<=k/\k ≠ mb/\((∃ c,Blk w k 111 c)\/∃ n DD,w.ownsMap Tryz.prog 9 heldR k n DD)
 good:SGood s
def SameW (s s':St):Prop:=s'.defs=s.defs/\s'.hot=s.hot/\s'.built=s.built/\s'.ids=s.ids
structure PTo (xb rb mb:Nat) (w w':World) (m m':MS) (D D':GD):Prop where
 wt:To (fun k=>(k=xb\/k=rb)\/k=mb) w w' (fun k=>(own m.sv k\/own m.ov k)\/D.u k) (fun k=>(own m'.sv k\/own m'.ov k)\/D'.u k)
 up:∀ k,D.d k->D'.d k
 nw:∀ k,D'.d k->D.d k\/w.heap.size<=k
 rg:∀ o f,D.r o f->D'.r o f
 bk:m'.bk=m.bk
theorem PTo.refl (xb rb mb:Nat) (w:World) (m:MS) (D:GD):PTo xb rb mb w w m m D D:=⟨To.refl _ _ _,fun _ h=>h,fun _ h=>.inl h,fun _ _ h=>h,rfl⟩
theorem PTo.trans {xb rb mb:Nat} {w w1 w2:World} {m m1 m2:MS} {D D1 D2:GD} (h:PTo xb rb mb w w1 m m1 D D1) (g:PTo xb rb mb w1 w2 m1 m2 D1 D2):PTo xb rb mb w w2 m m2 D D2:=by
 refine⟨h.wt.trans g.wt,fun k hk=>g.up k (h.up k hk),fun k hk=>?_,fun o f hr=>g.rg o f (h.rg o f hr),g.bk.trans h.bk⟩;rcases g.nw k hk with h1|h1
 ·exact h.nw k h1
 ·exact .inr (Nat.le_trans h.wt.kp.size h1)
theorem PTo.of {xb rb mb:Nat} {w w':World} {m m':MS} (h:MTo xb rb w w' m m') (hb:m'.bk=m.bk) (D:GD):PTo xb rb mb w w' m m' D D:=by
 refine⟨⟨(To.kp h).mono (fun k _ hk=>?_),fun k hk=>?_⟩,fun _ h=>h,fun _ h=>.inl h,fun _ _ h=>h,hb⟩
 ·rcases hk with e|e
  ·exact .inl (.inl e)
  ·exact .inr (.inl e)
 ·rcases hk with e|e
  ·rcases To.nx h k e with h1|h1
   ·exact .inl (.inl h1)
   ·exact .inr h1
  ·exact .inl (.inr e)
section
variable {B:Nat} {W w w':World} {xb rb mb:Nat} {m m':MS} {D D':GD} {s s':St}
theorem PR.ult (h:PR B W w xb rb mb m D s) {k:Nat} (hk:D.u k):k < w.heap.size:=h.words.wds.lt k hk
theorem PR.une (h:PR B W w xb rb mb m D s) {k:Nat} (hk:D.u k) {b:Nat} {t:TypeId} {c:Array Value} (hb:Blk w b t c) (ht:t ≠ 111):k ≠ b:=by
 rintro rfl;obtain⟨_,_,⟨c',hc⟩|⟨n,DD,hm⟩⟩:=h.us k hk
 ·exact ht (hb.inj hc).1
 ·exact map_ne hm hb rfl
theorem PR.ux (h:PR B W w xb rb mb m D s) {k:Nat} (hk:D.u k):k ≠ xb/\k ≠ rb/\k ≠ mb/\k ≠ m.bk/\¬ own m.sv k/\¬ own m.ov k:=by
 obtain⟨ns,hi,_⟩:=h.inv;refine⟨h.une hk hi.xblk (by decide),h.une hk hi.rblk (by decide),(h.us k hk).2.1,h.une hk h.book (by decide),fun e=>?_,fun e=>?_⟩
 ·obtain⟨c,hc⟩:=row_blk hi.srow e;exact h.une hk hc (by decide) rfl
 ·obtain⟨c,hc⟩:=row_blk hi.orow e;exact h.une hk hc (by decide) rfl
theorem PR.keepD (h:PR B W w xb rb mb m D s) (ht:PTo xb rb mb w w' m m' D D'):∀ b t c,BD D.d w b t c->BD D'.d w' b t c:=by
 intro b t c hb;obtain⟨_,h1,h2,h3,h4⟩:=h.sep b hb.1;refine⟨ht.up b hb.1,ht.wt.kp.blk hb.2 ?_⟩;rintro (((e|e)|e)|((e|e)|e))
 ·exact h1 e
 ·exact h2 e
 ·exact h.words.ne hb.2 e.symm
 ·exact h3 e
 ·exact h4 e
 ·exact h.words.wds.ud b e hb.1
theorem PR.turn (h:PR B W w xb rb mb m D s) (hto:MTo xb rb w w' m m') (hb:m'.bk=m.bk) (hi:∃ ns,MInv w' xb rb m' ns/\(s'.e=0->ns=s'.rs.reverse))
  (hm:m'.mem=s'.mem) (ho:m'.out=s'.out) (h0:0<=m'.st) (h1:m'.st<=2000) (hst:s'.e=0->m'.st=s'.steps) (hdp:m'.dp=s'.depth) (hd:SameW s s') (hg:SGood s'):PR B W w' xb rb mb m' D s'/\PTo xb rb mb w w' m m' D D:=by
 have hP:PTo xb rb mb w w' m m' D D:=PTo.of hto hb D;have hkp:=To.kp hto;obtain⟨ns,hi0,_⟩:=h.inv;have nb:∀ b t c,Blk w b t c->t ≠ 80->t ≠ 100->t ≠ 2->t ≠ 5->¬ ((b=xb\/b=rb)\/(own m.sv b\/own m.ov b)):=by
  intro b t c hbb t1 t2 t3 t4;rintro ((e|e)|(e|e))
  ·subst e;exact t1 (hbb.inj hi0.xblk).1
  ·subst e;exact t2 (hbb.inj hi0.rblk).1
  ·exact t3 (row_type hi0.srow e hbb)
  ·exact t4 (row_type hi0.orow e hbb)
 have hnm:¬ ((mb=xb\/mb=rb)\/(own m.sv mb\/own m.ov mb)):=by
  rintro ((e|e)|(e|e))
  ·exact h.words.ne hi0.xblk e
  ·exact h.words.ne hi0.rblk e
  ·obtain⟨c,hc⟩:=row_blk hi0.srow e;exact h.words.ne hc rfl
  ·obtain⟨c,hc⟩:=row_blk hi0.orow e;exact h.words.ne hc rfl
 have hnu:∀ k,D.u k->¬ ((k=xb\/k=rb)\/(own m.sv k\/own m.ov k)):=fun k hk=>by
  obtain⟨e1,e2,_,_,e3,e4⟩:=h.ux hk;rintro ((e|e)|(e|e))
  ·exact e1 e
  ·exact e2 e
  ·exact e3 e
  ·exact e4 e
 have hnd:∀ k,D.d k->¬ ((k=xb\/k=rb)\/(own m.sv k\/own m.ov k)):=fun k hk=>by
  obtain⟨_,e1,e2,e3,e4⟩:=h.sep k hk;rintro ((e|e)|(e|e))
  ·exact e1 e
  ·exact e2 e
  ·exact e3 e
  ·exact e4 e
 obtain⟨hpr,hwd⟩:=h.words.wds.out hkp hnu hnd;refine⟨⟨hi,hm,ho,h0,h1,hst,hdp,h.safe.to hto,h.bmb,?_,?_,fun k hk=>?_,fun k hk=>?_,hg⟩,hP⟩
 ·rw[hb,hd.2.1,hd.2.2.1];exact hkp.blk h.book (nb _ _ _ h.book (by decide) (by decide) (by decide) (by decide))
 ·rw[hb,hd.1];exact h.words.pres hpr (fun _ _ h=>h) (fun _ _ h=>h) hwd (hkp.block mb h.words.ltm hnm)
 ·obtain⟨e0,e1,e2,e3,e4⟩:=h.sep k hk;refine⟨Nat.lt_of_lt_of_le e0 hkp.size,e1,e2,fun e=>?_,fun e=>?_⟩
  ·rcases To.nx hto k (.inl e) with (h2|h2)|h2
   ·exact e3 h2
   ·exact e4 h2
   ·omega
  ·rcases To.nx hto k (.inr e) with (h2|h2)|h2
   ·exact e3 h2
   ·exact e4 h2
   ·omega
 ·obtain⟨e0,e1,e2⟩:=h.us k hk;refine⟨e0,e1,?_⟩;rcases e2 with⟨c,hc⟩|⟨n,DD,hm2⟩
  ·exact .inl ⟨c,hkp.blk hc (hnu k hk)⟩
  ·exact .inr ⟨n,DD,ownsMap_same hm2 (hkp.block k hm2.lt (hnu k hk))⟩
theorem PR.kp (h:PR B W w xb rb mb m D s) (hk:Kp w w' (fun _=>False)):PR B W w' xb rb mb m D s/\PTo xb rb mb w w' m m D D:=by
 obtain⟨ns,hi,hn⟩:=h.inv;exact h.turn (MTo.kp hk) rfl ⟨ns,hi.kp hk,hn⟩ h.mem h.out h.st0 h.st1 h.st h.dp ⟨rfl,rfl,rfl,rfl⟩ h.good
theorem PR.wrote (h:PR B W w xb rb mb m D s) (hk:Kp w w' D.u) (hp:Pres D D' w w' m.bk) (hw:Wds D' w' m.bk) (hr:∀ o f,D'.r o f->D.r o f) (hr2:∀ o f,D.r o f->D'.r o f) (hd:∀ k,D.d k->D'.d k) (hd2:∀ k,D'.d k->D.d k\/(w.heap.size<=k/\k < w'.heap.size)) (hu:∀ k,D.u k->D'.u k) (hu2:∀ k,D'.u k->D.u k\/w.heap.size<=k) (hus:∀ k,D'.u k->(∃ c,Blk w' k 111 c)\/∃ n DD,w'.ownsMap Tryz.prog 9 heldR k n DD):
  PR B W w' xb rb mb m D' s/\PTo xb rb mb w w' m m D D':=by
 obtain⟨ns,hi,hn⟩:=h.inv;have hs:=h.safe;have hsz:=hk.size;have hsb:=hs.bs;have hub:∀ b t c,Blk w b t c->t ≠ 111->¬ D.u b:=fun b t c hb ht e=>h.une e hb ht rfl;refine⟨⟨⟨ns,⟨hk.blk hi.xblk (hub _ _ _ hi.xblk (by decide)),hk.blk hi.rblk (hub _ _ _ hi.rblk (by decide)),hk.row hi.srow (fun k e e2=>(h.ux e2).2.2.2.2.1 e),hk.row hi.orow (fun k e e2=>(h.ux e2).2.2.2.2.2 e),hi.len⟩,hn⟩,h.mem,h.out,h.st0,h.st1,h.st,h.dp,⟨hs.bel.trans (hk.below hs.bs (fun k hk2 e=>by have:=(h.us k e).1;omega)),hs.bx,hs.br,hs.bv,Nat.le_trans hs.bs hsz⟩,h.bmb,hk.blk h.book (hub _ _ _ h.book (by decide)),h.words.pres hp hr hr2 hw (hk.block mb h.words.ltm (fun e=>(h.us mb e).2.1 rfl)),fun k hk2=>?_,fun k hk2=>?_,h.good⟩,⟨⟨hk.mono (fun k _ e=>.inr (.inr e)),fun k hk2=>?_⟩,hd,fun k hk2=>(hd2 k hk2).imp id (fun q=>q.1),hr2,rfl⟩⟩
 ·rcases hd2 k hk2 with q|⟨q,q2⟩
  ·obtain⟨e0,e1⟩:=h.sep k q;exact⟨by omega,e1⟩
  ·refine⟨q2,?_,?_,fun e=>?_,fun e=>?_⟩
   ·have:=hi.xblk.lt;omega
   ·have:=hi.rblk.lt;omega
   ·have:=own_lt hi.srow e;omega
   ·have:=own_lt hi.orow e;omega
 ·rcases hu2 k hk2 with q|q
  ·exact⟨(h.us k q).1,(h.us k q).2.1,hus k hk2⟩
  ·exact⟨by omega,by have:=h.words.ltm;omega,hus k hk2⟩
 ·rcases hk2 with e|e
  ·exact .inl (.inl e)
  ·rcases hu2 k e with q|q
   ·exact .inl (.inr q)
   ·exact .inr q
end
end
section
open Go.RowKit
theorem Blk.three {w:World} {b:Nat} {t:TypeId} {a0 a1 a2:Value} (h:Blk w b t #[a0,a1,a2]):w.cell? ⟨b,0,none⟩=some a0/\w.cell? ⟨b,1,none⟩=some a1/\w.cell? ⟨b,2,none⟩=some a2:=⟨h.cell rfl,h.cell rfl,h.cell rfl⟩
theorem Blk.threeF {w:World} {b:Nat} {t:TypeId} {c:Array Value} (h:Blk w b t c):w.frozen? ⟨b,0,none⟩=false/\w.frozen? ⟨b,1,none⟩=false/\w.frozen? ⟨b,2,none⟩=false:=⟨h.free 0,h.free 1,h.free 2⟩
theorem Blk.set3 {w:World} {b:Nat} {t:TypeId} {a0 a1 a2:Value} (h:Blk w b t #[a0,a1,a2]) (v0 v1 v2:Value):Blk (((w.setCell ⟨b,0,none⟩ v0).setCell ⟨b,1,none⟩ v1).setCell ⟨b,2,none⟩ v2) b t #[v0,v1,v2]:=
 ((h.set 0 v0).set 1 v1).set 2 v2
theorem Kp.new3 {w w1:World} (h:Kp w w1 (fun _=>False)) {b:Nat} (hb:w.heap.size<=b) (v0 v1 v2:Value):Kp w (((w1.setCell ⟨b,0,none⟩ v0).setCell ⟨b,1,none⟩ v1).setCell ⟨b,2,none⟩ v2) (fun _=>False):=by
 have hn:∀ o,(⟨b,o,none⟩:Addr).block < w.heap.size->(fun _:Nat=>False) (⟨b,o,none⟩:Addr).block:=fun o hlt=>absurd hlt (by show ¬ b < _;omega);exact ((h.set (hn 0) v0).set (hn 1) v1).set (hn 2) v2
theorem MInv.aside {w:World} {xb rb:Nat} {m:MS} {ns:List Int} (h:MInv w xb rb m ns) {b:Nat} {c:Array Value} (hb:Blk w b 195 c) (o:Nat) (v:Value):MInv (w.setCell ⟨b,o,none⟩ v) xb rb m ns:=
  ⟨h.xblk.setOther (a:=⟨b,o,none⟩) (by rintro rfl;exact absurd (hb.inj h.xblk).1 (by decide)) v,h.rblk.setOther (a:=⟨b,o,none⟩) (by rintro rfl;exact absurd (hb.inj h.rblk).1 (by decide)) v,
   ownsRow_setCell_other (a:=⟨b,o,none⟩) h.srow (own_ne h.srow hb (by decide)) v,ownsRow_setCell_other (a:=⟨b,o,none⟩) h.orow (own_ne h.orow hb (by decide)) v,h.len⟩
theorem stTk_no (w:World) (xb rb:Nat) (m:MS) (ns:List Int) (n:Int) (h:MInv w xb rb m ns) (h1:¬ m.st < 2000):
  Calls Tryz.prog 244 #[pt rb,.int .i64 n] w fun e w'=>e=.returned (.tuple #[.agg #[.int .i64 0,.int .i64 0,.int .i64 0],.int .i64 12])/\Kp w w' (fun _=>False):=by
 have HB:=hide (burn_no (w.alloc (.cells #[.int .i64 0,.int .i64 0,.int .i64 0] 195)) xb rb m ns (h.alloc _) h1);have hl:=h.rblk.lt;go_enter Tryz.func244,Tryz.ntmps244
 go_wp2_with fail
 refine HB.out.mono ?_;rintro e w' ⟨rfl,rfl⟩;go_wp2;refine bodyPost_ret (v:=.tuple #[.agg #[.int .i64 0,.int .i64 0,.int .i64 0],.int .i64 12]) (by simp[results,Tryz.results244,go_sem]) rfl ?_;exact⟨rfl,(Kp.refl _ _).alloc _⟩
theorem stTk_under (w:World) (xb rb:Nat) (m:MS) (ns:List Int) (n:Int) (h:MInv w xb rb m ns) (h0:0<=m.st) (h1:m.st < 2000) (hlt:(ns.length:Int) < n) (hn:n<=10):
  Calls Tryz.prog 244 #[pt rb,.int .i64 n] w fun e w'=>e=.returned (.tuple #[.agg #[.int .i64 0,.int .i64 0,.int .i64 0],.int .i64 6])/\MInv w' xb rb { m with st:=m.st+1 } ns/\MTo xb rb w w' m { m with st:=m.st+1 }:=by
 have HB:=hide (burn_ok (w.alloc (.cells #[.int .i64 0,.int .i64 0,.int .i64 0] 195)) xb rb m _ (h.alloc _) h0 h1);have hl:=h.rblk.lt;have hlx:=h.xblk.lt;have hi1:=((h.setSt (m.st+1)).1).alloc (.cells #[.int .i64 0,.int .i64 0,.int .i64 0] 195);have ht1:MTo xb rb w ((w.setCell ⟨rb,2,none⟩ (.int .i64 (m.st+1))).alloc (.cells #[.int .i64 0,.int .i64 0,.int .i64 0] 195)) m { m with st:=m.st+1 }:=(h.setSt (m.st+1)).2.trans (MTo.kp ((Kp.refl _ _).alloc _));have hZ0:Blk ((w.setCell ⟨rb,2,none⟩ (.int .i64 (m.st+1))).alloc (.cells #[.int .i64 0,.int .i64 0,.int .i64 0] 195)) w.heap.size 195 #[.int .i64 0,.int .i64 0,.int .i64 0]:=by
  have:=Blk.new (w.setCell ⟨rb,2,none⟩ (.int .i64 (m.st+1))) #[.int .i64 0,.int .i64 0,.int .i64 0] 195;simpa using this
 go_enter Tryz.func244,Tryz.ntmps244
 go_wp2_with fail
 refine HB.out.mono ?_;rintro e w' ⟨rfl,rfl⟩
 go_wp2_with fail
 refine (takeM_under _ xb rb _ ns n hi1 hlt hn).mono ?_;rintro e w2 ⟨rfl,hk2⟩;have hZ:=hk2.blk hZ0 (by simp);obtain⟨y0,y1,y2⟩:=hZ.three;obtain⟨z0,z1,z2⟩:=hZ.threeF;go_wp2;have hC:=hZ.set3 (.int .i64 0) (.int .i64 0) (.int .i64 0);have HQ:MInv (((w2.setCell ⟨w.heap.size,0,none⟩ (.int .i64 0)).setCell ⟨w.heap.size,1,none⟩ (.int .i64 0)).setCell ⟨w.heap.size,2,none⟩ (.int .i64 0)) xb rb { m with st:=m.st+1 } ns/\MTo xb rb w (((w2.setCell ⟨w.heap.size,0,none⟩ (.int .i64 0)).setCell ⟨w.heap.size,1,none⟩ (.int .i64 0)).setCell ⟨w.heap.size,2,none⟩ (.int .i64 0)) m { m with st:=m.st+1 }:=by
  refine⟨(((hi1.kp hk2).aside hZ 0 _).aside (hZ.set 0 _) 1 _).aside ((hZ.set 0 _).set 1 _) 2 _,?_⟩;have t2:=ht1.trans (MTo.kp hk2);exact⟨((t2.kp.set (a:=⟨w.heap.size,0,none⟩) (fun hh=>absurd hh (Nat.lt_irrefl _)) _).set (a:=⟨w.heap.size,1,none⟩) (fun hh=>absurd hh (Nat.lt_irrefl _)) _).set (a:=⟨w.heap.size,2,none⟩) (fun hh=>absurd hh (Nat.lt_irrefl _)) _,t2.nx⟩
 generalize (((w2.setCell ⟨w.heap.size,0,none⟩ (.int .i64 0)).setCell ⟨w.heap.size,1,none⟩ (.int .i64 0)).setCell ⟨w.heap.size,2,none⟩ (.int .i64 0))=wf at hC HQ ⊢;obtain⟨q0,q1,q2⟩:=hC.three;refine bodyPost_ret (v:=.tuple #[.agg #[.int .i64 0,.int .i64 0,.int .i64 0],.int .i64 6]) (by simp[results,Tryz.results244,go_sem,q0,q1,q2]) rfl ?_;exact⟨rfl,HQ.1,HQ.2⟩
theorem stTk1 (w:World) (xb rb:Nat) (m:MS) (a:Int) (r:List Int) (h:MInv w xb rb m (a :: r).reverse) (h0:0<=m.st) (h1:m.st < 2000):
  Calls Tryz.prog 244 #[pt rb,.int .i64 1] w fun e w'=>∃ v',e=.returned (.tuple #[.agg #[.int .i64 a,.int .i64 0,.int .i64 0],.int .i64 0])/\MInv w' xb rb { m with sv:=v',st:=m.st+1 } r.reverse/\MTo xb rb w w' m { m with sv:=v',st:=m.st+1 }:=by
 have HB:=hide (burn_ok (w.alloc (.cells #[.int .i64 0,.int .i64 0,.int .i64 0] 195)) xb rb m _ (h.alloc _) h0 h1);have hl:=h.rblk.lt;have hlx:=h.xblk.lt;have hi1:=((h.setSt (m.st+1)).1).alloc (.cells #[.int .i64 0,.int .i64 0,.int .i64 0] 195);have ht1:MTo xb rb w ((w.setCell ⟨rb,2,none⟩ (.int .i64 (m.st+1))).alloc (.cells #[.int .i64 0,.int .i64 0,.int .i64 0] 195)) m { m with st:=m.st+1 }:=(h.setSt (m.st+1)).2.trans (MTo.kp ((Kp.refl _ _).alloc _));have hZ0:Blk ((w.setCell ⟨rb,2,none⟩ (.int .i64 (m.st+1))).alloc (.cells #[.int .i64 0,.int .i64 0,.int .i64 0] 195)) w.heap.size 195 #[.int .i64 0,.int .i64 0,.int .i64 0]:=by
  have:=Blk.new (w.setCell ⟨rb,2,none⟩ (.int .i64 (m.st+1))) #[.int .i64 0,.int .i64 0,.int .i64 0] 195;simpa using this
 go_enter Tryz.func244,Tryz.ntmps244
 go_wp2_with fail
 refine HB.out.mono ?_;rintro e w' ⟨rfl,rfl⟩
 go_wp2_with fail
 refine (takeM1 _ xb rb _ a r hi1).mono ?_;rintro e w2 ⟨v',rfl,hi2,ht2⟩;have hZ:=ht2.blk hZ0 (by rintro (h9|h9) <;> omega) (by rintro (h9|h9);exact own_ne hi1.srow hZ0 (by decide) h9;exact own_ne hi1.orow hZ0 (by decide) h9)
 obtain⟨y0,y1,y2⟩:=hZ.three;obtain⟨z0,z1,z2⟩:=hZ.threeF;go_wp2;have hC:=hZ.set3 (.int .i64 a) (.int .i64 0) (.int .i64 0);have HQ:MInv (((w2.setCell ⟨w.heap.size,0,none⟩ (.int .i64 a)).setCell ⟨w.heap.size,1,none⟩ (.int .i64 0)).setCell ⟨w.heap.size,2,none⟩ (.int .i64 0)) xb rb { m with sv:=v',st:=m.st+1 } r.reverse/\MTo xb rb w (((w2.setCell ⟨w.heap.size,0,none⟩ (.int .i64 a)).setCell ⟨w.heap.size,1,none⟩ (.int .i64 0)).setCell ⟨w.heap.size,2,none⟩ (.int .i64 0)) m { m with sv:=v',st:=m.st+1 }:=by
  refine⟨((hi2.aside hZ 0 _).aside (hZ.set 0 _) 1 _).aside ((hZ.set 0 _).set 1 _) 2 _,?_⟩;have t2:=ht1.trans ht2;exact⟨((t2.kp.set (a:=⟨w.heap.size,0,none⟩) (fun hh=>absurd hh (Nat.lt_irrefl _)) _).set (a:=⟨w.heap.size,1,none⟩) (fun hh=>absurd hh (Nat.lt_irrefl _)) _).set (a:=⟨w.heap.size,2,none⟩) (fun hh=>absurd hh (Nat.lt_irrefl _)) _,t2.nx⟩
 generalize (((w2.setCell ⟨w.heap.size,0,none⟩ (.int .i64 a)).setCell ⟨w.heap.size,1,none⟩ (.int .i64 0)).setCell ⟨w.heap.size,2,none⟩ (.int .i64 0))=wf at hC HQ ⊢;obtain⟨q0,q1,q2⟩:=hC.three;refine bodyPost_ret (v:=.tuple #[.agg #[.int .i64 a,.int .i64 0,.int .i64 0],.int .i64 0]) (by simp[results,Tryz.results244,go_sem,q0,q1,q2]) rfl ?_;exact⟨v',rfl,HQ.1,HQ.2⟩
theorem stTk2 (w:World) (xb rb:Nat) (m:MS) (b a:Int) (r:List Int) (h:MInv w xb rb m (b :: a :: r).reverse) (h0:0<=m.st) (h1:m.st < 2000):
  Calls Tryz.prog 244 #[pt rb,.int .i64 2] w fun e w'=>∃ v',e=.returned (.tuple #[.agg #[.int .i64 a,.int .i64 b,.int .i64 0],.int .i64 0])/\MInv w' xb rb { m with sv:=v',st:=m.st+1 } r.reverse/\MTo xb rb w w' m { m with sv:=v',st:=m.st+1 }:=by
 have HB:=hide (burn_ok (w.alloc (.cells #[.int .i64 0,.int .i64 0,.int .i64 0] 195)) xb rb m _ (h.alloc _) h0 h1);have hl:=h.rblk.lt;have hlx:=h.xblk.lt;have hi1:=((h.setSt (m.st+1)).1).alloc (.cells #[.int .i64 0,.int .i64 0,.int .i64 0] 195);have ht1:MTo xb rb w ((w.setCell ⟨rb,2,none⟩ (.int .i64 (m.st+1))).alloc (.cells #[.int .i64 0,.int .i64 0,.int .i64 0] 195)) m { m with st:=m.st+1 }:=(h.setSt (m.st+1)).2.trans (MTo.kp ((Kp.refl _ _).alloc _));have hZ0:Blk ((w.setCell ⟨rb,2,none⟩ (.int .i64 (m.st+1))).alloc (.cells #[.int .i64 0,.int .i64 0,.int .i64 0] 195)) w.heap.size 195 #[.int .i64 0,.int .i64 0,.int .i64 0]:=by
  have:=Blk.new (w.setCell ⟨rb,2,none⟩ (.int .i64 (m.st+1))) #[.int .i64 0,.int .i64 0,.int .i64 0] 195;simpa using this
 go_enter Tryz.func244,Tryz.ntmps244
 go_wp2_with fail
 refine HB.out.mono ?_;rintro e w' ⟨rfl,rfl⟩
 go_wp2_with fail
 refine (takeM2 _ xb rb _ b a r hi1).mono ?_;rintro e w2 ⟨v',rfl,hi2,ht2⟩;have hZ:=ht2.blk hZ0 (by rintro (h9|h9) <;> omega) (by rintro (h9|h9);exact own_ne hi1.srow hZ0 (by decide) h9;exact own_ne hi1.orow hZ0 (by decide) h9)
 obtain⟨y0,y1,y2⟩:=hZ.three;obtain⟨z0,z1,z2⟩:=hZ.threeF;go_wp2;have hC:=hZ.set3 (.int .i64 a) (.int .i64 b) (.int .i64 0);have HQ:MInv (((w2.setCell ⟨w.heap.size,0,none⟩ (.int .i64 a)).setCell ⟨w.heap.size,1,none⟩ (.int .i64 b)).setCell ⟨w.heap.size,2,none⟩ (.int .i64 0)) xb rb { m with sv:=v',st:=m.st+1 } r.reverse/\MTo xb rb w (((w2.setCell ⟨w.heap.size,0,none⟩ (.int .i64 a)).setCell ⟨w.heap.size,1,none⟩ (.int .i64 b)).setCell ⟨w.heap.size,2,none⟩ (.int .i64 0)) m { m with sv:=v',st:=m.st+1 }:=by
  refine⟨((hi2.aside hZ 0 _).aside (hZ.set 0 _) 1 _).aside ((hZ.set 0 _).set 1 _) 2 _,?_⟩;have t2:=ht1.trans ht2;exact⟨((t2.kp.set (a:=⟨w.heap.size,0,none⟩) (fun hh=>absurd hh (Nat.lt_irrefl _)) _).set (a:=⟨w.heap.size,1,none⟩) (fun hh=>absurd hh (Nat.lt_irrefl _)) _).set (a:=⟨w.heap.size,2,none⟩) (fun hh=>absurd hh (Nat.lt_irrefl _)) _,t2.nx⟩
 generalize (((w2.setCell ⟨w.heap.size,0,none⟩ (.int .i64 a)).setCell ⟨w.heap.size,1,none⟩ (.int .i64 b)).setCell ⟨w.heap.size,2,none⟩ (.int .i64 0))=wf at hC HQ ⊢;obtain⟨q0,q1,q2⟩:=hC.three;refine bodyPost_ret (v:=.tuple #[.agg #[.int .i64 a,.int .i64 b,.int .i64 0],.int .i64 0]) (by simp[results,Tryz.results244,go_sem,q0,q1,q2]) rfl ?_;exact⟨v',rfl,HQ.1,HQ.2⟩
end
end Go.Proofs.YteainaiebcphlaaGreatDoor
