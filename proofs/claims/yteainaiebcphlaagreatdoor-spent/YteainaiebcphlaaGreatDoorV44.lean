import Derived.Test.YteainaiebcphlaaGreatDoorV41
import Derived.Test.YteainaiebcphlaaGreatDoorV43
import Derived.Test.YteainaiebcphlaaGreatDoorV38
import Derived.Test.YteainaiebcphlaaGreatDoorV27
import Derived.Test.YteainaiebcphlaaGreatDoorV24
import Derived.Test.YteainaiebcphlaaGreatDoorV39
import Derived.Handy
namespace Go.Proofs.YteainaiebcphlaaGreatDoor
set_option maxRecDepth 1000000
set_option maxHeartbeats 4000000
set_option linter.all false
section
open Go.RowKit
def LineIs (s:St) (t:ByteArray) (out:ByteArray) (er:Int) (s2:St):Prop:=
 (validB t.data.toList=true/\∃ g s1 l,xRun g (jToks (Lib.fields t.data.toList)) (freshL s)=some (s1,l)/\out=s1.out/\er=s1.e/\s2=endL s1) \/
 (validB t.data.toList=false/\out=⟨#[]⟩/\er=2/\s2=s)
theorem Sim.fresh {s s':St} (h:Sim s s'):Sim (freshL s) (freshL s'):=⟨h.rs,h.mem,h.defs,h.ids,rfl,rfl,rfl,rfl⟩
theorem Sim.ended {s s':St} (h:Sim s s'):Sim (endL s) (endL s'):=by
 unfold endL;rw[h.e]
 split
 ·exact h
 ·exact⟨rfl,h.mem,h.defs,h.ids,rfl,h.steps,h.depth,h.out⟩
theorem line_sim {s s':St} (h:Sim s s') {t out out':ByteArray} {er er':Int} {s2 s2':St} (h1:LineIs s t out er s2) (h2:LineIs s' t out' er' s2'):out=out'/\er=er'/\Sim s2 s2':=by
 rcases h1 with⟨hv,g,s1,l,hr,rfl,rfl,rfl⟩|⟨hv,rfl,rfl,rfl⟩
 ·rcases h2 with⟨_,g',s1',l',hr',rfl,rfl,rfl⟩|⟨hv',_⟩
  ·have q:=(sim_runs (fun {_ _} hg {_ _ _} h=>xRun_mono hg h) h.fresh hr hr').1;exact⟨q.out,q.e,q.ended⟩
  ·rw[hv] at hv';cases hv'
 ·rcases h2 with⟨hv',_⟩|⟨_,rfl,rfl,rfl⟩
  ·rw[hv] at hv';cases hv'
  ·exact⟨rfl,rfl,h⟩
def badU (hot built:Int):Prop:=hot < 1\/1000 < hot\/built < 0\/3 < built
def TuneC (PS:World->Nat->(Nat->Prop)->St->Prop):Prop:=∀ w xb V s hot built,PS w xb V s->In hot->In built ->
 Calls Tryz.prog 22 #[.pointer (some ⟨xb,0,none⟩),.int .i64 hot,.int .i64 built] w fun e w'=>∃ r:Int,e=.returned (.int .i64 r)/\(¬ badU hot built->r=0)/\∃ V' s',PS w' xb V' s'/\(WFs s->WFs s')/\Sim s' s/\To (fun _=>False) w w' V V'
section
variable {PS:World->Nat->(Nat->Prop)->St->Prop} {B:Nat} {W0:World} (P:PCon B W0 PS)
include P
theorem line_any (w:World) (xb:Nat) (V:Nat->Prop) (s:St) (t:ByteArray) (hx:PS w xb V s) (hw:WFs s):
  ∃ out er s2,WFs s2/\LineIs s t out er s2/\Calls Tryz.prog 18 #[.pointer (some ⟨xb,0,none⟩),.string t] w fun e w'=>e=.returned (.tuple #[.string out,.int .i64 er])/\∃ V',PS w' xb V' s2/\To (fun _=>False) w w' V V':=by
 cases hv:validB t.data.toList with
 | true=>
  obtain⟨g,s1,l,hr,hwf⟩:=line_total s hw t.data.toList (valid_fields hv);exact⟨s1.out,s1.e,endL s1,run_wf hw hv hr,.inl ⟨hv,g,s1,l,hr,rfl,rfl,rfl⟩,P.line w xb V s s1 l g t hx hw hw.g hv hr⟩
 | false=>exact⟨⟨#[]⟩,2,s,hw,.inr ⟨hv,rfl,rfl,rfl⟩,P.lineBad w xb V s t hx hv⟩
end
end
section
open Go.RowKit
theorem keyStr_le {x:ByteArray} {kl:Lit} (h:keyOf Tryz.prog 9 (.string x)=some kl):kl=.string x.data.toList/\x.data.toList.length<=maxLen:=by
 simp[keyOf,Tryz.underlying9,mapKey] at h;exact⟨h.2.symm,h.1⟩
section
variable {D:GD} {w:World} {bk mb:Nat}
structure TnAt (D:GD) (bk mb r n:Nat) (DD:DataW Value) (w wr:World) (left:Lit->Bool) (cnt:Nat):Prop where
 rg:wr.ranges Tryz.prog 9 heldR mb r n DD left cnt
 sub:∀ kl,left kl=true->Maps.has DD kl=true
 kp:Kp w wr (FU D w bk)
 pr:Pres D D w wr bk
theorem tuneBadM (w:World) (bk:Nat) (hot blt:Int) (hb:badT hot blt):Calls Tryz.prog 47 #[pt bk,.int .i64 hot,.int .i64 blt] w fun e w'=>e=.returned (.int .i64 1)/\w'=w:=by
 by_cases h1:hot < 1
 ·clear hb;go_enter Tryz.func47,Tryz.ntmps47;go_wp2;go_ret;exact⟨rfl,rfl⟩
 by_cases h2:1000 < hot
 ·clear hb;go_enter Tryz.func47,Tryz.ntmps47;go_wp2;go_ret;exact⟨rfl,rfl⟩
 by_cases h3:blt < 0
 ·clear hb;go_enter Tryz.func47,Tryz.ntmps47;go_wp2;go_ret;exact⟨rfl,rfl⟩
 have h4:3 < blt:=by unfold badT at hb;omega
 clear hb;go_enter Tryz.func47,Tryz.ntmps47;go_wp2;go_ret;exact⟨rfl,rfl⟩
theorem tuneOkM (hot blt h0 b0:Int) (hg:¬ badT hot blt) {defs:List Def} {obs:List Nat} {DD:DataW Value} (hwr:WR D w bk mb defs obs DD) (hbk:Blk w bk 106 #[.map (some mb),.int .i64 h0,.int .i64 b0]) (hmu:¬ D.u mb) (hbu:¬ D.u bk) (hbd:¬ D.d bk):
  Calls Tryz.prog 47 #[pt bk,.int .i64 hot,.int .i64 blt] w fun e w'=>e=.returned (.int .i64 0)/\Kp w w' (fun k=>FU D w bk k\/k=bk)/\Pres D D w w' bk/\Blk w' bk 106 #[.map (some mb),.int .i64 hot,.int .i64 blt]:=by
 have g1:¬ hot < 1:=by unfold badT at hg;omega
 have g2:¬ 1000 < hot:=by unfold badT at hg;omega
 have g3:¬ blt < 0:=by unfold badT at hg;omega
 have g4:¬ 3 < blt:=by unfold badT at hg;omega
 obtain⟨W1,hW1⟩:∃ W1,W1=(w.setCell ⟨bk,1,none⟩ (.int .i64 hot)).setCell ⟨bk,2,none⟩ (.int .i64 blt):=⟨_,rfl⟩;have hk1:Kp w W1 (fun k=>k=bk):=by rw[hW1];exact ((Kp.refl w (fun k=>k=bk)).set (a:=⟨bk,1,none⟩) (fun _=>rfl) _).set (a:=⟨bk,2,none⟩) (fun _=>rfl) _
 have hs1:W1.heap.size=w.heap.size:=by rw[hW1];simp
 have hbk1:Blk W1 bk 106 #[.map (some mb),.int .i64 hot,.int .i64 blt]:=by rw[hW1];exact (hbk.set 1 _).set 2 _
 have hml:=hwr.mp.lt;have hmb:¬ mb=bk:=map_ne hwr.mp hbk;have hown:W1.ownsMap Tryz.prog 9 heldR mb defs.length DD:=ownsMap_same hwr.mp (hk1.block mb hml hmb);obtain⟨hpr1,hwd1⟩:=hwr.wd.out hk1 (fun k hu e=>hbu ((show k=bk from e) ▸ hu)) (fun k hd e=>hbd ((show k=bk from e) ▸ hd));have hE:∀ t:Tok,t.length<=maxLen->Maps.has DD (.string t)=true->∃ o f,D.r o f/\DD.atKey (.string t) (.held (.pointer none))=.held (pt o):=fun t ht hh=>by
  have h1:=hwr.hs t ht;rw[hh] at h1;obtain⟨k,hk⟩:=Option.isSome_iff_exists.1 h1.symm;obtain⟨hkl,_,_⟩:=List.findIdx?_eq_some_iff_getElem.1 hk;have h2:=hwr.lk t ht;rw[hk] at h2;exact⟨_,_,(hwr.cur k hkl).1,h2⟩
 have c0:w.cell? ⟨bk,0,none⟩=some (.map (some mb)):=hbk.cell rfl;have c1:w.cell? ⟨bk,1,none⟩=some (.int .i64 h0):=hbk.cell rfl;have c2:w.cell? ⟨bk,2,none⟩=some (.int .i64 b0):=hbk.cell rfl;have f1:=hbk.free 1;have f2:=hbk.free 2;have HWd:=hide hwd1;have HPR:=hide hpr1;have HK1:=hide hk1;have HBK:=hide hbk1;have HE:=hide hE;have HW:=hide hwr.wd;have HW1:=hide hW1;clear hwr hbk hk1 hbk1 hpr1 hwd1 hE hg hW1;go_enter Tryz.func47,Tryz.ntmps47
 go_wp2_with (first
  | (at_range;(rw[<-HW1.out]);refine wpList_range_own _ rfl _ 104 rfl 9 107 (Maps.string_keyed Tryz.underlying9) Tryz.underlying104 _ mb defs.length _ rfl hown ?_;intro w0 hrg0 hg0 hs0)
  | go_in)
 rw[hs1] at hrg0 hs0
 go_loopw [8] (fun _ wr=>∃ left cnt,TnAt D bk mb w.heap.size defs.length DD W1 wr left cnt) (fun _ wr=>wr.rangeLeft mb w.heap.size)
 case atStart=>
  have hk0:Kp W1 w0 (fun _=>False):=(Kp.refl W1 _).grown hg0 (fun k _ e=>by cases e);exact⟨_,_,⟨hrg0,fun _ h=>h,hk0.mono (fun _ _ e=>e.elim),(HWd.out.kp hk0).1⟩⟩
 case round=>
  obtain⟨left,cnt,hat0⟩:=hrel;have hWr:=HWd.out.next hat0.kp.size hat0.pr;have hrg:=hat0.rg
  go_wp2_with (first
   | (at_next;refine wpList_next_ranges _ rfl _ rfl 9 (Maps.string_keyed Tryz.underlying9) heldR Value.string (fun v:Value=>v) (fun key kl h=>(keyStr_inv h).imp (fun _ q=>q.1)) (fun v _ _=>⟨v,rfl⟩) mb w.heap.size defs.length _ _ _ rfl hrg ?_ ?_)
   | go_in)
  ·intro hc0 hl0;have HP:Hid (Pres D D w wr bk):=HPR.out.trans (fun _ _ h=>h) hat0.pr;have hnf:¬ FU D W1 bk bk:=fun e=>hbu (e.u HWd.out);have HK:Hid (Kp w wr (fun k=>FU D w bk k\/k=bk)):=(HK1.out.mono (fun _ _ e=>.inr e)).trans (hat0.kp.mono (fun k _ e=>.inl (e.back HW.out HPR.out)));have HB:Hid (Blk wr bk 106 #[.map (some mb),.int .i64 hot,.int .i64 blt]):=hat0.kp.blk HBK.out hnf;clear hat0 hWr hrg hc0 hl0 hg0 hs0 hrg0 hown hnf;go_wp2;go_ret;exact⟨rfl,HK.out,HP.out,HB.out⟩
  ·intro x v kl yd yp w1 cnt1 hkey hlk hv hat hrg1 hlt hg1 hs1' hen;obtain⟨rfl,hxl⟩:=keyStr_le hkey;obtain⟨o2,f2,hr2,hat2⟩:=HE.out _ hxl (hat0.sub _ hlk);have hvv:v=pt o2:=by
    have h1:=hat (.held (.pointer none));rw[hat2] at h1;have h2:some (DataW.held v,[])=some (yd,yp):=hv;have h3:DataW.held v=yd:=congrArg Prod.fst (Option.some.inj h2);have h4:DataW.held (pt o2)=yd:=h1;rw[<-h3] at h4;exact (DataW.held.inj h4).symm
   subst hvv;have hrn:w.heap.size < wr.heap.size:=hrg.lt;have hk1:Kp wr w1 (fun k=>k=w.heap.size):=(Kp.refl wr _).grown hg1 (fun k _ e=>(Option.some.inj e).symm);have hnu:∀ k,D.u k->¬ k=w.heap.size:=fun k hk e=>by have:=HWd.out.lt k hk;omega
   obtain⟨hp1,hWd1⟩:=hWr.out hk1 hnu (fun k hd e=>by have:=HWd.out.dl k hd;omega);have hpa:=hat0.pr.trans (fun _ _ h=>h) hp1;have hka:Kp W1 w1 (FU D W1 bk):=((hat0.kp.mono (T:=fun k=>FU D W1 bk k\/k=w.heap.size) (fun _ _ e=>.inl e)).trans (hk1.mono (fun _ _ e=>.inr e))).mono (fun k hk e=>e.elim id (fun e=>by omega));have HC:=hide (coolM (w:=w1) hWd1 hr2);have HN:Hid (∀ w2,Kp w1 w2 (FU D w1 bk)->Pres D D w1 w2 bk->TnAt D bk mb w.heap.size defs.length DD W1 w2 (fun z=>left z && !z.sameKey (.string x.data.toList)) cnt1):=by
    intro w2 hk2 hp2;have hk2':=hk2.mono (fun k _ e=>FU.back HWd.out hpa e);have hs2:=hk1.size;refine⟨ranges_same hrg1 (hk2'.block mb (by omega) (fun e=>hmu (e.u HWd.out))) (hk2'.block w.heap.size (by omega) (fun e=>by have:=HWd.out.lt _ (e.u HWd.out);omega)),fun k hk=>hat0.sub k (by simp at hk;exact hk.1),hka.trans hk2',hpa.trans (fun _ _ h=>h) hp2⟩
   have hcn0:=hrg.left_eq;clear hat0 hWr hrg hrg1 hg1 hs1' hat hat2 hv hkey hlk hk1 hnu hp1 hWd1 hpa hka
   go_wp2_with fail
   refine HC.out.mono ?_;rintro e w2 ⟨rfl,hk2,hp2⟩;have hN:=HN.out w2 hk2 hp2;have HNN:=hide hN;have hcnt:=hN.rg.left_eq;clear hN hk2 hp2 HN HC;go_wp2
   go_roundw
   case rel=>exact⟨_,_,HNN.out⟩
   case measure=>rw[hcnt,hcn0];exact hlt
end
end
section
open Go.RowKit
theorem tuneS_nib (s:St) (hot blt:Int):(tuneS s hot blt).defs.map nib=s.defs.map nib:=by
 show (s.defs.map slowD).map nib=_;rw[List.map_map];rfl
theorem tuneS_known (s:St) (hot blt:Int) (t:Tok):(tuneS s hot blt).known t=s.known t:=by
 unfold St.known St.find;show ((s.defs.map slowD).findIdx? _).isSome=_;rw[List.findIdx?_map];rfl
theorem tuneS_wf {s:St} {hot blt:Int} (h:WFs s) (hb:¬ badT hot blt):WFs (tuneS s hot blt):=by
 have hg:=h.g;refine⟨⟨hg.g,hg.s0,hg.s1,hg.s2,hg.d0,hg.d1,?_,?_,fun d hd=>?_⟩,fun d hd=>?_,h.st⟩
 ·show 0<=blt;unfold badT at hb;omega
 ·show blt<=3;unfold badT at hb;omega
 ·obtain⟨d0,h0,rfl⟩:=List.mem_map.1 (show d∈s.defs.map slowD from hd);exact hg.cb d0 h0
 ·obtain⟨d0,h0,rfl⟩:=List.mem_map.1 (show d∈s.defs.map slowD from hd);obtain⟨G,hG⟩:=h.d d0 h0;exact⟨G,wb_known (fun t ht=>(tuneS_known s hot blt t).trans ht) _ _ _ hG⟩
section
variable {B:Nat} {W w:World} {xb bk mb:Nat} {sv:Value} {D:GD} {V:Nat->Prop} {s:St}
theorem PSn.tuned (h:PSn B W w xb bk mb sv D V s) {w':World} {hot blt:Int} (hk:Kp w w' (fun k=>FU D w bk k\/k=bk)) (hp:Pres D D w w' bk) (hb:Blk w' bk 106 #[.map (some mb),.int .i64 hot,.int .i64 blt]):PSn B W w' xb bk mb sv D V (tuneS s hot blt)/\Kp w w' V:=by
 have hW:=h.words.wds;have hfu:∀ k,FU D w bk k->D.u k:=fun k e=>e.u hW;have hne:∀ b t c,Blk w b t c->t ≠ 111->t ≠ 106->¬ (FU D w bk b\/b=bk):=fun b t c q t1 t2 e=>by
  rcases e with e|e
  ·rcases (h.us b (hfu b e)).2.2 with⟨c',hc'⟩|⟨n,DD,hm⟩
   ·exact t1 (q.inj hc').1
   ·exact map_ne hm q rfl
  ·subst e;exact t2 (q.inj h.book).1
 have hmb:¬ (FU D w bk mb\/mb=bk):=fun e=>e.elim (fun e=>(h.us mb (hfu mb e)).2.1 rfl) (fun e=>h.words.ne h.book e);have hbs:=h.bs;have hsz:=hk.size;refine⟨⟨hk.blk h.xblk (hne _ _ _ h.xblk (by decide) (by decide)),hk.row h.srow (fun k e e2=>by obtain⟨c,hc⟩:=row_blk h.srow e;exact hne _ _ _ hc (by decide) (by decide) e2),h.len,h.bel.trans (hk.below h.bs (fun k hkb e=>by
   rcases e with e|e
   ·have:=(h.us k (hfu k e)).1;omega
   ·have:=h.bbk;omega)),h.bx,h.bv,Nat.le_trans h.bs hsz,h.bmb,hb,((h.words.pres hp (fun _ _ h=>h) (fun _ _ h=>h) (hW.next hsz hp) (hk.block mb h.words.ltm hmb)).same (tuneS_nib s hot blt)),fun k e=>?_,fun k e=>?_,h.nb,h.bbk,h.vs⟩,hk.mono (fun k _ e=>(h.vs k).2 (e.elim (fun e=>.inr (.inr (.inr (.inr (.inr (hfu k e)))))) (fun e=>.inr (.inl e))))⟩
 ·obtain⟨e0,e1⟩:=h.sep k e;exact⟨by omega,e1⟩
 ·obtain⟨e0,e1,e2⟩:=h.us k e;refine⟨e0,e1,?_⟩;by_cases hf:FU D w bk k
  ·rcases hf with⟨g,hg⟩|⟨o,g,c,hg,hc,hm⟩
   ·obtain⟨c,hc⟩:=hW.ok k g hg;obtain⟨c',_,_,_,_,_,hc'⟩:=hp k g c hg hc;exact .inl ⟨_,hc'.blk⟩
   ·obtain⟨c',_,_,_,_,e5,hc'⟩:=hp o g c hg hc;obtain⟨_,_,DD,⟨⟨n,h1⟩,_⟩⟩:=hc'.wm k (e5.trans hm);exact .inr ⟨n,DD,h1⟩
  ·have hkb:¬ (FU D w bk k\/k=bk):=fun q=>q.elim hf (fun q=>by
    subst q;rcases e2 with⟨c,hc⟩|⟨n,DD,hm⟩
    ·exact absurd (hc.inj h.book).1 (by decide)
    ·exact map_ne hm h.book rfl)
   rcases e2 with⟨c,hc⟩|⟨n,DD,hm⟩
   ·exact .inl ⟨c,hk.blk hc hkb⟩
   ·exact .inr ⟨n,DD,ownsMap_same hm (hk.block k hm.lt hkb)⟩
theorem tuneBadS (h:PSn B W w xb bk mb sv D V s) (hot blt:Int) (hb:badT hot blt):Calls Tryz.prog 22 #[pt xb,.int .i64 hot,.int .i64 blt] w fun e w'=>e=.returned (.int .i64 1)/\w'=w:=by
 have c17:w.cell? ⟨xb,17,none⟩=some (pt bk):=h.xblk.cell rfl;have HT:=hide (tuneBadM w bk hot blt hb);clear h hb;go_enter Tryz.func22,Tryz.ntmps22
 go_wp2_with fail
 refine HT.out.mono ?_;rintro e w1 ⟨rfl,rfl⟩;go_wp2;go_ret;exact⟨rfl,rfl⟩
theorem tuneOkS (h:PSn B W w xb bk mb sv D V s) (hot blt:Int) (hb:¬ badT hot blt):Calls Tryz.prog 22 #[pt xb,.int .i64 hot,.int .i64 blt] w fun e w'=>e=.returned (.int .i64 0)/\PSn B W w' xb bk mb sv D V (tuneS s hot blt)/\Kp w w' V:=by
 have c17:w.cell? ⟨xb,17,none⟩=some (pt bk):=h.xblk.cell rfl;obtain⟨obs,DD,hwr⟩:=h.words;have hbu:¬ D.u bk:=fun e=>by
  rcases (h.us bk e).2.2 with⟨c,hc⟩|⟨n,DD,hm⟩
  ·exact absurd (hc.inj h.book).1 (by decide)
  ·exact map_ne hm h.book rfl
 have HT:=hide (tuneOkM hot blt s.hot s.built hb hwr h.book (fun e=>(h.us mb e).2.1 rfl) hbu h.nb);have H:=hide h;clear h hb hwr hbu;go_enter Tryz.func22,Tryz.ntmps22
 go_wp2_with fail
 refine HT.out.mono ?_;rintro e w1 ⟨rfl,q1,q2,q3⟩;have HF:=hide (H.out.tuned q1 q2 q3);clear q1 q2 q3 HT;go_wp2;go_ret;exact⟨rfl,HF.out⟩
end
end
section
open Go.RowKit
theorem tuneS_sim (s:St) (hot blt:Int):Sim (tuneS s hot blt) s:=⟨rfl,rfl,by show (s.defs.map slowD).map strip=_;rw[List.map_map];rfl,rfl,rfl,rfl,rfl,rfl⟩
theorem tuneP (B:Nat) (W:World):TuneC (PSes B W):=fun w xb V s hot built ⟨bk,mb,sv,D,h⟩ _ _=>by
 by_cases hb:badT hot built
 ·refine (tuneBadS h hot built hb).mono ?_;rintro e w' ⟨rfl,rfl⟩;exact⟨1,rfl,fun q=>absurd hb q,V,s,⟨bk,mb,sv,D,h⟩,fun h=>h,Sim.refl _,To.refl _ _ _⟩
 ·refine (tuneOkS h hot built hb).mono ?_;rintro e w' ⟨rfl,q1,q2⟩;exact⟨0,rfl,fun _=>rfl,V,_,⟨bk,mb,sv,D,q1⟩,fun hw=>tuneS_wf hw hb,tuneS_sim _ _ _,⟨q2.mono (fun _ _ e=>.inr e),fun _ e=>.inl e⟩⟩
end
end Go.Proofs.YteainaiebcphlaaGreatDoor
