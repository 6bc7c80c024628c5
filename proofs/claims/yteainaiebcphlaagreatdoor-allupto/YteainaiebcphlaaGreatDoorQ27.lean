import Derived.Test.YteainaiebcphlaaGreatDoorQ26
import Derived.Test.YteainaiebcphlaaGreatDoorQ11
import Derived.Test.YteainaiebcphlaaGreatDoorQ18
import Derived.Handy
namespace Go.Proofs.YteainaiebcphlaaGreatDoor
set_option maxRecDepth 1000000
set_option maxHeartbeats 4000000
set_option linter.all false
open Go.Proofs.Tryz
section
open Go.RowKit
theorem aC.three {w:World}{b:Nat}{t:TypeId}{a0 a1 a2:Value}(h:aC w b t #[a0,a1,a2]):w.cell? ⟨b,0,none⟩=some a0/\w.cell? ⟨b,1,none⟩=some a1/\w.cell? ⟨b,2,none⟩=some a2:=⟨h.cell rfl,h.cell rfl,h.cell rfl⟩
theorem aC.Cn {w:World}{b:Nat}{t:TypeId}{c:Array Value}(h:aC w b t c):w.frozen? ⟨b,0,none⟩=false/\w.frozen? ⟨b,1,none⟩=false/\w.frozen? ⟨b,2,none⟩=false:=⟨h.free 0,h.free 1,h.free 2⟩
theorem aC.Q0 {w:World}{b:Nat}{t:TypeId}{a0 a1 a2:Value}(h:aC w b t #[a0,a1,a2])(v0 v1 v2:Value):aC (((w.setCell ⟨b,0,none⟩ v0).setCell ⟨b,1,none⟩ v1).setCell ⟨b,2,none⟩ v2) b t #[v0,v1,v2]:=
 ((h.set 0 v0).set 1 v1).set 2 v2
theorem aW.aside {w:World}{xb rb:Nat}{m:MS}{ns:List Int}(h:aW w xb rb m ns){b:Nat}{c:Array Value}(hb:aC w b 195 c)(o:Nat)(v:Value):aW (w.setCell ⟨b,o,none⟩ v) xb rb m ns:=
  ⟨h.bJ.setOther (a:=⟨b,o,none⟩) (by rintro rfl;exact ax (hb.inj h.bJ).1 (by decide)) v,h.cF.setOther (a:=⟨b,o,none⟩) (by rintro rfl;exact ax (hb.inj h.cF).1 (by decide)) v,
   ownsRow_setCell_other (a:=⟨b,o,none⟩) h.dc (aH h.dc hb (by decide)) v,ownsRow_setCell_other (a:=⟨b,o,none⟩) h.dY (aH h.dY hb (by decide)) v,h.len⟩
theorem Ds (w:World)(xb rb:Nat)(m:MS)(ns:List Int)(n:Int)(h:aW w xb rb m ns)(h1:¬m.st<2000):
  Calls prog 244 #[pt rb,.int .i64 n] w λe w'=>e=.returned (.tuple #[.agg #[.int .i64 0,.int .i64 0,.int .i64 0],.int .i64 12])/\Kp w w' (λ_=>False):=by
 have HB:=az (Dt (w.alloc (.cells #[.int .i64 0,.int .i64 0,.int .i64 0] 195)) xb rb m ns (h.alloc _) h1);have hl:=h.cF.lt;go_enter func244,ntmps244
 go_wp2_with fail
 refine HB.out.mono ?_;rintro e w' ⟨rfl,rfl⟩;go_wp2;refine bodyPost_ret (v:=.tuple #[.agg #[.int .i64 0,.int .i64 0,.int .i64 0],.int .i64 12]) (by simp[results,results244,go_sem]) rfl ?_;exact⟨rfl,(Kp.refl _ _).alloc _⟩
theorem uZ (w:World)(xb rb:Nat)(m:MS)(ns:List Int)(n:Int)(h:aW w xb rb m ns)(h0:0<=m.st)(h1:m.st<2000)(hlt:(ns.length:Int)<n)(hn:n<=10):
  Calls prog 244 #[pt rb,.int .i64 n] w λe w'=>e=.returned (.tuple #[.agg #[.int .i64 0,.int .i64 0,.int .i64 0],.int .i64 6])/\aW w' xb rb {m with st:=m.st+1} ns/\gL xb rb w w' m {m with st:=m.st+1}:=by
 have HB:=az (tC (w.alloc (.cells #[.int .i64 0,.int .i64 0,.int .i64 0] 195)) xb rb m _ (h.alloc _) h0 h1);have hl:=h.cF.lt;have hlx:=h.bJ.lt;have hi1:=((h.setSt (m.st+1)).1).alloc (.cells #[.int .i64 0,.int .i64 0,.int .i64 0] 195);have ht1:gL xb rb w ((w.setCell ⟨rb,2,none⟩ (.int .i64 (m.st+1))).alloc (.cells #[.int .i64 0,.int .i64 0,.int .i64 0] 195)) m {m with st:=m.st+1}:=(h.setSt (m.st+1)).2.trans (gL.kp ((Kp.refl _ _).alloc _));have lU:aC ((w.setCell ⟨rb,2,none⟩ (.int .i64 (m.st+1))).alloc (.cells #[.int .i64 0,.int .i64 0,.int .i64 0] 195)) w.heap.size 195 #[.int .i64 0,.int .i64 0,.int .i64 0]:=by
  have:=aC.new (w.setCell ⟨rb,2,none⟩ (.int .i64 (m.st+1))) #[.int .i64 0,.int .i64 0,.int .i64 0] 195;simpa using this
 go_enter func244,ntmps244
 go_wp2_with fail
 refine HB.out.mono ?_;rintro e w' ⟨rfl,rfl⟩
 go_wp2_with fail
 refine(fU _ xb rb _ ns n hi1 hlt hn).mono ?_;rintro e w2 ⟨rfl,hk2⟩;have hZ:=hk2.blk lU (by simp);obtain⟨y0,y1,y2⟩:=hZ.three;obtain⟨z0,z1,z2⟩:=hZ.Cn;go_wp2;have hC:=hZ.Q0 (.int .i64 0) (.int .i64 0) (.int .i64 0);have HQ:aW (((w2.setCell ⟨w.heap.size,0,none⟩ (.int .i64 0)).setCell ⟨w.heap.size,1,none⟩ (.int .i64 0)).setCell ⟨w.heap.size,2,none⟩ (.int .i64 0)) xb rb {m with st:=m.st+1} ns/\gL xb rb w (((w2.setCell ⟨w.heap.size,0,none⟩ (.int .i64 0)).setCell ⟨w.heap.size,1,none⟩ (.int .i64 0)).setCell ⟨w.heap.size,2,none⟩ (.int .i64 0)) m {m with st:=m.st+1}:=by
  refine⟨(((hi1.kp hk2).aside hZ 0 _).aside (hZ.set 0 _) 1 _).aside ((hZ.set 0 _).set 1 _) 2 _,?_⟩;have t2:=ht1.trans (gL.kp hk2);exact⟨((t2.kp.set (a:=⟨w.heap.size,0,none⟩) (λhh=>ax hh (Nat.lt_irrefl _)) _).set (a:=⟨w.heap.size,1,none⟩) (λhh=>ax hh (Nat.lt_irrefl _)) _).set (a:=⟨w.heap.size,2,none⟩) (λhh=>ax hh (Nat.lt_irrefl _)) _,t2.nx⟩
 generalize (((w2.setCell ⟨w.heap.size,0,none⟩ (.int .i64 0)).setCell ⟨w.heap.size,1,none⟩ (.int .i64 0)).setCell ⟨w.heap.size,2,none⟩ (.int .i64 0))=wf at hC HQ ⊢;obtain⟨q0,q1,q2⟩:=hC.three;refine bodyPost_ret (v:=.tuple #[.agg #[.int .i64 0,.int .i64 0,.int .i64 0],.int .i64 6]) (by simp[results,results244,go_sem,q0,q1,q2]) rfl ?_;exact⟨rfl,HQ.1,HQ.2⟩
theorem VQ (w:World)(xb rb:Nat)(m:MS)(a:Int)(r:List Int)(h:aW w xb rb m (a::r).reverse)(h0:0<=m.st)(h1:m.st<2000):
  Calls prog 244 #[pt rb,.int .i64 1] w λe w'=>∃v',e=.returned (.tuple #[.agg #[.int .i64 a,.int .i64 0,.int .i64 0],.int .i64 0])/\aW w' xb rb {m with sv:=v',st:=m.st+1} r.reverse/\gL xb rb w w' m {m with sv:=v',st:=m.st+1}:=by
 have HB:=az (tC (w.alloc (.cells #[.int .i64 0,.int .i64 0,.int .i64 0] 195)) xb rb m _ (h.alloc _) h0 h1);have hl:=h.cF.lt;have hlx:=h.bJ.lt;have hi1:=((h.setSt (m.st+1)).1).alloc (.cells #[.int .i64 0,.int .i64 0,.int .i64 0] 195);have ht1:gL xb rb w ((w.setCell ⟨rb,2,none⟩ (.int .i64 (m.st+1))).alloc (.cells #[.int .i64 0,.int .i64 0,.int .i64 0] 195)) m {m with st:=m.st+1}:=(h.setSt (m.st+1)).2.trans (gL.kp ((Kp.refl _ _).alloc _));have lU:aC ((w.setCell ⟨rb,2,none⟩ (.int .i64 (m.st+1))).alloc (.cells #[.int .i64 0,.int .i64 0,.int .i64 0] 195)) w.heap.size 195 #[.int .i64 0,.int .i64 0,.int .i64 0]:=by
  have:=aC.new (w.setCell ⟨rb,2,none⟩ (.int .i64 (m.st+1))) #[.int .i64 0,.int .i64 0,.int .i64 0] 195;simpa using this
 go_enter func244,ntmps244
 go_wp2_with fail
 refine HB.out.mono ?_;rintro e w' ⟨rfl,rfl⟩
 go_wp2_with fail
 refine(u9 _ xb rb _ a r hi1).mono ?_;rintro e w2 ⟨v',rfl,hi2,ht2⟩;have hZ:=ht2.blk lU (by rintro (h9|h9) <;> omega) (by rintro (h9|h9);exact aH hi1.dc lU (by decide) h9;exact aH hi1.dY lU (by decide) h9)
 obtain⟨y0,y1,y2⟩:=hZ.three;obtain⟨z0,z1,z2⟩:=hZ.Cn;go_wp2;have hC:=hZ.Q0 (.int .i64 a) (.int .i64 0) (.int .i64 0);have HQ:aW (((w2.setCell ⟨w.heap.size,0,none⟩ (.int .i64 a)).setCell ⟨w.heap.size,1,none⟩ (.int .i64 0)).setCell ⟨w.heap.size,2,none⟩ (.int .i64 0)) xb rb {m with sv:=v',st:=m.st+1} r.reverse/\gL xb rb w (((w2.setCell ⟨w.heap.size,0,none⟩ (.int .i64 a)).setCell ⟨w.heap.size,1,none⟩ (.int .i64 0)).setCell ⟨w.heap.size,2,none⟩ (.int .i64 0)) m {m with sv:=v',st:=m.st+1}:=by
  refine⟨((hi2.aside hZ 0 _).aside (hZ.set 0 _) 1 _).aside ((hZ.set 0 _).set 1 _) 2 _,?_⟩;have t2:=ht1.trans ht2;exact⟨((t2.kp.set (a:=⟨w.heap.size,0,none⟩) (λhh=>ax hh (Nat.lt_irrefl _)) _).set (a:=⟨w.heap.size,1,none⟩) (λhh=>ax hh (Nat.lt_irrefl _)) _).set (a:=⟨w.heap.size,2,none⟩) (λhh=>ax hh (Nat.lt_irrefl _)) _,t2.nx⟩
 generalize (((w2.setCell ⟨w.heap.size,0,none⟩ (.int .i64 a)).setCell ⟨w.heap.size,1,none⟩ (.int .i64 0)).setCell ⟨w.heap.size,2,none⟩ (.int .i64 0))=wf at hC HQ ⊢;obtain⟨q0,q1,q2⟩:=hC.three;refine bodyPost_ret (v:=.tuple #[.agg #[.int .i64 a,.int .i64 0,.int .i64 0],.int .i64 0]) (by simp[results,results244,go_sem,q0,q1,q2]) rfl ?_;exact⟨v',rfl,HQ.1,HQ.2⟩
theorem VR (w:World)(xb rb:Nat)(m:MS)(b a:Int)(r:List Int)(h:aW w xb rb m (b::a::r).reverse)(h0:0<=m.st)(h1:m.st<2000):
  Calls prog 244 #[pt rb,.int .i64 2] w λe w'=>∃v',e=.returned (.tuple #[.agg #[.int .i64 a,.int .i64 b,.int .i64 0],.int .i64 0])/\aW w' xb rb {m with sv:=v',st:=m.st+1} r.reverse/\gL xb rb w w' m {m with sv:=v',st:=m.st+1}:=by
 have HB:=az (tC (w.alloc (.cells #[.int .i64 0,.int .i64 0,.int .i64 0] 195)) xb rb m _ (h.alloc _) h0 h1);have hl:=h.cF.lt;have hlx:=h.bJ.lt;have hi1:=((h.setSt (m.st+1)).1).alloc (.cells #[.int .i64 0,.int .i64 0,.int .i64 0] 195);have ht1:gL xb rb w ((w.setCell ⟨rb,2,none⟩ (.int .i64 (m.st+1))).alloc (.cells #[.int .i64 0,.int .i64 0,.int .i64 0] 195)) m {m with st:=m.st+1}:=(h.setSt (m.st+1)).2.trans (gL.kp ((Kp.refl _ _).alloc _));have lU:aC ((w.setCell ⟨rb,2,none⟩ (.int .i64 (m.st+1))).alloc (.cells #[.int .i64 0,.int .i64 0,.int .i64 0] 195)) w.heap.size 195 #[.int .i64 0,.int .i64 0,.int .i64 0]:=by
  have:=aC.new (w.setCell ⟨rb,2,none⟩ (.int .i64 (m.st+1))) #[.int .i64 0,.int .i64 0,.int .i64 0] 195;simpa using this
 go_enter func244,ntmps244
 go_wp2_with fail
 refine HB.out.mono ?_;rintro e w' ⟨rfl,rfl⟩
 go_wp2_with fail
 refine(jT _ xb rb _ b a r hi1).mono ?_;rintro e w2 ⟨v',rfl,hi2,ht2⟩;have hZ:=ht2.blk lU (by rintro (h9|h9) <;> omega) (by rintro (h9|h9);exact aH hi1.dc lU (by decide) h9;exact aH hi1.dY lU (by decide) h9)
 obtain⟨y0,y1,y2⟩:=hZ.three;obtain⟨z0,z1,z2⟩:=hZ.Cn;go_wp2;have hC:=hZ.Q0 (.int .i64 a) (.int .i64 b) (.int .i64 0);have HQ:aW (((w2.setCell ⟨w.heap.size,0,none⟩ (.int .i64 a)).setCell ⟨w.heap.size,1,none⟩ (.int .i64 b)).setCell ⟨w.heap.size,2,none⟩ (.int .i64 0)) xb rb {m with sv:=v',st:=m.st+1} r.reverse/\gL xb rb w (((w2.setCell ⟨w.heap.size,0,none⟩ (.int .i64 a)).setCell ⟨w.heap.size,1,none⟩ (.int .i64 b)).setCell ⟨w.heap.size,2,none⟩ (.int .i64 0)) m {m with sv:=v',st:=m.st+1}:=by
  refine⟨((hi2.aside hZ 0 _).aside (hZ.set 0 _) 1 _).aside ((hZ.set 0 _).set 1 _) 2 _,?_⟩;have t2:=ht1.trans ht2;exact⟨((t2.kp.set (a:=⟨w.heap.size,0,none⟩) (λhh=>ax hh (Nat.lt_irrefl _)) _).set (a:=⟨w.heap.size,1,none⟩) (λhh=>ax hh (Nat.lt_irrefl _)) _).set (a:=⟨w.heap.size,2,none⟩) (λhh=>ax hh (Nat.lt_irrefl _)) _,t2.nx⟩
 generalize (((w2.setCell ⟨w.heap.size,0,none⟩ (.int .i64 a)).setCell ⟨w.heap.size,1,none⟩ (.int .i64 b)).setCell ⟨w.heap.size,2,none⟩ (.int .i64 0))=wf at hC HQ ⊢;obtain⟨q0,q1,q2⟩:=hC.three;refine bodyPost_ret (v:=.tuple #[.agg #[.int .i64 a,.int .i64 b,.int .i64 0],.int .i64 0]) (by simp[results,results244,go_sem,q0,q1,q2]) rfl ?_;exact⟨v',rfl,HQ.1,HQ.2⟩
def bu (B:Nat)(W:World)(xb rb mb:Nat)(w:World)(m:MS)(D:GD)(s':St)(w':World):Prop:=∃m' D',PR B W w' xb rb mb m' D' s'/\mN xb rb mb w w' m m' D D'
theorem bu.step {B:Nat}{W:World}{xb rb mb:Nat}{w w1 w2:World}{m m1:MS}{D D1:GD}{s':St}(ht:mN xb rb mb w w1 m m1 D D1)(h:bu B W xb rb mb w1 m1 D1 s' w2):bu B W xb rb mb w m D s' w2:=by
 obtain⟨m',D',h1,h2⟩:=h;exact⟨m',D',h1,ht.trans h2⟩
theorem St.nH {s:St}(h:s.steps<2000):s.step={s with steps:=s.steps+1}:=by unfold St.step;rw[ag h]
theorem St.MA {s:St}(h:¬s.steps<2000):s.step={s with e:=12,steps:=s.steps+1}:=by unfold St.step;rw[af h]
section
variable {B:Nat}{W w:World}{xb rb mb:Nat}{m:MS}{D:GD}{s:St}
theorem PR.fuel (h:PR B W w xb rb mb m D s)(he:s.e=0)(hf:¬m.st<2000):PR B W w xb rb mb m D s.step/\s.step.e=12:=by
 have hs:¬s.steps<2000:=by rw[<-h.st he];exact hf
 have hg:=h.good.step he;rw[St.MA hs] at hg ⊢;obtain⟨ns,hi,_⟩:=h.inv;exact⟨(h.turn (s':={s with e:=12,steps:=s.steps+1}) (To.refl _ _ _) rfl ⟨ns,hi,(λh=>by cases h)⟩ h.mem h.out h.st0 h.Di (λh=>by cases h) h.dp ⟨rfl,rfl,rfl,rfl⟩ hg).1,rfl⟩
theorem PR.aae (h:PR B W w xb rb mb m D s)(he:s.e=0)(hf:m.st<2000):PR B W (w.setCell ⟨rb,2,none⟩ (.int .i64 (m.st+1))) xb rb mb {m with st:=m.st+1} D s.step/\mN xb rb mb w (w.setCell ⟨rb,2,none⟩ (.int .i64 (m.st+1))) m {m with st:=m.st+1} D D/\s.step.e=0:=by
 have hs:s.steps<2000:=by rw[<-h.st he];exact hf
 have hg:=h.good.step he;rw[St.nH hs] at hg ⊢;obtain⟨ns,hi,hn⟩:=h.inv;obtain⟨h1,h2⟩:=hi.setSt (m.st+1);have:=h.turn (s':={s with steps:=s.steps+1}) h2 rfl ⟨ns,h1,hn⟩ h.mem h.out (by have:=h.st0;show 0<=m.st+1;omega) (by show m.st+1<=2000;omega) (λe=>by show m.st+1=s.steps+1;rw[h.st he]) h.dp ⟨rfl,rfl,rfl,rfl⟩ hg;exact⟨this.1,this.2,he⟩
theorem PR.ofM {w':World}{R:sN}{s':St}(h:PR B W w xb rb mb m D s)(hp:bL w w' xb rb m R)(h1:s'.e=R.e)(h2:R.e=0->s'.rs=R.rs)(h3:s'.mem=R.mem)(h4:s'.out=R.out)(h5:s'.steps=s.steps)(h6:s'.depth=s.depth)(h7:OW s s')(he:s.e=0)(hg:cC s'):bu B W xb rb mb w m D s' w':=by
 obtain⟨m',ns,hi,ht,hm,ho,hq,hn⟩:=hp;have q1:m'.st=m.st:=congrArg Prod.fst hq;have q2:m'.dp=m.dp:=congrArg (λx=>x.2.1) hq;have q3:m'.bk=m.bk:=congrArg (λx=>x.2.2) hq;exact⟨m',D,h.turn ht q3 ⟨ns,hi,λe=>by rw[h1] at e;rw[hn e,h2 e]⟩ (by rw[hm,h3]) (by rw[ho,h4]) (by rw[q1];exact h.st0) (by rw[q1];exact h.Di) (λ_=>by rw[q1,h.st he,h5]) (by rw[q2,h.dp,h6]) h7 hg⟩
theorem ve (h:PR B W w xb rb mb m D s)(he:s.e=0)(v:Value)(s2 s':St)(hs':s'=if s.step.e=0 then s2 else s.step)
  (hact:s.step.e=0->∀w1 m1,PR B W w1 xb rb mb m1 D s.step->mN xb rb mb w w1 m m1 D D->bp v (pt rb) w1 λe w'=>e=.returned (.int .i64 s2.e)/\bu B W xb rb mb w1 m1 D s2 w'):
  Calls prog 68 #[pt rb,v] w λe w'=>e=.returned (.int .i64 s'.e)/\bu B W xb rb mb w m D s' w':=by
 obtain⟨ns,hi,hn⟩:=h.inv;by_cases hf:m.st<2000
 ·obtain⟨h1,h2,h3⟩:=h.aae he hf;rw[ag h3] at hs';rw[hs'];refine(VS w xb rb m ns v (λn w'=>n=s2.e/\bu B W xb rb mb w m D s2 w') hi h.st0 hf ((hact h3 _ _ h1 h2).mono ?_)).mono ?_
  ·rintro e w' ⟨rfl,hp⟩;exact⟨_,rfl,rfl,hp.step h2⟩
  ·rintro e w' ⟨n,rfl,rfl,hp⟩;exact⟨rfl,hp⟩
 ·obtain⟨h1,h2⟩:=h.fuel he hf;rw[af (by rw[h2];decide)] at hs';rw[hs'];refine(Jd w xb rb m ns v hi hf).mono ?_;rintro e w' ⟨rfl,rfl⟩;exact⟨by rw[h2],m,D,h1,mN.refl _ _ _ _ _ _⟩
theorem Q4 (h:PR B W w xb rb mb m D s)(he:s.e=0)(n:Int)(hn:In n)(nb:Nat)(hb:aC w nb 2 #[.int .i64 n]):
  bp (.func (.func 95) #[] #[pt nb]) (pt rb) w λe w'=>e=.returned (.int .i64 (s.put n).e)/\bu B W xb rb mb w m D (s.put n) w':=by
 obtain⟨ns,hi,hns⟩:=h.inv;have hns:=hns he;subst hns;have hg:=h.good.put hn;refine⟨_,_,_,rfl,MB,?_⟩;by_cases hl:s.rs.length<32
 ·have hs:s.put n={s with rs:=n::s.rs}:=by unfold St.put;rw[ag hl]
  rw[hs] at hg ⊢;refine(VT w xb rb nb m n s.rs hi (hb.cell rfl) hl).mono ?_;rintro e w' ⟨rfl,hp⟩;exact⟨by rw[show({s with rs:=n::s.rs}:St).e=0 from he],h.ofM hp he (λ_=>rfl) h.mem.symm h.out.symm rfl rfl ⟨rfl,rfl,rfl,rfl⟩ he hg⟩
 ·have hs:s.put n={s with e:=7}:=by unfold St.put;rw[af hl]
  rw[hs] at hg ⊢;refine(MC w xb rb nb m n s.rs hi (hb.cell rfl) hl).mono ?_;rintro e w' ⟨rfl,hp⟩;exact⟨rfl,h.ofM hp rfl (λh=>by cases h) h.mem.symm h.out.symm rfl rfl ⟨rfl,rfl,rfl,rfl⟩ he hg⟩
theorem Du (hG:Q5 B W)(h:PR B W w xb rb mb m D s)(he:s.e=0)(j:Nat)(act:Value)(hb:bB (BD D.d w) j act):
  bp act (pt rb) w λe w'=>e=.returned (.int .i64 (s.word j).e)/\bu B W xb rb mb w m D (s.word j) w':=by
 obtain⟨ns,hi,hns⟩:=h.inv;have hns:=hns he;subst hns;have hg:=h.good.word he j;refine(aaf B W w D.d xb rb m s.rs j act hb hi (by rw[h.out];exact h.good.g.tQ) h.good.g.ins h.safe hG).mono ?_;rintro e w' ⟨rfl,hp⟩;rw[h.mem,h.out] at hp;rw[h.mem,h.out];exact⟨rfl,h.ofM hp rfl (λ_=>rfl) rfl rfl rfl rfl ⟨rfl,rfl,rfl,rfl⟩ he hg⟩
theorem Q6 (w:World)(rb:Nat)(a0 a1 a2 why:Int)(Q:World->Prop)(hc:Calls prog 244 #[pt rb,.int .i64 1] w λe w'=>e=.returned (.tuple #[.agg #[.int .i64 a0,.int .i64 a1,.int .i64 a2],.int .i64 why])/\∀w2,Kp w' w2 (λ_=>False)->Q w2):
  Calls prog 243 #[pt rb] w λe w'=>e=.returned (.tuple #[.bool (a0 != 0),.int .i64 why])/\Q w':=by
 have HC:=az hc;clear hc;go_enter func243,ntmps243
 go_wp2_with fail
 refine HC.out.mono ?_;rintro e w1 ⟨rfl,hq⟩;have HQ:=az hq;clear hq;go_wp2;go_ret2;exact⟨rfl,HQ.out _ ((Kp.refl _ _).alloc _)⟩
theorem yL (w:World)(rb:Nat)(a0 a1 a2 why:Int)(Q:World->Prop)(hc:Calls prog 244 #[pt rb,.int .i64 2] w λe w'=>e=.returned (.tuple #[.agg #[.int .i64 a0,.int .i64 a1,.int .i64 a2],.int .i64 why])/\∀w2,Kp w' w2 (λ_=>False)->Q w2):
  Calls prog 227 #[pt rb] w λe w'=>e=.returned (.tuple #[.int .i64 a0,.int .i64 a1,.int .i64 why])/\Q w':=by
 have HC:=az hc;clear hc;go_enter func227,ntmps227
 go_wp2_with fail
 refine HC.out.mono ?_;rintro e w1 ⟨rfl,hq⟩;have HQ:=az hq;clear hq;go_wp2
 go_quiet (fail)
 go_wp2;refine bodyPost_ret (gw rfl _ _ _) rfl ?_;exact⟨rfl,HQ.out _ (((Kp.refl _ _).alloc _).drewN nq)⟩
theorem bu.after {w' w2:World}{s':St}(h:bu B W xb rb mb w m D s' w')(hk:Kp w' w2 (λ_=>False)):bu B W xb rb mb w m D s' w2:=by
 obtain⟨m',D',h1,h2⟩:=h;obtain⟨h3,h4⟩:=h1.kp hk;exact⟨m',D',h3,h2.trans h4⟩
theorem aag (h:PR B W w xb rb mb m D s)(he:s.e=0):
  Calls prog 243 #[pt rb] w λe w'=>e=.returned (.tuple #[.bool s.test.2,.int .i64 s.test.1.e])/\bu B W xb rb mb w m D s.test.1 w':=by
 obtain⟨ns,hi,hns⟩:=h.inv;have hns:=hns he;subst hns;have hg:=h.good.test he;by_cases hf:m.st<2000
 ·have hst:s.steps<2000:=by rw[<-h.st he];exact hf
  have hs:=St.nH hst;have eX:s.step.e=0:=by rw[hs];exact he
  cases hrs:s.rs with
  | nil=>
   have HT:s.test=(s.step.err 6,false):=by unfold St.test;rw[ag eX,show s.step.rs=[] by rw[hs];exact hrs]
   rw[HT] at hg ⊢;refine Q6 w rb 0 0 0 6 _ ((uZ w xb rb m _ 1 hi h.st0 hf (by rw[hrs];decide) (by decide)).mono ?_);rintro e w' ⟨rfl,hi',ht'⟩;refine⟨rfl,λw2 hk=>bu.after ⟨_,D,h.turn ht' rfl ⟨_,hi',(λh=>by cases h)⟩ (by rw[hs];exact h.mem) (by rw[hs];exact h.out) (by have:=h.st0;show 0<=m.st+1;omega) (by show m.st+1<=2000;omega) (λh=>by cases h) (by rw[hs];exact h.dp) (by rw[hs];exact⟨rfl,rfl,rfl,rfl⟩) hg⟩ hk⟩
  | cons a r=>
   have HT:s.test=({s.step with rs:=r},decide (a≠0)):=by unfold St.test;rw[ag eX,show s.step.rs=a::r by rw[hs];exact hrs]
   rw[HT] at hg ⊢;rw[hrs] at hi;rw[show decide (a≠0)=(a != 0) by cases hz:(a != 0) <;> simpa using hz,show({s.step with rs:=r}:St).e=0 from eX]
   refine Q6 w rb a 0 0 0 _ ((VQ w xb rb m a r hi h.st0 hf).mono ?_);rintro e w' ⟨v',rfl,hi',ht'⟩;refine⟨rfl,λw2 hk=>bu.after ⟨_,D,h.turn ht' rfl ⟨_,hi',λ_=>rfl⟩ (by rw[hs];exact h.mem) (by rw[hs];exact h.out) (by have:=h.st0;show 0<=m.st+1;omega) (by show m.st+1<=2000;omega) (λ_=>by rw[hs];show m.st+1=s.steps+1;rw[h.st he]) (by rw[hs];exact h.dp) (by rw[hs];exact⟨rfl,rfl,rfl,rfl⟩) hg⟩ hk⟩
 ·obtain⟨h1,h2⟩:=h.fuel he hf;have HT:s.test=(s.step,false):=by unfold St.test;rw[af (by rw[h2];decide)]
  rw[HT] at ⊢;rw[h2];refine Q6 w rb 0 0 0 12 _ ((Ds w xb rb m _ 1 hi hf).mono ?_);rintro e w' ⟨rfl,hk'⟩;exact⟨rfl,λw2 hk=>bu.after ⟨m,D,(h1.kp hk').1,(h1.kp hk').2⟩ hk⟩
end
structure lY (B:Nat)(w:World)(fb rb:Nat)(m:MS)(D:GD)(lv:Value)(why:Int)(lp:List Int):Prop where
 blk:aC w fb 247 #[pt rb,lv,.int .i64 why]
 row:w.ownsRow 0 2 1 lv lp.length (bD lp.reverse)
 ins:∀n∈lp,In n
 sep:∀k,own lv k->¬own m.sv k
 nd:¬D.d fb
 nl:∀k,own lv k->¬D.d k
 nu:¬D.u fb
 KS:∀k,own lv k->¬D.u k
 bf:B<=fb
 bl:∀k,own lv k->B<=k
structure FT (xb rb mb fb:Nat)(w w':World)(m m':MS)(D D':GD)(lv jt:Value):Prop where
 wt:To (λk=>((k=xb\/k=rb)\/k=mb)\/k=fb) w w' (λk=>((own m.sv k\/own m.ov k)\/D.u k)\/own lv k) (λk=>((own m'.sv k\/own m'.ov k)\/D'.u k)\/own jt k)
 up:∀k,D.d k->D'.d k
 nw:∀k,D'.d k->D.d k\/w.heap.size<=k
 rg:∀o f,D.r o f->D'.r o f
 bk:m'.bk=m.bk
 KT:jt=lv
 jj:D'.J=D.J
theorem FT.refl (xb rb mb fb:Nat)(w:World)(m:MS)(D:GD)(lv:Value):FT xb rb mb fb w w m m D D lv lv:=⟨To.refl _ _ _,λ_ h=>h,λ_ h=>.inl h,λ_ _ h=>h,rfl,rfl,rfl⟩
theorem FT.trans {xb rb mb fb:Nat}{w w1 w2:World}{m m1 m2:MS}{D D1 D2:GD}{lv gi r8:Value}(h:FT xb rb mb fb w w1 m m1 D D1 lv gi)(g:FT xb rb mb fb w1 w2 m1 m2 D1 D2 gi r8):FT xb rb mb fb w w2 m m2 D D2 lv r8:=by
 refine⟨h.wt.trans g.wt,λk hk=>g.up k (h.up k hk),λk hk=>?_,λo f hr=>g.rg o f (h.rg o f hr),g.bk.trans h.bk,g.KT.trans h.KT,g.jj.trans h.jj⟩;rcases g.nw k hk with h1|h1
 ·exact h.nw k h1
 ·exact .inr (ai h.wt.kp.size h1)
section
variable {B:Nat}{W w w':World}{xb rb mb fb:Nat}{m m':MS}{D D':GD}{s:St}{lv:Value}{why:Int}{lp:List Int}
theorem PR.other {S:Nat->Prop}(h:PR B W w xb rb mb m D s)(hk:Kp w w' S)(h1:¬S xb)(h2:¬S rb)(h3:¬S mb)(h4:¬S m.bk)(h5:∀k,own m.sv k->¬S k)(h6:∀k,own m.ov k->¬S k)(h7:∀k,D.d k->¬S k)(h9:∀k,D.u k->¬S k)(h8:∀k,k<B->¬S k):PR B W w' xb rb mb m D s:=by
 obtain⟨ns,hi,hn⟩:=h.inv;have hs:=h.safe;obtain⟨nY,hwd⟩:=h.words.yI.out hk h9 h7;refine⟨⟨ns,⟨hk.blk hi.bJ h1,hk.blk hi.cF h2,hk.row hi.dc h5,hk.row hi.dY h6,hi.len⟩,hn⟩,h.mem,h.out,h.st0,h.Di,h.st,h.dp,⟨hs.E9.trans (hk.below hs.bs h8),hs.bx,hs.br,hs.bv,ai hs.bs hk.size⟩,h.E8,hk.blk h.book h4,h.words.E7 nY (λ_ _ h=>h) (λ_ _ h=>h) hwd (hk.block mb h.words.Mz h3) (λ_ _ _ _ q=>q.out hk h9 h7),λk hd=>?_,λk hu=>?_,h.good,h.ids,h.Cm⟩
 ·obtain⟨e0,e1⟩:=h.sep k hd;exact⟨aj e0 hk.size,e1⟩
 ·obtain⟨e0,e1,e2⟩:=h.us k hu;refine⟨e0,e1,?_⟩;rcases e2 with⟨c,hc⟩|⟨n,DD,hm2⟩
  ·exact .inl ⟨c,hk.blk hc (h9 k hu)⟩
  ·exact .inr ⟨n,DD,aL hm2 (hk.block k hm2.lt (h9 k hu))⟩
theorem lY.ne (h:PR B W w xb rb mb m D s)(hf:lY B w fb rb m D lv why lp):fb≠xb/\fb≠rb/\fb≠mb/\fb≠m.bk/\¬own m.sv fb/\¬own m.ov fb/\¬own lv fb:=by
 obtain⟨ns,hi,_⟩:=h.inv;refine⟨?_,?_,(h.words.ne hf.blk).symm,?_,λe=>?_,λe=>?_,λe=>?_⟩
 ·rintro rfl;exact ax (hf.blk.inj hi.bJ).1 (by decide)
 ·rintro rfl;exact ax (hf.blk.inj hi.cF).1 (by decide)
 ·rintro rfl;exact ax (hf.blk.inj h.book).1 (by decide)
 ·exact ax (aQ hi.dc e hf.blk) (by decide)
 ·exact ax (aQ hi.dY e hf.blk) (by decide)
 ·exact ax (aQ hf.row e hf.blk) (by decide)
theorem lY.Ga (h:PR B W w xb rb mb m D s)(hf:lY B w fb rb m D lv why lp){k:Nat}(hk:own lv k):k≠xb/\k≠rb/\k≠mb/\k≠m.bk/\¬own m.sv k/\¬own m.ov k:=by
 obtain⟨ns,hi,_⟩:=h.inv;obtain⟨c,hc⟩:=aV hf.row hk;refine⟨?_,?_,(h.words.ne hc).symm,?_,hf.sep k hk,λe=>?_⟩
 ·rintro rfl;exact ax (hc.inj hi.bJ).1 (by decide)
 ·rintro rfl;exact ax (hc.inj hi.cF).1 (by decide)
 ·rintro rfl;exact ax (hc.inj h.book).1 (by decide)
 ·exact ax (aQ hi.dY e hc) (by decide)
theorem lY.iF (h:PR B W w xb rb mb m D s)(hf:lY B w fb rb m D lv why lp)(ht:mN xb rb mb w w' m m' D D'):lY B w' fb rb m' D' lv why lp/\FT xb rb mb fb w w' m m' D D' lv lv:=by
 obtain⟨n1,n2,n3,n4,n5,n6,n7⟩:=hf.ne h;refine⟨⟨ht.wt.kp.blk hf.blk ?_,ht.wt.kp.row hf.row (λk hk=>?_),hf.ins,λk hk hv=>?_,λhd=>?_,λk hk hd=>?_,λhd=>?_,λk hk hd=>?_,hf.bf,hf.bl⟩,⟨⟨ht.wt.kp.mono (λk _ hk=>?_),λk hk=>?_⟩,ht.up,ht.nw,ht.rg,ht.bk,rfl,ht.jj⟩⟩
 ·rintro (((e|e)|e)|((e|e)|e))
  ·exact n1 e
  ·exact n2 e
  ·exact n3 e
  ·exact n5 e
  ·exact n6 e
  ·exact hf.nu e
 ·obtain⟨l1,l2,l3,l4,l5,l6⟩:=hf.Ga h hk;rintro (((e|e)|e)|((e|e)|e))
  ·exact l1 e
  ·exact l2 e
  ·exact l3 e
  ·exact l5 e
  ·exact l6 e
  ·exact hf.KS k hk e
 ·obtain⟨l1,l2,l3,l4,l5,l6⟩:=hf.Ga h hk;have:=bw hf.row hk;rcases ht.wt.nx k (.inl (.inl hv)) with ((e|e)|e)|e
  ·exact l5 e
  ·exact l6 e
  ·exact hf.KS k hk e
  ·omega
 ·rcases ht.nw _ hd with e|e
  ·exact hf.nd e
  ·have:=hf.blk.lt;omega
 ·rcases ht.nw _ hd with e|e
  ·exact hf.nl k hk e
  ·have:=bw hf.row hk;omega
 ·rcases ht.wt.nx _ (.inr hd) with ((e|e)|e)|e
  ·exact n5 e
  ·exact n6 e
  ·exact hf.nu e
  ·have:=hf.blk.lt;omega
 ·obtain⟨l1,l2,l3,l4,l5,l6⟩:=hf.Ga h hk;have:=bw hf.row hk;rcases ht.wt.nx k (.inr hd) with ((e|e)|e)|e
  ·exact l5 e
  ·exact l6 e
  ·exact hf.KS k hk e
  ·omega
 ·rcases hk with e|e
  ·exact .inl (.inl e)
  ·exact .inr (.inl e)
 ·rcases hk with e|e
  ·rcases ht.wt.nx k e with h1|h1
   ·exact .inl (.inl h1)
   ·exact .inr h1
  ·exact .inl (.inr e)
theorem lY.Je (h:PR B W w xb rb mb m D s)(hf:lY B w fb rb m D lv why lp)(n:Int):PR B W (w.setCell ⟨fb,2,none⟩ (.int .i64 n)) xb rb mb m D s/\lY B (w.setCell ⟨fb,2,none⟩ (.int .i64 n)) fb rb m D lv n lp/\FT xb rb mb fb w (w.setCell ⟨fb,2,none⟩ (.int .i64 n)) m m D D lv lv:=by
 obtain⟨n1,n2,n3,n4,n5,n6,n7⟩:=hf.ne h;have hk:=Kp.one w fb 2 (.int .i64 n);refine⟨h.other hk n1.symm n2.symm n3.symm n4.symm (λk hk e=>n5 (e▸hk)) (λk hk e=>n6 (e▸hk)) (λk hk e=>hf.nd (e▸hk)) (λk hk e=>hf.nu (e▸hk)) (λk hk e=>by have:=hf.bf;omega),⟨hf.blk.set 2 _,ownsRow_setCell_other (a:=⟨fb,2,none⟩) hf.row n7 _,hf.ins,hf.sep,hf.nd,hf.nl,hf.nu,hf.KS,hf.bf,hf.bl⟩,⟨⟨hk.mono (λk _ e=>.inl (.inr e)),λk hk=>.inl hk⟩,λ_ h=>h,λ_ h=>.inl h,λ_ _ h=>h,rfl,rfl,rfl⟩⟩
end
def sig (b:Bool):Int:=if b=true then 1 else 0
def sA (l:Bool)(e:Int):Int:=sig (l||decide (e≠0))
theorem lM:sA false 0=0:=rfl
theorem dA {l:Bool}{e:Int}(h:l=true\/e≠0):sA l e=1:=by
 unfold sA;rcases h with h|h
 ·rw[h];rfl
 ·rw[decide_eq_true h];simp[sig]
theorem yM (e:Int):sA (decide (e≠0)) e=sA false e:=by unfold sA;cases decide (e≠0) <;> rfl
theorem sB (w:World)(fb:Nat)(why:Int)(rv lv:Value)(y:Int)(hf:aC w fb 247 #[rv,lv,.int .i64 y]):
  Calls prog 220 #[pt fb,.int .i64 why] w λe w'=>e=.returned (.int .i64 (sA false why))/\w'=w.setCell ⟨fb,2,none⟩ (.int .i64 why):=by
 have c2:w.cell? ⟨fb,2,none⟩=some (.int .i64 y):=hf.cell rfl;have f2:=hf.free 2;by_cases h0:why=0
 ·subst h0;go_enter func220,ntmps220;go_wp2;go_ret;exact⟨rfl,rfl⟩
 ·have h1:(why != 0)=true:=by simpa using h0
  have H0:=az h0;clear h0;go_enter func220,ntmps220;go_wp2;go_ret;exact⟨by rw[dA (.inr H0.out)];rfl,rfl⟩
structure Env (B:Nat)(W:World):Prop where
 glo:Q5 B W
 sp:tG W
 b1:1<B
theorem Env.at {B:Nat}{W w:World}{xb rb mb:Nat}{m:MS}{D:GD}{s:St}(h:Env B W)(hp:PR B W w xb rb mb m D s):tG w:=by
 obtain⟨tt,fr,hx⟩:=h.sp;exact⟨tt,fr,(hp.safe.E9.block 1 h.b1).trans hx⟩
def kJ (B:Nat)(W:World)(xb rb mb fb:Nat)(w:World)(m:MS)(D:GD)(lv:Value)(lp:List Int)(s':St)(w':World):Prop:=
 ∃m' D' jt,PR B W w' xb rb mb m' D' s'/\lY B w' fb rb m' D' jt s'.e lp/\FT xb rb mb fb w w' m m' D D' lv jt
theorem kJ.step {B:Nat}{W:World}{xb rb mb fb:Nat}{w w1 w2:World}{m m1:MS}{D D1:GD}{lv gi:Value}{lp:List Int}{s':St}(ht:FT xb rb mb fb w w1 m m1 D D1 lv gi)(h:kJ B W xb rb mb fb w1 m1 D1 gi lp s' w2):kJ B W xb rb mb fb w m D lv lp s' w2:=by
 obtain⟨m',D',jt,h1,h2,h3⟩:=h;exact⟨m',D',jt,h1,h2,ht.trans h3⟩
theorem lY.fD {B:Nat}{W w w':World}{xb rb mb fb:Nat}{m m':MS}{D D':GD}{s:St}{lv jt:Value}{why:Int}{lp:List Int}(h:PR B W w xb rb mb m D s)(hf:lY B w fb rb m D lv why lp)(ht:FT xb rb mb fb w w' m m' D D' lv jt):∀b t c,BD D.d w b t c->BD D'.d w' b t c:=by
 intro b t c hb;obtain⟨_,h1,h2,h3,h4⟩:=h.sep b hb.1;refine⟨ht.up b hb.1,ht.wt.kp.blk hb.2 ?_⟩;rintro ((((e|e)|e)|e)|(((e|e)|e)|e))
 ·exact h1 e
 ·exact h2 e
 ·exact h.words.ne hb.2 e.symm
 ·exact hf.nd (e▸hb.1)
 ·exact h3 e
 ·exact h4 e
 ·exact h.words.yI.ud b e hb.1
 ·exact hf.nl b e hb.1
def KU (lp:List Int)(l:List It):Prop:=∃G lo,wb (λ_=>True) G lo l/\(lo=true->lp≠[])
def KV (lp:List Int)(x:It):Prop:=∃G lo,ym (λ_=>True) (wb (λ_=>True) G) lo x/\(lo=true->lp≠[])
theorem KU.mem {lp:List Int}{l:List It}(h:KU lp l){x:It}(hx:x∈l):KV lp x:=by
 obtain⟨G,lo,h1,h2⟩:=h
 cases G with
 | zero=>have h1:l=[]:=h1;subst h1;cases hx
 | succ G=>exact⟨G,lo,h1 x hx,h2⟩
theorem KV.ab {lp:List Int}{x:It}(h:KV lp x)(hk:x.kind=63\/x.kind=117\/x.kind=119):KU lp x.a/\KU lp x.b:=by
 obtain⟨G,lo,h1,h2⟩:=h;rcases h1 with⟨q,_⟩|⟨_,q1,q2⟩|⟨q,_⟩
 ·exfalso;omega
 ·exact⟨⟨G,lo,q1,h2⟩,⟨G,lo,q2,h2⟩⟩
 ·exfalso;omega
theorem KV.body {lp:List Int}{x:It}(h:KV lp x)(hk:x.kind=100)(n:Int):KU (n::lp) x.a:=by
 obtain⟨G,lo,h1,h2⟩:=h;rcases h1 with⟨q,_⟩|⟨q,_⟩|⟨_,q1,_⟩
 ·exfalso;omega
 ·exfalso;omega
 ·exact⟨G,true,q1,λ_=>by simp⟩
theorem KV.idx {lp:List Int}{x:It}(h:KV lp x)(hk:x.kind=105):lp≠[]:=by
 obtain⟨G,lo,h1,h2⟩:=h;rcases h1 with⟨q,_⟩|⟨q,_⟩|⟨q,_⟩
 ·rcases q with q|q|q|q|q|q|q
  all_goals first
   | exact h2 q.2
   | (exfalso;omega)
 ·exfalso;omega
 ·exfalso;omega
def PQ (lp lq:List Int):Prop:=∃lo,lq=lp++lo
theorem PQ.refl (lp:List Int):PQ lp lp:=⟨[],by simp⟩
theorem PQ.push {lp lq:List Int}(h:PQ lp lq)(n:Int):PQ (n::lp) (n::lq):=by obtain⟨lo,h⟩:=h;exact⟨lo,by rw[h];rfl⟩
theorem PQ.nil (lq:List Int):PQ [] lq:=⟨lq,rfl⟩
def QB (B:Nat)(W:World)(g:Nat):Prop:=∀(w:World) (xb rb mb fb:Nat) (m:MS) (D:GD) (s s':St) (f:Fr) (lp lq:List Int) (lv:Value) (ob:Nat) (v:Value) (l:List It) (left:Bool),PQ lp lq->PR B W w xb rb mb m D s->s.e=0->lY B w fb rb m D lv 0 lq->(lq.length:Int)<=s.steps->KU lp l->cQ (BD D.d w) D.r m.bk ob v l->D.r ob f ->
 aI g (bZ f lp l) s=some (s',left)->Calls prog 185 #[pt fb,v] w λe w'=>e=.returned (.int .i64 (sig left))/\kJ B W xb rb mb fb w m D lv lq s' w'
def QI (B:Nat)(W:World)(g:Nat):Prop:=∀(w:World) (xb rb mb fb:Nat) (m:MS) (D:GD) (s s':St) (f:Fr) (lp lq:List Int) (lv:Value) (ob:Nat) (c:Value) (x:It) (left:Bool),PQ lp lq->PR B W w xb rb mb m D s->s.e=0->lY B w fb rb m D lv 0 lq->(lq.length:Int)<=s.steps->KV lp x->gN (BD D.d w) D.r m.bk ob (cQ (BD D.d w) D.r m.bk) x c->D.r ob f ->
 aI g (cT f lp x) s=some (s',left)->bp c (pt fb) w λe w'=>e=.returned (.int .i64 (sA left s'.e))/\kJ B W xb rb mb fb w m D lv lq s' w'
def QW (B:Nat)(W:World)(g:Nat):Prop:=∀(w:World) (xb rb mb:Nat) (m:MS) (D:GD) (s s':St) (f:Fr) (ob:Nat) (left:Bool),PR B W w xb rb mb m D s->s.e=0->D.r ob f ->
 aI g (bZ f [] f.body) s=some (s',left)->Calls prog 161 #[pt ob,pt rb] w λe w'=>e=.returned (.int .i64 s'.e)/\bu B W xb rb mb w m D s' w'
def QT (B:Nat)(W:World)(g:Nat):Prop:=∀(w:World) (xb rb mb:Nat) (m:MS) (D:GD) (s s':St) (v:Value) (ws:List ByteArray) (left:Bool),PR B W w xb rb mb m D s->s.e=0->fC (aC w) v ws->(∀t∈ws,okW t)->ws.length<=1000 ->
 aI g (aT (aD ws)) s=some (s',left)->Calls prog 42 #[pt m.bk,pt rb,v] w λe w'=>e=.returned (.int .i64 s'.e)/\bu B W xb rb mb w m D s' w'
structure BAt (B:Nat)(W:World)(g xb rb mb fb:Nat)(w wr:World)(m:MS)(D:GD)(s':St)(f:Fr)(lp lq:List Int)(lv:Value)(ob:Nat)(v:Value)(l:List It)(left:Bool)(k:Nat):Prop where
 ex:∃g' m1 D1 gi s1,g'<=g/\PR B W wr xb rb mb m1 D1 s1/\s1.e=0/\lY B wr fb rb m1 D1 gi 0 lq/\(lq.length:Int)<=s1.steps/\FT xb rb mb fb w wr m m1 D D1 lv gi/\cQ (BD D1.d wr) D1.r m1.bk ob v l/\D1.r ob f/\aI g' (bZ f lp (l.drop k)) s1=some (s',left)
theorem MD {B:Nat}{W:World}(g:Nat)(hI:∀g',g'<g->QI B W g'):QB B W g:=by
 intro w xb rb mb fb m D s s' f lp lq lv ob v l left hpq hr he hf hlp hok hA hW hx;have h0:Hid (BAt B W g xb rb mb fb w w m D s' f lp lq lv ob v l left 0):=⟨⟨g,m,D,lv,s,ah _,hr,he,hf,hlp,FT.refl _ _ _ _ _ _ _ _,hA,hW,hx⟩⟩;obtain⟨ao,cap,rfl⟩:=hA.form;obtain⟨cs,aJ,hcs⟩:=hA.out;have hll:l.length<=9223372036854775807:=by have:=ow aJ.row;rw[kN _ _ hcs] at this;exact this
 have HI:=az hI;have HOK:=az hok;have HPQ:=az hpq;clear hr he hf hlp hA hW hx aJ hI hcs hok hpq;go_enter func185,ntmps185;go_wp2
 go_loopw [9] (λi wr=>∃k:Nat,k<=l.length/\i=.int .i64 k/\BAt B W g xb rb mb fb w wr m D s' f lp lq lv ob (.slice ao l.length cap) l left k) (λi _=>l.length-(intOf i).toNat)
 case atStart=>exact⟨0,Nat.zero_le _,rfl,h0.out⟩
 case round=>
  obtain⟨k,hk,rfl,⟨g',m1,D1,gi,s1,hg,hr,he,hf,hlp,hto,hA,hW,hx⟩⟩:=hrel;by_cases hlt:k<l.length
  ·obtain⟨cs,aJ,hcs⟩:=hA.out;have hcl:=kN _ _ hcs;obtain⟨c,hc,hact⟩:=zx _ _ hcs k hlt;obtain⟨gd,cap',hv,hcell⟩:=bE aJ.row (by omega);injection hv with e1 e2 e3;subst e1;clear e2 e3;have c0:=hcell _ _ hc;clear hcell hc aJ hcs hcl;rw[List.drop_eq_getElem_cons hlt] at hx
   cases g' with
   | zero=>cases hx
   | succ g'=>
    rw[qz] at hx
    split at hx
    ·cases hx
    ·rename_i s2 bH hx1
     obtain⟨fn,ff,fc,rfl,hen,hcall⟩:=HI.out g' (by omega) wr xb rb mb fb m1 D1 s1 s2 f lp lq gi ob c l[k] bH HPQ.out hr he hf hlp (HOK.out.mem (List.getElem_mem hlt)) hact hW hx1;unfold ij at hen;have HC:=az hcall;have hst:=(cH _ _ _ _ _ hx1).2;have Co:Hid (∀w' m' D' jt,FT xb rb mb fb wr w' m1 m' D1 D' gi jt->(∀b t c,BD D1.d wr b t c->BD D'.d w' b t c)):=λw' m' D' jt ht=>hf.fD hr ht;have HAA:=az hA;have HWW:=az hW;clear hcall hact hA hW hr hf
     go_wp2_with fail
     refine HC.out.mono ?_;rintro e w1 ⟨rfl,m2,D2,r8,hr2,hf2,bM⟩;have kG:=Co.out w1 m2 D2 r8 bM;have EC:Hid (cQ (BD D2.d w1) D2.r m2.bk ob (.slice (some ⟨gd,0,none⟩) l.length cap) l):=by rw[bM.bk];exact HAA.out.mono kG bM.rg
     have wz:Hid (D2.r ob f):=bM.rg _ _ HWW.out;have kH:=az hr2;have sZ:=az hf2;have wI:=az (hto.trans bM);clear kG hr2 hf2 bM hto c0 HC hx1 hen;by_cases hl2:bH=true\/s2.e≠0
     ·rw[ag hl2] at hx;injection hx with hx;injection hx with hx1 hx2;subst hx1 hx2;rw[dA hl2];clear hl2;go_wp2;go_ret;exact⟨rfl,m2,D2,r8,kH.out,sZ.out,wI.out⟩
     ·rw[af hl2] at hx;have hn:=not_or.1 hl2;have hl:bH=false:=by simpa using hn.1
      have pF:s2.e=0:=by simpa using hn.2
      rw[hl,pF,lM];have HX:=az hx;clear hx hl2 hn hl;go_wp2
      go_roundw
      case rel=>exact⟨k+1,by omega,by go_num,⟨⟨g',m2,D2,r8,s2,by omega,kH.out,pF,by have:=sZ.out;rw[pF] at this;exact this,by omega,wI.out,EC.out,wz.out,HX.out⟩⟩⟩
      case measure=>simp[intOf];omega
  ·rw[List.drop_of_length_le (by omega)] at hx
   cases g' with
   | zero=>cases hx
   | succ g'=>
    rw[xw] at hx;injection hx with hx;injection hx with hx1 hx2;subst hx1 hx2;go_wp2;go_ret;exact⟨rfl,m1,D1,gi,hr,by rw[he];exact hf,hto⟩
theorem Jf:ij 219:=dm func219 (by kernel_rfl) (by kernel_rfl)
theorem Jg:ij 157:=dm func157 (by kernel_rfl) (by kernel_rfl)
theorem Fa:ij 120:=dm func120 (by kernel_rfl) (by kernel_rfl)
theorem ME:ij 230:=dm func230 (by kernel_rfl) (by kernel_rfl)
theorem Jh:ij 229:=dm func229 (by kernel_rfl) (by kernel_rfl)
theorem Fb:ij 247:=dm func247 (by kernel_rfl) (by kernel_rfl)
theorem Ji:ij 158:=dm func158 (by kernel_rfl) (by kernel_rfl)
theorem Cq:ij 222:=dm func222 (by kernel_rfl) (by kernel_rfl)
theorem Fe:ij 224:=dm func224 (by kernel_rfl) (by kernel_rfl)
theorem Ff:ij 225:=dm func225 (by kernel_rfl) (by kernel_rfl)
theorem Fg:ij 226:=dm func226 (by kernel_rfl) (by kernel_rfl)
theorem MF:ij 205:=dm func205 (by kernel_rfl) (by kernel_rfl)
theorem Jj:ij 208:=dm func208 (by kernel_rfl) (by kernel_rfl)
theorem Ar:ij 231:=dm func231 (by kernel_rfl) (by kernel_rfl)
section
variable {B:Nat}{W w:World}{xb rb mb fb:Nat}{m:MS}{D:GD}{s:St}{lv:Value}{lp:List Int}
theorem kJ.Cr {w1:World}{s':St}(h:PR B W w xb rb mb m D s)(hf:lY B w fb rb m D lv 0 lp)(hp:bu B W xb rb mb w m D s' w1):kJ B W xb rb mb fb w m D lv lp s' (w1.setCell ⟨fb,2,none⟩ (.int .i64 s'.e))/\∃y,aC w1 fb 247 #[pt rb,lv,.int .i64 y]:=by
 obtain⟨m',D',h1,h2⟩:=hp;obtain⟨h3,h4⟩:=hf.iF h h2;obtain⟨h5,h6,h7⟩:=h3.Je h1 s'.e;exact⟨⟨m',D',lv,h5,h6,h4.trans h7⟩,_,h3.blk⟩
theorem Au (h:PR B W w xb rb mb m D s)(he:s.e=0)(hf:lY B w fb rb m D lv 0 lp)(ab n:Nat)(ff fc:Array Value)(hb:BD D.d w ab 125 #[.func (.func n) ff fc])(s2 s':St)(hs':s'=if s.step.e=0 then s2 else s.step)
  (hact:s.step.e=0->∀w1 m1,PR B W w1 xb rb mb m1 D s.step->mN xb rb mb w w1 m m1 D D->bp (.func (.func n) ff fc) (pt rb) w1 λe w'=>e=.returned (.int .i64 s2.e)/\bu B W xb rb mb w1 m1 D s2 w'):
  bp (lW ab) (pt fb) w λe w'=>e=.returned (.int .i64 (sA false s'.e))/\kJ B W xb rb mb fb w m D lv lp s' w':=by
 refine⟨_,_,_,rfl,Jf,?_⟩;have c0:w.cell? ⟨fb,0,none⟩=some (pt rb):=hf.blk.cell rfl;have c1:w.cell? ⟨ab,0,none⟩=some (.func (.func n) ff fc):=hb.2.cell rfl;have hne:¬ab=fb:=by rintro rfl;exact ax (hb.2.inj hf.blk).1 (by decide)
 have HS:Hid (∀w0,Kp w w0 (λ_=>False)->Calls prog 68 #[pt rb,.func (.func n) ff fc] w0 λe w'=>e=.returned (.int .i64 s'.e)/\bu B W xb rb mb w m D s' w'):=by
  intro w0 hk;obtain⟨h0,t0⟩:=h.kp hk;refine(ve h0 he (.func (.func n) ff fc) s2 s' hs' (λe w1 m1 p1 t1=>hact e w1 m1 p1 (t0.trans t1))).mono ?_;rintro e w' ⟨rfl,hp⟩;exact⟨rfl,hp.step t0⟩
 have HF:Hid (∀w1,bu B W xb rb mb w m D s' w1->kJ B W xb rb mb fb w m D lv lp s' (w1.setCell ⟨fb,2,none⟩ (.int .i64 s'.e))/\(∃y,aC w1 fb 247 #[pt rb,lv,.int .i64 y])/\aC w1 ab 125 #[.func (.func n) ff fc]):=by
  intro w1 hp;obtain⟨h1,h2⟩:=kJ.Cr h hf hp;obtain⟨m',D',h3,h4⟩:=hp;exact⟨h1,h2,(h.fD h4 _ _ _ hb).2⟩
 clear h he hf hb hs' hact;show Calls prog 219 #[pt fb,pt ab] w _;go_enter func219,ntmps219;go_wp2
 go_region_held3 (λw'=>w'.cell? ⟨fb,0,none⟩=some (pt rb)/\w'.cell? ⟨ab,0,none⟩=some (.func (.func n) ff fc)) (go_keep) (first
  | (go_at_call 68;refine(HS.out _ ?_).mono ?_;exact(Kp.refl _ _).drew;rintro e w1 ⟨rfl,hp⟩;obtain⟨h1,⟨y,h2⟩,h3⟩:=HF.out w1 hp;have h4:w1.cell? ⟨fb,0,none⟩=some (pt rb):=h2.cell rfl;have h5:w1.cell? ⟨ab,0,none⟩=some (.func (.func n) ff fc):=h3.cell rfl;have H1:=az h1;have H2:=az h2;have H3:=az h3;clear h1 hp h2 h3)
  | (go_at_call 220;refine(sB _ fb s'.e _ _ _ H2.out).mono ?_;rintro e w2 ⟨rfl,rfl⟩;have k0:(w1.setCell ⟨fb,2,none⟩ (.int .i64 s'.e)).cell? ⟨fb,0,none⟩=some (pt rb):=(H2.out.set 2 _).cell rfl;have k1:(w1.setCell ⟨fb,2,none⟩ (.int .i64 s'.e)).cell? ⟨ab,0,none⟩=some (.func (.func n) ff fc):=(H3.out.setOther (a:=⟨fb,2,none⟩) hne _).cell rfl))
 go_wp2;go_ret;exact⟨rfl,H1.out⟩
end
section
variable {B:Nat}{W w:World}{xb rb mb:Nat}{m:MS}{D:GD}{s:St}
theorem PR.kf (h:PR B W w xb rb mb m D s)(n:Int)(h0:0<=n)(h1:n<=20):PR B W (w.setCell ⟨rb,3,none⟩ (.int .i64 n)) xb rb mb {m with dp:=n} D {s with depth:=n}/\mN xb rb mb w (w.setCell ⟨rb,3,none⟩ (.int .i64 n)) m {m with dp:=n} D D:=by
 obtain⟨ns,hi,hn⟩:=h.inv;obtain⟨h2,h3⟩:=hi.kf n;exact h.turn (s':={s with depth:=n}) h3 rfl ⟨ns,h2,hn⟩ h.mem h.out h.st0 h.Di h.st rfl ⟨rfl,rfl,rfl,rfl⟩ (h.good.dep h0 h1)
theorem PR.OX (h:PR B W w xb rb mb m D s)(k:Int)(hk:k≠0):PR B W w xb rb mb m D (s.err k):=by
 obtain⟨ns,hi,hn⟩:=h.inv;exact(h.turn (s':=s.err k) (To.refl _ _ _) rfl ⟨ns,hi,λe=>ax e hk⟩ h.mem h.out h.st0 h.Di (λe=>ax e hk) h.dp ⟨rfl,rfl,rfl,rfl⟩ (h.good.err hk)).1
def gh (s:St)(s2:St):St:=if 20<=s.depth then s.err 8 else {s2 with depth:=s2.depth-1}
theorem Jk (w:World)(rb:Nat)(cd:w.cell? ⟨rb,3,none⟩=some (.int .i64 20)):Calls prog 158 #[pt rb] w λe w'=>e=.returned (.int .i64 8)/\w'=w:=by
 go_enter func158,ntmps158;go_wp2;go_ret;exact⟨rfl,rfl⟩
theorem Jl (w:World)(rb:Nat)(d:Int)(h0:0<=d)(h1:d<20)(cd:w.cell? ⟨rb,3,none⟩=some (.int .i64 d))(fd:w.frozen? ⟨rb,3,none⟩=false):Calls prog 158 #[pt rb] w λe w'=>e=.returned (.int .i64 0)/\w'=w.setCell ⟨rb,3,none⟩ (.int .i64 (d+1)):=by
 go_enter func158,ntmps158;go_wp2;go_ret;exact⟨rfl,rfl⟩
theorem upM (w:World)(rb:Nat)(d:Int)(h0:0<=d)(h1:d<=20)(cd:w.cell? ⟨rb,3,none⟩=some (.int .i64 (d+1)))(fd:w.frozen? ⟨rb,3,none⟩=false):Calls prog 159 #[pt rb] w λe w'=>e=.returned (.tuple #[])/\w'=w.setCell ⟨rb,3,none⟩ (.int .i64 d):=by
 go_enter func159,ntmps159;go_wp2;refine bodyPost_end (results_none rfl _ _ _) rfl ?_;exact⟨rfl,rfl⟩
theorem OY (h:PR B W w xb rb mb m D s):Calls prog 158 #[pt rb] w λe w'=>(20<=s.depth/\e=.returned (.int .i64 8)/\w'=w)\/(¬20<=s.depth/\e=.returned (.int .i64 0)/\w'=w.setCell ⟨rb,3,none⟩ (.int .i64 (s.depth+1))):=by
 obtain⟨ns,hi,hn⟩:=h.inv;have hd0:=h.good.d0;have hd1:=h.good.d1;have cd:w.cell? ⟨rb,3,none⟩=some (.int .i64 s.depth):=by rw[<-h.dp];exact hi.cF.cell rfl
 by_cases h20:20<=s.depth
 ·rw[show s.depth=20 by omega] at cd;refine(Jk w rb cd).mono ?_;rintro e w' ⟨rfl,rfl⟩;exact .inl ⟨h20,rfl,rfl⟩
 ·refine(Jl w rb s.depth hd0 (by omega) cd (hi.cF.free 3)).mono ?_;rintro e w' ⟨rfl,rfl⟩;exact .inr ⟨h20,rfl,rfl⟩
theorem upP (h:PR B W w xb rb mb m D s)(d:Int)(h0:0<=d)(h1:d<20)(hd:s.depth=d+1):Calls prog 159 #[pt rb] w λe w'=>e=.returned (.tuple #[])/\bu B W xb rb mb w m D {s with depth:=s.depth-1} w':=by
 obtain⟨ns,hi,hn⟩:=h.inv;have cd:w.cell? ⟨rb,3,none⟩=some (.int .i64 (d+1)):=by rw[<-hd,<-h.dp];exact hi.cF.cell rfl
 refine(upM w rb d h0 (by omega) cd (hi.cF.free 3)).mono ?_;rintro e w' ⟨rfl,rfl⟩;rw[show s.depth-1=d by omega];obtain⟨h3,t3⟩:=h.kf d h0 (by omega);exact⟨rfl,_,D,h3,t3⟩
theorem Av (h:PR B W w xb rb mb m D s)(db n:Nat)(ff fc:Array Value)(hb:BD D.d w db 125 #[.func (.func n) ff fc])(s2:St)
  (hact:¬20<=s.depth->s2.depth=s.depth+1/\∀w1 m1,PR B W w1 xb rb mb m1 D {s with depth:=s.depth+1}->mN xb rb mb w w1 m m1 D D->bp (.func (.func n) ff fc) (pt rb) w1 λe w'=>e=.returned (.int .i64 s2.e)/\bu B W xb rb mb w1 m1 D s2 w'):
  bp (j4 db) (pt rb) w λe w'=>e=.returned (.int .i64 (gh s s2).e)/\bu B W xb rb mb w m D (gh s s2) w':=by
 refine⟨_,_,_,rfl,Jg,?_⟩;show Calls prog 157 #[pt rb,pt db] w _;have HDn:=az (OY h);by_cases h20:20<=s.depth
 ·have HD:Hid (gh s s2=s.err 8):=ag h20;have HE:=az (h.OX 8 (by decide));have VU:Hid (Calls prog 158 #[pt rb] w λe w'=>e=.returned (.int .i64 8)/\w'=w):=HDn.out.mono (λe w' q=>q.elim (λq=>q.2) (λq=>ax h20 q.1));clear hact h20 h hb HDn;go_enter func157,ntmps157
  go_wp2_with fail
  refine VU.out.mono ?_;rintro e w1 ⟨rfl,rfl⟩;go_wp2;go_ret;rw[HD.out];exact⟨rfl,m,D,HE.out,mN.refl _ _ _ _ _ _⟩
 ·obtain⟨hs2,hact⟩:=hact h20;have hd0:=h.good.d0;obtain⟨h1,t1⟩:=h.kf (s.depth+1) (by omega) (by omega);have hb1:=(h.fD t1 _ _ _ hb).2;have cb:(w.setCell ⟨rb,3,none⟩ (.int .i64 (s.depth+1))).cell? ⟨db,0,none⟩=some (.func (.func n) ff fc):=hb1.cell rfl;have HD:Hid (gh s s2={s2 with depth:=s2.depth-1}):=af h20;have VU:Hid (Calls prog 158 #[pt rb] w λe w'=>e=.returned (.int .i64 0)/\w'=w.setCell ⟨rb,3,none⟩ (.int .i64 (s.depth+1))):=HDn.out.mono (λe w' q=>q.elim (λq=>ax q.1 h20) (λq=>q.2));have hcall:=hact _ _ h1 t1;obtain⟨fn,fff,ffc,hv,hen,hcall⟩:=hcall;injection hv with hv1 hv2 hv3;injection hv1 with hv1;subst hv1 hv2 hv3;unfold ij at hen;have HC:=az hcall;have HT:=az t1;obtain⟨W1,hW1⟩:∃W1,W1=w.setCell ⟨rb,3,none⟩ (.int .i64 (s.depth+1)):=⟨_,rfl⟩;rw[<-hW1] at HC HT VU cb;have hlt:s.depth<20:=by omega
  clear hact hcall h1 t1 hb1 hb h HDn hW1 h20;go_enter func157,ntmps157
  go_wp2_with fail
  refine VU.out.mono ?_;rintro e w0 ⟨rfl,rfl⟩
  go_wp2_with fail
  refine HC.out.mono ?_;rintro e w1 ⟨rfl,m1,D1,hr1,ht1⟩;have HU:=az (upP hr1 s.depth hd0 hlt hs2);have wJ:=az (HT.out.trans ht1);clear hr1 ht1 HC HT VU
  go_wp2_with fail
  refine HU.out.mono ?_;rintro e w2 ⟨rfl,hp⟩;have HP:=az (hp.step wJ.out);clear hp HU wJ;go_wp2;go_ret;rw[HD.out];exact⟨rfl,HP.out⟩
end
theorem nN (k:Nat):¬own (.slice none 0 0) k:=by simp[own,Value.ownBlock]
theorem FT.toP {xb rb mb:Nat}{w w':World}{m m':MS}{D D':GD}{jt:Value}{o:Obj}(h:FT xb rb mb w.heap.size (w.alloc o) w' m m' D D' (.slice none 0 0) jt):mN xb rb mb w w' m m' D D':=by
 have hk:Kp w w' (λk=>((k=xb\/k=rb)\/k=mb)\/((own m.sv k\/own m.ov k)\/D.u k)):=by
  have h1:Kp w (w.alloc o) (λk=>(((k=xb\/k=rb)\/k=mb)\/k=w.heap.size)\/(((own m.sv k\/own m.ov k)\/D.u k)\/own (.slice none 0 0) k)):=(Kp.refl w _).alloc o;refine(h1.trans h.wt.kp).mono (λk hlt hk=>?_);rcases hk with (hk|hk)|(hk|hk)
  ·exact .inl hk
  ·omega
  ·exact .inr hk
  ·exact ax hk (nN k)
 refine⟨⟨hk,λk hk2=>?_⟩,h.up,λk hk2=>?_,h.rg,h.bk,h.jj⟩
 ·rcases h.wt.nx k (.inl hk2) with (e|e)|e
  ·exact .inl e
  ·exact ax e (nN k)
  ·right;rw[World.size_alloc] at e;omega
 ·rcases h.nw k hk2 with e|e
  ·exact .inl e
  ·right;rw[World.size_alloc] at e;omega
theorem Jm {B:Nat}{W:World}(g:Nat)(hB:QB B W g):QW B W g:=by
 intro w xb rb mb m D s s' f ob left hr he hW hx;have bC:=(Kp.refl w (λ_=>False)).alloc (.cells #[pt rb,.slice none 0 0,.int .i64 0] 247);obtain⟨h1,t1⟩:=hr.kp bC;have hf:lY B (w.alloc (.cells #[pt rb,.slice none 0 0,.int .i64 0] 247)) w.heap.size rb m D (.slice none 0 0) 0 []:=
  ⟨aC.new w _ _,World.ownsRow_nil _ _ _ _,by simp,λk hk=>ax hk (nN k),λhd=>by have:=(hr.sep _ hd).1;omega,λk hk=>ax hk (nN k),λhd=>by have:=hr.ult hd;omega,λk hk=>ax hk (nN k),hr.safe.bs,λk hk=>ax hk (nN k)⟩
 obtain⟨c,hc⟩:=hr.words.yI.ok _ _ hW;obtain⟨c1,hc1⟩:=h1.words.yI.ok _ _ hW;have hA:=hc.ac;have kG:=hr.fD t1;have hbl:=hc.blk.alloc (.cells #[pt rb,.slice none 0 0,.int .i64 0] 247);have ca:(w.alloc (.cells #[pt rb,.slice none 0 0,.int .i64 0] 247)).cell? ⟨ob,3,none⟩=some c.av:=hbl.cell rfl;have ca0:w.cell? ⟨ob,3,none⟩=some c.av:=hc.blk.cell rfl;have hol:=hc.blk.lt;obtain⟨ao,cap,QS⟩:=hA.form;rw[QS] at ca ca0 hA;have HC:=az (hB _ xb rb mb w.heap.size m D s s' f [] [] (.slice none 0 0) ob (.slice ao f.body.length cap) f.body left (PQ.refl _) h1 he hf (by simp;exact hr.good.s0) (by obtain⟨G,hG⟩:=hc.wf;exact⟨G,false,hG,λh=>by cases h⟩) (hA.mono kG (λ_ _ h=>h)) hW hx);clear hB hr he hx h1 t1 hf hA kG bC hc hc1 hW hbl QS;go_enter func161,ntmps161
 go_wp2_with fail
 refine HC.out.mono ?_;rintro e w1 ⟨rfl,m1,D1,gi,hr1,cY,ht1⟩;have cw:w1.cell? ⟨w.heap.size,2,none⟩=some (.int .i64 s'.e):=cY.blk.cell rfl;have H1:=az hr1;have H2:=az ht1.toP;clear hr1 cY ht1 HC;go_wp2;go_ret;exact⟨rfl,m1,D1,H1.out,H2.out⟩
end
end Go.Proofs.YteainaiebcphlaaGreatDoor
