import Derived.Test.YteainaiebcphlaaGreatDoorX16
import Derived.Test.YteainaiebcphlaaGreatDoorX7
import Derived.Test.YteainaiebcphlaaGreatDoorX13
import Derived.Handy
namespace Go.Proofs.YteainaiebcphlaaGreatDoor
set_option maxRecDepth 1000000
set_option maxHeartbeats 4000000
set_option linter.all false
section
open Go.RowKit
def PPost (B:Nat) (W:World) (xb rb mb:Nat) (w:World) (m:MS) (D:GD) (s':St) (w':World):Prop:=∃ m' D',PR B W w' xb rb mb m' D' s'/\PTo xb rb mb w w' m m' D D'
theorem PPost.step {B:Nat} {W:World} {xb rb mb:Nat} {w w1 w2:World} {m m1:MS} {D D1:GD} {s':St} (ht:PTo xb rb mb w w1 m m1 D D1) (h:PPost B W xb rb mb w1 m1 D1 s' w2):PPost B W xb rb mb w m D s' w2:=by
 obtain⟨m',D',h1,h2⟩:=h;exact⟨m',D',h1,ht.trans h2⟩
theorem St.step_ok {s:St} (h:s.steps < 2000):s.step={ s with steps:=s.steps+1 }:=by unfold St.step;rw[if_pos h]
theorem St.step_no {s:St} (h:¬ s.steps < 2000):s.step={ s with e:=12,steps:=s.steps+1 }:=by unfold St.step;rw[if_neg h]
section
variable {B:Nat} {W w:World} {xb rb mb:Nat} {m:MS} {D:GD} {s:St}
theorem PR.fuel (h:PR B W w xb rb mb m D s) (he:s.e=0) (hf:¬ m.st < 2000):PR B W w xb rb mb m D s.step/\s.step.e=12:=by
 have hs:¬ s.steps < 2000:=by rw[<-h.st he];exact hf
 have hg:=h.good.step he;rw[St.step_no hs] at hg ⊢;obtain⟨ns,hi,_⟩:=h.inv;exact⟨(h.turn (s':={ s with e:=12,steps:=s.steps+1 }) (To.refl _ _ _) rfl ⟨ns,hi,(fun h=>by cases h)⟩ h.mem h.out h.st0 h.st1 (fun h=>by cases h) h.dp ⟨rfl,rfl,rfl,rfl⟩ hg).1,rfl⟩
theorem PR.burn (h:PR B W w xb rb mb m D s) (he:s.e=0) (hf:m.st < 2000):PR B W (w.setCell ⟨rb,2,none⟩ (.int .i64 (m.st+1))) xb rb mb { m with st:=m.st+1 } D s.step/\PTo xb rb mb w (w.setCell ⟨rb,2,none⟩ (.int .i64 (m.st+1))) m { m with st:=m.st+1 } D D/\s.step.e=0:=by
 have hs:s.steps < 2000:=by rw[<-h.st he];exact hf
 have hg:=h.good.step he;rw[St.step_ok hs] at hg ⊢;obtain⟨ns,hi,hn⟩:=h.inv;obtain⟨h1,h2⟩:=hi.setSt (m.st+1);have:=h.turn (s':={ s with steps:=s.steps+1 }) h2 rfl ⟨ns,h1,hn⟩ h.mem h.out (by have:=h.st0;show 0<=m.st+1;omega) (by show m.st+1<=2000;omega) (fun e=>by show m.st+1=s.steps+1;rw[h.st he]) h.dp ⟨rfl,rfl,rfl,rfl⟩ hg;exact⟨this.1,this.2,he⟩
theorem PR.ofM {w':World} {R:Res} {s':St} (h:PR B W w xb rb mb m D s) (hp:MPost w w' xb rb m R) (h1:s'.e=R.e) (h2:R.e=0->s'.rs=R.rs) (h3:s'.mem=R.mem) (h4:s'.out=R.out) (h5:s'.steps=s.steps) (h6:s'.depth=s.depth) (h7:SameW s s') (he:s.e=0) (hg:SGood s'):PPost B W xb rb mb w m D s' w':=by
 obtain⟨m',ns,hi,ht,hm,ho,hq,hn⟩:=hp;have q1:m'.st=m.st:=congrArg Prod.fst hq;have q2:m'.dp=m.dp:=congrArg (fun x=>x.2.1) hq;have q3:m'.bk=m.bk:=congrArg (fun x=>x.2.2) hq;exact⟨m',D,h.turn ht q3 ⟨ns,hi,fun e=>by rw[h1] at e;rw[hn e,h2 e]⟩ (by rw[hm,h3]) (by rw[ho,h4]) (by rw[q1];exact h.st0) (by rw[q1];exact h.st1) (fun _=>by rw[q1,h.st he,h5]) (by rw[q2,h.dp,h6]) h7 hg⟩
theorem stepP (h:PR B W w xb rb mb m D s) (he:s.e=0) (v:Value) (s2 s':St) (hs':s'=if s.step.e=0 then s2 else s.step)
  (hact:s.step.e=0->∀ w1 m1,PR B W w1 xb rb mb m1 D s.step->PTo xb rb mb w w1 m m1 D D->CallsV v (pt rb) w1 fun e w'=>e=.returned (.int .i64 s2.e)/\PPost B W xb rb mb w1 m1 D s2 w'):
  Calls Tryz.prog 68 #[pt rb,v] w fun e w'=>e=.returned (.int .i64 s'.e)/\PPost B W xb rb mb w m D s' w':=by
 obtain⟨ns,hi,hn⟩:=h.inv;by_cases hf:m.st < 2000
 ·obtain⟨h1,h2,h3⟩:=h.burn he hf;rw[if_pos h3] at hs';rw[hs'];refine (stepV w xb rb m ns v (fun n w'=>n=s2.e/\PPost B W xb rb mb w m D s2 w') hi h.st0 hf ((hact h3 _ _ h1 h2).mono ?_)).mono ?_
  ·rintro e w' ⟨rfl,hp⟩;exact⟨_,rfl,rfl,hp.step h2⟩
  ·rintro e w' ⟨n,rfl,rfl,hp⟩;exact⟨rfl,hp⟩
 ·obtain⟨h1,h2⟩:=h.fuel he hf;rw[if_neg (by rw[h2];decide)] at hs';rw[hs'];refine (stepV_no w xb rb m ns v hi hf).mono ?_;rintro e w' ⟨rfl,rfl⟩;exact⟨by rw[h2],m,D,h1,PTo.refl _ _ _ _ _ _⟩
theorem layP (h:PR B W w xb rb mb m D s) (he:s.e=0) (n:Int) (hn:In n) (nb:Nat) (hb:Blk w nb 2 #[.int .i64 n]):
  CallsV (.func (.func 95) #[] #[pt nb]) (pt rb) w fun e w'=>e=.returned (.int .i64 (s.put n).e)/\PPost B W xb rb mb w m D (s.put n) w':=by
 obtain⟨ns,hi,hns⟩:=h.inv;have hns:=hns he;subst hns;have hg:=h.good.put hn;refine⟨_,_,_,rfl,ent_lay,?_⟩;by_cases hl:s.rs.length < 32
 ·have hs:s.put n={ s with rs:=n :: s.rs }:=by unfold St.put;rw[if_pos hl]
  rw[hs] at hg ⊢;refine (ly_ok w xb rb nb m n s.rs hi (hb.cell rfl) hl).mono ?_;rintro e w' ⟨rfl,hp⟩;exact⟨by rw[show ({ s with rs:=n :: s.rs }:St).e=0 from he],h.ofM hp he (fun _=>rfl) h.mem.symm h.out.symm rfl rfl ⟨rfl,rfl,rfl,rfl⟩ he hg⟩
 ·have hs:s.put n={ s with e:=7 }:=by unfold St.put;rw[if_neg hl]
  rw[hs] at hg ⊢;refine (ly_full w xb rb nb m n s.rs hi (hb.cell rfl) hl).mono ?_;rintro e w' ⟨rfl,hp⟩;exact⟨rfl,h.ofM hp rfl (fun h=>by cases h) h.mem.symm h.out.symm rfl rfl ⟨rfl,rfl,rfl,rfl⟩ he hg⟩
theorem plainPX (hG:Glo B W) (h:PR B W w xb rb mb m D s) (he:s.e=0) (j:Nat) (act:Value) (hb:plainR (BD D.d w) j act):
  CallsV act (pt rb) w fun e w'=>e=.returned (.int .i64 (s.word j).e)/\PPost B W xb rb mb w m D (s.word j) w':=by
 obtain⟨ns,hi,hns⟩:=h.inv;have hns:=hns he;subst hns;have hg:=h.good.word he j;refine (actM B W w D.d xb rb m s.rs j act hb hi (by rw[h.out];exact h.good.g.osz) h.good.g.ins h.safe hG).mono ?_;rintro e w' ⟨rfl,hp⟩;rw[h.mem,h.out] at hp;rw[h.mem,h.out];exact⟨rfl,h.ofM hp rfl (fun _=>rfl) rfl rfl rfl rfl ⟨rfl,rfl,rfl,rfl⟩ he hg⟩
theorem askM (w:World) (rb:Nat) (a0 a1 a2 why:Int) (Q:World->Prop) (hc:Calls Tryz.prog 244 #[pt rb,.int .i64 1] w fun e w'=>e=.returned (.tuple #[.agg #[.int .i64 a0,.int .i64 a1,.int .i64 a2],.int .i64 why])/\∀ w2,Kp w' w2 (fun _=>False)->Q w2):
  Calls Tryz.prog 243 #[pt rb] w fun e w'=>e=.returned (.tuple #[.bool (a0 != 0),.int .i64 why])/\Q w':=by
 have HC:=hide hc;clear hc;go_enter Tryz.func243,Tryz.ntmps243
 go_wp2_with fail
 refine HC.out.mono ?_;rintro e w1 ⟨rfl,hq⟩;have HQ:=hide hq;clear hq;go_wp2;go_ret2;exact⟨rfl,HQ.out _ ((Kp.refl _ _).alloc _)⟩
theorem boundsM (w:World) (rb:Nat) (a0 a1 a2 why:Int) (Q:World->Prop) (hc:Calls Tryz.prog 244 #[pt rb,.int .i64 2] w fun e w'=>e=.returned (.tuple #[.agg #[.int .i64 a0,.int .i64 a1,.int .i64 a2],.int .i64 why])/\∀ w2,Kp w' w2 (fun _=>False)->Q w2):
  Calls Tryz.prog 227 #[pt rb] w fun e w'=>e=.returned (.tuple #[.int .i64 a0,.int .i64 a1,.int .i64 why])/\Q w':=by
 have HC:=hide hc;clear hc;go_enter Tryz.func227,Tryz.ntmps227
 go_wp2_with fail
 refine HC.out.mono ?_;rintro e w1 ⟨rfl,hq⟩;have HQ:=hide hq;clear hq;go_wp2
 go_quiet (fail)
 go_wp2;refine bodyPost_ret (results_tmp3 rfl _ _ _) rfl ?_;exact⟨rfl,HQ.out _ (((Kp.refl _ _).alloc _).drewN nq)⟩
theorem PPost.after {w' w2:World} {s':St} (h:PPost B W xb rb mb w m D s' w') (hk:Kp w' w2 (fun _=>False)):PPost B W xb rb mb w m D s' w2:=by
 obtain⟨m',D',h1,h2⟩:=h;obtain⟨h3,h4⟩:=h1.kp hk;exact⟨m',D',h3,h2.trans h4⟩
theorem askP (h:PR B W w xb rb mb m D s) (he:s.e=0):
  Calls Tryz.prog 243 #[pt rb] w fun e w'=>e=.returned (.tuple #[.bool s.test.2,.int .i64 s.test.1.e])/\PPost B W xb rb mb w m D s.test.1 w':=by
 obtain⟨ns,hi,hns⟩:=h.inv;have hns:=hns he;subst hns;have hg:=h.good.test he;by_cases hf:m.st < 2000
 ·have hst:s.steps < 2000:=by rw[<-h.st he];exact hf
  have hs:=St.step_ok hst;have hse:s.step.e=0:=by rw[hs];exact he
  cases hrs:s.rs with
  | nil=>
   have HT:s.test=(s.step.err 6,false):=by unfold St.test;rw[if_pos hse,show s.step.rs=[] by rw[hs];exact hrs]
   rw[HT] at hg ⊢;refine askM w rb 0 0 0 6 _ ((stTk_under w xb rb m _ 1 hi h.st0 hf (by rw[hrs];decide) (by decide)).mono ?_);rintro e w' ⟨rfl,hi',ht'⟩;refine⟨rfl,fun w2 hk=>PPost.after ⟨_,D,h.turn ht' rfl ⟨_,hi',(fun h=>by cases h)⟩ (by rw[hs];exact h.mem) (by rw[hs];exact h.out) (by have:=h.st0;show 0<=m.st+1;omega) (by show m.st+1<=2000;omega) (fun h=>by cases h) (by rw[hs];exact h.dp) (by rw[hs];exact⟨rfl,rfl,rfl,rfl⟩) hg⟩ hk⟩
  | cons a r=>
   have HT:s.test=({ s.step with rs:=r },decide (a ≠ 0)):=by unfold St.test;rw[if_pos hse,show s.step.rs=a :: r by rw[hs];exact hrs]
   rw[HT] at hg ⊢;rw[hrs] at hi;rw[show decide (a ≠ 0)=(a != 0) by cases hz:(a != 0) <;> simpa using hz,show ({ s.step with rs:=r }:St).e=0 from hse]
   refine askM w rb a 0 0 0 _ ((stTk1 w xb rb m a r hi h.st0 hf).mono ?_);rintro e w' ⟨v',rfl,hi',ht'⟩;refine⟨rfl,fun w2 hk=>PPost.after ⟨_,D,h.turn ht' rfl ⟨_,hi',fun _=>rfl⟩ (by rw[hs];exact h.mem) (by rw[hs];exact h.out) (by have:=h.st0;show 0<=m.st+1;omega) (by show m.st+1<=2000;omega) (fun _=>by rw[hs];show m.st+1=s.steps+1;rw[h.st he]) (by rw[hs];exact h.dp) (by rw[hs];exact⟨rfl,rfl,rfl,rfl⟩) hg⟩ hk⟩
 ·obtain⟨h1,h2⟩:=h.fuel he hf;have HT:s.test=(s.step,false):=by unfold St.test;rw[if_neg (by rw[h2];decide)]
  rw[HT] at ⊢;rw[h2];refine askM w rb 0 0 0 12 _ ((stTk_no w xb rb m _ 1 hi hf).mono ?_);rintro e w' ⟨rfl,hk'⟩;exact⟨rfl,fun w2 hk=>PPost.after ⟨m,D,(h1.kp hk').1,(h1.kp hk').2⟩ hk⟩
end
end
section
open Go.RowKit
structure FrR (B:Nat) (w:World) (fb rb:Nat) (m:MS) (D:GD) (lv:Value) (why:Int) (lp:List Int):Prop where
 blk:Blk w fb 247 #[pt rb,lv,.int .i64 why]
 row:w.ownsRow 0 2 1 lv lp.length (ints lp.reverse)
 ins:∀ n∈lp,In n
 sep:∀ k,own lv k->¬ own m.sv k
 nd:¬ D.d fb
 nl:∀ k,own lv k->¬ D.d k
 nu:¬ D.u fb
 nlu:∀ k,own lv k->¬ D.u k
 bf:B<=fb
 bl:∀ k,own lv k->B<=k
structure FT (xb rb mb fb:Nat) (w w':World) (m m':MS) (D D':GD) (lv lv':Value):Prop where
 wt:To (fun k=>((k=xb\/k=rb)\/k=mb)\/k=fb) w w' (fun k=>((own m.sv k\/own m.ov k)\/D.u k)\/own lv k) (fun k=>((own m'.sv k\/own m'.ov k)\/D'.u k)\/own lv' k)
 up:∀ k,D.d k->D'.d k
 nw:∀ k,D'.d k->D.d k\/w.heap.size<=k
 rg:∀ o f,D.r o f->D'.r o f
 bk:m'.bk=m.bk
 lve:lv'=lv
theorem FT.refl (xb rb mb fb:Nat) (w:World) (m:MS) (D:GD) (lv:Value):FT xb rb mb fb w w m m D D lv lv:=⟨To.refl _ _ _,fun _ h=>h,fun _ h=>.inl h,fun _ _ h=>h,rfl,rfl⟩
theorem FT.trans {xb rb mb fb:Nat} {w w1 w2:World} {m m1 m2:MS} {D D1 D2:GD} {lv lv1 lv2:Value} (h:FT xb rb mb fb w w1 m m1 D D1 lv lv1) (g:FT xb rb mb fb w1 w2 m1 m2 D1 D2 lv1 lv2):FT xb rb mb fb w w2 m m2 D D2 lv lv2:=by
 refine⟨h.wt.trans g.wt,fun k hk=>g.up k (h.up k hk),fun k hk=>?_,fun o f hr=>g.rg o f (h.rg o f hr),g.bk.trans h.bk,g.lve.trans h.lve⟩;rcases g.nw k hk with h1|h1
 ·exact h.nw k h1
 ·exact .inr (Nat.le_trans h.wt.kp.size h1)
section
variable {B:Nat} {W w w':World} {xb rb mb fb:Nat} {m m':MS} {D D':GD} {s:St} {lv:Value} {why:Int} {lp:List Int}
theorem PR.other {S:Nat->Prop} (h:PR B W w xb rb mb m D s) (hk:Kp w w' S) (h1:¬ S xb) (h2:¬ S rb) (h3:¬ S mb) (h4:¬ S m.bk) (h5:∀ k,own m.sv k->¬ S k) (h6:∀ k,own m.ov k->¬ S k) (h7:∀ k,D.d k->¬ S k) (h9:∀ k,D.u k->¬ S k) (h8:∀ k,k < B->¬ S k):PR B W w' xb rb mb m D s:=by
 obtain⟨ns,hi,hn⟩:=h.inv;have hs:=h.safe;obtain⟨hpr,hwd⟩:=h.words.wds.out hk h9 h7;refine⟨⟨ns,⟨hk.blk hi.xblk h1,hk.blk hi.rblk h2,hk.row hi.srow h5,hk.row hi.orow h6,hi.len⟩,hn⟩,h.mem,h.out,h.st0,h.st1,h.st,h.dp,⟨hs.bel.trans (hk.below hs.bs h8),hs.bx,hs.br,hs.bv,Nat.le_trans hs.bs hk.size⟩,h.bmb,hk.blk h.book h4,h.words.pres hpr (fun _ _ h=>h) (fun _ _ h=>h) hwd (hk.block mb h.words.ltm h3),fun k hd=>?_,fun k hu=>?_,h.good⟩
 ·obtain⟨e0,e1⟩:=h.sep k hd;exact⟨Nat.lt_of_lt_of_le e0 hk.size,e1⟩
 ·obtain⟨e0,e1,e2⟩:=h.us k hu;refine⟨e0,e1,?_⟩;rcases e2 with⟨c,hc⟩|⟨n,DD,hm2⟩
  ·exact .inl ⟨c,hk.blk hc (h9 k hu)⟩
  ·exact .inr ⟨n,DD,ownsMap_same hm2 (hk.block k hm2.lt (h9 k hu))⟩
theorem FrR.ne (h:PR B W w xb rb mb m D s) (hf:FrR B w fb rb m D lv why lp):fb ≠ xb/\fb ≠ rb/\fb ≠ mb/\fb ≠ m.bk/\¬ own m.sv fb/\¬ own m.ov fb/\¬ own lv fb:=by
 obtain⟨ns,hi,_⟩:=h.inv;refine⟨?_,?_,(h.words.ne hf.blk).symm,?_,fun e=>?_,fun e=>?_,fun e=>?_⟩
 ·rintro rfl;exact absurd (hf.blk.inj hi.xblk).1 (by decide)
 ·rintro rfl;exact absurd (hf.blk.inj hi.rblk).1 (by decide)
 ·rintro rfl;exact absurd (hf.blk.inj h.book).1 (by decide)
 ·exact absurd (row_type hi.srow e hf.blk) (by decide)
 ·exact absurd (row_type hi.orow e hf.blk) (by decide)
 ·exact absurd (row_type hf.row e hf.blk) (by decide)
theorem FrR.lvn (h:PR B W w xb rb mb m D s) (hf:FrR B w fb rb m D lv why lp) {k:Nat} (hk:own lv k):k ≠ xb/\k ≠ rb/\k ≠ mb/\k ≠ m.bk/\¬ own m.sv k/\¬ own m.ov k:=by
 obtain⟨ns,hi,_⟩:=h.inv;obtain⟨c,hc⟩:=row_blk hf.row hk;refine⟨?_,?_,(h.words.ne hc).symm,?_,hf.sep k hk,fun e=>?_⟩
 ·rintro rfl;exact absurd (hc.inj hi.xblk).1 (by decide)
 ·rintro rfl;exact absurd (hc.inj hi.rblk).1 (by decide)
 ·rintro rfl;exact absurd (hc.inj h.book).1 (by decide)
 ·exact absurd (row_type hi.orow e hc) (by decide)
theorem FrR.sto (h:PR B W w xb rb mb m D s) (hf:FrR B w fb rb m D lv why lp) (ht:PTo xb rb mb w w' m m' D D'):FrR B w' fb rb m' D' lv why lp/\FT xb rb mb fb w w' m m' D D' lv lv:=by
 obtain⟨n1,n2,n3,n4,n5,n6,n7⟩:=hf.ne h;refine⟨⟨ht.wt.kp.blk hf.blk ?_,ht.wt.kp.row hf.row (fun k hk=>?_),hf.ins,fun k hk hv=>?_,fun hd=>?_,fun k hk hd=>?_,fun hd=>?_,fun k hk hd=>?_,hf.bf,hf.bl⟩,⟨⟨ht.wt.kp.mono (fun k _ hk=>?_),fun k hk=>?_⟩,ht.up,ht.nw,ht.rg,ht.bk,rfl⟩⟩
 ·rintro (((e|e)|e)|((e|e)|e))
  ·exact n1 e
  ·exact n2 e
  ·exact n3 e
  ·exact n5 e
  ·exact n6 e
  ·exact hf.nu e
 ·obtain⟨l1,l2,l3,l4,l5,l6⟩:=hf.lvn h hk;rintro (((e|e)|e)|((e|e)|e))
  ·exact l1 e
  ·exact l2 e
  ·exact l3 e
  ·exact l5 e
  ·exact l6 e
  ·exact hf.nlu k hk e
 ·obtain⟨l1,l2,l3,l4,l5,l6⟩:=hf.lvn h hk;have:=own_lt hf.row hk;rcases ht.wt.nx k (.inl (.inl hv)) with ((e|e)|e)|e
  ·exact l5 e
  ·exact l6 e
  ·exact hf.nlu k hk e
  ·omega
 ·rcases ht.nw _ hd with e|e
  ·exact hf.nd e
  ·have:=hf.blk.lt;omega
 ·rcases ht.nw _ hd with e|e
  ·exact hf.nl k hk e
  ·have:=own_lt hf.row hk;omega
 ·rcases ht.wt.nx _ (.inr hd) with ((e|e)|e)|e
  ·exact n5 e
  ·exact n6 e
  ·exact hf.nu e
  ·have:=hf.blk.lt;omega
 ·obtain⟨l1,l2,l3,l4,l5,l6⟩:=hf.lvn h hk;have:=own_lt hf.row hk;rcases ht.wt.nx k (.inr hd) with ((e|e)|e)|e
  ·exact l5 e
  ·exact l6 e
  ·exact hf.nlu k hk e
  ·omega
 ·rcases hk with e|e
  ·exact .inl (.inl e)
  ·exact .inr (.inl e)
 ·rcases hk with e|e
  ·rcases ht.wt.nx k e with h1|h1
   ·exact .inl (.inl h1)
   ·exact .inr h1
  ·exact .inl (.inr e)
theorem FrR.setWhy (h:PR B W w xb rb mb m D s) (hf:FrR B w fb rb m D lv why lp) (n:Int):PR B W (w.setCell ⟨fb,2,none⟩ (.int .i64 n)) xb rb mb m D s/\FrR B (w.setCell ⟨fb,2,none⟩ (.int .i64 n)) fb rb m D lv n lp/\FT xb rb mb fb w (w.setCell ⟨fb,2,none⟩ (.int .i64 n)) m m D D lv lv:=by
 obtain⟨n1,n2,n3,n4,n5,n6,n7⟩:=hf.ne h;have hk:=Kp.one w fb 2 (.int .i64 n);refine⟨h.other hk n1.symm n2.symm n3.symm n4.symm (fun k hk e=>n5 (e ▸ hk)) (fun k hk e=>n6 (e ▸ hk)) (fun k hk e=>hf.nd (e ▸ hk)) (fun k hk e=>hf.nu (e ▸ hk)) (fun k hk e=>by have:=hf.bf;omega),⟨hf.blk.set 2 _,ownsRow_setCell_other (a:=⟨fb,2,none⟩) hf.row n7 _,hf.ins,hf.sep,hf.nd,hf.nl,hf.nu,hf.nlu,hf.bf,hf.bl⟩,⟨⟨hk.mono (fun k _ e=>.inl (.inr e)),fun k hk=>.inl hk⟩,fun _ h=>h,fun _ h=>.inl h,fun _ _ h=>h,rfl,rfl⟩⟩
end
def sig (b:Bool):Int:=if b=true then 1 else 0
def sgl (l:Bool) (e:Int):Int:=sig (l || decide (e ≠ 0))
theorem sgl_no:sgl false 0=0:=rfl
theorem sgl_yes {l:Bool} {e:Int} (h:l=true\/e ≠ 0):sgl l e=1:=by
 unfold sgl;rcases h with h|h
 ·rw[h];rfl
 ·rw[decide_eq_true h];simp[sig]
theorem sgl_dec (e:Int):sgl (decide (e ≠ 0)) e=sgl false e:=by unfold sgl;cases decide (e ≠ 0) <;> rfl
theorem heedM (w:World) (fb:Nat) (why:Int) (rv lv:Value) (y:Int) (hf:Blk w fb 247 #[rv,lv,.int .i64 y]):
  Calls Tryz.prog 220 #[pt fb,.int .i64 why] w fun e w'=>e=.returned (.int .i64 (sgl false why))/\w'=w.setCell ⟨fb,2,none⟩ (.int .i64 why):=by
 have c2:w.cell? ⟨fb,2,none⟩=some (.int .i64 y):=hf.cell rfl;have f2:=hf.free 2;by_cases h0:why=0
 ·subst h0;go_enter Tryz.func220,Tryz.ntmps220;go_wp2;go_ret;exact⟨rfl,rfl⟩
 ·have h1:(why != 0)=true:=by simpa using h0
  have H0:=hide h0;clear h0;go_enter Tryz.func220,Tryz.ntmps220;go_wp2;go_ret;exact⟨by rw[sgl_yes (.inr H0.out)];rfl,rfl⟩
end
section
open Go.RowKit
structure Env (B:Nat) (W:World):Prop where
 glo:Glo B W
 sp:SpAt W
 b1:1 < B
theorem Env.at {B:Nat} {W w:World} {xb rb mb:Nat} {m:MS} {D:GD} {s:St} (h:Env B W) (hp:PR B W w xb rb mb m D s):SpAt w:=by
 obtain⟨tt,fr,hx⟩:=h.sp;exact⟨tt,fr,(hp.safe.bel.block 1 h.b1).trans hx⟩
def FPo (B:Nat) (W:World) (xb rb mb fb:Nat) (w:World) (m:MS) (D:GD) (lv:Value) (lp:List Int) (s':St) (w':World):Prop:=
 ∃ m' D' lv',PR B W w' xb rb mb m' D' s'/\FrR B w' fb rb m' D' lv' s'.e lp/\FT xb rb mb fb w w' m m' D D' lv lv'
theorem FPo.step {B:Nat} {W:World} {xb rb mb fb:Nat} {w w1 w2:World} {m m1:MS} {D D1:GD} {lv lv1:Value} {lp:List Int} {s':St} (ht:FT xb rb mb fb w w1 m m1 D D1 lv lv1) (h:FPo B W xb rb mb fb w1 m1 D1 lv1 lp s' w2):FPo B W xb rb mb fb w m D lv lp s' w2:=by
 obtain⟨m',D',lv',h1,h2,h3⟩:=h;exact⟨m',D',lv',h1,h2,ht.trans h3⟩
theorem FrR.keepD {B:Nat} {W w w':World} {xb rb mb fb:Nat} {m m':MS} {D D':GD} {s:St} {lv lv':Value} {why:Int} {lp:List Int} (h:PR B W w xb rb mb m D s) (hf:FrR B w fb rb m D lv why lp) (ht:FT xb rb mb fb w w' m m' D D' lv lv'):∀ b t c,BD D.d w b t c->BD D'.d w' b t c:=by
 intro b t c hb;obtain⟨_,h1,h2,h3,h4⟩:=h.sep b hb.1;refine⟨ht.up b hb.1,ht.wt.kp.blk hb.2 ?_⟩;rintro ((((e|e)|e)|e)|(((e|e)|e)|e))
 ·exact h1 e
 ·exact h2 e
 ·exact h.words.ne hb.2 e.symm
 ·exact hf.nd (e ▸ hb.1)
 ·exact h3 e
 ·exact h4 e
 ·exact h.words.wds.ud b e hb.1
 ·exact hf.nl b e hb.1
def OkL (lp:List Int) (l:List It):Prop:=∃ G lo,wb (fun _=>True) G lo l/\(lo=true->lp ≠ [])
def OkX (lp:List Int) (x:It):Prop:=∃ G lo,okIt (fun _=>True) (wb (fun _=>True) G) lo x/\(lo=true->lp ≠ [])
theorem OkL.mem {lp:List Int} {l:List It} (h:OkL lp l) {x:It} (hx:x∈l):OkX lp x:=by
 obtain⟨G,lo,h1,h2⟩:=h
 cases G with
 | zero=>have h1:l=[]:=h1;subst h1;cases hx
 | succ G=>exact⟨G,lo,h1 x hx,h2⟩
theorem OkX.ab {lp:List Int} {x:It} (h:OkX lp x) (hk:x.kind=63\/x.kind=117\/x.kind=119):OkL lp x.a/\OkL lp x.b:=by
 obtain⟨G,lo,h1,h2⟩:=h;rcases h1 with⟨q,_⟩|⟨_,q1,q2⟩|⟨q,_⟩
 ·exfalso;omega
 ·exact⟨⟨G,lo,q1,h2⟩,⟨G,lo,q2,h2⟩⟩
 ·exfalso;omega
theorem OkX.body {lp:List Int} {x:It} (h:OkX lp x) (hk:x.kind=100) (n:Int):OkL (n :: lp) x.a:=by
 obtain⟨G,lo,h1,h2⟩:=h;rcases h1 with⟨q,_⟩|⟨q,_⟩|⟨_,q1,_⟩
 ·exfalso;omega
 ·exfalso;omega
 ·exact⟨G,true,q1,fun _=>by simp⟩
theorem OkX.idx {lp:List Int} {x:It} (h:OkX lp x) (hk:x.kind=105):lp ≠ []:=by
 obtain⟨G,lo,h1,h2⟩:=h;rcases h1 with⟨q,_⟩|⟨q,_⟩|⟨q,_⟩
 ·rcases q with q|q|q|q|q|q|q
  all_goals first
   | exact h2 q.2
   | (exfalso;omega)
 ·exfalso;omega
 ·exfalso;omega
def PQ (lp lq:List Int):Prop:=∃ lo,lq=lp ++ lo
theorem PQ.refl (lp:List Int):PQ lp lp:=⟨[],by simp⟩
theorem PQ.push {lp lq:List Int} (h:PQ lp lq) (n:Int):PQ (n :: lp) (n :: lq):=by obtain⟨lo,h⟩:=h;exact⟨lo,by rw[h];rfl⟩
theorem PQ.nil (lq:List Int):PQ [] lq:=⟨lq,rfl⟩
def QB (B:Nat) (W:World) (g:Nat):Prop:=∀ (w:World) (xb rb mb fb:Nat) (m:MS) (D:GD) (s s':St) (f:Fr) (lp lq:List Int) (lv:Value) (ob:Nat) (v:Value) (l:List It) (left:Bool),PQ lp lq->PR B W w xb rb mb m D s->s.e=0->FrR B w fb rb m D lv 0 lq->(lq.length:Int)<=s.steps->OkL lp l->Acts (BD D.d w) D.r m.bk ob v l->D.r ob f ->
 xRun g (jBody f lp l) s=some (s',left)->Calls Tryz.prog 185 #[pt fb,v] w fun e w'=>e=.returned (.int .i64 (sig left))/\FPo B W xb rb mb fb w m D lv lq s' w'
def QI (B:Nat) (W:World) (g:Nat):Prop:=∀ (w:World) (xb rb mb fb:Nat) (m:MS) (D:GD) (s s':St) (f:Fr) (lp lq:List Int) (lv:Value) (ob:Nat) (c:Value) (x:It) (left:Bool),PQ lp lq->PR B W w xb rb mb m D s->s.e=0->FrR B w fb rb m D lv 0 lq->(lq.length:Int)<=s.steps->OkX lp x->actR (BD D.d w) D.r m.bk ob (Acts (BD D.d w) D.r m.bk) x c->D.r ob f ->
 xRun g (jItem f lp x) s=some (s',left)->CallsV c (pt fb) w fun e w'=>e=.returned (.int .i64 (sgl left s'.e))/\FPo B W xb rb mb fb w m D lv lq s' w'
def QW (B:Nat) (W:World) (g:Nat):Prop:=∀ (w:World) (xb rb mb:Nat) (m:MS) (D:GD) (s s':St) (f:Fr) (ob:Nat) (left:Bool),PR B W w xb rb mb m D s->s.e=0->D.r ob f ->
 xRun g (jBody f [] f.body) s=some (s',left)->Calls Tryz.prog 161 #[pt ob,pt rb] w fun e w'=>e=.returned (.int .i64 s'.e)/\PPost B W xb rb mb w m D s' w'
def QT (B:Nat) (W:World) (g:Nat):Prop:=∀ (w:World) (xb rb mb:Nat) (m:MS) (D:GD) (s s':St) (v:Value) (ws:List ByteArray) (left:Bool),PR B W w xb rb mb m D s->s.e=0->TokAt (Blk w) v ws->(∀ t∈ws,okW t)->ws.length<=1000 ->
 xRun g (jToks (texts ws)) s=some (s',left)->Calls Tryz.prog 42 #[pt m.bk,pt rb,v] w fun e w'=>e=.returned (.int .i64 s'.e)/\PPost B W xb rb mb w m D s' w'
structure BAt (B:Nat) (W:World) (g xb rb mb fb:Nat) (w wr:World) (m:MS) (D:GD) (s':St) (f:Fr) (lp lq:List Int) (lv:Value) (ob:Nat) (v:Value) (l:List It) (left:Bool) (k:Nat):Prop where
 ex:∃ g' m1 D1 lv1 s1,g'<=g/\PR B W wr xb rb mb m1 D1 s1/\s1.e=0/\FrR B wr fb rb m1 D1 lv1 0 lq/\(lq.length:Int)<=s1.steps/\FT xb rb mb fb w wr m m1 D D1 lv lv1/\Acts (BD D1.d wr) D1.r m1.bk ob v l/\D1.r ob f/\xRun g' (jBody f lp (l.drop k)) s1=some (s',left)
theorem runAllX {B:Nat} {W:World} (g:Nat) (hI:∀ g',g' < g->QI B W g'):QB B W g:=by
 intro w xb rb mb fb m D s s' f lp lq lv ob v l left hpq hr he hf hlp hok hA hW hx;have h0:Hid (BAt B W g xb rb mb fb w w m D s' f lp lq lv ob v l left 0):=⟨⟨g,m,D,lv,s,Nat.le_refl _,hr,he,hf,hlp,FT.refl _ _ _ _ _ _ _ _,hA,hW,hx⟩⟩;obtain⟨ao,cap,rfl⟩:=hA.form;obtain⟨cs,hrow,hcs⟩:=hA.out;have hll:l.length<=9223372036854775807:=by have:=row_slice_len hrow.row;rw[actsL_len _ _ hcs] at this;exact this
 have HI:=hide hI;have HOK:=hide hok;have HPQ:=hide hpq;clear hr he hf hlp hA hW hx hrow hI hcs hok hpq;go_enter Tryz.func185,Tryz.ntmps185;go_wp2
 go_loopw [9] (fun i wr=>∃ k:Nat,k<=l.length/\i=.int .i64 k/\BAt B W g xb rb mb fb w wr m D s' f lp lq lv ob (.slice ao l.length cap) l left k) (fun i _=>l.length - (intOf i).toNat)
 case atStart=>exact⟨0,Nat.zero_le _,rfl,h0.out⟩
 case round=>
  obtain⟨k,hk,rfl,⟨g',m1,D1,lv1,s1,hg,hr,he,hf,hlp,hto,hA,hW,hx⟩⟩:=hrel;by_cases hlt:k < l.length
  ·obtain⟨cs,hrow,hcs⟩:=hA.out;have hcl:=actsL_len _ _ hcs;obtain⟨c,hc,hact⟩:=actsL_at _ _ hcs k hlt;obtain⟨gd,cap',hv,hcell⟩:=row_cell hrow.row (by omega);injection hv with e1 e2 e3;subst e1;clear e2 e3;have c0:=hcell _ _ hc;clear hcell hc hrow hcs hcl;rw[List.drop_eq_getElem_cons hlt] at hx
   cases g' with
   | zero=>cases hx
   | succ g'=>
    rw[x_cons] at hx
    split at hx
    ·cases hx
    ·rename_i s2 left2 hx1
     obtain⟨fn,ff,fc,rfl,hen,hcall⟩:=HI.out g' (by omega) wr xb rb mb fb m1 D1 s1 s2 f lp lq lv1 ob c l[k] left2 HPQ.out hr he hf hlp (HOK.out.mem (List.getElem_mem hlt)) hact hW hx1;unfold Ents at hen;have HC:=hide hcall;have hst:=(xRun_keep _ _ _ _ _ hx1).2;have HKD:Hid (∀ w' m' D' lv',FT xb rb mb fb wr w' m1 m' D1 D' lv1 lv'->(∀ b t c,BD D1.d wr b t c->BD D'.d w' b t c)):=fun w' m' D' lv' ht=>hf.keepD hr ht;have HAA:=hide hA;have HWW:=hide hW;clear hcall hact hA hW hr hf
     go_wp2_with fail
     refine HC.out.mono ?_;rintro e w1 ⟨rfl,m2,D2,lv2,hr2,hf2,hto2⟩;have hkd:=HKD.out w1 m2 D2 lv2 hto2;have HA2:Hid (Acts (BD D2.d w1) D2.r m2.bk ob (.slice (some ⟨gd,0,none⟩) l.length cap) l):=by rw[hto2.bk];exact HAA.out.mono hkd hto2.rg
     have HW2:Hid (D2.r ob f):=hto2.rg _ _ HWW.out;have HR2:=hide hr2;have HF2:=hide hf2;have HT2:=hide (hto.trans hto2);clear hkd hr2 hf2 hto2 hto c0 HC hx1 hen;by_cases hl2:left2=true\/s2.e ≠ 0
     ·rw[if_pos hl2] at hx;injection hx with hx;injection hx with hx1 hx2;subst hx1;subst hx2;rw[sgl_yes hl2];clear hl2;go_wp2;go_ret;exact⟨rfl,m2,D2,lv2,HR2.out,HF2.out,HT2.out⟩
     ·rw[if_neg hl2] at hx;have hn:=not_or.1 hl2;have hl:left2=false:=by simpa using hn.1
      have he2:s2.e=0:=by simpa using hn.2
      rw[hl,he2,sgl_no];have HX:=hide hx;clear hx hl2 hn hl;go_wp2
      go_roundw
      case rel=>exact⟨k+1,by omega,by go_num,⟨⟨g',m2,D2,lv2,s2,by omega,HR2.out,he2,by have:=HF2.out;rw[he2] at this;exact this,by omega,HT2.out,HA2.out,HW2.out,HX.out⟩⟩⟩
      case measure=>simp[intOf];omega
  ·rw[List.drop_of_length_le (by omega)] at hx
   cases g' with
   | zero=>cases hx
   | succ g'=>
    rw[x_nil] at hx;injection hx with hx;injection hx with hx1 hx2;subst hx1;subst hx2;go_wp2;go_ret;exact⟨rfl,m1,D1,lv1,hr,by rw[he];exact hf,hto⟩
end
section
open Go.RowKit
theorem ent_step:Ents 219:=ents_of Tryz.func219 (by kernel_rfl) (by kernel_rfl)
theorem ent_deep:Ents 157:=ents_of Tryz.func157 (by kernel_rfl) (by kernel_rfl)
theorem ent_callf:Ents 120:=ents_of Tryz.func120 (by kernel_rfl) (by kernel_rfl)
theorem ent_brf:Ents 230:=ents_of Tryz.func230 (by kernel_rfl) (by kernel_rfl)
theorem ent_recf:Ents 229:=ents_of Tryz.func229 (by kernel_rfl) (by kernel_rfl)
theorem ent_cpart:Ents 247:=ents_of Tryz.func247 (by kernel_rfl) (by kernel_rfl)
theorem ent_down:Ents 158:=ents_of Tryz.func158 (by kernel_rfl) (by kernel_rfl)
theorem ent_choose:Ents 222:=ents_of Tryz.func222 (by kernel_rfl) (by kernel_rfl)
theorem ent_until:Ents 224:=ents_of Tryz.func224 (by kernel_rfl) (by kernel_rfl)
theorem ent_while:Ents 225:=ents_of Tryz.func225 (by kernel_rfl) (by kernel_rfl)
theorem ent_count:Ents 226:=ents_of Tryz.func226 (by kernel_rfl) (by kernel_rfl)
theorem ent_idx:Ents 205:=ents_of Tryz.func205 (by kernel_rfl) (by kernel_rfl)
theorem ent_exit:Ents 208:=ents_of Tryz.func208 (by kernel_rfl) (by kernel_rfl)
theorem ent_nothing:Ents 231:=ents_of Tryz.func231 (by kernel_rfl) (by kernel_rfl)
section
variable {B:Nat} {W w:World} {xb rb mb fb:Nat} {m:MS} {D:GD} {s:St} {lv:Value} {lp:List Int}
theorem FPo.heed {w1:World} {s':St} (h:PR B W w xb rb mb m D s) (hf:FrR B w fb rb m D lv 0 lp) (hp:PPost B W xb rb mb w m D s' w1):FPo B W xb rb mb fb w m D lv lp s' (w1.setCell ⟨fb,2,none⟩ (.int .i64 s'.e))/\∃ y,Blk w1 fb 247 #[pt rb,lv,.int .i64 y]:=by
 obtain⟨m',D',h1,h2⟩:=hp;obtain⟨h3,h4⟩:=hf.sto h h2;obtain⟨h5,h6,h7⟩:=h3.setWhy h1 s'.e;exact⟨⟨m',D',lv,h5,h6,h4.trans h7⟩,_,h3.blk⟩
theorem stepItem (h:PR B W w xb rb mb m D s) (he:s.e=0) (hf:FrR B w fb rb m D lv 0 lp) (ab n:Nat) (ff fc:Array Value) (hb:BD D.d w ab 125 #[.func (.func n) ff fc]) (s2 s':St) (hs':s'=if s.step.e=0 then s2 else s.step)
  (hact:s.step.e=0->∀ w1 m1,PR B W w1 xb rb mb m1 D s.step->PTo xb rb mb w w1 m m1 D D->CallsV (.func (.func n) ff fc) (pt rb) w1 fun e w'=>e=.returned (.int .i64 s2.e)/\PPost B W xb rb mb w1 m1 D s2 w'):
  CallsV (fStep ab) (pt fb) w fun e w'=>e=.returned (.int .i64 (sgl false s'.e))/\FPo B W xb rb mb fb w m D lv lp s' w':=by
 refine⟨_,_,_,rfl,ent_step,?_⟩;have c0:w.cell? ⟨fb,0,none⟩=some (pt rb):=hf.blk.cell rfl;have c1:w.cell? ⟨ab,0,none⟩=some (.func (.func n) ff fc):=hb.2.cell rfl;have hne:¬ ab=fb:=by rintro rfl;exact absurd (hb.2.inj hf.blk).1 (by decide)
 have HS:Hid (∀ w0,Kp w w0 (fun _=>False)->Calls Tryz.prog 68 #[pt rb,.func (.func n) ff fc] w0 fun e w'=>e=.returned (.int .i64 s'.e)/\PPost B W xb rb mb w m D s' w'):=by
  intro w0 hk;obtain⟨h0,t0⟩:=h.kp hk;refine (stepP h0 he (.func (.func n) ff fc) s2 s' hs' (fun e w1 m1 p1 t1=>hact e w1 m1 p1 (t0.trans t1))).mono ?_;rintro e w' ⟨rfl,hp⟩;exact⟨rfl,hp.step t0⟩
 have HF:Hid (∀ w1,PPost B W xb rb mb w m D s' w1->FPo B W xb rb mb fb w m D lv lp s' (w1.setCell ⟨fb,2,none⟩ (.int .i64 s'.e))/\(∃ y,Blk w1 fb 247 #[pt rb,lv,.int .i64 y])/\Blk w1 ab 125 #[.func (.func n) ff fc]):=by
  intro w1 hp;obtain⟨h1,h2⟩:=FPo.heed h hf hp;obtain⟨m',D',h3,h4⟩:=hp;exact⟨h1,h2,(h.keepD h4 _ _ _ hb).2⟩
 clear h he hf hb hs' hact;show Calls Tryz.prog 219 #[pt fb,pt ab] w _;go_enter Tryz.func219,Tryz.ntmps219;go_wp2
 go_region_held3 (fun w'=>w'.cell? ⟨fb,0,none⟩=some (pt rb)/\w'.cell? ⟨ab,0,none⟩=some (.func (.func n) ff fc)) (go_keep) (first
  | (go_at_call 68;refine (HS.out _ ?_).mono ?_;exact (Kp.refl _ _).drew;rintro e w1 ⟨rfl,hp⟩;obtain⟨h1,⟨y,h2⟩,h3⟩:=HF.out w1 hp;have h4:w1.cell? ⟨fb,0,none⟩=some (pt rb):=h2.cell rfl;have h5:w1.cell? ⟨ab,0,none⟩=some (.func (.func n) ff fc):=h3.cell rfl;have H1:=hide h1;have H2:=hide h2;have H3:=hide h3;clear h1 hp h2 h3)
  | (go_at_call 220;refine (heedM _ fb s'.e _ _ _ H2.out).mono ?_;rintro e w2 ⟨rfl,rfl⟩;have k0:(w1.setCell ⟨fb,2,none⟩ (.int .i64 s'.e)).cell? ⟨fb,0,none⟩=some (pt rb):=(H2.out.set 2 _).cell rfl;have k1:(w1.setCell ⟨fb,2,none⟩ (.int .i64 s'.e)).cell? ⟨ab,0,none⟩=some (.func (.func n) ff fc):=(H3.out.setOther (a:=⟨fb,2,none⟩) hne _).cell rfl))
 go_wp2;go_ret;exact⟨rfl,H1.out⟩
end
end
section
open Go.RowKit
section
variable {B:Nat} {W w:World} {xb rb mb:Nat} {m:MS} {D:GD} {s:St}
theorem PR.setDp (h:PR B W w xb rb mb m D s) (n:Int) (h0:0<=n) (h1:n<=20):PR B W (w.setCell ⟨rb,3,none⟩ (.int .i64 n)) xb rb mb { m with dp:=n } D { s with depth:=n }/\PTo xb rb mb w (w.setCell ⟨rb,3,none⟩ (.int .i64 n)) m { m with dp:=n } D D:=by
 obtain⟨ns,hi,hn⟩:=h.inv;obtain⟨h2,h3⟩:=hi.setDp n;exact h.turn (s':={ s with depth:=n }) h3 rfl ⟨ns,h2,hn⟩ h.mem h.out h.st0 h.st1 h.st rfl ⟨rfl,rfl,rfl,rfl⟩ (h.good.dep h0 h1)
theorem PR.toErr (h:PR B W w xb rb mb m D s) (k:Int) (hk:k ≠ 0):PR B W w xb rb mb m D (s.err k):=by
 obtain⟨ns,hi,hn⟩:=h.inv;exact (h.turn (s':=s.err k) (To.refl _ _ _) rfl ⟨ns,hi,fun e=>absurd e hk⟩ h.mem h.out h.st0 h.st1 (fun e=>absurd e hk) h.dp ⟨rfl,rfl,rfl,rfl⟩ (h.good.err hk)).1
def deeper (s:St) (s2:St):St:=if 20<=s.depth then s.err 8 else { s2 with depth:=s2.depth - 1 }
theorem downM_no (w:World) (rb:Nat) (cd:w.cell? ⟨rb,3,none⟩=some (.int .i64 20)):Calls Tryz.prog 158 #[pt rb] w fun e w'=>e=.returned (.int .i64 8)/\w'=w:=by
 go_enter Tryz.func158,Tryz.ntmps158;go_wp2;go_ret;exact⟨rfl,rfl⟩
theorem downM_ok (w:World) (rb:Nat) (d:Int) (h0:0<=d) (h1:d < 20) (cd:w.cell? ⟨rb,3,none⟩=some (.int .i64 d)) (fd:w.frozen? ⟨rb,3,none⟩=false):Calls Tryz.prog 158 #[pt rb] w fun e w'=>e=.returned (.int .i64 0)/\w'=w.setCell ⟨rb,3,none⟩ (.int .i64 (d+1)):=by
 go_enter Tryz.func158,Tryz.ntmps158;go_wp2;go_ret;exact⟨rfl,rfl⟩
theorem upM (w:World) (rb:Nat) (d:Int) (h0:0<=d) (h1:d<=20) (cd:w.cell? ⟨rb,3,none⟩=some (.int .i64 (d+1))) (fd:w.frozen? ⟨rb,3,none⟩=false):Calls Tryz.prog 159 #[pt rb] w fun e w'=>e=.returned (.tuple #[])/\w'=w.setCell ⟨rb,3,none⟩ (.int .i64 d):=by
 go_enter Tryz.func159,Tryz.ntmps159;go_wp2;refine bodyPost_end (results_none rfl _ _ _) rfl ?_;exact⟨rfl,rfl⟩
theorem downP (h:PR B W w xb rb mb m D s):Calls Tryz.prog 158 #[pt rb] w fun e w'=>(20<=s.depth/\e=.returned (.int .i64 8)/\w'=w)\/(¬ 20<=s.depth/\e=.returned (.int .i64 0)/\w'=w.setCell ⟨rb,3,none⟩ (.int .i64 (s.depth+1))):=by
 obtain⟨ns,hi,hn⟩:=h.inv;have hd0:=h.good.d0;have hd1:=h.good.d1;have cd:w.cell? ⟨rb,3,none⟩=some (.int .i64 s.depth):=by rw[<-h.dp];exact hi.rblk.cell rfl
 by_cases h20:20<=s.depth
 ·rw[show s.depth=20 by omega] at cd;refine (downM_no w rb cd).mono ?_;rintro e w' ⟨rfl,rfl⟩;exact .inl ⟨h20,rfl,rfl⟩
 ·refine (downM_ok w rb s.depth hd0 (by omega) cd (hi.rblk.free 3)).mono ?_;rintro e w' ⟨rfl,rfl⟩;exact .inr ⟨h20,rfl,rfl⟩
theorem upP (h:PR B W w xb rb mb m D s) (d:Int) (h0:0<=d) (h1:d < 20) (hd:s.depth=d+1):Calls Tryz.prog 159 #[pt rb] w fun e w'=>e=.returned (.tuple #[])/\PPost B W xb rb mb w m D { s with depth:=s.depth - 1 } w':=by
 obtain⟨ns,hi,hn⟩:=h.inv;have cd:w.cell? ⟨rb,3,none⟩=some (.int .i64 (d+1)):=by rw[<-hd,<-h.dp];exact hi.rblk.cell rfl
 refine (upM w rb d h0 (by omega) cd (hi.rblk.free 3)).mono ?_;rintro e w' ⟨rfl,rfl⟩;rw[show s.depth - 1=d by omega];obtain⟨h3,t3⟩:=h.setDp d h0 (by omega);exact⟨rfl,_,D,h3,t3⟩
theorem deepP (h:PR B W w xb rb mb m D s) (db n:Nat) (ff fc:Array Value) (hb:BD D.d w db 125 #[.func (.func n) ff fc]) (s2:St)
  (hact:¬ 20<=s.depth->s2.depth=s.depth+1/\∀ w1 m1,PR B W w1 xb rb mb m1 D { s with depth:=s.depth+1 }->PTo xb rb mb w w1 m m1 D D->CallsV (.func (.func n) ff fc) (pt rb) w1 fun e w'=>e=.returned (.int .i64 s2.e)/\PPost B W xb rb mb w1 m1 D s2 w'):
  CallsV (fDeep db) (pt rb) w fun e w'=>e=.returned (.int .i64 (deeper s s2).e)/\PPost B W xb rb mb w m D (deeper s s2) w':=by
 refine⟨_,_,_,rfl,ent_deep,?_⟩;show Calls Tryz.prog 157 #[pt rb,pt db] w _;have HDn:=hide (downP h);by_cases h20:20<=s.depth
 ·have HD:Hid (deeper s s2=s.err 8):=if_pos h20;have HE:=hide (h.toErr 8 (by decide));have HDN:Hid (Calls Tryz.prog 158 #[pt rb] w fun e w'=>e=.returned (.int .i64 8)/\w'=w):=HDn.out.mono (fun e w' q=>q.elim (fun q=>q.2) (fun q=>absurd h20 q.1));clear hact h20 h hb HDn;go_enter Tryz.func157,Tryz.ntmps157
  go_wp2_with fail
  refine HDN.out.mono ?_;rintro e w1 ⟨rfl,rfl⟩;go_wp2;go_ret;rw[HD.out];exact⟨rfl,m,D,HE.out,PTo.refl _ _ _ _ _ _⟩
 ·obtain⟨hs2,hact⟩:=hact h20;have hd0:=h.good.d0;obtain⟨h1,t1⟩:=h.setDp (s.depth+1) (by omega) (by omega);have hb1:=(h.keepD t1 _ _ _ hb).2;have cb:(w.setCell ⟨rb,3,none⟩ (.int .i64 (s.depth+1))).cell? ⟨db,0,none⟩=some (.func (.func n) ff fc):=hb1.cell rfl;have HD:Hid (deeper s s2={ s2 with depth:=s2.depth - 1 }):=if_neg h20;have HDN:Hid (Calls Tryz.prog 158 #[pt rb] w fun e w'=>e=.returned (.int .i64 0)/\w'=w.setCell ⟨rb,3,none⟩ (.int .i64 (s.depth+1))):=HDn.out.mono (fun e w' q=>q.elim (fun q=>absurd q.1 h20) (fun q=>q.2));have hcall:=hact _ _ h1 t1;obtain⟨fn,fff,ffc,hv,hen,hcall⟩:=hcall;injection hv with hv1 hv2 hv3;injection hv1 with hv1;subst hv1;subst hv2;subst hv3;unfold Ents at hen;have HC:=hide hcall;have HT:=hide t1;obtain⟨W1,hW1⟩:∃ W1,W1=w.setCell ⟨rb,3,none⟩ (.int .i64 (s.depth+1)):=⟨_,rfl⟩;rw[<-hW1] at HC HT HDN cb;have hlt:s.depth < 20:=by omega
  clear hact hcall h1 t1 hb1 hb h HDn hW1 h20;go_enter Tryz.func157,Tryz.ntmps157
  go_wp2_with fail
  refine HDN.out.mono ?_;rintro e w0 ⟨rfl,rfl⟩
  go_wp2_with fail
  refine HC.out.mono ?_;rintro e w1 ⟨rfl,m1,D1,hr1,ht1⟩;have HU:=hide (upP hr1 s.depth hd0 hlt hs2);have HT3:=hide (HT.out.trans ht1);clear hr1 ht1 HC HT HDN
  go_wp2_with fail
  refine HU.out.mono ?_;rintro e w2 ⟨rfl,hp⟩;have HP:=hide (hp.step HT3.out);clear hp HU HT3;go_wp2;go_ret;rw[HD.out];exact⟨rfl,HP.out⟩
end
end
section
open Go.RowKit
theorem nil_own (k:Nat):¬ own (.slice none 0 0) k:=by simp[own,Value.ownBlock]
theorem FT.toP {xb rb mb:Nat} {w w':World} {m m':MS} {D D':GD} {lv':Value} {o:Obj} (h:FT xb rb mb w.heap.size (w.alloc o) w' m m' D D' (.slice none 0 0) lv'):PTo xb rb mb w w' m m' D D':=by
 have hk:Kp w w' (fun k=>((k=xb\/k=rb)\/k=mb)\/((own m.sv k\/own m.ov k)\/D.u k)):=by
  have h1:Kp w (w.alloc o) (fun k=>(((k=xb\/k=rb)\/k=mb)\/k=w.heap.size)\/(((own m.sv k\/own m.ov k)\/D.u k)\/own (.slice none 0 0) k)):=(Kp.refl w _).alloc o;refine (h1.trans h.wt.kp).mono (fun k hlt hk=>?_);rcases hk with (hk|hk)|(hk|hk)
  ·exact .inl hk
  ·omega
  ·exact .inr hk
  ·exact absurd hk (nil_own k)
 refine⟨⟨hk,fun k hk2=>?_⟩,h.up,fun k hk2=>?_,h.rg,h.bk⟩
 ·rcases h.wt.nx k (.inl hk2) with (e|e)|e
  ·exact .inl e
  ·exact absurd e (nil_own k)
  ·right;rw[World.size_alloc] at e;omega
 ·rcases h.nw k hk2 with e|e
  ·exact .inl e
  ·right;rw[World.size_alloc] at e;omega
theorem wordRunX {B:Nat} {W:World} (g:Nat) (hB:QB B W g):QW B W g:=by
 intro w xb rb mb m D s s' f ob left hr he hW hx;have hk0:=(Kp.refl w (fun _=>False)).alloc (.cells #[pt rb,.slice none 0 0,.int .i64 0] 247);obtain⟨h1,t1⟩:=hr.kp hk0;have hf:FrR B (w.alloc (.cells #[pt rb,.slice none 0 0,.int .i64 0] 247)) w.heap.size rb m D (.slice none 0 0) 0 []:=
  ⟨Blk.new w _ _,World.ownsRow_nil _ _ _ _,by simp,fun k hk=>absurd hk (nil_own k),fun hd=>by have:=(hr.sep _ hd).1;omega,fun k hk=>absurd hk (nil_own k),fun hd=>by have:=hr.ult hd;omega,fun k hk=>absurd hk (nil_own k),hr.safe.bs,fun k hk=>absurd hk (nil_own k)⟩
 obtain⟨c,hc⟩:=hr.words.wds.ok _ _ hW;obtain⟨c1,hc1⟩:=h1.words.wds.ok _ _ hW;have hA:=hc.ac;have hkd:=hr.keepD t1;have hbl:=hc.blk.alloc (.cells #[pt rb,.slice none 0 0,.int .i64 0] 247);have ca:(w.alloc (.cells #[pt rb,.slice none 0 0,.int .i64 0] 247)).cell? ⟨ob,3,none⟩=some c.av:=hbl.cell rfl;have ca0:w.cell? ⟨ob,3,none⟩=some c.av:=hc.blk.cell rfl;have hol:=hc.blk.lt;obtain⟨ao,cap,hav⟩:=hA.form;rw[hav] at ca ca0 hA;have HC:=hide (hB _ xb rb mb w.heap.size m D s s' f [] [] (.slice none 0 0) ob (.slice ao f.body.length cap) f.body left (PQ.refl _) h1 he hf (by simp;exact hr.good.s0) (by obtain⟨G,hG⟩:=hc.wf;exact⟨G,false,hG,fun h=>by cases h⟩) (hA.mono hkd (fun _ _ h=>h)) hW hx);clear hB hr he hx h1 t1 hf hA hkd hk0 hc hc1 hW hbl hav;go_enter Tryz.func161,Tryz.ntmps161
 go_wp2_with fail
 refine HC.out.mono ?_;rintro e w1 ⟨rfl,m1,D1,lv1,hr1,hf1,ht1⟩;have cw:w1.cell? ⟨w.heap.size,2,none⟩=some (.int .i64 s'.e):=hf1.blk.cell rfl;have H1:=hide hr1;have H2:=hide ht1.toP;clear hr1 hf1 ht1 HC;go_wp2;go_ret;exact⟨rfl,m1,D1,H1.out,H2.out⟩
abbrev nib (d:Def):Tok × Int × List It:=(d.name,d.id,d.body)
theorem WordsR.same {D:GD} {w:World} {bk mb:Nat} {defs defs':List Def} (h:WordsR D w bk mb defs) (hn:defs'.map nib=defs.map nib):WordsR D w bk mb defs':=by
 have hl:defs'.length=defs.length:=by have:=congrArg List.length hn;simpa using this
 have hat:∀ k (h1:k < defs'.length) (h2:k < defs.length),frD defs'[k]=frD defs[k]:=by
  intro k h1 h2;have:=congrArg (fun l=>l[k]?) hn;simp[h1,h2] at this;obtain⟨q1,q2,q3⟩:=this;show (⟨_,_,_⟩:Fr)=⟨_,_,_⟩;rw[q1,q2,q3]
 have hf:∀ t,defs'.findIdx? (fun d=>d.name == t)=defs.findIdx? (fun d=>d.name == t):=by
  intro t;have e:∀ l:List Def,l.findIdx? (fun d=>d.name == t)=(l.map nib).findIdx? (fun p=>p.1 == t):=by
   intro l;rw[List.findIdx?_map];rfl
  rw[e,e,hn]
 have hkn:knowD defs'=knowD defs:=by funext t;unfold knowD;rw[hf]
 have hnm:∀ k (h1:k < defs'.length) (h2:k < defs.length),defs'[k].name=defs[k].name:=fun k h1 h2=>congrArg Fr.name (hat k h1 h2);obtain⟨obs,DD,h⟩:=h;refine⟨obs,DD,by rw[hl];exact h.ol,by rw[hl];exact h.mp,by rw[hl];exact h.sz,fun t ht=>by rw[hf];exact h.hs t ht,by rw[hl];exact h.l30,fun t ht=>by rw[hf];exact h.lk t ht,fun i j hi hj e=>h.nd i j (by omega) (by omega) (by rw[<-hnm i hi (by omega),<-hnm j hj (by omega)];exact e),h.wd,fun k hk=>?_,fun o f ho=>?_⟩
 ·have hk':k < defs.length:=by omega
  have hq:=hat k hk hk';have hb:defs'[k].body=defs[k].body:=congrArg Fr.body hq;rw[hq,hb,hkn];exact h.cur k hk'
 ·obtain⟨q,h1⟩:=h.reg o f ho;rw[hkn];refine⟨q,h1.imp (fun ⟨k,hk,e0,e1,e2⟩=>⟨k,by omega,by rw[hf];exact e0,e1,?_⟩) id⟩;rw[hat k (by omega) hk];exact e2
theorem set_same_map {defs:List Def} {k:Nat} {d:Def} (h:defs[k]? = some d) (d':Def) (h1:d'.name=d.name) (h2:d'.body=d.body) (h3:d'.id=d.id):(defs.set k d').map nib=defs.map nib:=by
 rw[List.map_set]
 apply List.ext_getElem?
 intro i;rw[List.getElem?_set]
 split
 ·rename_i e
  subst e
  split
  ·simp[h,h1,h2,h3]
  ·rename_i hlt;simp at hlt;rw[List.getElem?_eq_none hlt] at h;cases h
 ·rfl
theorem St.count_same {g:Nat} {s s':St} {k:Nat} (h:s.count g k=some s'):s'.defs.map nib=s.defs.map nib/\s'={ s with defs:=s'.defs }:=by
 unfold St.count at h
 split at h
 ·cases h
 ·rename_i d hd
  split at h
  ·injection h with h;subst h;exact⟨rfl,rfl⟩
  ·split at h
   ·injection h with h;subst h;exact⟨set_same_map hd _ rfl rfl rfl,rfl⟩
   ·split at h
    ·cases h
    ·injection h with h;subst h;exact⟨set_same_map hd _ rfl rfl rfl,rfl⟩
theorem xCome_same {g:Nat} {f:Fr} {s s':St} (h:xCome g f s=some s'):s'.defs.map nib=s.defs.map nib/\s'={ s with defs:=s'.defs }:=by
 unfold xCome at h
 split at h
 ·injection h with h;subst h;exact⟨rfl,rfl⟩
 ·split at h
  ·cases h
  ·split at h
   ·exact St.count_same h
   ·injection h with h;subst h;exact⟨rfl,rfl⟩
end
end Go.Proofs.YteainaiebcphlaaGreatDoor
