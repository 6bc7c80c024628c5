import Derived.Test.YteainaiebcphlaaGreatDoorV24
import Derived.Test.YteainaiebcphlaaGreatDoorV11
import Derived.Test.YteainaiebcphlaaGreatDoorV18
import Derived.Test.YteainaiebcphlaaGreatDoorV17
import Derived.Handy
namespace Go.Proofs.YteainaiebcphlaaGreatDoor
set_option maxRecDepth 1000000
set_option maxHeartbeats 4000000
set_option linter.all false
section
open Go.RowKit
structure Env (B:Nat) (W:World):Prop where
 glo:Glo B W
 sp:SpAt W
 b1:1 < B
theorem Env.at {B:Nat} {W w:World} {xb rb mb:Nat} {m:MS} {D:GD} {s:St} (h:Env B W) (hp:PR B W w xb rb mb m D s):SpAt w:=by
 obtain⟨tt,fr,hx⟩:=h.sp;exact⟨tt,fr,(hp.safe.bel.block 1 h.b1).trans hx⟩
def FPo (B:Nat) (W:World) (xb rb mb fb:Nat) (w:World) (m:MS) (D:GD) (lv:Value) (lp:List Int) (s':St) (w':World):Prop:=
 ∃ m' D' lv',PR B W w' xb rb mb m' D' s'/\FrR B w' fb rb m' D' lv' s'.e lp/\FT xb rb mb fb w w' m m' D D' lv lv'
theorem FPo.step {B:Nat} {W:World} {xb rb mb fb:Nat} {w w1 w2:World} {m m1:MS} {D D1:GD} {lv lv1:Value} {lp:List Int} {s':St} (ht:FT xb rb mb fb w w1 m m1 D D1 lv lv1) (h:FPo B W xb rb mb fb w1 m1 D1 lv1 lp s' w2):FPo B W xb rb mb fb w m D lv lp s' w2:=by
 obtain⟨m',D',lv',h1,h2,h3⟩:=h;exact⟨m',D',lv',h1,h2,ht.trans h3⟩
theorem FrR.keepD {B:Nat} {W w w':World} {xb rb mb fb:Nat} {m m':MS} {D D':GD} {s:St} {lv lv':Value} {why:Int} {lp:List Int} (h:PR B W w xb rb mb m D s) (hf:FrR B w fb rb m D lv why lp) (ht:FT xb rb mb fb w w' m m' D D' lv lv'):∀ b t c,BD D.d w b t c->BD D'.d w' b t c:=by
 intro b t c hb;obtain⟨_,h1,h2,h3,h4⟩:=h.sep b hb.1;refine⟨ht.up b hb.1,ht.wt.kp.blk hb.2 ?_⟩;rintro ((((e|e)|e)|e)|(((e|e)|e)|e))
 ·exact h1 e
 ·exact h2 e
 ·exact h.words.ne hb.2 e.symm
 ·exact hf.nd (e ▸ hb.1)
 ·exact h3 e
 ·exact h4 e
 ·exact h.words.wds.ud b e hb.1
 ·exact hf.nl b e hb.1
def OkL (lp:List Int) (l:List It):Prop:=∃ G lo,wb (fun _=>True) G lo l/\(lo=true->lp ≠ [])
def OkX (lp:List Int) (x:It):Prop:=∃ G lo,okIt (fun _=>True) (wb (fun _=>True) G) lo x/\(lo=true->lp ≠ [])
theorem OkL.mem {lp:List Int} {l:List It} (h:OkL lp l) {x:It} (hx:x∈l):OkX lp x:=by
 obtain⟨G,lo,h1,h2⟩:=h
 cases G with
 | zero=>have h1:l=[]:=h1;subst h1;cases hx
 | succ G=>exact⟨G,lo,h1 x hx,h2⟩
theorem OkX.ab {lp:List Int} {x:It} (h:OkX lp x) (hk:x.kind=63\/x.kind=117\/x.kind=119):OkL lp x.a/\OkL lp x.b:=by
 obtain⟨G,lo,h1,h2⟩:=h;rcases h1 with⟨q,_⟩|⟨_,q1,q2⟩|⟨q,_⟩
 ·exfalso;omega
 ·exact⟨⟨G,lo,q1,h2⟩,⟨G,lo,q2,h2⟩⟩
 ·exfalso;omega
theorem OkX.body {lp:List Int} {x:It} (h:OkX lp x) (hk:x.kind=100) (n:Int):OkL (n :: lp) x.a:=by
 obtain⟨G,lo,h1,h2⟩:=h;rcases h1 with⟨q,_⟩|⟨q,_⟩|⟨_,q1,_⟩
 ·exfalso;omega
 ·exfalso;omega
 ·exact⟨G,true,q1,fun _=>by simp⟩
theorem OkX.idx {lp:List Int} {x:It} (h:OkX lp x) (hk:x.kind=105):lp ≠ []:=by
 obtain⟨G,lo,h1,h2⟩:=h;rcases h1 with⟨q,_⟩|⟨q,_⟩|⟨q,_⟩
 ·rcases q with q|q|q|q|q|q|q
  all_goals first
   | exact h2 q.2
   | (exfalso;omega)
 ·exfalso;omega
 ·exfalso;omega
def PQ (lp lq:List Int):Prop:=∃ lo,lq=lp ++ lo
theorem PQ.refl (lp:List Int):PQ lp lp:=⟨[],by simp⟩
theorem PQ.push {lp lq:List Int} (h:PQ lp lq) (n:Int):PQ (n :: lp) (n :: lq):=by obtain⟨lo,h⟩:=h;exact⟨lo,by rw[h];rfl⟩
theorem PQ.nil (lq:List Int):PQ [] lq:=⟨lq,rfl⟩
def QB (B:Nat) (W:World) (g:Nat):Prop:=∀ (w:World) (xb rb mb fb:Nat) (m:MS) (D:GD) (s s':St) (f:Fr) (lp lq:List Int) (lv:Value) (ob:Nat) (v:Value) (l:List It) (left:Bool),PQ lp lq->PR B W w xb rb mb m D s->s.e=0->FrR B w fb rb m D lv 0 lq->(lq.length:Int)<=s.steps->OkL lp l->Acts (BD D.d w) D.r m.bk ob v l->D.r ob f ->
 xRun g (jBody f lp l) s=some (s',left)->Calls Tryz.prog 185 #[pt fb,v] w fun e w'=>e=.returned (.int .i64 (sig left))/\FPo B W xb rb mb fb w m D lv lq s' w'
def QI (B:Nat) (W:World) (g:Nat):Prop:=∀ (w:World) (xb rb mb fb:Nat) (m:MS) (D:GD) (s s':St) (f:Fr) (lp lq:List Int) (lv:Value) (ob:Nat) (c:Value) (x:It) (left:Bool),PQ lp lq->PR B W w xb rb mb m D s->s.e=0->FrR B w fb rb m D lv 0 lq->(lq.length:Int)<=s.steps->OkX lp x->actR (BD D.d w) D.r m.bk ob (Acts (BD D.d w) D.r m.bk) x c->D.r ob f ->
 xRun g (jItem f lp x) s=some (s',left)->CallsV c (pt fb) w fun e w'=>e=.returned (.int .i64 (sgl left s'.e))/\FPo B W xb rb mb fb w m D lv lq s' w'
def QW (B:Nat) (W:World) (g:Nat):Prop:=∀ (w:World) (xb rb mb:Nat) (m:MS) (D:GD) (s s':St) (f:Fr) (ob:Nat) (left:Bool),PR B W w xb rb mb m D s->s.e=0->D.r ob f ->
 xRun g (jBody f [] f.body) s=some (s',left)->Calls Tryz.prog 161 #[pt ob,pt rb] w fun e w'=>e=.returned (.int .i64 s'.e)/\PPost B W xb rb mb w m D s' w'
def QT (B:Nat) (W:World) (g:Nat):Prop:=∀ (w:World) (xb rb mb:Nat) (m:MS) (D:GD) (s s':St) (v:Value) (ws:List ByteArray) (left:Bool),PR B W w xb rb mb m D s->s.e=0->TokAt (Blk w) v ws->(∀ t∈ws,okW t)->ws.length<=1000 ->
 xRun g (jToks (texts ws)) s=some (s',left)->Calls Tryz.prog 42 #[pt m.bk,pt rb,v] w fun e w'=>e=.returned (.int .i64 s'.e)/\PPost B W xb rb mb w m D s' w'
structure BAt (B:Nat) (W:World) (g xb rb mb fb:Nat) (w wr:World) (m:MS) (D:GD) (s':St) (f:Fr) (lp lq:List Int) (lv:Value) (ob:Nat) (v:Value) (l:List It) (left:Bool) (k:Nat):Prop where
 ex:∃ g' m1 D1 lv1 s1,g'<=g/\PR B W wr xb rb mb m1 D1 s1/\s1.e=0/\FrR B wr fb rb m1 D1 lv1 0 lq/\(lq.length:Int)<=s1.steps/\FT xb rb mb fb w wr m m1 D D1 lv lv1/\Acts (BD D1.d wr) D1.r m1.bk ob v l/\D1.r ob f/\xRun g' (jBody f lp (l.drop k)) s1=some (s',left)
theorem runAllX {B:Nat} {W:World} (g:Nat) (hI:∀ g',g' < g->QI B W g'):QB B W g:=by
 intro w xb rb mb fb m D s s' f lp lq lv ob v l left hpq hr he hf hlp hok hA hW hx;have h0:Hid (BAt B W g xb rb mb fb w w m D s' f lp lq lv ob v l left 0):=⟨⟨g,m,D,lv,s,Nat.le_refl _,hr,he,hf,hlp,FT.refl _ _ _ _ _ _ _ _,hA,hW,hx⟩⟩;obtain⟨ao,cap,rfl⟩:=hA.form;obtain⟨cs,hrow,hcs⟩:=hA.out;have hll:l.length<=9223372036854775807:=by have:=row_slice_len hrow.row;rw[actsL_len _ _ hcs] at this;exact this
 have HI:=hide hI;have HOK:=hide hok;have HPQ:=hide hpq;clear hr he hf hlp hA hW hx hrow hI hcs hok hpq;go_enter Tryz.func185,Tryz.ntmps185;go_wp2
 go_loopw [9] (fun i wr=>∃ k:Nat,k<=l.length/\i=.int .i64 k/\BAt B W g xb rb mb fb w wr m D s' f lp lq lv ob (.slice ao l.length cap) l left k) (fun i _=>l.length - (intOf i).toNat)
 case atStart=>exact⟨0,Nat.zero_le _,rfl,h0.out⟩
 case round=>
  obtain⟨k,hk,rfl,⟨g',m1,D1,lv1,s1,hg,hr,he,hf,hlp,hto,hA,hW,hx⟩⟩:=hrel;by_cases hlt:k < l.length
  ·obtain⟨cs,hrow,hcs⟩:=hA.out;have hcl:=actsL_len _ _ hcs;obtain⟨c,hc,hact⟩:=actsL_at _ _ hcs k hlt;obtain⟨gd,cap',hv,hcell⟩:=row_cell hrow.row (by omega);injection hv with e1 e2 e3;subst e1;clear e2 e3;have c0:=hcell _ _ hc;clear hcell hc hrow hcs hcl;rw[List.drop_eq_getElem_cons hlt] at hx
   cases g' with
   | zero=>cases hx
   | succ g'=>
    rw[x_cons] at hx
    split at hx
    ·cases hx
    ·rename_i s2 left2 hx1
     obtain⟨fn,ff,fc,rfl,hen,hcall⟩:=HI.out g' (by omega) wr xb rb mb fb m1 D1 s1 s2 f lp lq lv1 ob c l[k] left2 HPQ.out hr he hf hlp (HOK.out.mem (List.getElem_mem hlt)) hact hW hx1;unfold Ents at hen;have HC:=hide hcall;have hst:=(xRun_keep _ _ _ _ _ hx1).2;have HKD:Hid (∀ w' m' D' lv',FT xb rb mb fb wr w' m1 m' D1 D' lv1 lv'->(∀ b t c,BD D1.d wr b t c->BD D'.d w' b t c)):=fun w' m' D' lv' ht=>hf.keepD hr ht;have HAA:=hide hA;have HWW:=hide hW;clear hcall hact hA hW hr hf
     go_wp2_with fail
     refine HC.out.mono ?_;rintro e w1 ⟨rfl,m2,D2,lv2,hr2,hf2,hto2⟩;have hkd:=HKD.out w1 m2 D2 lv2 hto2;have HA2:Hid (Acts (BD D2.d w1) D2.r m2.bk ob (.slice (some ⟨gd,0,none⟩) l.length cap) l):=by rw[hto2.bk];exact HAA.out.mono hkd hto2.rg
     have HW2:Hid (D2.r ob f):=hto2.rg _ _ HWW.out;have HR2:=hide hr2;have HF2:=hide hf2;have HT2:=hide (hto.trans hto2);clear hkd hr2 hf2 hto2 hto c0 HC hx1 hen;by_cases hl2:left2=true\/s2.e ≠ 0
     ·rw[if_pos hl2] at hx;injection hx with hx;injection hx with hx1 hx2;subst hx1;subst hx2;rw[sgl_yes hl2];clear hl2;go_wp2;go_ret;exact⟨rfl,m2,D2,lv2,HR2.out,HF2.out,HT2.out⟩
     ·rw[if_neg hl2] at hx;have hn:=not_or.1 hl2;have hl:left2=false:=by simpa using hn.1
      have he2:s2.e=0:=by simpa using hn.2
      rw[hl,he2,sgl_no];have HX:=hide hx;clear hx hl2 hn hl;go_wp2
      go_roundw
      case rel=>exact⟨k+1,by omega,by go_num,⟨⟨g',m2,D2,lv2,s2,by omega,HR2.out,he2,by have:=HF2.out;rw[he2] at this;exact this,by omega,HT2.out,HA2.out,HW2.out,HX.out⟩⟩⟩
      case measure=>simp[intOf];omega
  ·rw[List.drop_of_length_le (by omega)] at hx
   cases g' with
   | zero=>cases hx
   | succ g'=>
    rw[x_nil] at hx;injection hx with hx;injection hx with hx1 hx2;subst hx1;subst hx2;go_wp2;go_ret;exact⟨rfl,m1,D1,lv1,hr,by rw[he];exact hf,hto⟩
end
section
open Go.RowKit
theorem ent_step:Ents 219:=ents_of Tryz.func219 (by kernel_rfl) (by kernel_rfl)
theorem ent_deep:Ents 157:=ents_of Tryz.func157 (by kernel_rfl) (by kernel_rfl)
theorem ent_callf:Ents 120:=ents_of Tryz.func120 (by kernel_rfl) (by kernel_rfl)
theorem ent_brf:Ents 230:=ents_of Tryz.func230 (by kernel_rfl) (by kernel_rfl)
theorem ent_recf:Ents 229:=ents_of Tryz.func229 (by kernel_rfl) (by kernel_rfl)
theorem ent_cpart:Ents 247:=ents_of Tryz.func247 (by kernel_rfl) (by kernel_rfl)
theorem ent_down:Ents 158:=ents_of Tryz.func158 (by kernel_rfl) (by kernel_rfl)
theorem ent_choose:Ents 222:=ents_of Tryz.func222 (by kernel_rfl) (by kernel_rfl)
theorem ent_until:Ents 224:=ents_of Tryz.func224 (by kernel_rfl) (by kernel_rfl)
theorem ent_while:Ents 225:=ents_of Tryz.func225 (by kernel_rfl) (by kernel_rfl)
theorem ent_count:Ents 226:=ents_of Tryz.func226 (by kernel_rfl) (by kernel_rfl)
theorem ent_idx:Ents 205:=ents_of Tryz.func205 (by kernel_rfl) (by kernel_rfl)
theorem ent_exit:Ents 208:=ents_of Tryz.func208 (by kernel_rfl) (by kernel_rfl)
theorem ent_nothing:Ents 231:=ents_of Tryz.func231 (by kernel_rfl) (by kernel_rfl)
section
variable {B:Nat} {W w:World} {xb rb mb fb:Nat} {m:MS} {D:GD} {s:St} {lv:Value} {lp:List Int}
theorem FPo.heed {w1:World} {s':St} (h:PR B W w xb rb mb m D s) (hf:FrR B w fb rb m D lv 0 lp) (hp:PPost B W xb rb mb w m D s' w1):FPo B W xb rb mb fb w m D lv lp s' (w1.setCell ⟨fb,2,none⟩ (.int .i64 s'.e))/\∃ y,Blk w1 fb 247 #[pt rb,lv,.int .i64 y]:=by
 obtain⟨m',D',h1,h2⟩:=hp;obtain⟨h3,h4⟩:=hf.sto h h2;obtain⟨h5,h6,h7⟩:=h3.setWhy h1 s'.e;exact⟨⟨m',D',lv,h5,h6,h4.trans h7⟩,_,h3.blk⟩
theorem stepItem (h:PR B W w xb rb mb m D s) (he:s.e=0) (hf:FrR B w fb rb m D lv 0 lp) (ab n:Nat) (ff fc:Array Value) (hb:BD D.d w ab 125 #[.func (.func n) ff fc]) (s2 s':St) (hs':s'=if s.step.e=0 then s2 else s.step)
  (hact:s.step.e=0->∀ w1 m1,PR B W w1 xb rb mb m1 D s.step->PTo xb rb mb w w1 m m1 D D->CallsV (.func (.func n) ff fc) (pt rb) w1 fun e w'=>e=.returned (.int .i64 s2.e)/\PPost B W xb rb mb w1 m1 D s2 w'):
  CallsV (fStep ab) (pt fb) w fun e w'=>e=.returned (.int .i64 (sgl false s'.e))/\FPo B W xb rb mb fb w m D lv lp s' w':=by
 refine⟨_,_,_,rfl,ent_step,?_⟩;have c0:w.cell? ⟨fb,0,none⟩=some (pt rb):=hf.blk.cell rfl;have c1:w.cell? ⟨ab,0,none⟩=some (.func (.func n) ff fc):=hb.2.cell rfl;have hne:¬ ab=fb:=by rintro rfl;exact absurd (hb.2.inj hf.blk).1 (by decide)
 have HS:Hid (∀ w0,Kp w w0 (fun _=>False)->Calls Tryz.prog 68 #[pt rb,.func (.func n) ff fc] w0 fun e w'=>e=.returned (.int .i64 s'.e)/\PPost B W xb rb mb w m D s' w'):=by
  intro w0 hk;obtain⟨h0,t0⟩:=h.kp hk;refine (stepP h0 he (.func (.func n) ff fc) s2 s' hs' (fun e w1 m1 p1 t1=>hact e w1 m1 p1 (t0.trans t1))).mono ?_;rintro e w' ⟨rfl,hp⟩;exact⟨rfl,hp.step t0⟩
 have HF:Hid (∀ w1,PPost B W xb rb mb w m D s' w1->FPo B W xb rb mb fb w m D lv lp s' (w1.setCell ⟨fb,2,none⟩ (.int .i64 s'.e))/\(∃ y,Blk w1 fb 247 #[pt rb,lv,.int .i64 y])/\Blk w1 ab 125 #[.func (.func n) ff fc]):=by
  intro w1 hp;obtain⟨h1,h2⟩:=FPo.heed h hf hp;obtain⟨m',D',h3,h4⟩:=hp;exact⟨h1,h2,(h.keepD h4 _ _ _ hb).2⟩
 clear h he hf hb hs' hact;show Calls Tryz.prog 219 #[pt fb,pt ab] w _;go_enter Tryz.func219,Tryz.ntmps219;go_wp2
 go_region_held3 (fun w'=>w'.cell? ⟨fb,0,none⟩=some (pt rb)/\w'.cell? ⟨ab,0,none⟩=some (.func (.func n) ff fc)) (go_keep) (first
  | (go_at_call 68;refine (HS.out _ ?_).mono ?_;exact (Kp.refl _ _).drew;rintro e w1 ⟨rfl,hp⟩;obtain⟨h1,⟨y,h2⟩,h3⟩:=HF.out w1 hp;have h4:w1.cell? ⟨fb,0,none⟩=some (pt rb):=h2.cell rfl;have h5:w1.cell? ⟨ab,0,none⟩=some (.func (.func n) ff fc):=h3.cell rfl;have H1:=hide h1;have H2:=hide h2;have H3:=hide h3;clear h1 hp h2 h3)
  | (go_at_call 220;refine (heedM _ fb s'.e _ _ _ H2.out).mono ?_;rintro e w2 ⟨rfl,rfl⟩;have k0:(w1.setCell ⟨fb,2,none⟩ (.int .i64 s'.e)).cell? ⟨fb,0,none⟩=some (pt rb):=(H2.out.set 2 _).cell rfl;have k1:(w1.setCell ⟨fb,2,none⟩ (.int .i64 s'.e)).cell? ⟨ab,0,none⟩=some (.func (.func n) ff fc):=(H3.out.setOther (a:=⟨fb,2,none⟩) hne _).cell rfl))
 go_wp2;go_ret;exact⟨rfl,H1.out⟩
end
end
section
open Go.RowKit
section
variable {B:Nat} {W w:World} {xb rb mb:Nat} {m:MS} {D:GD} {s:St}
theorem PR.setDp (h:PR B W w xb rb mb m D s) (n:Int) (h0:0<=n) (h1:n<=20):PR B W (w.setCell ⟨rb,3,none⟩ (.int .i64 n)) xb rb mb { m with dp:=n } D { s with depth:=n }/\PTo xb rb mb w (w.setCell ⟨rb,3,none⟩ (.int .i64 n)) m { m with dp:=n } D D:=by
 obtain⟨ns,hi,hn⟩:=h.inv;obtain⟨h2,h3⟩:=hi.setDp n;exact h.turn (s':={ s with depth:=n }) h3 rfl ⟨ns,h2,hn⟩ h.mem h.out h.st0 h.st1 h.st rfl ⟨rfl,rfl,rfl,rfl⟩ (h.good.dep h0 h1)
theorem PR.toErr (h:PR B W w xb rb mb m D s) (k:Int) (hk:k ≠ 0):PR B W w xb rb mb m D (s.err k):=by
 obtain⟨ns,hi,hn⟩:=h.inv;exact (h.turn (s':=s.err k) (To.refl _ _ _) rfl ⟨ns,hi,fun e=>absurd e hk⟩ h.mem h.out h.st0 h.st1 (fun e=>absurd e hk) h.dp ⟨rfl,rfl,rfl,rfl⟩ (h.good.err hk)).1
def deeper (s:St) (s2:St):St:=if 20<=s.depth then s.err 8 else { s2 with depth:=s2.depth - 1 }
theorem downM_no (w:World) (rb:Nat) (cd:w.cell? ⟨rb,3,none⟩=some (.int .i64 20)):Calls Tryz.prog 158 #[pt rb] w fun e w'=>e=.returned (.int .i64 8)/\w'=w:=by
 go_enter Tryz.func158,Tryz.ntmps158;go_wp2;go_ret;exact⟨rfl,rfl⟩
theorem downM_ok (w:World) (rb:Nat) (d:Int) (h0:0<=d) (h1:d < 20) (cd:w.cell? ⟨rb,3,none⟩=some (.int .i64 d)) (fd:w.frozen? ⟨rb,3,none⟩=false):Calls Tryz.prog 158 #[pt rb] w fun e w'=>e=.returned (.int .i64 0)/\w'=w.setCell ⟨rb,3,none⟩ (.int .i64 (d+1)):=by
 go_enter Tryz.func158,Tryz.ntmps158;go_wp2;go_ret;exact⟨rfl,rfl⟩
theorem upM (w:World) (rb:Nat) (d:Int) (h0:0<=d) (h1:d<=20) (cd:w.cell? ⟨rb,3,none⟩=some (.int .i64 (d+1))) (fd:w.frozen? ⟨rb,3,none⟩=false):Calls Tryz.prog 159 #[pt rb] w fun e w'=>e=.returned (.tuple #[])/\w'=w.setCell ⟨rb,3,none⟩ (.int .i64 d):=by
 go_enter Tryz.func159,Tryz.ntmps159;go_wp2;refine bodyPost_end (results_none rfl _ _ _) rfl ?_;exact⟨rfl,rfl⟩
theorem downP (h:PR B W w xb rb mb m D s):Calls Tryz.prog 158 #[pt rb] w fun e w'=>(20<=s.depth/\e=.returned (.int .i64 8)/\w'=w)\/(¬ 20<=s.depth/\e=.returned (.int .i64 0)/\w'=w.setCell ⟨rb,3,none⟩ (.int .i64 (s.depth+1))):=by
 obtain⟨ns,hi,hn⟩:=h.inv;have hd0:=h.good.d0;have hd1:=h.good.d1;have cd:w.cell? ⟨rb,3,none⟩=some (.int .i64 s.depth):=by rw[<-h.dp];exact hi.rblk.cell rfl
 by_cases h20:20<=s.depth
 ·rw[show s.depth=20 by omega] at cd;refine (downM_no w rb cd).mono ?_;rintro e w' ⟨rfl,rfl⟩;exact .inl ⟨h20,rfl,rfl⟩
 ·refine (downM_ok w rb s.depth hd0 (by omega) cd (hi.rblk.free 3)).mono ?_;rintro e w' ⟨rfl,rfl⟩;exact .inr ⟨h20,rfl,rfl⟩
theorem upP (h:PR B W w xb rb mb m D s) (d:Int) (h0:0<=d) (h1:d < 20) (hd:s.depth=d+1):Calls Tryz.prog 159 #[pt rb] w fun e w'=>e=.returned (.tuple #[])/\PPost B W xb rb mb w m D { s with depth:=s.depth - 1 } w':=by
 obtain⟨ns,hi,hn⟩:=h.inv;have cd:w.cell? ⟨rb,3,none⟩=some (.int .i64 (d+1)):=by rw[<-hd,<-h.dp];exact hi.rblk.cell rfl
 refine (upM w rb d h0 (by omega) cd (hi.rblk.free 3)).mono ?_;rintro e w' ⟨rfl,rfl⟩;rw[show s.depth - 1=d by omega];obtain⟨h3,t3⟩:=h.setDp d h0 (by omega);exact⟨rfl,_,D,h3,t3⟩
theorem deepP (h:PR B W w xb rb mb m D s) (db n:Nat) (ff fc:Array Value) (hb:BD D.d w db 125 #[.func (.func n) ff fc]) (s2:St)
  (hact:¬ 20<=s.depth->s2.depth=s.depth+1/\∀ w1 m1,PR B W w1 xb rb mb m1 D { s with depth:=s.depth+1 }->PTo xb rb mb w w1 m m1 D D->CallsV (.func (.func n) ff fc) (pt rb) w1 fun e w'=>e=.returned (.int .i64 s2.e)/\PPost B W xb rb mb w1 m1 D s2 w'):
  CallsV (fDeep db) (pt rb) w fun e w'=>e=.returned (.int .i64 (deeper s s2).e)/\PPost B W xb rb mb w m D (deeper s s2) w':=by
 refine⟨_,_,_,rfl,ent_deep,?_⟩;show Calls Tryz.prog 157 #[pt rb,pt db] w _;have HDn:=hide (downP h);by_cases h20:20<=s.depth
 ·have HD:Hid (deeper s s2=s.err 8):=if_pos h20;have HE:=hide (h.toErr 8 (by decide));have HDN:Hid (Calls Tryz.prog 158 #[pt rb] w fun e w'=>e=.returned (.int .i64 8)/\w'=w):=HDn.out.mono (fun e w' q=>q.elim (fun q=>q.2) (fun q=>absurd h20 q.1));clear hact h20 h hb HDn;go_enter Tryz.func157,Tryz.ntmps157
  go_wp2_with fail
  refine HDN.out.mono ?_;rintro e w1 ⟨rfl,rfl⟩;go_wp2;go_ret;rw[HD.out];exact⟨rfl,m,D,HE.out,PTo.refl _ _ _ _ _ _⟩
 ·obtain⟨hs2,hact⟩:=hact h20;have hd0:=h.good.d0;obtain⟨h1,t1⟩:=h.setDp (s.depth+1) (by omega) (by omega);have hb1:=(h.keepD t1 _ _ _ hb).2;have cb:(w.setCell ⟨rb,3,none⟩ (.int .i64 (s.depth+1))).cell? ⟨db,0,none⟩=some (.func (.func n) ff fc):=hb1.cell rfl;have HD:Hid (deeper s s2={ s2 with depth:=s2.depth - 1 }):=if_neg h20;have HDN:Hid (Calls Tryz.prog 158 #[pt rb] w fun e w'=>e=.returned (.int .i64 0)/\w'=w.setCell ⟨rb,3,none⟩ (.int .i64 (s.depth+1))):=HDn.out.mono (fun e w' q=>q.elim (fun q=>absurd q.1 h20) (fun q=>q.2));have hcall:=hact _ _ h1 t1;obtain⟨fn,fff,ffc,hv,hen,hcall⟩:=hcall;injection hv with hv1 hv2 hv3;injection hv1 with hv1;subst hv1;subst hv2;subst hv3;unfold Ents at hen;have HC:=hide hcall;have HT:=hide t1;obtain⟨W1,hW1⟩:∃ W1,W1=w.setCell ⟨rb,3,none⟩ (.int .i64 (s.depth+1)):=⟨_,rfl⟩;rw[<-hW1] at HC HT HDN cb;have hlt:s.depth < 20:=by omega
  clear hact hcall h1 t1 hb1 hb h HDn hW1 h20;go_enter Tryz.func157,Tryz.ntmps157
  go_wp2_with fail
  refine HDN.out.mono ?_;rintro e w0 ⟨rfl,rfl⟩
  go_wp2_with fail
  refine HC.out.mono ?_;rintro e w1 ⟨rfl,m1,D1,hr1,ht1⟩;have HU:=hide (upP hr1 s.depth hd0 hlt hs2);have HT3:=hide (HT.out.trans ht1);clear hr1 ht1 HC HT HDN
  go_wp2_with fail
  refine HU.out.mono ?_;rintro e w2 ⟨rfl,hp⟩;have HP:=hide (hp.step HT3.out);clear hp HU HT3;go_wp2;go_ret;rw[HD.out];exact⟨rfl,HP.out⟩
end
end
section
open Go.RowKit
theorem nil_own (k:Nat):¬ own (.slice none 0 0) k:=by simp[own,Value.ownBlock]
theorem FT.toP {xb rb mb:Nat} {w w':World} {m m':MS} {D D':GD} {lv':Value} {o:Obj} (h:FT xb rb mb w.heap.size (w.alloc o) w' m m' D D' (.slice none 0 0) lv'):PTo xb rb mb w w' m m' D D':=by
 have hk:Kp w w' (fun k=>((k=xb\/k=rb)\/k=mb)\/((own m.sv k\/own m.ov k)\/D.u k)):=by
  have h1:Kp w (w.alloc o) (fun k=>(((k=xb\/k=rb)\/k=mb)\/k=w.heap.size)\/(((own m.sv k\/own m.ov k)\/D.u k)\/own (.slice none 0 0) k)):=(Kp.refl w _).alloc o;refine (h1.trans h.wt.kp).mono (fun k hlt hk=>?_);rcases hk with (hk|hk)|(hk|hk)
  ·exact .inl hk
  ·omega
  ·exact .inr hk
  ·exact absurd hk (nil_own k)
 refine⟨⟨hk,fun k hk2=>?_⟩,h.up,fun k hk2=>?_,h.rg,h.bk⟩
 ·rcases h.wt.nx k (.inl hk2) with (e|e)|e
  ·exact .inl e
  ·exact absurd e (nil_own k)
  ·right;rw[World.size_alloc] at e;omega
 ·rcases h.nw k hk2 with e|e
  ·exact .inl e
  ·right;rw[World.size_alloc] at e;omega
theorem wordRunX {B:Nat} {W:World} (g:Nat) (hB:QB B W g):QW B W g:=by
 intro w xb rb mb m D s s' f ob left hr he hW hx;have hk0:=(Kp.refl w (fun _=>False)).alloc (.cells #[pt rb,.slice none 0 0,.int .i64 0] 247);obtain⟨h1,t1⟩:=hr.kp hk0;have hf:FrR B (w.alloc (.cells #[pt rb,.slice none 0 0,.int .i64 0] 247)) w.heap.size rb m D (.slice none 0 0) 0 []:=
  ⟨Blk.new w _ _,World.ownsRow_nil _ _ _ _,by simp,fun k hk=>absurd hk (nil_own k),fun hd=>by have:=(hr.sep _ hd).1;omega,fun k hk=>absurd hk (nil_own k),fun hd=>by have:=hr.ult hd;omega,fun k hk=>absurd hk (nil_own k),hr.safe.bs,fun k hk=>absurd hk (nil_own k)⟩
 obtain⟨c,hc⟩:=hr.words.wds.ok _ _ hW;obtain⟨c1,hc1⟩:=h1.words.wds.ok _ _ hW;have hA:=hc.ac;have hkd:=hr.keepD t1;have hbl:=hc.blk.alloc (.cells #[pt rb,.slice none 0 0,.int .i64 0] 247);have ca:(w.alloc (.cells #[pt rb,.slice none 0 0,.int .i64 0] 247)).cell? ⟨ob,3,none⟩=some c.av:=hbl.cell rfl;have ca0:w.cell? ⟨ob,3,none⟩=some c.av:=hc.blk.cell rfl;have hol:=hc.blk.lt;obtain⟨ao,cap,hav⟩:=hA.form;rw[hav] at ca ca0 hA;have HC:=hide (hB _ xb rb mb w.heap.size m D s s' f [] [] (.slice none 0 0) ob (.slice ao f.body.length cap) f.body left (PQ.refl _) h1 he hf (by simp;exact hr.good.s0) (by obtain⟨G,hG⟩:=hc.wf;exact⟨G,false,hG,fun h=>by cases h⟩) (hA.mono hkd (fun _ _ h=>h)) hW hx);clear hB hr he hx h1 t1 hf hA hkd hk0 hc hc1 hW hbl hav;go_enter Tryz.func161,Tryz.ntmps161
 go_wp2_with fail
 refine HC.out.mono ?_;rintro e w1 ⟨rfl,m1,D1,lv1,hr1,hf1,ht1⟩;have cw:w1.cell? ⟨w.heap.size,2,none⟩=some (.int .i64 s'.e):=hf1.blk.cell rfl;have H1:=hide hr1;have H2:=hide ht1.toP;clear hr1 hf1 ht1 HC;go_wp2;go_ret;exact⟨rfl,m1,D1,H1.out,H2.out⟩
abbrev nib (d:Def):Tok × Int × List It:=(d.name,d.id,d.body)
theorem WordsR.same {D:GD} {w:World} {bk mb:Nat} {defs defs':List Def} (h:WordsR D w bk mb defs) (hn:defs'.map nib=defs.map nib):WordsR D w bk mb defs':=by
 have hl:defs'.length=defs.length:=by have:=congrArg List.length hn;simpa using this
 have hat:∀ k (h1:k < defs'.length) (h2:k < defs.length),frD defs'[k]=frD defs[k]:=by
  intro k h1 h2;have:=congrArg (fun l=>l[k]?) hn;simp[h1,h2] at this;obtain⟨q1,q2,q3⟩:=this;show (⟨_,_,_⟩:Fr)=⟨_,_,_⟩;rw[q1,q2,q3]
 have hf:∀ t,defs'.findIdx? (fun d=>d.name == t)=defs.findIdx? (fun d=>d.name == t):=by
  intro t;have e:∀ l:List Def,l.findIdx? (fun d=>d.name == t)=(l.map nib).findIdx? (fun p=>p.1 == t):=by
   intro l;rw[List.findIdx?_map];rfl
  rw[e,e,hn]
 have hkn:knowD defs'=knowD defs:=by funext t;unfold knowD;rw[hf]
 have hnm:∀ k (h1:k < defs'.length) (h2:k < defs.length),defs'[k].name=defs[k].name:=fun k h1 h2=>congrArg Fr.name (hat k h1 h2);obtain⟨obs,DD,h⟩:=h;refine⟨obs,DD,by rw[hl];exact h.ol,by rw[hl];exact h.mp,by rw[hl];exact h.sz,fun t ht=>by rw[hf];exact h.hs t ht,by rw[hl];exact h.l30,fun t ht=>by rw[hf];exact h.lk t ht,fun i j hi hj e=>h.nd i j (by omega) (by omega) (by rw[<-hnm i hi (by omega),<-hnm j hj (by omega)];exact e),h.wd,fun k hk=>?_,fun o f ho=>?_⟩
 ·have hk':k < defs.length:=by omega
  have hq:=hat k hk hk';have hb:defs'[k].body=defs[k].body:=congrArg Fr.body hq;rw[hq,hb,hkn];exact h.cur k hk'
 ·obtain⟨q,h1⟩:=h.reg o f ho;rw[hkn];refine⟨q,h1.imp (fun ⟨k,hk,e0,e1,e2⟩=>⟨k,by omega,by rw[hf];exact e0,e1,?_⟩) id⟩;rw[hat k (by omega) hk];exact e2
theorem set_same_map {defs:List Def} {k:Nat} {d:Def} (h:defs[k]? = some d) (d':Def) (h1:d'.name=d.name) (h2:d'.body=d.body) (h3:d'.id=d.id):(defs.set k d').map nib=defs.map nib:=by
 rw[List.map_set]
 apply List.ext_getElem?
 intro i;rw[List.getElem?_set]
 split
 ·rename_i e
  subst e
  split
  ·simp[h,h1,h2,h3]
  ·rename_i hlt;simp at hlt;rw[List.getElem?_eq_none hlt] at h;cases h
 ·rfl
theorem St.count_same {g:Nat} {s s':St} {k:Nat} (h:s.count g k=some s'):s'.defs.map nib=s.defs.map nib/\s'={ s with defs:=s'.defs }:=by
 unfold St.count at h
 split at h
 ·cases h
 ·rename_i d hd
  split at h
  ·injection h with h;subst h;exact⟨rfl,rfl⟩
  ·split at h
   ·injection h with h;subst h;exact⟨set_same_map hd _ rfl rfl rfl,rfl⟩
   ·split at h
    ·cases h
    ·injection h with h;subst h;exact⟨set_same_map hd _ rfl rfl rfl,rfl⟩
theorem xCome_same {g:Nat} {f:Fr} {s s':St} (h:xCome g f s=some s'):s'.defs.map nib=s.defs.map nib/\s'={ s with defs:=s'.defs }:=by
 unfold xCome at h
 split at h
 ·injection h with h;subst h;exact⟨rfl,rfl⟩
 ·split at h
  ·cases h
  ·split at h
   ·exact St.count_same h
   ·injection h with h;subst h;exact⟨rfl,rfl⟩
end
section
open Go.RowKit
structure Bld (R C:Nat->Fr->Prop) (K:List Tok) (bo:Tok->Option (List It)) (bk mb:Nat) (E:Nat->Prop) (w:World):Prop where
 book:∃ h b,Blk w bk 106 #[.map (some mb),.int .i64 h,.int .i64 b]
 mp:∃ n DD,w.ownsMap Tryz.prog 9 heldR mb n DD
 kl:K.length<=30
 look:∀ nm:ByteArray,nm.data.toList∈K->∃ (o:Nat) (f:Fr) (c:WC),C o f/\R o f/\f.name=nm.data.toList/\bo f.name=some f.body/\(∀ w0:World,w0.heap[mb]? = w.heap[mb]?->(Instr.lookup 104 (.map (some mb)) (.string nm) false).run Tryz.prog w0=.ok (pt o) w0)/\Blk w o 111 c.arr/\c.nm=nm/\nm.size<=1000/\Items (BD E w) c.iv f.body/\Acts (BD E w) R bk o c.sv f.body/\∃ G,wb (fun t=>t∈K) G false f.body
def MadeOk (R:Nat->Fr->Prop) (K:List Tok) (bo:Tok->Option (List It)) (bk:Nat) (E:Nat->Prop) (S:Tok->Prop) (a:Nat) (w:World):Prop:=
 ∃ DD,(∃ n,w.ownsMap Tryz.prog 284 heldR a n DD)/\∀ kl,Maps.has DD kl=true->∃ (nm:ByteArray) (lf:Nat) (c:Value),keyOf Tryz.prog 284 (siteV nm lf)=some kl/\nm.data.toList∈K/\lf<=3/\(∀ zd,DD.atKey kl zd=.held c)/\callR (BD E w) R bk (Acts (BD E w) R bk) nm.data.toList c/\∀ t,Bc bo lf nm.data.toList t->S t
def PartsOk (C:Nat->Fr->Prop) (K:List Tok) (S:Tok->Prop) (b:Nat) (w:World):Prop:=
 ∃ DD,(∃ n,w.ownsMap Tryz.prog 9 heldR b n DD)/\(∀ t:Tok,t.length<=maxLen->(Maps.has DD (.string t)=true<->S t))/\∀ kl,Maps.has DD kl=true->∃ o f,kl=.string f.name/\f.name∈K/\C o f/\∀ zd,DD.atKey kl zd=.held (pt o)
structure JB (R C:Nat->Fr->Prop) (K:List Tok) (bo:Tok->Option (List It)) (bk mb a b:Nat) (E:Nat->Prop) (S:Tok->Prop) (w:World):Prop where
 bld:Bld R C K bo bk mb E w
 mde:MadeOk R K bo bk E S a w
 pts:PartsOk C K S b w
 ab:a ≠ b
 am:a ≠ mb
 bm:b ≠ mb
theorem map_neG {P:Program} {k:TypeId} {R:Value->Option (DataW Value × List MemPlace)} {w:World} {b n:Nat} {DD:DataW Value} (h:w.ownsMap P k R b n DD) {b':Nat} {t:TypeId} {c:Array Value} (hb:Blk w b' t c):b ≠ b':=by
 obtain⟨es,clock,h1,_⟩:=h;rintro rfl;have:w.heap[b]? = _:=hb;rw[h1] at this;injection this with this;cases this
theorem ownsMap_sameG {P:Program} {k:TypeId} {R:Value->Option (DataW Value × List MemPlace)} {w w':World} {b n:Nat} {DD:DataW Value} (h:w.ownsMap P k R b n DD) (e:w'.heap[b]? = w.heap[b]?):w'.ownsMap P k R b n DD:=by
 obtain⟨es,clock,h1,h2⟩:=h;exact⟨es,clock,e.trans h1,h2⟩
section
variable {R C:Nat->Fr->Prop} {K:List Tok} {bo:Tok->Option (List It)} {bk mb a b:Nat} {E E':Nat->Prop} {S S':Tok->Prop} {w w':World}
theorem Bld.frame {T:Nat->Prop} (h:Bld R C K bo bk mb E w) (hk:Kp w w' T) (hb:∀ k t c,Blk w k t c->t=106\/t=111->¬ T k) (hm:¬ T mb) (hE:∀ b t c,BD E w b t c->BD E' w' b t c):Bld R C K bo bk mb E' w':=by
 obtain⟨h0,b0,hbk⟩:=h.book;obtain⟨n,DD,hmp⟩:=h.mp;have hme:=hk.block mb hmp.lt hm;refine⟨⟨h0,b0,hk.blk hbk (hb _ _ _ hbk (.inl rfl))⟩,⟨n,DD,ownsMap_same hmp hme⟩,h.kl,fun nm hnm=>?_⟩;obtain⟨o,f,c,q1,q2,q3,q4,q5,q6,q7,q8,q9,q10,q11⟩:=h.look nm hnm;exact⟨o,f,c,q1,q2,q3,q4,fun w0 e=>q5 w0 (e.trans hme),hk.blk q6 (hb _ _ _ q6 (.inr rfl)),q7,q8,q9.mono hE,q10.mono hE (fun _ _ h=>h),q11⟩
theorem MadeOk.frame (h:MadeOk R K bo bk E S a w) (hm:w'.heap[a]? = w.heap[a]?) (hE:∀ b t c,BD E w b t c->BD E' w' b t c) (hS:∀ t,S t->S' t):MadeOk R K bo bk E' S' a w':=by
 obtain⟨DD,⟨n,h1⟩,h2⟩:=h;refine⟨DD,⟨n,ownsMap_sameG h1 hm⟩,fun kl hkl=>?_⟩;obtain⟨nm,lf,c,q1,q2,q3,q4,q5,q6⟩:=h2 kl hkl;exact⟨nm,lf,c,q1,q2,q3,q4,callR_mono hE (fun _ _ h=>h) (fun _ _ _ h=>h.mono hE (fun _ _ h=>h)) q5,fun t ht=>hS t (q6 t ht)⟩
theorem PartsOk.frame (h:PartsOk C K S b w) (hm:w'.heap[b]? = w.heap[b]?):PartsOk C K S b w':=by
 obtain⟨DD,⟨n,h1⟩,h2⟩:=h;exact⟨DD,⟨n,ownsMap_same h1 hm⟩,h2⟩
theorem MadeOk.lt (h:MadeOk R K bo bk E S a w):a < w.heap.size:=by obtain⟨DD,⟨n,h1⟩,h2⟩:=h;exact h1.lt
theorem PartsOk.lt (h:PartsOk C K S b w):b < w.heap.size:=by obtain⟨DD,⟨n,h1⟩,h2⟩:=h;exact h1.lt
theorem MadeOk.ne (h:MadeOk R K bo bk E S a w) {b':Nat} {t:TypeId} {c:Array Value} (hb:Blk w b' t c):a ≠ b':=by obtain⟨DD,⟨n,h1⟩,h2⟩:=h;exact map_neG h1 hb
theorem PartsOk.ne (h:PartsOk C K S b w) {b':Nat} {t:TypeId} {c:Array Value} (hb:Blk w b' t c):b ≠ b':=by obtain⟨DD,⟨n,h1⟩,h2⟩:=h;exact map_ne h1 hb
theorem JB.fr {T:Nat->Prop} (h:JB R C K bo bk mb a b E S w) (hk:Kp w w' T) (hT:∀ k,T k->k < w.heap.size->∃ c,Blk w k 243 c) (hE:∀ k,k < w.heap.size->E k->E' k/\¬ T k):JB R C K bo bk mb a b E' S w':=by
 have hEE:=BD_keep (D:=E) (D':=E') hk hE;obtain⟨n,DD,hmp⟩:=h.bld.mp;have nm:∀ k,k < w.heap.size->(∀ t c,¬ Blk w k t c)->¬ T k:=fun k hk hn e=>by obtain⟨c,hc⟩:=hT k e hk;exact hn _ c hc
 refine⟨h.bld.frame hk (fun k t c hb ht e=>?_) (nm mb hmp.lt (fun t c hb=>map_ne hmp hb rfl)) hEE,h.mde.frame (hk.block a h.mde.lt (nm a h.mde.lt (fun t c hb=>h.mde.ne hb rfl))) hEE (fun _ h=>h),h.pts.frame (hk.block b h.pts.lt (nm b h.pts.lt (fun t c hb=>h.pts.ne hb rfl))),h.ab,h.am,h.bm⟩;obtain⟨c',hc'⟩:=hT k e hb.lt;have:=(hb.inj hc').1;rcases ht with ht|ht
 ·rw[ht] at this;exact absurd this (by decide)
 ·rw[ht] at this;exact absurd this (by decide)
theorem JB.kp (h:JB R C K bo bk mb a b E S w) (hk:Kp w w' (fun _=>False)):JB R C K bo bk mb a b E S w':=h.fr hk (fun _ e=>e.elim) (fun _ _ e=>⟨e,fun e=>e⟩)
theorem JB.mp (h:JB R C K bo bk mb a b E S w) (k:Nat) (t:TypeId) (c:Array Value) (hf:Ft (some a) (some b) k):¬ Blk w k t c:=by
 rcases hf with e|e
 ·injection e with e;subst e;exact fun hb=>h.mde.ne hb rfl
 ·injection e with e;subst e;exact fun hb=>h.pts.ne hb rfl
theorem JB.putPart (h:JB R C K bo bk mb a b E S w) (nm:ByteArray) (hnm:nm.data.toList∈K) (hs:nm.size<=1000) (o:Nat) (f:Fr) (hC:C o f) (hf:f.name=nm.data.toList):
  ∃ w2,(Instr.mapUpdate 104 (.map (some b)) (.string nm) (pt o)).run Tryz.prog w=.ok () w2/\Kp w w2 (fun k=>k=b)/\JB R C K bo bk mb a b E (fun t=>S t\/t=nm.data.toList) w2:=by
 obtain⟨DD,⟨n,h1⟩,h2,h3⟩:=h.pts;have hsz:nm.size<=maxLen:=Nat.le_trans hs (by decide);have hle:Maps.size DD<=(K.map Lit.string).length:=map_size_le h1 (Maps.string_keyed Tryz.underlying9) _ (fun kl hkl=>by
  obtain⟨o,f,e1,e2,_⟩:=h3 kl hkl;rw[e1];exact List.mem_map.2 ⟨_,e2,rfl⟩)
 have hkl:=h.bld.kl;have hl30:Maps.size DD < maxLen:=by
  rw[List.length_map] at hle;have h30:(30:Nat) < maxLen:=by decide
  omega
 obtain⟨w2,hrun,hm2,hg⟩:=(own_tightG h1).update (Maps.string_keyed Tryz.underlying9) Tryz.underlying104 hl30 (key:=.string nm) (val:=pt o) (kl:=.string nm.data.toList) (d:=.held (pt o)) (ps:=[]) (keyS nm hsz) rfl;have htd:=h1.tidy (Maps.string_keyed Tryz.underlying9);have hkp:Kp w w2 (fun k=>k=b):=(Kp.refl w _).grown hg (fun k _ e=>(Option.some.inj e).symm);have hne:∀ k t c,Blk w k t c->¬ k=b:=fun k t c hb e=>h.pts.ne hb e.symm;have hk0:WideAt.IsKeyLit (.string nm.data.toList):=trivial;obtain⟨n0,DD0,hmp⟩:=h.bld.mp;refine⟨w2,hrun,hkp,⟨h.bld.frame hkp (fun k t c hb _=>hne k t c hb) (fun e=>h.bm e.symm) (fun k t c hb=>⟨hb.1,hkp.blk hb.2 (hne _ _ _ hb.2)⟩),h.mde.frame (hkp.block a h.mde.lt h.ab) (fun k t c hb=>⟨hb.1,hkp.blk hb.2 (hne _ _ _ hb.2)⟩) (fun _ h=>.inl h),⟨_,⟨_,hm2⟩,fun t ht=>?_,fun kl hkl=>?_⟩,h.ab,h.am,h.bm⟩⟩
 ·by_cases e:t=nm.data.toList
  ·subst e;rw[Maps.has_put_same htd.isMap hk0];exact⟨fun _=>.inr rfl,fun _=>rfl⟩
  ·rw[Maps.has_put_other (fun q=>e (by injection q)),h2 t ht];exact⟨.inl,fun q=>q.elim id (fun q=>absurd q e)⟩
 ·by_cases e:kl=.string nm.data.toList
  ·subst e;exact⟨o,f,by rw[hf],by rw[hf];exact hnm,hC,fun zd=>Maps.atKey_put_same htd.isMap hk0 _ _⟩
  ·rw[Maps.has_put_other e] at hkl;obtain⟨o',f',q1,q2,q3,q4⟩:=h3 kl hkl;exact⟨o',f',q1,q2,q3,fun zd=>by rw[Maps.atKey_put_other e];exact q4 zd⟩
theorem zeroA (w:World):(zeroValue 243).run Tryz.prog w=.ok .nilFunc w:=by kernel_rfl
theorem wfL (lf:Nat) (h:lf<=3):(Lit.int .i64 (lf:Int)).wf=true:=WalkArith.wf_i64 (by omega)
theorem lookG {w:World} {a n:Nat} {DD:DataW Value} (h:w.ownsMap Tryz.prog 284 heldR a n DD) {nm:ByteArray} {lf:Int} {kl:Lit} (hk:keyOf Tryz.prog 284 (siteV nm lf)=some kl) {v:Value} (hv:DD.atKey kl (.held .nilFunc)=.held v):
  (Instr.lookup 204 (.map (some a)) (siteV nm lf) false).run Tryz.prog w=.ok v w:=by
 obtain⟨v',ps,hrun,hv'⟩:=h.lookup Tryz.lawS Tryz.underlying204 (zeroA w) (zd:=.held .nilFunc) (zp:=[]) rfl hk;rw[hv] at hv';have h1:some (DataW.held v',[])=some (DataW.held v,ps):=hv';have h2:DataW.held v'=DataW.held v:=congrArg Prod.fst (Option.some.inj h1);rw[<-DataW.held.inj h2];exact hrun
theorem JB.putMade (h:JB R C K bo bk mb a b E S w) (nm:ByteArray) (hnm:nm.data.toList∈K) (hs:nm.size<=1000) (lf:Nat) (hlf:lf<=3) (c:Value) (hc:callR (BD E w) R bk (Acts (BD E w) R bk) nm.data.toList c) (hS:∀ t,Bc bo lf nm.data.toList t->S t):
  ∃ w2,(Instr.mapUpdate 204 (.map (some a)) (siteV nm lf) c).run Tryz.prog w=.ok () w2/\Kp w w2 (fun k=>k=a)/\JB R C K bo bk mb a b E S w2/\(∀ w0:World,w0.heap[a]? = w2.heap[a]?->(Instr.lookup 204 (.map (some a)) (siteV nm lf) false).run Tryz.prog w0=.ok c w0):=by
 obtain⟨DD,⟨n,h1⟩,h2⟩:=h.mde;have hsz:nm.size<=maxLen:=Nat.le_trans hs (by decide);obtain⟨kl,hkl⟩:=keySite nm hsz lf (wfL lf hlf);have hle:Maps.size DD<=((K.map (fun t=>(keyOf Tryz.prog 284 (siteV ⟨t.toArray⟩ ((0:Nat):Int))).getD .nil)) ++ (K.map (fun t=>(keyOf Tryz.prog 284 (siteV ⟨t.toArray⟩ ((1:Nat):Int))).getD .nil)) ++ (K.map (fun t=>(keyOf Tryz.prog 284 (siteV ⟨t.toArray⟩ ((2:Nat):Int))).getD .nil)) ++ (K.map (fun t=>(keyOf Tryz.prog 284 (siteV ⟨t.toArray⟩ ((3:Nat):Int))).getD .nil))).length:=map_size_le h1 Tryz.lawS _ (fun kl' hkl'=>by
  obtain⟨nm',lf',c',q1,q2,q3,_⟩:=h2 kl' hkl';have he:(⟨nm'.data.toList.toArray⟩:ByteArray)=nm':=by simp
  have hm:∀ j:Nat,lf'=j->kl'∈K.map (fun t=>(keyOf Tryz.prog 284 (siteV ⟨t.toArray⟩ ((j:Nat):Int))).getD .nil):=fun j e=>List.mem_map.2 ⟨_,q2,by rw[he,<-e,q1];rfl⟩;simp only[List.mem_append]
  match lf',q3,hm with
  | 0,_,hm=>exact .inl (.inl (.inl (hm 0 rfl)))
  | 1,_,hm=>exact .inl (.inl (.inr (hm 1 rfl)))
  | 2,_,hm=>exact .inl (.inr (hm 2 rfl))
  | 3,_,hm=>exact .inr (hm 3 rfl))
 simp only[List.length_append,List.length_map] at hle;have hkl30:=h.bld.kl;have hl120:Maps.size DD < maxLen:=by
  have h120:(120:Nat) < maxLen:=by decide
  omega
 obtain⟨w2,hrun,hm2,hg⟩:=(own_tightG h1).update Tryz.lawS Tryz.underlying204 hl120 (key:=siteV nm lf) (val:=c) (kl:=kl) (d:=.held c) (ps:=[]) hkl rfl;have htd:=h1.tidy Tryz.lawS;have hkp:Kp w w2 (fun k=>k=a):=(Kp.refl w _).grown hg (fun k _ e=>(Option.some.inj e).symm);have hne:∀ k t c,Blk w k t c->¬ k=a:=fun k t c hb e=>h.mde.ne hb e.symm;have hEE:∀ k t c,BD E w k t c->BD E w2 k t c:=fun k t c hb=>⟨hb.1,hkp.blk hb.2 (hne _ _ _ hb.2)⟩;refine⟨w2,hrun,hkp,⟨h.bld.frame hkp (fun k t c hb _=>hne k t c hb) (fun e=>h.am e.symm) hEE,⟨_,⟨_,hm2⟩,fun kl' hkl'=>?_⟩,h.pts.frame (hkp.block b h.pts.lt (fun e=>h.ab e.symm)),h.ab,h.am,h.bm⟩,fun w0 e0=>lookG (ownsMap_sameG hm2 e0) hkl (Maps.atKey_put_same htd.isMap (Tryz.lawS.key hkl) _ _)⟩;by_cases e:kl'=kl
 ·subst e;exact⟨nm,lf,c,hkl,hnm,hlf,fun zd=>Maps.atKey_put_same htd.isMap (Tryz.lawS.key hkl) _ _,callR_mono hEE (fun _ _ h=>h) (fun _ _ _ h=>h.mono hEE (fun _ _ h=>h)) hc,hS⟩
 ·rw[Maps.has_put_other e] at hkl';obtain⟨nm',lf',c',q1,q2,q3,q4,q5,q6⟩:=h2 kl' hkl';exact⟨nm',lf',c',q1,q2,q3,fun zd=>by rw[Maps.atKey_put_other e];exact q4 zd,callR_mono hEE (fun _ _ h=>h) (fun _ _ _ h=>h.mono hEE (fun _ _ h=>h)) q5,q6⟩
theorem JB.lookMade (h:JB R C K bo bk mb a b E S w) (nm:ByteArray) (hs:nm.size<=1000) (lf:Nat) (hlf:lf<=3):
  ∃ v,(∀ w0:World,w0.heap[a]? = w.heap[a]?->(Instr.lookup 204 (.map (some a)) (siteV nm lf) false).run Tryz.prog w0=.ok v w0)/\(v=.nilFunc\/(callR (BD E w) R bk (Acts (BD E w) R bk) nm.data.toList v/\∀ t,Bc bo lf nm.data.toList t->S t)):=by
 obtain⟨DD,⟨n,h1⟩,h2⟩:=h.mde;obtain⟨kl,hkl⟩:=keySite nm (Nat.le_trans hs (by decide)) lf (wfL lf hlf)
 cases hh:Maps.has DD kl with
 | false=>exact⟨.nilFunc,fun w0 e0=>lookG (ownsMap_sameG h1 e0) hkl (Maps.atKey_of_not_has hh _),.inl rfl⟩
 | true=>
  obtain⟨nm',lf',c',q1,q2,q3,q4,q5,q6⟩:=h2 kl hh;obtain⟨e1,e2⟩:=siteInj hkl q1;subst e1;have e2:lf=lf':=by omega
  subst e2;exact⟨c',fun w0 e0=>lookG (ownsMap_sameG h1 e0) hkl (q4 _),.inr ⟨q5,q6⟩⟩
end
end
section
open Go.RowKit
section
variable {R C:Nat->Fr->Prop} {K:List Tok} {bo:Tok->Option (List It)} {bk mb a b:Nat} {E:Nat->Prop} {S:Tok->Prop} {w:World}
def BodyC (R C:Nat->Fr->Prop) (K:List Tok) (bo:Tok->Option (List It)) (bk mb a b n:Nat):Prop:=∀ (E:Nat->Prop) (S:Tok->Prop) (w:World) (o:Nat) (f:Fr) (c:WC),JB R C K bo bk mb a b E S w->Up E w->Blk w o 111 c.arr->Items (BD E w) c.iv f.body->Acts (BD E w) R bk o c.sv f.body->(∃ G,wb (fun t=>t∈K) G false f.body) ->
 Calls Tryz.prog 232 #[.agg #[pt bk,pt o,.int .i64 (n:Int),.map (some a),.map (some b)]] w fun e w'=>∃ ao cap,e=.returned (.slice ao f.body.length cap)/\Kp w w' (Ft (some a) (some b))/\Acts (BD E w') R bk o (.slice ao f.body.length cap) f.body/\JB R C K bo bk mb a b E (fun t=>S t\/Bd bo n f.body t) w'
theorem body0:BodyC R C K bo bk mb a b 0:=by
 intro E S w o f c hJ hU hb hI hA hwb;obtain⟨ao,cap,hav⟩:=hA.form;have hb1:=hb.alloc (.cells #[pt bk,pt o,.int .i64 ((0:Nat):Int),.map (some a),.map (some b)] 206);have c2:(w.alloc (.cells #[pt bk,pt o,.int .i64 ((0:Nat):Int),.map (some a),.map (some b)] 206)).cell? ⟨o,2,none⟩=some (.slice ao f.body.length cap):=by rw[<-hav];exact hb1.cell rfl
 have c20:w.cell? ⟨o,2,none⟩=some (.slice ao f.body.length cap):=by rw[<-hav];exact hb.cell rfl
 have hol:=hb.lt;have HJ:=hide hJ;rw[hav] at hA;have HA:=hide hA;clear hJ hA hI hb hb1 hwb hav hU;go_enter Tryz.func232,Tryz.ntmps232;go_wp2;go_ret;have hk:=(Kp.refl w (fun _=>False)).alloc (.cells #[pt bk,pt o,.int .i64 ((0:Nat):Int),.map (some a),.map (some b)] 206);refine⟨ao,cap,rfl,hk.ft _ _,HA.out.mono (fun b t c h=>⟨h.1,h.2.alloc _⟩) (fun _ _ h=>h),?_⟩;rw[show (fun t=>S t\/Bd bo 0 f.body t)=S by funext t;exact propext ⟨fun q=>q.elim id (fun q=>absurd q (Bd.zero _ _ _)),.inl⟩];exact HJ.out.kp hk
theorem bodyS (n:Nat) (hn:n+1<=3) (hC:JC R (fun t=>t∈K) bo bk (n+1) (some a) (some b) (JB R C K bo bk mb a b)):BodyC R C K bo bk mb a b (n+1):=by
 intro E S w o f c hJ hU hb hI hA hwb;obtain⟨g,hg⟩:=hI;have hk:=(Kp.refl w (fun _=>False)).alloc (.cells #[pt bk,pt o,.int .i64 ((n+1:Nat):Int),.map (some a),.map (some b)] 206);have hf:∃ a m p,c.iv=.slice a m p:=by
  cases g with
  | zero=>exact hg.elim
  | succ g=>obtain⟨_,hq,_⟩:=hg;obtain⟨a,p,hv⟩:=hq.form;exact⟨a,_,p,hv⟩
 obtain⟨a9,m9,p9,hiv⟩:=hf;rw[hiv] at hg;have HC:=hide ((actsAll hC g).at hC o hJ hU hg (by obtain⟨G,hG⟩:=hwb;exact⟨G,false,hG⟩) hk);have HK:=hide (hk.ft (some a) (some b));have hb1:=hb.alloc (.cells #[pt bk,pt o,.int .i64 ((n+1:Nat):Int),.map (some a),.map (some b)] 206);have c1:(w.alloc (.cells #[pt bk,pt o,.int .i64 ((n+1:Nat):Int),.map (some a),.map (some b)] 206)).cell? ⟨o,1,none⟩=some (.slice a9 m9 p9):=by rw[<-hiv];exact hb1.cell rfl
 have c10:w.cell? ⟨o,1,none⟩=some (.slice a9 m9 p9):=by rw[<-hiv];exact hb.cell rfl
 have hol:=hb.lt;obtain⟨ln,hln⟩:∃ ln:Int,ln=((n+1:Nat):Int):=⟨_,rfl⟩;have hl1:¬ ln=0:=by omega
 have hl2:(ln == 0)=false:=by simpa using hl1
 rw[<-hln] at c1 HC HK;rw[<-hln];clear hJ hA hg hb hb1 hwb hU hC hiv hk hln hl1;go_enter Tryz.func232,Tryz.ntmps232;go_wp2
 go_region_with (go_at_call 156;refine (HC.out _ ?_).mono ?_;exact (Kp.refl _ _).drew;rintro e w1 ⟨ao,cap,rfl,hk1,hA,hJ1⟩;have HA:=hide hA;have HJ1:=hide hJ1;have HK1:=hide hk1;clear hA hJ1 hk1)
 all_goals go_wp2
 all_goals go_ret
 all_goals exact⟨ao,cap,rfl,HK.out.trans HK1.out,HA.out,HJ1.out⟩
end
end
section
open Go.RowKit
section
variable {R C:Nat->Fr->Prop} {K:List Tok} {bo:Tok->Option (List It)} {bk mb a b:Nat} {E:Nat->Prop} {S:Tok->Prop} {w:World}
theorem callMkP (w:World) (bk:Nat) (t:ByteArray):Calls Tryz.prog 75 #[pt bk,.string t] w fun e w'=>∃ db bb nb,e=.returned (fDeep db)/\Kp w w' (fun _=>False)/\BD (New w) w' db 125 #[.func (.func 120) #[] #[pt bb,pt nb]]/\BD (New w) w' bb 78 #[pt bk]/\BD (New w) w' nb 9 #[.string t]:=by
 have hmf:=mkFunc;go_enter Tryz.func75,Tryz.ntmps75;go_wp2;go_ret;exact⟨w.heap.size+1+1,w.heap.size,w.heap.size+1,rfl,(((Kp.refl _ _).alloc _).alloc _).alloc _,⟨by show _<=_;omega,Blk.new2 w _ _ _ _⟩,⟨Nat.le_refl _,((Blk.new w _ _).alloc _).alloc _⟩,⟨by show _<=_;omega,(Blk.new1 w _ _ _).alloc _⟩⟩
theorem stepMkP (w:World) (n:Nat) (ff fc:Array Value):Calls Tryz.prog 199 #[.func (.func n) ff fc] w fun e w'=>e=.returned (fStep w.heap.size)/\w'=w.alloc (.cells #[.func (.func n) ff fc] 125):=by
 have hmf:=mkFunc;go_enter Tryz.func199,Tryz.ntmps199;go_wp2;go_ret;exact⟨rfl,rfl⟩
theorem callPartM (E:Nat->Prop) (w:World) (hU:Up E w) (o:Nat) (f:Fr) (nm:ByteArray) (ca:WC) (hca:ca.nm=nm) (hb:Blk w o 111 ca.arr) (hR:R o f) (hf:f.name=nm.data.toList) (hs:nm.size<=1000) (ao:Option Addr) (n cap:Nat) (hA:Acts (BD E w) R bk o (.slice ao n cap) f.body):
  Calls Tryz.prog 242 #[pt bk,pt o,.slice ao n cap] w fun e w'=>∃ cl,e=.returned cl/\Kp w w' (fun _=>False)/\callR (BD E w') R bk (Acts (BD E w') R bk) nm.data.toList cl:=by
 have hmf:=mkFunc;have HA:=hide hA;obtain⟨W3,hW3⟩:∃ W3,W3=((w.alloc (.cells #[pt bk] 78)).alloc (.cells #[pt o] 107)).alloc (.cells #[.slice ao n cap] 109):=⟨_,rfl⟩;have hk3:Kp w W3 (fun _=>False):=by rw[hW3];exact (((Kp.refl _ _).alloc _).alloc _).alloc _
 have hb0:Blk W3 w.heap.size 78 #[pt bk]:=by rw[hW3];exact ((Blk.new w _ _).alloc _).alloc _
 have hb1:Blk W3 (w.heap.size+1) 107 #[pt o]:=by rw[hW3];exact (Blk.new1 w _ _ _).alloc _
 have hb2:Blk W3 (w.heap.size+1+1) 109 #[.slice ao n cap]:=by rw[hW3];exact Blk.new2 w _ _ _ _
 have hbo:Blk W3 o 111 ca.arr:=hk3.blk hb (by simp);have d0:W3.cell? ⟨w.heap.size,0,none⟩=some (pt bk):=hb0.cell rfl;have d1:W3.cell? ⟨w.heap.size+1,0,none⟩=some (pt o):=hb1.cell rfl;have d2:W3.cell? ⟨o,0,none⟩=some (.string nm):=by rw[<-hca];exact hbo.cell rfl
 have hs3:W3.heap.size=w.heap.size+1+1+1:=by rw[hW3];simp
 have HB:Hid (∀ w1,Kp W3 w1 (fun _=>False)->(w1.cell? ⟨w.heap.size,0,none⟩=some (pt bk)/\w1.cell? ⟨w.heap.size+1,0,none⟩=some (pt o)/\w1.cell? ⟨o,0,none⟩=some (.string nm))/\∀ z o1,((w1.setCell ⟨w.heap.size+1+1+1,0,none⟩ z).alloc o1).cell? ⟨w.heap.size,0,none⟩=some (pt bk)/\((w1.setCell ⟨w.heap.size+1+1+1,0,none⟩ z).alloc o1).cell? ⟨w.heap.size+1,0,none⟩=some (pt o)/\((w1.setCell ⟨w.heap.size+1+1+1,0,none⟩ z).alloc o1).cell? ⟨o,0,none⟩=some (.string nm)):=fun w1 hk=>by
  have hol:=hb.lt;refine⟨⟨(hk.blk hb0 (by simp)).cell rfl,(hk.blk hb1 (by simp)).cell rfl,by rw[<-hca];exact (hk.blk hbo (by simp)).cell rfl⟩,fun z o1=>⟨?_,?_,?_⟩⟩
  ·exact (((hk.blk hb0 (by simp)).setOther (a:=⟨w.heap.size+1+1+1,0,none⟩) (by show ¬ w.heap.size=w.heap.size+1+1+1;omega) z).alloc o1).cell rfl
  ·exact (((hk.blk hb1 (by simp)).setOther (a:=⟨w.heap.size+1+1+1,0,none⟩) (by show ¬ w.heap.size+1=w.heap.size+1+1+1;omega) z).alloc o1).cell rfl
  ·rw[<-hca];exact (((hk.blk hbo (by simp)).setOther (a:=⟨w.heap.size+1+1+1,0,none⟩) (by show ¬ o=w.heap.size+1+1+1;omega) z).alloc o1).cell rfl
 have HF:Hid (∀ (w':World) (db bb nb ab cb:Nat),Kp W3 w' (fun _=>False)->BD (New w) w' db 125 #[.func (.func 120) #[] #[pt bb,pt nb]]->BD (New w) w' bb 78 #[pt bk]->BD (New w) w' nb 9 #[.string nm]->BD (New w) w' ab 125 #[fDeep db]->BD (New w) w' cb 243 #[fStep ab]->∃ cl,.func (.func 247) #[] #[pt (w.heap.size+1),pt cb,pt w.heap.size,pt (w.heap.size+1+1)]=cl/\Kp w w' (fun _=>False)/\callR (BD E w') R bk (Acts (BD E w') R bk) nm.data.toList cl):=by
  intro w' db bb nb ab cb hk q1 q2 q3 q4 q5;have hE:∀ b t c,BD (New w) w' b t c->BD E w' b t c:=fun b t c h=>⟨hU b h.1,h.2⟩;have hkw:=hk3.trans hk;refine⟨_,rfl,hkw,.inr ⟨_,_,_,_,o,f,_,_,rfl,hE _ _ _ ⟨by show _<=_;omega,hk.blk hb1 (by simp)⟩,hE _ _ _ q5,⟨ab,db,bb,nb,nm,rfl,hE _ _ _ q4,hE _ _ _ q1,hE _ _ _ q2,hE _ _ _ q3,rfl,hs⟩,hE _ _ _ ⟨Nat.le_refl _,hk.blk hb0 (by simp)⟩,hE _ _ _ ⟨by show _<=_;omega,hk.blk hb2 (by simp)⟩,hR,hf,HA.out.mono (fun b t c h=>⟨h.1,hkw.blk h.2 (by simp)⟩) (fun _ _ h=>h)⟩⟩
 have hol:=hb.lt;have HW3:=hide hW3;clear hA hk3 hb0 hb1 hb2 hbo hb HA hU hR hf hW3;go_enter Tryz.func242,Tryz.ntmps242;go_wp2;rw[<-HW3.out];have y1:¬ o=w.heap.size+1+1+1:=by omega
 have y2:¬ w.heap.size=w.heap.size+1+1+1:=by omega
 have y3:¬ w.heap.size+1=w.heap.size+1+1+1:=by omega
 go_region_held3 (fun w'=>w'.cell? ⟨w.heap.size,0,none⟩=some (pt bk)/\w'.cell? ⟨w.heap.size+1,0,none⟩=some (pt o)/\w'.cell? ⟨o,0,none⟩=some (.string nm)) (first|go_keep|exact U3.out _ _) (first
  | (go_at_call 75;refine (callMkP (W3.drew.alloc (.cells #[.nilFunc] 243)) bk nm).mono ?_;rintro e w1 ⟨db,bb,nb,rfl,hk1,hd1,hd2,hd3⟩;have hkw:Kp W3 w1 (fun _=>False):=(((Kp.refl _ _).drew).alloc _).trans hk1;have hbq:=hk1.blk (Blk.new W3.drew #[.nilFunc] 243) (by simp);have hq0:w1.cell? ⟨w.heap.size+1+1+1,0,none⟩=some .nilFunc:=(by rw[<-hs3];exact hbq.cell rfl);have hq1:w1.frozen? ⟨w.heap.size+1+1+1,0,none⟩=false:=(by rw[<-hs3];exact hbq.free 0);have hq2:w.heap.size+1+1+1 < w1.heap.size:=(by rw[<-hs3];exact hbq.lt);have hq3:¬ w.heap.size+1+1+1=w1.heap.size:=(by omega);have HBQ:=hide hbq;clear hbq;obtain⟨⟨u0,u1,u2⟩,u3⟩:=HB.out w1 hkw;have U3:=hide u3;clear u3;have z0:w.heap.size+1+1+1<=w1.heap.size:=(by rw[<-hs3];exact hkw.size);have z1:¬ w.heap.size=w1.heap.size:=(by omega);have z2:¬ w.heap.size+1=w1.heap.size:=(by omega);have z3:¬ o=w1.heap.size:=(by omega);have HK1:=hide hkw;have HD1:=hide hd1;have HD2:=hide hd2;have HD3:=hide hd3;clear hk1 hd1 hd2 hd3 hkw)
  | (go_at_call 75;refine (callMkP W3.drew bk nm).mono ?_;rintro e w1 ⟨db,bb,nb,rfl,hk1,hd1,hd2,hd3⟩;have hkw:Kp W3 w1 (fun _=>False):=((Kp.refl _ _).drew).trans hk1;obtain⟨⟨u0,u1,u2⟩,u3⟩:=HB.out w1 hkw;have U3:=hide u3;clear u3;have z0:w.heap.size+1+1+1<=w1.heap.size:=(by rw[<-hs3];exact hkw.size);have z1:¬ w.heap.size=w1.heap.size:=(by omega);have z2:¬ w.heap.size+1=w1.heap.size:=(by omega);have z3:¬ o=w1.heap.size:=(by omega);have HK1:=hide hkw;have HD1:=hide hd1;have HD2:=hide hd2;have HD3:=hide hd3;clear hk1 hd1 hd2 hd3 hkw)
  | (go_at_call 199;refine (stepMkP _ _ _ _).mono ?_;rintro e w2 ⟨rfl,rfl⟩))
 all_goals go_wp2
 all_goals go_ret
 all_goals have hnw:∀ b,W3.heap.size<=b->w.heap.size<=b:=fun b hb=>by omega
 all_goals first
  | (obtain⟨cl,rfl,q⟩:=HF.out _ db bb nb w1.heap.size (w1.heap.size+1) ((HK1.out.alloc _).alloc _) ⟨hnw _ HD1.out.1,(HD1.out.2.alloc _).alloc _⟩ ⟨hnw _ HD2.out.1,(HD2.out.2.alloc _).alloc _⟩ ⟨hnw _ HD3.out.1,(HD3.out.2.alloc _).alloc _⟩ ⟨by show w.heap.size<=w1.heap.size;omega,(Blk.new w1 _ _).alloc _⟩ ⟨by show w.heap.size<=w1.heap.size+1;omega,Blk.new1 w1 _ _ _⟩;exact⟨_,rfl,q⟩)
  | (obtain⟨cl,rfl,q⟩:=HF.out _ db bb nb (w1.heap.size+1) w1.heap.size ((HK1.out.alloc _).alloc _) ⟨hnw _ HD1.out.1,(HD1.out.2.alloc _).alloc _⟩ ⟨hnw _ HD2.out.1,(HD2.out.2.alloc _).alloc _⟩ ⟨hnw _ HD3.out.1,(HD3.out.2.alloc _).alloc _⟩ ⟨by show w.heap.size<=w1.heap.size+1;omega,Blk.new1 w1 _ _ _⟩ ⟨by show w.heap.size<=w1.heap.size;omega,(Blk.new w1 _ _).alloc _⟩;exact⟨_,rfl,q⟩)
  | skip
 have hq:W3.drew.heap.size=w.heap.size+1+1+1:=hs3;have hbq:=HBQ.out;rw[hq] at hbq;have hn4:∀ b,New (W3.drew.alloc (.cells #[.nilFunc] 243)) b->w.heap.size+1+1+1 < b:=fun b hb=>by
  have hb:(W3.drew.alloc _).heap.size<=b:=hb;rw[World.size_alloc,hq] at hb;omega
 have hset:∀ b t c,BD (New (W3.drew.alloc (.cells #[.nilFunc] 243))) w1 b t c->BD (New w) ((w1.setCell ⟨w.heap.size+1+1+1,0,none⟩ (fStep w1.heap.size)).alloc (.cells #[fDeep db] 125)) b t c:=fun b t c hb=>by
  have h4:=hn4 b hb.1;exact⟨by show w.heap.size<=b;omega,(hb.2.setOther (a:=⟨w.heap.size+1+1+1,0,none⟩) (by show ¬ b=w.heap.size+1+1+1;omega) _).alloc _⟩
 have hka:Kp W3 ((w1.setCell ⟨w.heap.size+1+1+1,0,none⟩ (fStep w1.heap.size)).alloc (.cells #[fDeep db] 125)) (fun _=>False):=(HK1.out.set (a:=⟨w.heap.size+1+1+1,0,none⟩) (fun h=>absurd h (by show ¬ w.heap.size+1+1+1 < W3.heap.size;omega)) _).alloc _;have hna:=Blk.new (w1.setCell ⟨w.heap.size+1+1+1,0,none⟩ (fStep w1.heap.size)) #[fDeep db] 125;rw[World.size_setCell] at hna;obtain⟨cl,rfl,q⟩:=HF.out _ db bb nb w1.heap.size (w.heap.size+1+1+1) hka (hset _ _ _ HD1.out) (hset _ _ _ HD2.out) (hset _ _ _ HD3.out) ⟨by show w.heap.size<=w1.heap.size;omega,hna⟩ ⟨by show w.heap.size<=w.heap.size+1+1+1;omega,(hbq.set 0 _).alloc _⟩;exact⟨_,rfl,q⟩
end
end
end Go.Proofs.YteainaiebcphlaaGreatDoor
