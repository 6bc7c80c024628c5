import Derived.Test.YteainaiebcphlaaGreatDoorY17
import Derived.Test.YteainaiebcphlaaGreatDoorY16
import Derived.Handy
namespace Go.Proofs.YteainaiebcphlaaGreatDoor
set_option maxRecDepth 1000000
set_option maxHeartbeats 4000000
set_option linter.all false
section
open Go.RowKit
theorem ent_step:Ents 219:=ents_of Tryz.func219 (by kernel_rfl) (by kernel_rfl)
theorem ent_deep:Ents 157:=ents_of Tryz.func157 (by kernel_rfl) (by kernel_rfl)
theorem ent_callf:Ents 120:=ents_of Tryz.func120 (by kernel_rfl) (by kernel_rfl)
theorem ent_brf:Ents 230:=ents_of Tryz.func230 (by kernel_rfl) (by kernel_rfl)
theorem ent_recf:Ents 229:=ents_of Tryz.func229 (by kernel_rfl) (by kernel_rfl)
theorem ent_cpart:Ents 247:=ents_of Tryz.func247 (by kernel_rfl) (by kernel_rfl)
theorem ent_down:Ents 158:=ents_of Tryz.func158 (by kernel_rfl) (by kernel_rfl)
theorem ent_choose:Ents 222:=ents_of Tryz.func222 (by kernel_rfl) (by kernel_rfl)
theorem ent_until:Ents 224:=ents_of Tryz.func224 (by kernel_rfl) (by kernel_rfl)
theorem ent_while:Ents 225:=ents_of Tryz.func225 (by kernel_rfl) (by kernel_rfl)
theorem ent_count:Ents 226:=ents_of Tryz.func226 (by kernel_rfl) (by kernel_rfl)
theorem ent_idx:Ents 205:=ents_of Tryz.func205 (by kernel_rfl) (by kernel_rfl)
theorem ent_exit:Ents 208:=ents_of Tryz.func208 (by kernel_rfl) (by kernel_rfl)
theorem ent_nothing:Ents 231:=ents_of Tryz.func231 (by kernel_rfl) (by kernel_rfl)
section
variable {B:Nat} {W w:World} {xb rb mb fb:Nat} {m:MS} {D:GD} {s:St} {lv:Value} {lp:List Int}
theorem FPo.heed {w1:World} {s':St} (h:PR B W w xb rb mb m D s) (hf:FrR B w fb rb m D lv 0 lp) (hp:PPost B W xb rb mb w m D s' w1):FPo B W xb rb mb fb w m D lv lp s' (w1.setCell ⟨fb,2,none⟩ (.int .i64 s'.e))/\∃ y,Blk w1 fb 247 #[pt rb,lv,.int .i64 y]:=by
 obtain⟨m',D',h1,h2⟩:=hp;obtain⟨h3,h4⟩:=hf.sto h h2;obtain⟨h5,h6,h7⟩:=h3.setWhy h1 s'.e;exact⟨⟨m',D',lv,h5,h6,h4.trans h7⟩,_,h3.blk⟩
theorem stepItem (h:PR B W w xb rb mb m D s) (he:s.e=0) (hf:FrR B w fb rb m D lv 0 lp) (ab n:Nat) (ff fc:Array Value) (hb:BD D.d w ab 125 #[.func (.func n) ff fc]) (s2 s':St) (hs':s'=if s.step.e=0 then s2 else s.step)
  (hact:s.step.e=0->∀ w1 m1,PR B W w1 xb rb mb m1 D s.step->PTo xb rb mb w w1 m m1 D D->CallsV (.func (.func n) ff fc) (pt rb) w1 fun e w'=>e=.returned (.int .i64 s2.e)/\PPost B W xb rb mb w1 m1 D s2 w'):
  CallsV (fStep ab) (pt fb) w fun e w'=>e=.returned (.int .i64 (sgl false s'.e))/\FPo B W xb rb mb fb w m D lv lp s' w':=by
 refine⟨_,_,_,rfl,ent_step,?_⟩;have c0:w.cell? ⟨fb,0,none⟩=some (pt rb):=hf.blk.cell rfl;have c1:w.cell? ⟨ab,0,none⟩=some (.func (.func n) ff fc):=hb.2.cell rfl;have hne:¬ ab=fb:=by rintro rfl;exact absurd (hb.2.inj hf.blk).1 (by decide)
 have HS:Hid (∀ w0,Kp w w0 (fun _=>False)->Calls Tryz.prog 68 #[pt rb,.func (.func n) ff fc] w0 fun e w'=>e=.returned (.int .i64 s'.e)/\PPost B W xb rb mb w m D s' w'):=by
  intro w0 hk;obtain⟨h0,t0⟩:=h.kp hk;refine (stepP h0 he (.func (.func n) ff fc) s2 s' hs' (fun e w1 m1 p1 t1=>hact e w1 m1 p1 (t0.trans t1))).mono ?_;rintro e w' ⟨rfl,hp⟩;exact⟨rfl,hp.step t0⟩
 have HF:Hid (∀ w1,PPost B W xb rb mb w m D s' w1->FPo B W xb rb mb fb w m D lv lp s' (w1.setCell ⟨fb,2,none⟩ (.int .i64 s'.e))/\(∃ y,Blk w1 fb 247 #[pt rb,lv,.int .i64 y])/\Blk w1 ab 125 #[.func (.func n) ff fc]):=by
  intro w1 hp;obtain⟨h1,h2⟩:=FPo.heed h hf hp;obtain⟨m',D',h3,h4⟩:=hp;exact⟨h1,h2,(h.keepD h4 _ _ _ hb).2⟩
 clear h he hf hb hs' hact;show Calls Tryz.prog 219 #[pt fb,pt ab] w _;go_enter Tryz.func219,Tryz.ntmps219;go_wp2
 go_region_held3 (fun w'=>w'.cell? ⟨fb,0,none⟩=some (pt rb)/\w'.cell? ⟨ab,0,none⟩=some (.func (.func n) ff fc)) (go_keep) (first
  | (go_at_call 68;refine (HS.out _ ?_).mono ?_;exact (Kp.refl _ _).drew;rintro e w1 ⟨rfl,hp⟩;obtain⟨h1,⟨y,h2⟩,h3⟩:=HF.out w1 hp;have h4:w1.cell? ⟨fb,0,none⟩=some (pt rb):=h2.cell rfl;have h5:w1.cell? ⟨ab,0,none⟩=some (.func (.func n) ff fc):=h3.cell rfl;have H1:=hide h1;have H2:=hide h2;have H3:=hide h3;clear h1 hp h2 h3)
  | (go_at_call 220;refine (heedM _ fb s'.e _ _ _ H2.out).mono ?_;rintro e w2 ⟨rfl,rfl⟩;have k0:(w1.setCell ⟨fb,2,none⟩ (.int .i64 s'.e)).cell? ⟨fb,0,none⟩=some (pt rb):=(H2.out.set 2 _).cell rfl;have k1:(w1.setCell ⟨fb,2,none⟩ (.int .i64 s'.e)).cell? ⟨ab,0,none⟩=some (.func (.func n) ff fc):=(H3.out.setOther (a:=⟨fb,2,none⟩) hne _).cell rfl))
 go_wp2;go_ret;exact⟨rfl,H1.out⟩
end
end
section
open Go.RowKit
section
variable {B:Nat} {W w:World} {xb rb mb:Nat} {m:MS} {D:GD} {s:St}
theorem PR.setDp (h:PR B W w xb rb mb m D s) (n:Int) (h0:0<=n) (h1:n<=20):PR B W (w.setCell ⟨rb,3,none⟩ (.int .i64 n)) xb rb mb { m with dp:=n } D { s with depth:=n }/\PTo xb rb mb w (w.setCell ⟨rb,3,none⟩ (.int .i64 n)) m { m with dp:=n } D D:=by
 obtain⟨ns,hi,hn⟩:=h.inv;obtain⟨h2,h3⟩:=hi.setDp n;exact h.turn (s':={ s with depth:=n }) h3 rfl ⟨ns,h2,hn⟩ h.mem h.out h.st0 h.st1 h.st rfl ⟨rfl,rfl,rfl,rfl⟩ (h.good.dep h0 h1)
theorem PR.toErr (h:PR B W w xb rb mb m D s) (k:Int) (hk:k ≠ 0):PR B W w xb rb mb m D (s.err k):=by
 obtain⟨ns,hi,hn⟩:=h.inv;exact (h.turn (s':=s.err k) (To.refl _ _ _) rfl ⟨ns,hi,fun e=>absurd e hk⟩ h.mem h.out h.st0 h.st1 (fun e=>absurd e hk) h.dp ⟨rfl,rfl,rfl,rfl⟩ (h.good.err hk)).1
def deeper (s:St) (s2:St):St:=if 20<=s.depth then s.err 8 else { s2 with depth:=s2.depth - 1 }
theorem downM_no (w:World) (rb:Nat) (cd:w.cell? ⟨rb,3,none⟩=some (.int .i64 20)):Calls Tryz.prog 158 #[pt rb] w fun e w'=>e=.returned (.int .i64 8)/\w'=w:=by
 go_enter Tryz.func158,Tryz.ntmps158;go_wp2;go_ret;exact⟨rfl,rfl⟩
theorem downM_ok (w:World) (rb:Nat) (d:Int) (h0:0<=d) (h1:d < 20) (cd:w.cell? ⟨rb,3,none⟩=some (.int .i64 d)) (fd:w.frozen? ⟨rb,3,none⟩=false):Calls Tryz.prog 158 #[pt rb] w fun e w'=>e=.returned (.int .i64 0)/\w'=w.setCell ⟨rb,3,none⟩ (.int .i64 (d+1)):=by
 go_enter Tryz.func158,Tryz.ntmps158;go_wp2;go_ret;exact⟨rfl,rfl⟩
theorem upM (w:World) (rb:Nat) (d:Int) (h0:0<=d) (h1:d<=20) (cd:w.cell? ⟨rb,3,none⟩=some (.int .i64 (d+1))) (fd:w.frozen? ⟨rb,3,none⟩=false):Calls Tryz.prog 159 #[pt rb] w fun e w'=>e=.returned (.tuple #[])/\w'=w.setCell ⟨rb,3,none⟩ (.int .i64 d):=by
 go_enter Tryz.func159,Tryz.ntmps159;go_wp2;refine bodyPost_end (results_none rfl _ _ _) rfl ?_;exact⟨rfl,rfl⟩
theorem downP (h:PR B W w xb rb mb m D s):Calls Tryz.prog 158 #[pt rb] w fun e w'=>(20<=s.depth/\e=.returned (.int .i64 8)/\w'=w)\/(¬ 20<=s.depth/\e=.returned (.int .i64 0)/\w'=w.setCell ⟨rb,3,none⟩ (.int .i64 (s.depth+1))):=by
 obtain⟨ns,hi,hn⟩:=h.inv;have hd0:=h.good.d0;have hd1:=h.good.d1;have cd:w.cell? ⟨rb,3,none⟩=some (.int .i64 s.depth):=by rw[<-h.dp];exact hi.rblk.cell rfl
 by_cases h20:20<=s.depth
 ·rw[show s.depth=20 by omega] at cd;refine (downM_no w rb cd).mono ?_;rintro e w' ⟨rfl,rfl⟩;exact .inl ⟨h20,rfl,rfl⟩
 ·refine (downM_ok w rb s.depth hd0 (by omega) cd (hi.rblk.free 3)).mono ?_;rintro e w' ⟨rfl,rfl⟩;exact .inr ⟨h20,rfl,rfl⟩
theorem upP (h:PR B W w xb rb mb m D s) (d:Int) (h0:0<=d) (h1:d < 20) (hd:s.depth=d+1):Calls Tryz.prog 159 #[pt rb] w fun e w'=>e=.returned (.tuple #[])/\PPost B W xb rb mb w m D { s with depth:=s.depth - 1 } w':=by
 obtain⟨ns,hi,hn⟩:=h.inv;have cd:w.cell? ⟨rb,3,none⟩=some (.int .i64 (d+1)):=by rw[<-hd,<-h.dp];exact hi.rblk.cell rfl
 refine (upM w rb d h0 (by omega) cd (hi.rblk.free 3)).mono ?_;rintro e w' ⟨rfl,rfl⟩;rw[show s.depth - 1=d by omega];obtain⟨h3,t3⟩:=h.setDp d h0 (by omega);exact⟨rfl,_,D,h3,t3⟩
theorem deepP (h:PR B W w xb rb mb m D s) (db n:Nat) (ff fc:Array Value) (hb:BD D.d w db 125 #[.func (.func n) ff fc]) (s2:St)
  (hact:¬ 20<=s.depth->s2.depth=s.depth+1/\∀ w1 m1,PR B W w1 xb rb mb m1 D { s with depth:=s.depth+1 }->PTo xb rb mb w w1 m m1 D D->CallsV (.func (.func n) ff fc) (pt rb) w1 fun e w'=>e=.returned (.int .i64 s2.e)/\PPost B W xb rb mb w1 m1 D s2 w'):
  CallsV (fDeep db) (pt rb) w fun e w'=>e=.returned (.int .i64 (deeper s s2).e)/\PPost B W xb rb mb w m D (deeper s s2) w':=by
 refine⟨_,_,_,rfl,ent_deep,?_⟩;show Calls Tryz.prog 157 #[pt rb,pt db] w _;have HDn:=hide (downP h);by_cases h20:20<=s.depth
 ·have HD:Hid (deeper s s2=s.err 8):=if_pos h20;have HE:=hide (h.toErr 8 (by decide));have HDN:Hid (Calls Tryz.prog 158 #[pt rb] w fun e w'=>e=.returned (.int .i64 8)/\w'=w):=HDn.out.mono (fun e w' q=>q.elim (fun q=>q.2) (fun q=>absurd h20 q.1));clear hact h20 h hb HDn;go_enter Tryz.func157,Tryz.ntmps157
  go_wp2_with fail
  refine HDN.out.mono ?_;rintro e w1 ⟨rfl,rfl⟩;go_wp2;go_ret;rw[HD.out];exact⟨rfl,m,D,HE.out,PTo.refl _ _ _ _ _ _⟩
 ·obtain⟨hs2,hact⟩:=hact h20;have hd0:=h.good.d0;obtain⟨h1,t1⟩:=h.setDp (s.depth+1) (by omega) (by omega);have hb1:=(h.keepD t1 _ _ _ hb).2;have cb:(w.setCell ⟨rb,3,none⟩ (.int .i64 (s.depth+1))).cell? ⟨db,0,none⟩=some (.func (.func n) ff fc):=hb1.cell rfl;have HD:Hid (deeper s s2={ s2 with depth:=s2.depth - 1 }):=if_neg h20;have HDN:Hid (Calls Tryz.prog 158 #[pt rb] w fun e w'=>e=.returned (.int .i64 0)/\w'=w.setCell ⟨rb,3,none⟩ (.int .i64 (s.depth+1))):=HDn.out.mono (fun e w' q=>q.elim (fun q=>absurd q.1 h20) (fun q=>q.2));have hcall:=hact _ _ h1 t1;obtain⟨fn,fff,ffc,hv,hen,hcall⟩:=hcall;injection hv with hv1 hv2 hv3;injection hv1 with hv1;subst hv1;subst hv2;subst hv3;unfold Ents at hen;have HC:=hide hcall;have HT:=hide t1;obtain⟨W1,hW1⟩:∃ W1,W1=w.setCell ⟨rb,3,none⟩ (.int .i64 (s.depth+1)):=⟨_,rfl⟩;rw[<-hW1] at HC HT HDN cb;have hlt:s.depth < 20:=by omega
  clear hact hcall h1 t1 hb1 hb h HDn hW1 h20;go_enter Tryz.func157,Tryz.ntmps157
  go_wp2_with fail
  refine HDN.out.mono ?_;rintro e w0 ⟨rfl,rfl⟩
  go_wp2_with fail
  refine HC.out.mono ?_;rintro e w1 ⟨rfl,m1,D1,hr1,ht1⟩;have HU:=hide (upP hr1 s.depth hd0 hlt hs2);have HT3:=hide (HT.out.trans ht1);clear hr1 ht1 HC HT HDN
  go_wp2_with fail
  refine HU.out.mono ?_;rintro e w2 ⟨rfl,hp⟩;have HP:=hide (hp.step HT3.out);clear hp HU HT3;go_wp2;go_ret;rw[HD.out];exact⟨rfl,HP.out⟩
end
end
section
open Go.RowKit
theorem nil_own (k:Nat):¬ own (.slice none 0 0) k:=by simp[own,Value.ownBlock]
theorem FT.toP {xb rb mb:Nat} {w w':World} {m m':MS} {D D':GD} {lv':Value} {o:Obj} (h:FT xb rb mb w.heap.size (w.alloc o) w' m m' D D' (.slice none 0 0) lv'):PTo xb rb mb w w' m m' D D':=by
 have hk:Kp w w' (fun k=>((k=xb\/k=rb)\/k=mb)\/((own m.sv k\/own m.ov k)\/D.u k)):=by
  have h1:Kp w (w.alloc o) (fun k=>(((k=xb\/k=rb)\/k=mb)\/k=w.heap.size)\/(((own m.sv k\/own m.ov k)\/D.u k)\/own (.slice none 0 0) k)):=(Kp.refl w _).alloc o;refine (h1.trans h.wt.kp).mono (fun k hlt hk=>?_);rcases hk with (hk|hk)|(hk|hk)
  ·exact .inl hk
  ·omega
  ·exact .inr hk
  ·exact absurd hk (nil_own k)
 refine⟨⟨hk,fun k hk2=>?_⟩,h.up,fun k hk2=>?_,h.rg,h.bk,h.jj⟩
 ·rcases h.wt.nx k (.inl hk2) with (e|e)|e
  ·exact .inl e
  ·exact absurd e (nil_own k)
  ·right;rw[World.size_alloc] at e;omega
 ·rcases h.nw k hk2 with e|e
  ·exact .inl e
  ·right;rw[World.size_alloc] at e;omega
theorem wordRunX {B:Nat} {W:World} (g:Nat) (hB:QB B W g):QW B W g:=by
 intro w xb rb mb m D s s' f ob left hr he hW hx;have hk0:=(Kp.refl w (fun _=>False)).alloc (.cells #[pt rb,.slice none 0 0,.int .i64 0] 247);obtain⟨h1,t1⟩:=hr.kp hk0;have hf:FrR B (w.alloc (.cells #[pt rb,.slice none 0 0,.int .i64 0] 247)) w.heap.size rb m D (.slice none 0 0) 0 []:=
  ⟨Blk.new w _ _,World.ownsRow_nil _ _ _ _,by simp,fun k hk=>absurd hk (nil_own k),fun hd=>by have:=(hr.sep _ hd).1;omega,fun k hk=>absurd hk (nil_own k),fun hd=>by have:=hr.ult hd;omega,fun k hk=>absurd hk (nil_own k),hr.safe.bs,fun k hk=>absurd hk (nil_own k)⟩
 obtain⟨c,hc⟩:=hr.words.wds.ok _ _ hW;obtain⟨c1,hc1⟩:=h1.words.wds.ok _ _ hW;have hA:=hc.ac;have hkd:=hr.keepD t1;have hbl:=hc.blk.alloc (.cells #[pt rb,.slice none 0 0,.int .i64 0] 247);have ca:(w.alloc (.cells #[pt rb,.slice none 0 0,.int .i64 0] 247)).cell? ⟨ob,3,none⟩=some c.av:=hbl.cell rfl;have ca0:w.cell? ⟨ob,3,none⟩=some c.av:=hc.blk.cell rfl;have hol:=hc.blk.lt;obtain⟨ao,cap,hav⟩:=hA.form;rw[hav] at ca ca0 hA;have HC:=hide (hB _ xb rb mb w.heap.size m D s s' f [] [] (.slice none 0 0) ob (.slice ao f.body.length cap) f.body left (PQ.refl _) h1 he hf (by simp;exact hr.good.s0) (by obtain⟨G,hG⟩:=hc.wf;exact⟨G,false,hG,fun h=>by cases h⟩) (hA.mono hkd (fun _ _ h=>h)) hW hx);clear hB hr he hx h1 t1 hf hA hkd hk0 hc hc1 hW hbl hav;go_enter Tryz.func161,Tryz.ntmps161
 go_wp2_with fail
 refine HC.out.mono ?_;rintro e w1 ⟨rfl,m1,D1,lv1,hr1,hf1,ht1⟩;have cw:w1.cell? ⟨w.heap.size,2,none⟩=some (.int .i64 s'.e):=hf1.blk.cell rfl;have H1:=hide hr1;have H2:=hide ht1.toP;clear hr1 hf1 ht1 HC;go_wp2;go_ret;exact⟨rfl,m1,D1,H1.out,H2.out⟩
end
section
open Go.RowKit
theorem ba_eq {x y:ByteArray} (h:x.data.toList=y.data.toList):x=y:=by
 obtain⟨⟨l⟩⟩:=x;obtain⟨⟨l'⟩⟩:=y;have h:l=l':=h;subst h;rfl
theorem know_mem {defs:List Def} {t:Tok}:knowD defs t<->t∈defs.map Def.name:=by
 unfold knowD
 constructor
 ·intro h
  cases hf:defs.findIdx? (fun d=>d.name == t) with
  | none=>rw[hf] at h;cases h
  | some k=>
   obtain⟨hk,hp,_⟩:=List.findIdx?_eq_some_iff_getElem.1 hf;exact List.mem_map.2 ⟨defs[k],List.getElem_mem hk,beq_iff_eq.1 hp⟩
 ·intro h;obtain⟨d,hd,e⟩:=List.mem_map.1 h
  cases hf:defs.findIdx? (fun d=>d.name == t) with
  | none=>
   rw[List.findIdx?_eq_none_iff] at hf;have:=hf d hd;rw[e] at this;simp at this
  | some k=>rfl
def curD (defs:List Def) (obs:List Nat) (o:Nat) (g:Fr):Prop:=∃ k,∃ h:k < defs.length,obs.getD k 0=o/\g=frD defs[k]
section
variable {D:GD} {w:World} {bk mb:Nat} {defs:List Def} {obs:List Nat} {DD:DataW Value}
theorem WR.bld (h:WR D w bk mb defs obs DD) {w':World} {hot blt:Int} (hp:Pres D D w w' bk) (hm:w'.heap[mb]? = w.heap[mb]?) (hb:Blk w' bk 106 #[.map (some mb),.int .i64 hot,.int .i64 blt]):Bld D.r (curD defs obs) (defs.map Def.name) (bodyOf defs) bk mb D.d w':=by
 refine⟨⟨hot,blt,hb⟩,⟨_,_,ownsMap_same h.mp hm⟩,by rw[List.length_map];exact h.l30,fun nm hnm=>?_⟩;have hkn:=know_mem.2 hnm;unfold knowD at hkn
 cases hf:defs.findIdx? (fun d=>d.name == nm.data.toList) with
 | none=>rw[hf] at hkn;cases hkn
 | some k=>
  obtain⟨hk,hpk,hbf⟩:=List.findIdx?_eq_some_iff_getElem.1 hf;have hn:defs[k].name=nm.data.toList:=beq_iff_eq.1 hpk;obtain⟨h1,⟨c,h2,h3⟩,G,h4⟩:=h.cur k hk;obtain⟨c',e1,e2,e3,e4,e5,h5⟩:=hp _ _ c h1 h2;have hcn:c'.nm=nm:=ba_eq (h5.nm.trans hn);have hsz:nm.size<=1000:=by rw[<-hcn];exact h5.ns
  have hl:=h.lk nm.data.toList (Nat.le_trans hsz (by decide));rw[hf] at hl;refine⟨obs.getD k 0,frD defs[k],c',⟨k,hk,rfl,rfl⟩,h1,hn,?_,fun w0 e0=>look_run (ownsMap_same h.mp (e0.trans hm)) nm (Nat.le_trans hsz (by decide)) hl,h5.blk,hcn,hsz,h5.it,h5.sl,G,wb_known (fun t ht=>know_mem.1 ht) _ _ _ h4⟩;show bodyOf defs defs[k].name=some defs[k].body;unfold bodyOf;have:defs.find? (fun d=>d.name == defs[k].name)=some defs[k]:=by
   rw[List.find?_eq_some_iff_getElem];exact⟨by simp,k,hk,rfl,fun j hj=>by have:=hbf j hj;rw[hn];simpa using this⟩
  rw[this];rfl
end
abbrev nib (d:Def):Tok × Int × List It:=(d.name,d.id,d.body)
section
variable {defs defs':List Def} (hn:defs'.map nib=defs.map nib)
include hn
theorem nib_len:defs'.length=defs.length:=by have:=congrArg List.length hn;simpa using this
theorem nib_fr:∀ k (h1:k < defs'.length) (h2:k < defs.length),frD defs'[k]=frD defs[k]:=by
 intro k h1 h2;have:=congrArg (fun l=>l[k]?) hn;simp[h1,h2] at this;obtain⟨q1,q2,q3⟩:=this;show (⟨_,_,_⟩:Fr)=⟨_,_,_⟩;rw[q1,q2,q3]
theorem nib_frA:frA defs'=frA defs:=by
 funext k
 have hl:=nib_len hn;unfold frA;by_cases h:k < defs'.length
 ·rw[getD_lt h,getD_lt (by omega:k < defs.length)];exact nib_fr hn k h (by omega)
 ·rw[show defs'.getD k dd0=dd0 by simp[List.getD,List.getElem?_eq_none (Nat.le_of_not_lt h)],show defs.getD k dd0=dd0 by simp[List.getD,List.getElem?_eq_none (by omega:defs.length<=k)]]
theorem nib_find (t:Tok):defs'.findIdx? (fun d=>d.name == t)=defs.findIdx? (fun d=>d.name == t):=by
 have e:∀ l:List Def,l.findIdx? (fun d=>d.name == t)=(l.map nib).findIdx? (fun p=>p.1 == t):=by
  intro l;rw[List.findIdx?_map];rfl
 rw[e,e,hn]
theorem nib_body:bodyOf defs'=bodyOf defs:=by
 funext t
 have e:∀ l:List Def,bodyOf l t=((l.map nib).find? (fun p=>p.1 == t)).map (fun p=>p.2.2):=by
  intro l;unfold bodyOf;rw[List.find?_map,Option.map_map];rfl
 rw[e,e,hn]
theorem nib_know:knowD defs'=knowD defs:=by funext t;unfold knowD;rw[nib_find hn]
end
theorem WR.same {D D':GD} {w w':World} {bk mb:Nat} {defs defs':List Def} {obs:List Nat} {DD:DataW Value} (h:WR D w bk mb defs obs DD) (hn:defs'.map nib=defs.map nib) (hp:Pres D D' w w' bk) (hr:∀ o f,D'.r o f->D.r o f) (hr2:∀ o f,D.r o f->D'.r o f) (hw:Wds D' w' bk) (hm:w'.heap[mb]? = w.heap[mb]?) (hx:EX D' w' bk defs'.length (frA defs') (fun k=>obs.getD k 0) (XD defs') (fun _=>False)) (hb:∀ d∈defs',(d.fast=false->d.built=[])/\∀ t∈d.built,knowD defs' t):WR D' w' bk mb defs' obs DD:=by
 have hl:=nib_len hn;have hat:=nib_fr hn;have hf:=nib_find hn;have hkn:=nib_know hn;have hnm:∀ k (h1:k < defs'.length) (h2:k < defs.length),defs'[k].name=defs[k].name:=fun k h1 h2=>congrArg Fr.name (hat k h1 h2);refine⟨by rw[hl];exact h.ol,by rw[hl];exact ownsMap_same h.mp hm,by rw[hl];exact h.sz,fun t ht=>by rw[hf];exact h.hs t ht,by rw[hl];exact h.l30,fun t ht=>by rw[hf];exact h.lk t ht,fun i j hi hj e=>h.nd i j (by omega) (by omega) (by rw[<-hnm i hi (by omega),<-hnm j hj (by omega)];exact e),hw,fun k hk=>?_,fun o f ho=>?_,hx,hb,fun d hd=>?_⟩
 ·have hk':k < defs.length:=by omega
  have hq:=hat k hk hk';have hb:defs'[k].body=defs[k].body:=congrArg Fr.body hq;obtain⟨h1,⟨c,h2,h3⟩,h4⟩:=h.cur k hk';obtain⟨c',e1,_,_,_,_,h5⟩:=hp _ _ c h1 h2;rw[hq,hb,hkn];exact⟨hr2 _ _ h1,⟨c',h5,e1.trans h3⟩,h4⟩
 ·rw[hkn];obtain⟨q,⟨k,hk,e0,e1,e2⟩|⟨c,h2,h3,h4⟩⟩:=h.reg o f (hr o f ho)
  ·exact⟨q,.inl ⟨k,by omega,by rw[hf];exact e0,e1,by rw[hat k (by omega) hk];exact e2⟩⟩
  ·obtain⟨c',e1,_,_,_,_,h5⟩:=hp _ _ c (hr o f ho) h2;refine⟨q,.inr ⟨c',h5,e1.trans h3,fun k hk e=>?_⟩⟩;rw[hf] at e;have hid:defs'[k].id=(defs[k]'(by omega)).id:=congrArg Fr.id (hat k hk (by omega));rw[hid];exact h4 k (by omega) e
 ·have:nib d∈defs'.map nib:=List.mem_map.2 ⟨d,hd,rfl⟩;rw[hn] at this;obtain⟨d0,hd0,he0⟩:=List.mem_map.1 this;have hb:d0.body=d.body:=congrArg (fun p=>p.2.2) he0;rw[<-hb];exact h.ub d0 hd0
theorem set_same_map {defs:List Def} {k:Nat} {d:Def} (h:defs[k]? = some d) (d':Def) (h1:d'.name=d.name) (h2:d'.body=d.body) (h3:d'.id=d.id):(defs.set k d').map nib=defs.map nib:=by
 rw[List.map_set]
 apply List.ext_getElem?
 intro i;rw[List.getElem?_set]
 split
 ·rename_i e
  subst e
  split
  ·simp[h,h1,h2,h3]
  ·rename_i hlt;simp at hlt;rw[List.getElem?_eq_none hlt] at h;cases h
 ·rfl
theorem St.count_same {g:Nat} {s s':St} {k:Nat} (h:s.count g k=some s'):s'.defs.map nib=s.defs.map nib/\s'={ s with defs:=s'.defs }:=by
 unfold St.count at h
 split at h
 ·cases h
 ·rename_i d hd
  split at h
  ·injection h with h;subst h;exact⟨rfl,rfl⟩
  ·split at h
   ·injection h with h;subst h;exact⟨set_same_map hd _ rfl rfl rfl,rfl⟩
   ·split at h
    ·cases h
    ·injection h with h;subst h;exact⟨set_same_map hd _ rfl rfl rfl,rfl⟩
theorem SGood.same {s s':St} (h:SGood s) (he:s'={ s with defs:=s'.defs }) (hm:s'.defs.map nib=s.defs.map nib):SGood s':=by
 have hcb:∀ d∈s'.defs,∀ g names,callsG g d.body=some names->names.length<=1000:=by
  intro d hd;have:nib d∈s'.defs.map nib:=List.mem_map.2 ⟨d,hd,rfl⟩;rw[hm] at this;obtain⟨d0,hd0,he0⟩:=List.mem_map.1 this;have hb:d0.body=d.body:=congrArg (fun p=>p.2.2) he0;rw[<-hb];exact h.cb d0 hd0
 rw[he];exact⟨h.g,h.s0,h.s1,h.s2,h.d0,h.d1,h.b0,h.b1,hcb⟩
theorem builds_nib {defs defs':List Def} (hn:defs'.map nib=defs.map nib) {g:Nat}:∀ {n:Nat} {l:List It},buildsG defs' g n l=buildsG defs g n l
 | 0,_=>rfl
 | n+1,l=>by
  unfold buildsG;rw[nib_body hn]
  split
  ·rfl
  ·congr 1
   funext t
   cases bodyOf defs t with
   | none=>rfl
   | some b=>exact builds_nib hn
theorem getD_set {defs:List Def} {k:Nat} (hk:k < defs.length) (d:Def):(defs.set k d).getD k dd0=d/\∀ j,j ≠ k->(defs.set k d).getD j dd0=defs.getD j dd0:=by
 refine⟨by simp[List.getD,hk],fun j hj=>?_⟩;simp[List.getD,List.getElem?_set_ne (Ne.symm hj)]
section
variable {B:Nat} {W w:World} {xb rb mb:Nat} {m:MS} {D:GD} {s:St}
theorem noteP (h:PR B W w xb rb mb m D s) (ob:Nat) (f:Fr) (hr:D.r ob f) (g:Nat) (s1:St) (hcm:xCome g f s=some s1):
  Calls Tryz.prog 160 #[pt m.bk,pt ob] w fun e w'=>e=.returned (.tuple #[])/\PPost B W xb rb mb w m D s1 w':=by
 obtain⟨obs,DD,hwr⟩:=h.words;have hW:=hwr.wd;obtain⟨c,hc⟩:=hW.ok ob f hr;have c4:w.cell? ⟨ob,4,none⟩=some (.bool c.fa):=hc.blk.cell rfl;have c5:w.cell? ⟨ob,5,none⟩=some (.int .i64 c.ct):=hc.blk.cell rfl;have c6:w.cell? ⟨ob,6,none⟩=some (.bool c.gn):=hc.blk.cell rfl;have hno:(c.fa=true\/c.gn=true)->s1=s->Calls Tryz.prog 160 #[pt m.bk,pt ob] w fun e w'=>e=.returned (.tuple #[])/\PPost B W xb rb mb w m D s1 w':=fun hno e1=>by
  rw[e1];refine (noteNo c.fa c.gn hno c4 c6).mono ?_;rintro e w' ⟨rfl,rfl⟩;exact⟨rfl,m,D,h,PTo.refl _ _ _ _ _ _⟩
 obtain⟨hkn,⟨k,hk,hfi,hok,hfk⟩|⟨cg,hcg,hgn,hid⟩⟩:=hwr.reg ob f hr
 rotate_left
 ·have:=hcg.inj hc;subst this;refine hno (.inr hgn) ?_;obtain⟨k,hfi⟩:=Option.isSome_iff_exists.1 hkn;obtain⟨hk,_,_⟩:=List.findIdx?_eq_some_iff_getElem.1 hfi;have hlt:=hid k hk hfi;unfold xCome St.find at hcm;rw[hfi] at hcm;dsimp only at hcm;rw[List.getElem?_eq_getElem hk] at hcm;dsimp only at hcm;rw[if_neg (by omega)] at hcm;injection hcm with hcm;exact hcm.symm
 have hcm:s.count g k=some s1:=by
  unfold xCome St.find at hcm;rw[hfi] at hcm;dsimp only at hcm;rw[List.getElem?_eq_getElem hk] at hcm;dsimp only at hcm;rw[if_pos (by rw[hfk])] at hcm;exact hcm
 obtain⟨hnib,hss⟩:=St.count_same hcm;have hfA:frA s.defs k=f:=by unfold frA;rw[getD_lt hk,hfk]
 obtain⟨_,⟨c0,hc0,hgn⟩,G,hG⟩:=hwr.cur k hk;rw[hok,<-hfk] at hc0;have:=hc0.inj hc;subst this;have hX:=hwr.ex;obtain⟨c2,hc2,x1,x2,x3,x4,_⟩:=hX.wc k hk;rw[show obs.getD k 0=ob from hok,hfA] at hc2;have:=hc2.inj hc;subst this;have x1:c2.fa=s.defs[k].fast:=by rw[x1];show (s.defs.getD k dd0).fast=_;rw[getD_lt hk]
 have x2:c2.ct=s.defs[k].count:=by rw[x2];show (s.defs.getD k dd0).count=_;rw[getD_lt hk]
 unfold St.count at hcm;rw[List.getElem?_eq_getElem hk] at hcm;dsimp only at hcm;by_cases hfast:s.defs[k].fast=true
 ·rw[if_pos hfast] at hcm;injection hcm with hcm;exact hno (.inl (x1.trans hfast)) hcm.symm
 rw[if_neg hfast] at hcm;have hfa:c2.fa=false:=by rw[x1];simpa using hfast
 have hbt:s.defs[k].built=[]:=(hwr.bn _ (List.getElem_mem hk)).1 (by simpa using hfast);rw[hfa] at c4;rw[hgn] at c6;have hbo:¬ m.bk=ob:=fun e=>h.une hc.u h.book (by decide) e.symm;have hob:∀ k,k=ob->D.u k:=fun k e=>by rw[e];exact hc.u
 obtain⟨D1,hD1⟩:∃ D1:Def,D1={ s.defs[k] with count:=wrap64 (s.defs[k].count+1) }:=⟨_,rfl⟩;obtain⟨hgk,hgo⟩:=getD_set hk D1;have hnb1:(s.defs.set k D1).map nib=s.defs.map nib:=set_same_map (List.getElem?_eq_getElem hk) _ (by rw[hD1]) (by rw[hD1]) (by rw[hD1]);have hfr1:=nib_frA hnb1;have hnm1:∀ i,((s.defs.set k D1).getD i dd0).name=(s.defs.getD i dd0).name:=fun i=>congrArg Fr.name (congrFun hfr1 i);have key:∀ nq,Kp w ((w.setCell ⟨ob,5,none⟩ (.int .i64 (wrap64 (c2.ct+1)))).drewN nq) (fun k=>k=ob)/\Pres D D w ((w.setCell ⟨ob,5,none⟩ (.int .i64 (wrap64 (c2.ct+1)))).drewN nq) m.bk/\EX D ((w.setCell ⟨ob,5,none⟩ (.int .i64 (wrap64 (c2.ct+1)))).drewN nq) m.bk s.defs.length (frA s.defs) (fun k=>obs.getD k 0) (XD (s.defs.set k D1)) (fun _=>False):=fun nq=>by
  have hkp:Kp w ((w.setCell ⟨ob,5,none⟩ (.int .i64 (wrap64 (c2.ct+1)))).drewN nq) (fun k=>k=ob):=((Kp.refl w (fun k=>k=ob)).set (a:=⟨ob,5,none⟩) (fun _=>rfl) _).drewN nq;have hbd:=BD_u hW.ud hob hkp;have hnew:WordC D ((w.setCell ⟨ob,5,none⟩ (.int .i64 (wrap64 (c2.ct+1)))).drewN nq) m.bk ob f { c2 with ct:=wrap64 (c2.ct+1) }:=⟨hc.blk.set 5 _,hc.nm,hc.ns,hc.it.mono hbd,hc.sl.mono hbd (fun _ _ h=>h),hc.ac.mono hbd (fun _ _ h=>h),hc.pm.frame hkp (GLe.refl _ _) (fun b hb e=>hc.pm.neBlk hb hc.blk e),hc.wm.frame hkp (GLe.refl _ _) (fun b hb e=>hc.wm.neBlk hb hc.blk e),hc.wn,hc.u,hc.wf⟩;refine⟨hkp,hW.word hr hc hkp hnew rfl rfl rfl rfl rfl,?_⟩;have hq:∀ i j,(XD s.defs).P i j<->(XD (s.defs.set k D1)).P i j:=fun i j=>by
   show _∈_<->_∈_;rw[hnm1 j];by_cases e:i=k
   ·subst e;rw[hgk,hD1,getD_lt hk]
   ·rw[hgo i e]
  refine hX.word hW hk (c:=c2) (c':={ c2 with ct:=wrap64 (c2.ct+1) }) (by rw[hfA,hok];exact hc) (by rw[hok];exact hkp) (by rw[hfA,hok];exact hnew) ?_ ?_ ((x3.same (fun b hb=>hkp.block b (hc.pm.lt hb) (hc.pm.neBlk hb hc.blk))).iff (fun j _=>hq k j)) (fun e=>((x4 e).same (fun b hb=>hkp.block b (hc.wm.lt hb) (hc.wm.neBlk hb hc.blk))).iff (fun j _=>hq j k)) (fun e=>e.elim) (fun j hj e=>⟨?_,?_,fun i _=>hq j i,fun i _=>hq i j,Iff.rfl⟩)
  ·show c2.fa=((s.defs.set k D1).getD k dd0).fast;rw[hgk,hD1];exact x1
  ·show wrap64 (c2.ct+1)=((s.defs.set k D1).getD k dd0).count;rw[hgk,hD1,x2]
  ·show ((s.defs.set k D1).getD j dd0).fast=(s.defs.getD j dd0).fast;rw[hgo j e]
  ·show ((s.defs.set k D1).getD j dd0).count=(s.defs.getD j dd0).count;rw[hgo j e]
 have hgood:=h.good.same hss hnib;have hids:s1.ids=s.ids:=by rw[hss]
 have hml:=hwr.mp.lt;have hmo:¬ mb=ob:=map_ne hwr.mp hc.blk;rw[x2] at key c5;refine noteYes s.defs[k].count s.hot hbo _ c4 c6 c5 (hc.blk.free 5) (h.book.cell rfl) (fun hlt nq=>?_) (fun hlt nq=>?_)
 ·rw[if_pos hlt] at hcm;injection hcm with hcm;have hsd:s1.defs=s.defs.set k D1:=by rw[<-hcm,hD1]
  obtain⟨hkp,hp,hx⟩:=key nq;have hfu:Kp w ((w.setCell ⟨ob,5,none⟩ (.int .i64 (wrap64 (s.defs[k].count+1)))).drewN nq) (FU D w m.bk):=hkp.mono (fun k _ e=>.inl ⟨f,by rw[show k=ob from e];exact hr⟩);have hW1:=hwr.same hnib hp (fun _ _ h=>h) (fun _ _ h=>h) (hW.next hkp.size hp) (hkp.block mb hml hmo) (by rw[hsd,nib_frA hnb1,nib_len hnb1];exact hx) (fun d hd=>by
   rw[nib_know hnib];rw[hsd] at hd;rcases List.mem_or_eq_of_mem_set hd with q|q
   ·exact hwr.bn d q
   ·rw[q,hD1];exact (hwr.bn s.defs[k] (List.getElem_mem hk)))
  obtain⟨h1,h2⟩:=h.redef (s':=s1) (hkp.mono (fun k _ e=>.inl (hob k e))) ⟨obs,DD,hW1⟩ (by rw[hss]) (fun _ _ h=>h) (fun _ h=>h) (fun _ h=>.inl h) (fun _ h=>.inl h) (fun k hk2=>kindU hW hfu hp hk2 (h.us k hk2).2.2) hgood rfl (by rw[hids];exact⟨h.ids.1,h.ids.2.1⟩) (by rw[hids];exact h.idr);exact⟨m,D,h1,h2⟩
 ·rw[if_neg hlt] at hcm;obtain⟨hkp,hp,hx⟩:=key nq;obtain⟨W5,hW5⟩:∃ W5,W5=(w.setCell ⟨ob,5,none⟩ (.int .i64 (wrap64 (s.defs[k].count+1)))).drewN nq:=⟨_,rfl⟩;rw[<-hW5] at hkp hp hx ⊢;have hs5:W5.heap.size=w.heap.size:=by rw[hW5];show (w.setCell _ _).heap.size=_;simp
  have hW5d:=hW.next hkp.size hp;have hbk5:=hkp.blk h.book hbo;have hb0:=h.good.b0;have hb1:=h.good.b1;have hbn:((s.built.toNat:Nat):Int)=s.built:=by omega
  rw[<-hbn] at hbk5;obtain⟨c',e1,_,_,_,_,hc'⟩:=hp ob f c2 hr hc;have hbd:∀ t b,bodyOf s.defs t=some b->(∃ G,wb (knowD s.defs) G false b)/\UB b:=fun t b hb=>by
   unfold bodyOf at hb;obtain⟨d,hd,rfl⟩:=Option.map_eq_some_iff.1 hb;have hm:=List.mem_of_find?_eq_some hd;obtain⟨i,hi,rfl⟩:=List.getElem_of_mem hm;exact⟨(hwr.cur i hi).2.2,hwr.ub _ hm⟩
  split at hcm
  ·cases hcm
  rename_i bs hbs
  injection hcm with hcm;have hbs:buildsG s.defs g s.built.toNat s.defs[k].body=some bs:=by
   rw[<-builds_nib (defs':=s.defs.set k { s.defs[k] with count:=wrap64 (s.defs[k].count+1),fast:=true }) (set_same_map (List.getElem?_eq_getElem hk) _ rfl rfl rfl)];exact hbs
  have hin:=builds_in hbd g s.built.toNat s.defs[k].body bs G hG (hwr.ub _ (List.getElem_mem hk)) hbs;refine (heatM hW5d hx hk hok hfA (fun o q hq=>by obtain⟨j,hj,a1,a2⟩:=hq;exact⟨j,hj,a1.symm,by rw[a2];unfold frA;rw[getD_lt hj]⟩) hwr.l30 hr hc' (C:=curD s.defs obs) (K:=s.defs.map Def.name) (bo:=bodyOf s.defs) (fun o g hg=>?_) s.built.toNat (by omega) s.hot hbk5 (hwr.bld hp (hkp.block mb hml hmo) hbk5) ?_).mono ?_
  ·obtain⟨k,hk1,q1,q2⟩:=hg;obtain⟨r1,⟨c2,r2,r3⟩,_⟩:=hwr.cur k hk1;rw[q1,<-q2] at r1 r2;obtain⟨c3,a1,_,_,_,_,a6⟩:=hp o g c2 r1 r2;exact⟨r1,c3,a6,a1.trans r3⟩
  ·rw[hfk];exact⟨G,wb_known (fun t ht=>know_mem.1 ht) _ _ _ hG⟩
  ·rintro e w' ⟨rfl,n2,pb,a1,a2,a3,a4,a5,a6,a7,a8⟩;rw[hs5] at a1 a5 a6 a8;have hk6:Kp W5 w' D.u:=a4.mono (fun k _ e=>e.u hW5d);have hkw:Kp w w' D.u:=(hkp.mono (fun k _ e=>hob k e)).trans hk6;have hfu:Kp w w' (FU D w m.bk):=(hkp.mono (fun k _ e=>.inl ⟨f,by rw[show k=ob from e];exact hr⟩)).trans (a4.mono (fun k _ e=>e.back hW hp));have hpw:=hp.trans (fun _ _ h=>h) a5;obtain⟨D2,hD2⟩:∃ D2:Def,D2={ s.defs[k] with count:=wrap64 (s.defs[k].count+1),fast:=true,built:=bs }:=⟨_,rfl⟩;have hsd:s1.defs=s.defs.set k D2:=by rw[<-hcm,hD2]
   obtain⟨hgk2,hgo2⟩:=getD_set hk D2;have hnb2:(s.defs.set k D2).map nib=s.defs.map nib:=by rw[<-hsd];exact hnib
   have hnm2:∀ i,((s.defs.set k D2).getD i dd0).name=(s.defs.getD i dd0).name:=fun i=>congrArg Fr.name (congrFun (nib_frA hnb2) i);have hX2:EX (hotG D w.heap.size n2 pb ob) w' m.bk s.defs.length (frA s.defs) (fun k=>obs.getD k 0) (XD (s.defs.set k D2)) (fun _=>False):=by
    have hT:∀ j,Bd (bodyOf s.defs) s.built.toNat f.body (frA s.defs j).name<->((s.defs.set k D2).getD j dd0).name∈bs:=fun j=>by
     rw[hnm2 j,hfk];exact (hin _).symm
    refine a8.iff (fun i _=>?_) (fun i _=>?_) (fun i j _ _=>?_) (fun i j _ _ _=>?_)
    ·show ((s.defs.set k D2).getD i dd0).fast=if i=k then true else ((s.defs.set k D1).getD i dd0).fast;by_cases e:i=k
     ·rw[if_pos e,e,hgk2,hD2]
     ·rw[if_neg e,hgo2 i e,hgo i e]
    ·show ((s.defs.set k D2).getD i dd0).count=((s.defs.set k D1).getD i dd0).count;by_cases e:i=k
     ·rw[e,hgk2,hgk,hD2,hD1]
     ·rw[hgo2 i e,hgo i e]
    ·show ((i=k/\_)\/(i ≠ k/\_∈((s.defs.set k D1).getD i dd0).built))<->_∈((s.defs.set k D2).getD i dd0).built;by_cases e:i=k
     ·subst e;have hb2:D2.built=bs:=by rw[hD2]
      rw[hgk2,hb2,<-hT j];exact⟨fun q=>q.elim (fun q=>q.2) (fun q=>absurd rfl q.1),fun q=>.inl ⟨rfl,q⟩⟩
     ·rw[hgo2 i e,hgo i e,hnm1 j,hnm2 j];exact⟨fun q=>q.elim (fun q=>absurd q.1 e) (fun q=>q.2),fun q=>.inr ⟨e,q⟩⟩
    ·show (_∈((s.defs.set k D1).getD i dd0).built\/(i=k/\_/\¬ False))<->_∈((s.defs.set k D2).getD i dd0).built;by_cases e:i=k
     ·subst e;have hb1:D1.built=[]:=by rw[hD1];exact hbt
      have hb2:D2.built=bs:=by rw[hD2]
      rw[hgk2,hgk,hb1,hb2,<-hT j];exact⟨fun q=>q.elim (fun q=>by cases q) (fun q=>q.2.1),fun q=>.inr ⟨rfl,q,fun e=>e⟩⟩
     ·rw[hgo2 i e,hgo i e,hnm1 j,hnm2 j];exact⟨fun q=>q.elim id (fun q=>absurd q.1 e),.inl⟩
   have hW1:=hwr.same hnib hpw (fun _ _ h=>h) (fun _ _ h=>h) a6 (by
    have:=hkw.block mb hml (fun e=>(h.us mb e).2.1 rfl);exact this) (by rw[hsd,nib_frA hnb2,nib_len hnb2];exact hX2) (fun d hd=>by
    rw[nib_know hnib];rw[hsd] at hd;rcases List.mem_or_eq_of_mem_set hd with q|q
    ·exact hwr.bn d q
    ·rw[q,hD2];exact⟨fun e=>(by cases e),fun t ht=>Bd_known hbd hG (hwr.ub _ (List.getElem_mem hk)) ((hin t).1 ht)⟩)
   obtain⟨h1,h2⟩:=h.redef (D':=hotG D w.heap.size n2 pb ob) (s':=s1) (hkw.mono (fun k _ e=>.inl e)) ⟨obs,DD,hW1⟩ (by rw[hss]) (fun _ _ h=>h) (fun _ h=>.inl h) (fun k hd=>hd.imp id (fun q=>⟨q.1,by omega⟩)) (fun k hu=>hu.imp id (fun e=>by omega)) (fun k hk2=>by
    rcases hk2 with hk2|hk2
    ·exact kindU hW hfu hpw hk2 (h.us k hk2).2.2
    ·rw[hk2];exact .inr a7) hgood rfl (by rw[hids];exact⟨h.ids.1,h.ids.2.1⟩) (by rw[hids];exact h.idr)
   exact⟨rfl,m,_,h1,h2⟩
end
end
section
open Go.RowKit
theorem xCome_same {g:Nat} {f:Fr} {s s':St} (h:xCome g f s=some s'):s'.defs.map nib=s.defs.map nib/\s'={ s with defs:=s'.defs }:=by
 unfold xCome at h
 split at h
 ·injection h with h;subst h;exact⟨rfl,rfl⟩
 ·split at h
  ·cases h
  ·split at h
   ·exact St.count_same h
   ·injection h with h;subst h;exact⟨rfl,rfl⟩
theorem count_dep {g k:Nat} {s s1:St} (n:Int) (h:s.count g k=some s1):St.count g { s with depth:=n } k=some { s1 with depth:=n }:=by
 unfold St.count at h ⊢;dsimp only at h ⊢
 split at h
 ·cases h
 ·split at h
  ·rename_i hd hf;injection h with h;subst h;rw[if_pos hf]
  ·rename_i hd hf
   rw[if_neg hf]
   split at h
   ·rename_i hl;injection h with h;subst h;rw[if_pos hl]
   ·rename_i hl
    rw[if_neg hl]
    split at h
    ·cases h
    ·injection h with h;subst h;rfl
theorem xCome_dep {g:Nat} {f:Fr} {s s1:St} (n:Int) (h:xCome g f s=some s1):xCome g f { s with depth:=n }=some { s1 with depth:=n }:=by
 unfold xCome St.find at h ⊢;dsimp only at h ⊢
 split at h
 ·injection h with h;subst h;rfl
 ·split at h
  ·cases h
  ·split at h
   ·rename_i hi;rw[if_pos hi];exact count_dep n h
   ·rename_i hi;rw[if_neg hi];injection h with h;subst h;rfl
section
variable {B:Nat} {W w:World} {xb rb mb:Nat} {m:MS} {D:GD} {s:St}
theorem enter_parts {g:Nat} {f:Fr} {s':St} {left:Bool} (h:xRun (g+1) (jEnter f) s=some (s',left)) (h20:¬ 20<=s.depth):
  ∃ (s1 s2:St) (left2:Bool),s1={ s with defs:=s1.defs }/\xCome g f s=some s1/\xRun g (jBody f [] f.body) { s1 with depth:=s1.depth+1 }=some (s2,left2)/\s'={ s2 with depth:=s2.depth - 1 }/\s2.depth=s.depth+1:=by
 rw[x_enter,if_neg h20] at h
 cases hc:xCome g f s with
 | none=>rw[hc] at h;cases h
 | some s1=>
  rw[hc] at h;obtain⟨s2,left2,hx,hs⟩:=enter_tail h;obtain⟨h1,h2⟩:=xCome_same hc;refine⟨s1,s2,left2,h2,rfl,hx,hs,?_⟩;have:=(xRun_keep _ _ _ _ _ hx).1;rw[this];show s1.depth+1=s.depth+1;rw[h2]
theorem enterP (g:Nat) (hW:QW B W g) (h:PR B W w xb rb mb m D s) (he:s.e=0) (f:Fr) (ob:Nat) (hr:D.r ob f) (s1 s2:St) (left:Bool) (gc:Nat) (q2:xCome gc f s=some s1) (hx:xRun g (jBody f [] f.body) s1=some (s2,left)):
  Calls Tryz.prog 121 #[pt m.bk,pt rb,pt ob] w fun e w'=>e=.returned (.int .i64 s2.e)/\PPost B W xb rb mb w m D s2 w':=by
 have HN:=hide (noteP h ob f hr gc s1 q2);have he1:s1.e=0:=by obtain⟨_,q1⟩:=xCome_same q2;rw[q1];exact he
 have HW:Hid (∀ w1 m1 D1,PR B W w1 xb rb mb m1 D1 s1->PTo xb rb mb w w1 m m1 D D1->Calls Tryz.prog 161 #[pt ob,pt rb] w1 fun e w'=>e=.returned (.int .i64 s2.e)/\PPost B W xb rb mb w m D s2 w'):=by
  intro w1 m1 D1 hr1 ht1;refine (hW w1 xb rb mb m1 D1 s1 s2 f ob left hr1 he1 (ht1.rg _ _ hr) hx).mono ?_;rintro e w' ⟨rfl,hp⟩;exact⟨rfl,hp.step ht1⟩
 clear h he hr q2 hx hW he1;go_enter Tryz.func121,Tryz.ntmps121
 go_wp2_with fail
 refine HN.out.mono ?_;rintro e w1 ⟨rfl,m1,D1,hr1,ht1⟩;have HC:=hide (HW.out w1 m1 D1 hr1 ht1);clear hr1 ht1 HW HN
 go_wp2_with fail
 refine HC.out.mono ?_;rintro e w2 ⟨rfl,hp⟩;have HP:=hide hp;clear hp HC;go_wp2;go_ret;exact⟨rfl,HP.out⟩
theorem recFn (w:World) (rb bb wb bk ob:Nat) (Q:Ending->World->Prop) (h1:Blk w bb 78 #[pt bk]) (h2:Blk w wb 107 #[pt ob])
  (hc:∀ w0,Kp w w0 (fun _=>False)->Calls Tryz.prog 121 #[pt bk,pt rb,pt ob] w0 fun e w'=>∃ n,e=.returned (.int .i64 n)/\Q e w'):
  Calls Tryz.prog 229 #[pt rb,pt bb,pt wb] w Q:=by
 have c1:w.cell? ⟨bb,0,none⟩=some (pt bk):=h1.cell rfl;have c2:w.cell? ⟨wb,0,none⟩=some (pt ob):=h2.cell rfl;have HC:=hide hc;clear hc;go_enter Tryz.func229,Tryz.ntmps229
 go_wp2_with fail
 refine (HC.out _ (Kp.refl _ _)).mono ?_;rintro e w1 ⟨n,rfl,hq⟩;have HQ:=hide hq;clear hq;go_wp2;exact HQ.out
theorem recP (g:Nat) (hW:QW B W g) (h:PR B W w xb rb mb m D s) (he:s.e=0) (f:Fr) (ob db bb wb:Nat) (hb:BD D.d w db 125 #[.func (.func 229) #[] #[pt bb,pt wb]]) (h1:BD D.d w bb 78 #[pt m.bk]) (h2:BD D.d w wb 107 #[pt ob]) (hw:D.r ob f) (s':St) (left:Bool) (hx:xRun (g+1) (jEnter f) s=some (s',left)):
  CallsV (fDeep db) (pt rb) w fun e w'=>e=.returned (.int .i64 s'.e)/\PPost B W xb rb mb w m D s' w':=by
 by_cases h20:20<=s.depth
 ·have hs:s'=deeper s s:=by
   rw[x_enter,if_pos h20] at hx;injection hx with hx;injection hx with hx _;rw[<-hx];unfold deeper;rw[if_pos h20]
  rw[hs];exact deepP h db _ _ _ hb s (fun h=>absurd h20 h)
 ·obtain⟨s1,s2,left2,q1,q2,q3,q4,q5⟩:=enter_parts hx h20;have hs:s'=deeper s s2:=by unfold deeper;rw[if_neg h20];exact q4
  rw[hs];refine deepP h db _ _ _ hb s2 (fun _=>⟨q5,fun w1 m1 hr1 ht1=>?_⟩);have hd1:s1.depth=s.depth:=by rw[q1]
  have kd:=h.keepD ht1;refine⟨_,_,_,rfl,ent_recf,?_⟩;show Calls Tryz.prog 229 #[pt rb,pt bb,pt wb] w1 _;refine recFn w1 rb bb wb m.bk ob _ (kd _ _ _ h1).2 (kd _ _ _ h2).2 (fun w0 hk=>?_);obtain⟨hr3,ht3⟩:=hr1.kp hk;rw[<-ht1.bk];refine (enterP g hW hr3 he f ob hw { s1 with depth:=s1.depth+1 } s2 left2 g (by rw[hd1];exact xCome_dep _ q2) q3).mono ?_;rintro e w' ⟨rfl,hp⟩;exact⟨_,rfl,rfl,hp.step ht3⟩
theorem callFn (w:World) (rb bb nb bk mb ob:Nat) (nm:ByteArray) (Q:Ending->World->Prop) {hh bl:Value} (h1:Blk w bb 78 #[pt bk]) (h2:Blk w nb 9 #[.string nm]) (h3:Blk w bk 106 #[.map (some mb),hh,bl])
  (hrun:∀ w0,Kp w w0 (fun _=>False)->(Instr.lookup 104 (.map (some mb)) (.string nm) false).run Tryz.prog w0=.ok (pt ob) w0)
  (hc:∀ w0,Kp w w0 (fun _=>False)->Calls Tryz.prog 121 #[pt bk,pt rb,pt ob] w0 fun e w'=>∃ n,e=.returned (.int .i64 n)/\Q e w'):
  Calls Tryz.prog 120 #[pt rb,pt bb,pt nb] w Q:=by
 have c1:w.cell? ⟨bb,0,none⟩=some (pt bk):=h1.cell rfl;have c2:w.cell? ⟨nb,0,none⟩=some (.string nm):=h2.cell rfl;have c3:w.cell? ⟨bk,0,none⟩=some (.map (some mb)):=h3.cell rfl;have HR:=hide hrun;have HC:=hide hc;have hr0:=hrun w (Kp.refl _ _);have hr1:=hrun w.drew (Kp.refl _ _).drew;clear hrun hc HR;go_enter Tryz.func120,Tryz.ntmps120;go_wp2
 go_region_with (go_at_call 121;refine (HC.out _ ?_).mono ?_;exact (Kp.refl _ _).drew;rintro e w1 ⟨n,rfl,hq⟩;have HQ:=hide hq;clear hq)
 all_goals go_wp2
 all_goals go_ret
 all_goals exact HQ.out
theorem lookM {w:World} {D:GD} {bk mb:Nat} {defs:List Def} (h:WordsR D w bk mb defs) (nm:ByteArray) (hs:nm.size<=1000) (d:Def) (hd:defs.find? (fun d=>d.name == nm.data.toList)=some d):
  ∃ ob,D.r ob (frD d)/\∀ w0,w0.heap[mb]? = w.heap[mb]?->(Instr.lookup 104 (.map (some mb)) (.string nm) false).run Tryz.prog w0=.ok (pt ob) w0:=by
 obtain⟨obs,DD,h⟩:=h;have hsz:nm.size<=maxLen:=Nat.le_trans hs (by decide);have hl:=h.lk nm.data.toList hsz
 cases hf:defs.findIdx? (fun d=>d.name == nm.data.toList) with
 | none=>
  rw[List.findIdx?_eq_none_iff] at hf;have:=hf d (List.mem_of_find?_eq_some hd);have h6:=List.find?_some hd;rw[this] at h6;cases h6
 | some k=>
  obtain⟨hk,_,_⟩:=List.findIdx?_eq_some_iff_getElem.1 hf;have hdk:d=defs[k]:=by
   have:=List.find?_eq_some_iff_getElem.1 hd;obtain⟨hp,i,hi,hx,hn⟩:=this;obtain⟨hk1,hk2,hk3⟩:=List.findIdx?_eq_some_iff_getElem.1 hf;have:i=k:=by
    rcases Nat.lt_trichotomy i k with h|h|h
    ·exact absurd (by rw[hx];exact hp) (hk3 i h)
    ·exact h
    ·have:=hn k h;rw[hk2] at this;cases this
   subst this;exact hx.symm
  rw[hf] at hl;refine⟨obs.getD k 0,by rw[hdk];exact (h.cur k hk).1,fun w0 e0=>look_run (ownsMap_same h.mp e0) nm hsz hl⟩
theorem callP (g:Nat) (hW:QW B W g) (h:PR B W w xb rb mb m D s) (he:s.e=0) (db bb nb:Nat) (nm:ByteArray) (hs:nm.size<=1000) (hb:BD D.d w db 125 #[.func (.func 120) #[] #[pt bb,pt nb]]) (h1:BD D.d w bb 78 #[pt m.bk]) (h2:BD D.d w nb 9 #[.string nm]) (s':St) (left:Bool) (hx:xRun (g+1+1) (jCall nm.data.toList) s=some (s',left)):
  CallsV (fDeep db) (pt rb) w fun e w'=>e=.returned (.int .i64 s'.e)/\PPost B W xb rb mb w m D s' w':=by
 rw[x_call] at hx
 cases hd:s.defs.find? (fun d=>d.name == nm.data.toList) with
 | none=>rw[hd] at hx;cases hx
 | some d=>
  rw[hd] at hx;dsimp only at hx;by_cases h20:20<=s.depth
  ·have hs:s'=deeper s s:=by
    rw[x_enter,if_pos h20] at hx;injection hx with hx;injection hx with hx _;rw[<-hx];unfold deeper;rw[if_pos h20]
   rw[hs];exact deepP h db _ _ _ hb s (fun h=>absurd h20 h)
  ·obtain⟨s1,s2,left2,q1,q2,q3,q4,q5⟩:=enter_parts hx h20;have hs':s'=deeper s s2:=by unfold deeper;rw[if_neg h20];exact q4
   rw[hs'];refine deepP h db _ _ _ hb s2 (fun _=>⟨q5,fun w1 m1 hr1 ht1=>?_⟩);have hd1:s1.depth=s.depth:=by rw[q1]
   obtain⟨ob,hob,hlk⟩:=lookM hr1.words nm hs d hd;have kd:=h.keepD ht1;have hmlt:=hr1.words.ltm;refine⟨_,_,_,rfl,ent_callf,?_⟩;show Calls Tryz.prog 120 #[pt rb,pt bb,pt nb] w1 _;refine callFn w1 rb bb nb m.bk mb ob nm _ (kd _ _ _ h1).2 (kd _ _ _ h2).2 (by rw[<-ht1.bk];exact hr1.book) (fun w0 hk=>hlk w0 (hk.block mb hmlt (by simp))) (fun w0 hk=>?_);obtain⟨hr3,ht3⟩:=hr1.kp hk;rw[<-ht1.bk];refine (enterP g hW hr3 he (frD d) ob hob { s1 with depth:=s1.depth+1 } s2 left2 g (by rw[hd1];exact xCome_dep _ q2) q3).mono ?_;rintro e w' ⟨rfl,hp⟩;exact⟨_,rfl,rfl,hp.step ht3⟩
end
end
section
open Go.RowKit
theorem braceFn (w:World) (rb sb tb bk:Nat) (tv:Value) (a:Option Addr) (n p:Nat) (htv:tv=.slice a n p) (Q:Ending->World->Prop) (h1:Blk w sb 78 #[pt bk]) (h2:Blk w tb 47 #[tv])
  (hc:∀ w0,Kp w w0 (fun _=>False)->Calls Tryz.prog 42 #[pt bk,pt rb,tv] w0 fun e w'=>∃ n,e=.returned (.int .i64 n)/\Q e w'):
  Calls Tryz.prog 230 #[pt rb,pt sb,pt tb] w Q:=by
 subst htv;have c1:w.cell? ⟨sb,0,none⟩=some (pt bk):=h1.cell rfl;have c2:w.cell? ⟨tb,0,none⟩=some (.slice a n p):=h2.cell rfl;have HC:=hide hc;clear hc;go_enter Tryz.func230,Tryz.ntmps230
 go_wp2_with fail
 refine (HC.out _ (Kp.refl _ _)).mono ?_;rintro e w1 ⟨n,rfl,hq⟩;have HQ:=hide hq;clear hq;go_wp2;exact HQ.out
section
variable {B:Nat} {W w:World} {xb rb mb fb:Nat} {m:MS} {D:GD} {s:St} {lv:Value} {lp:List Int}
theorem bracesP (g:Nat) (hT:QT B W g) (h:PR B W w xb rb mb m D s) (he:s.e=0) (db sb tb:Nat) (tv:Value) (ws:List ByteArray) (hb:BD D.d w db 125 #[.func (.func 230) #[] #[pt sb,pt tb]]) (h1:BD D.d w sb 78 #[pt m.bk]) (h2:BD D.d w tb 47 #[tv]) (h3:rowM (BD D.d w) 9 tv (ws.map Value.string)) (ho:∀ t∈ws,okW t) (hl:ws.length<=1000) (s2:St) (left:Bool)
  (hx:¬ 20<=s.depth->xRun g (jToks (texts ws)) { s with depth:=s.depth+1 }=some (s2,left)):
  CallsV (fDeep db) (pt rb) w fun e w'=>e=.returned (.int .i64 (deeper s s2).e)/\PPost B W xb rb mb w m D (deeper s s2) w':=by
 refine deepP h db _ _ _ hb s2 (fun h20=>⟨(xRun_keep _ _ _ _ _ (hx h20)).1,fun w1 m1 hr1 ht1=>?_⟩);have kd:=h.keepD ht1;refine⟨_,_,_,rfl,ent_brf,?_⟩;show Calls Tryz.prog 230 #[pt rb,pt sb,pt tb] w1 _;obtain⟨a,p,hv⟩:=h3.form;refine braceFn w1 rb sb tb m.bk tv a _ p hv _ (kd _ _ _ h1).2 (kd _ _ _ h2).2 (fun w0 hk=>?_);obtain⟨hr3,ht3⟩:=hr1.kp hk;have hrow:=(rowM_mono (fun b t c hb=>(hr1.keepD ht3) b t c (kd b t c hb)) h3);have htok:TokAt (Blk w0) tv ws:=by
  rcases hrow with⟨h4,h5⟩|⟨gd,cap,cur,h4,h5,h6,h7,h8,h9⟩
  ·refine .inl ⟨by simpa using h5,none,0,h4⟩
  ·refine .inr ⟨gd,0,cap,cur,by rw[h4];simp,h5.2,by simpa using h6,by omega,by omega,fun i hi=>?_⟩;have hi2:i < (ws.map Value.string).length:=by simpa using hi
   have:(cur.toList.take ((ws.map Value.string).length * 1))[i]? = (ws.map Value.string)[i]?:=by rw[h9]
   rw[List.getElem?_take_of_lt (by omega)] at this;simp only[Nat.zero_add];rw[<-Array.getElem?_toList,this];simp[hi]
 rw[<-ht1.bk];refine (hT w0 xb rb mb m1 D _ s2 tv ws left hr3 he htok ho hl (hx h20)).mono ?_;rintro e w' ⟨rfl,hp⟩;exact⟨_,rfl,rfl,hp.step ht3⟩
theorem nothingP (h:PR B W w xb rb mb m D s) (he:s.e=0):CallsV (.func (.func 231) #[] #[]) (pt rb) w fun e w'=>e=.returned (.int .i64 s.e)/\PPost B W xb rb mb w m D s w':=by
 refine⟨_,_,_,rfl,ent_nothing,?_⟩;show Calls Tryz.prog 231 #[pt rb] w _;rw[he];have H:=hide h;clear h he;go_enter Tryz.func231,Tryz.ntmps231;go_wp2;go_ret;exact⟨rfl,m,D,H.out,PTo.refl _ _ _ _ _ _⟩
theorem exitP (h:PR B W w xb rb mb m D s) (he:s.e=0) (hf:FrR B w fb rb m D lv 0 lp):
  CallsV (.func (.func 208) #[] #[]) (pt fb) w fun e w'=>e=.returned (.int .i64 1)/\FPo B W xb rb mb fb w m D lv lp s.step w':=by
 refine⟨_,_,_,rfl,ent_exit,?_⟩;show Calls Tryz.prog 208 #[pt fb] w _;have c0:w.cell? ⟨fb,0,none⟩=some (pt rb):=hf.blk.cell rfl;have hmf:=mkFunc;have HS:Hid (∀ w0,Kp w w0 (fun _=>False)->Calls Tryz.prog 68 #[pt rb,.func (.func 231) #[] #[]] w0 fun e w'=>e=.returned (.int .i64 s.step.e)/\PPost B W xb rb mb w m D s.step w'):=by
  intro w0 hk;obtain⟨h0,t0⟩:=h.kp hk;refine (stepP h0 he (.func (.func 231) #[] #[]) s.step s.step (by split <;> rfl) (fun e w1 m1 p1 t1=>nothingP p1 e)).mono ?_
  rintro e w' ⟨rfl,hp⟩;exact⟨rfl,hp.step t0⟩
 have HF:Hid (∀ w1,PPost B W xb rb mb w m D s.step w1->FPo B W xb rb mb fb w m D lv lp s.step (w1.setCell ⟨fb,2,none⟩ (.int .i64 s.step.e))/\(∃ y,Blk w1 fb 247 #[pt rb,lv,.int .i64 y])):=fun w1 hp=>FPo.heed h hf hp;clear h he hf;go_enter Tryz.func208,Tryz.ntmps208
 go_wp2_with fail
 refine (HS.out _ (Kp.refl _ _)).mono ?_;rintro e w1 ⟨rfl,hp⟩;obtain⟨h1,⟨y,h2⟩⟩:=HF.out w1 hp;have H1:=hide h1;clear h1 hp
 go_wp2_with fail
 refine (heedM _ fb s.step.e _ _ _ h2).mono ?_;rintro e w2 ⟨rfl,rfl⟩;go_wp2;go_ret;exact⟨rfl,H1.out⟩
end
end
end Go.Proofs.YteainaiebcphlaaGreatDoor
