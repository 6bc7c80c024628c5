import Derived.Test.YteainaiebcphlaaGreatDoorV12
import Derived.Test.YteainaiebcphlaaGreatDoorV9
import Derived.Test.YteainaiebcphlaaGreatDoorV11
namespace Go.Proofs.YteainaiebcphlaaGreatDoor
set_option maxRecDepth 1000000
set_option maxHeartbeats 4000000
set_option linter.all false
section
open Go.RowKit
variable {K:Nat->Prop}
def CBnd (l:List It):Prop:=∀ g names,callsG g l=some names->names.length<=1000
def bnd:Nat->Nat
 | 0=>0
 | n+1=>1000 * (1+bnd n)
theorem bnd_le (n:Nat) (h:n<=3):bnd n<=4000000000000:=by
 rcases (show n=0\/n=1\/n=2\/n=3 by omega) with rfl|rfl|rfl|rfl <;> decide
theorem fold_len {defs:List Def} {g n B:Nat} (hB:∀ b x,(∃ t,bodyOf defs t=some b)->buildsG defs g n b=some x->x.length<=B):∀ (names res:List Tok),foldB defs g n names=some res->res.length<=names.length * (1+B)
 | [],res,h=>by injection h with h;subst h;simp
 | t :: r,res,h=>by
  obtain⟨b,x,y,h1,h2,h3,h4⟩:=foldB_cons h;have:=fold_len hB r y h3;have h5:=hB b x ⟨t,h1⟩ h2;rw[h4];simp only[List.length_append,List.length_cons,Nat.add_mul,Nat.one_mul];omega
theorem builds_len {defs:List Def} {g:Nat} (hcb:∀ d∈defs,CBnd d.body):∀ (n:Nat) (l:List It) (res:List Tok),CBnd l->buildsG defs g n l=some res->res.length<=bnd n
 | 0,l,res,_,h=>by rw[builds_zero] at h;injection h with h;subst h;simp
 | n+1,l,res,hl,h=>by
  obtain⟨names,h1,h2⟩:=builds_succ h;have h3:=hl g names h1;have h4:=fold_len (B:=bnd n) (fun b x hb hx=>by
   obtain⟨t,ht⟩:=hb;obtain⟨k,hk,_,h5,_⟩:=bodyOf_find ht;exact builds_len hcb n b x (by rw[<-h5];exact hcb _ (List.getElem_mem hk)) hx) names res h2
  show res.length<=1000 * (1+bnd n);exact Nat.le_trans h4 (Nat.mul_le_mul_right _ h3)
theorem buildsAll (w0:World) (yb:Nat) (rs:RS) (defs:List Def) (g:Nat) (hy:Blk w0 yb 67 rs.arr) (hd:DRel K w0 rs.d.dv defs) (hcb:∀ d∈defs,CBnd d.body):∀ n,n<=4->CBuilds K w0 yb defs g n
 | 0,_=>buildsP0 w0 yb defs g
 | n+1,h=>buildsP w0 yb rs defs g n (by omega) hy hd hcb (buildsAll w0 yb rs defs g hy hd hcb n (by omega))
theorem RRel.redef {w w':World} {yb:Nat} {rs:RS} {s:St} {defs:List Def} (h:RRel K w yb rs s) (hk:Kp w w' (fun b=>own rs.d.dv b)) (hd:DRel K w' rs.d.dv defs) (hcb:∀ d∈defs,CBnd d.body):RRel K w' yb rs { s with defs:=defs }/\STo yb w w' rs rs:=by
 obtain⟨ns,hi,hns⟩:=h.inv;obtain⟨xs,hr,_⟩:=h.dr.ex;have hg:=h.good;refine⟨⟨⟨ns,⟨hk.blk hi.blk (own_ne hr hi.blk (by decide)),hk.row hi.row (fun b hb hd=>?_),hi.len⟩,hns⟩,h.e,h.st,h.mem,h.out,h.ids,h.hot,h.blt,h.dp,hd,⟨hg.g,hg.s0,hg.s1,hg.s2,hg.d0,hg.d1,hg.b0,hg.b1,hcb⟩⟩,⟨hk.mono (fun b _ hb=>.inr (.inr hb)),fun b hb=>.inl hb⟩⟩;obtain⟨c,hc⟩:=row_blk hi.row hb;exact absurd (row_type hr hd hc) (by decide)
structure DCell (K:Nat->Prop) (w:World) (rs:RS) (defs:List Def) (k:Nat) (hk:k < defs.length) (gd capd:Nat) (xs:List Value) (nm:ByteArray) (vb vt:Value):Prop where
 dv:rs.d.dv=.slice (some ⟨gd,0,none⟩) defs.length capd
 row:w.ownsRow 0 95 6 rs.d.dv defs.length xs
 its:defsIn K w defs xs
 at_:DefAt K w defs[k] nm vb vt
 x0:xs[k * 6]? = some (.string nm)
 x1:xs[k * 6+1]? = some (.int .i64 defs[k].id)
 x2:xs[k * 6+2]? = some vb
 x3:xs[k * 6+3]? = some (.int .i64 defs[k].count)
 x4:xs[k * 6+4]? = some (.bool defs[k].fast)
 x5:xs[k * 6+5]? = some vt
 cell:∀ j u,xs[j]? = some u->w.cell? ⟨gd,j,none⟩=some u
 free:∀ j,w.frozen? ⟨gd,j,none⟩=false
 blk:∃ c,Blk w gd 95 c
theorem DRel.cells {w:World} {rs:RS} {defs:List Def} (h:DRel K w rs.d.dv defs) (k:Nat) (hk:k < defs.length):∃ gd capd xs nm vb vt,DCell K w rs defs k hk gd capd xs nm vb vt:=by
 obtain⟨xs,hr,hx⟩:=h.ex;obtain⟨nm,vb,vt,h1,h2⟩:=defsIn_at _ _ hx k hk;obtain⟨gd,capd,hv,hc⟩:=row_cell hr (by omega);obtain⟨c,hcb⟩:=row_blk hr (b:=gd) (by rw[hv];rfl);exact⟨gd,capd,xs,nm,vb,vt,hv,hr,hx,h1,h2.1,h2.2.1,h2.2.2.1,h2.2.2.2.1,h2.2.2.2.2.1,h2.2.2.2.2.2,hc,fun j=>hcb.free j,⟨c,hcb⟩⟩
theorem slowK (w:World) (yb:Nat) (rs:RS) (s:St) (k:Nat) (h:RRel K w yb rs s) (hk:k < s.defs.length):
  Calls Tryz.prog 55 #[.pointer (some ⟨yb,0,none⟩),.int .i64 k] w fun e w'=>e=.returned (.tuple #[])/\RRel K w' yb rs { s with defs:=s.defs.set k (slowD s.defs[k]) }/\STo yb w w' rs rs/\Kp w w' (fun b=>own rs.d.dv b):=by
 obtain⟨gd,capd,xs,nm,vb,vt,hD⟩:=h.dr.cells k hk;obtain⟨cb,hcb⟩:=hD.blk;have hlen:=h.dr.len;have cy:w.cell? ⟨yb,17,none⟩=some (.slice (some ⟨gd,0,none⟩) s.defs.length capd):=by rw[<-hD.dv];exact h.blk.cell rfl
 have hyg:¬ yb=gd:=by rintro rfl;exact absurd (hcb.inj h.blk).1 (by decide)
 have k3:=hD.cell _ _ hD.x3;have k4:=hD.cell _ _ hD.x4;have k5:=hD.cell _ _ hD.x5;have f3:=hD.free (k * 6+3);have f4:=hD.free (k * 6+4);have f5:=hD.free (k * 6+5);obtain⟨wst,hrt,hwt⟩:=hD.at_.built;obtain⟨a5,p5,rfl⟩:=row_slice hrt;have HD:=hide hD;clear hrt hwt hD;go_enter Tryz.func55,Tryz.ntmps55;go_wp2
 go_end0
 have hD:=HD.out;have hgd:own rs.d.dv gd:=by rw[hD.dv];rfl
 have hkp:Kp w (((w.setCell ⟨gd,k * 6+4,none⟩ (.bool false)).setCell ⟨gd,k * 6+5,none⟩ (.slice none 0 0)).setCell ⟨gd,k * 6+3,none⟩ (.int .i64 0)) (fun b=>own rs.d.dv b):=
  (((Kp.refl w _).set (a:=⟨gd,k * 6+4,none⟩) (fun _=>hgd) _).set (a:=⟨gd,k * 6+5,none⟩) (fun _=>hgd) _).set (a:=⟨gd,k * 6+3,none⟩) (fun _=>hgd) _
 have hkeep:Keeps (nK K) (nK K) w (((w.setCell ⟨gd,k * 6+4,none⟩ (.bool false)).setCell ⟨gd,k * 6+5,none⟩ (.slice none 0 0)).setCell ⟨gd,k * 6+3,none⟩ (.int .i64 0)):=
  Keeps.kp hkp (fun b t c hb hbl=>by have:=row_type hD.row hb hbl;subst this;exact⟨by decide,by decide⟩) _
 have hrow:=row_set (row_set (row_set hD.row hgd (k * 6+4) (.bool false)) hgd (k * 6+5) (.slice none 0 0)) hgd (k * 6+3) (.int .i64 0);have hset:=defsIn_set (slowD s.defs[k]) nm vb (.slice none 0 0) ⟨hD.at_.nm,hD.at_.body.keep hkeep,toksIn.nil _ _⟩ _ _ (defsIn_keep hkeep _ _ hD.its) k hk;have e1:(slowD s.defs[k]).id=s.defs[k].id:=rfl;have e2:(slowD s.defs[k]).count=0:=rfl;have e3:(slowD s.defs[k]).fast=false:=rfl;rw[e1,e2,e3,set_same hD.x0,set_same hD.x1,set_same hD.x2,List.set_comm _ _ (show k * 6+3 ≠ k * 6+4 by omega),List.set_comm _ _ (show k * 6+3 ≠ k * 6+5 by omega)] at hset;have hN:=h.redef hkp (defs:=s.defs.set k (slowD s.defs[k])) ⟨⟨_,by simpa using hrow,hset⟩,by simpa using h.dr.len,fun b hb=>Nat.lt_of_lt_of_le (h.dr.old b hb) hkp.size⟩ (fun d hd=>by
  rcases List.mem_or_eq_of_mem_set hd with h1|h1
  ·exact h.good.cb d h1
  ·rw[h1];intro g names hn;exact h.good.cb s.defs[k] (List.getElem_mem hk) g names hn)
 exact⟨rfl,hN.1,hN.2,hkp⟩
theorem slowS (w:World) (yb:Nat) (rs:RS) (s:St) (k:Nat) (h:RRel K w yb rs s) (hk:k < s.defs.length):
  Calls Tryz.prog 55 #[.pointer (some ⟨yb,0,none⟩),.int .i64 k] w fun e w'=>e=.returned (.tuple #[])/\RRel K w' yb rs { s with defs:=s.defs.set k (slowD s.defs[k]) }/\STo yb w w' rs rs:=by
 refine (slowK w yb rs s k h hk).mono ?_;rintro e w' ⟨h1,h2,h3,_⟩;exact⟨h1,h2,h3⟩
theorem cb_set {s:St} {k:Nat} {d':Def} (hg:SGood s) (hk:k < s.defs.length) (hb:d'.body=s.defs[k].body):∀ d∈s.defs.set k d',CBnd d.body:=by
 intro d hd;rcases List.mem_or_eq_of_mem_set hd with h1|h1
 ·exact hg.cb d h1
 ·rw[h1,hb];intro g names hn;exact hg.cb s.defs[k] (List.getElem_mem hk) g names hn
theorem countS_fast (w:World) (yb:Nat) (rs:RS) (s:St) (k:Nat) (h:RRel K w yb rs s) (hk:k < s.defs.length) (hf:s.defs[k].fast=true):
  Calls Tryz.prog 173 #[.pointer (some ⟨yb,0,none⟩),.int .i64 k] w fun e w'=>e=.returned (.tuple #[])/\w'=w:=by
 obtain⟨gd,capd,xs,nm,vb,vt,hD⟩:=h.dr.cells k hk;have hlen:=h.dr.len;have cy:w.cell? ⟨yb,17,none⟩=some (.slice (some ⟨gd,0,none⟩) s.defs.length capd):=by rw[<-hD.dv];exact h.blk.cell rfl
 have k4:=hD.cell _ _ hD.x4;rw[hf] at k4;clear hD hf;go_enter Tryz.func173,Tryz.ntmps173;go_wp2;refine bodyPost_ret (results_none rfl _ _ _) rfl ?_;exact⟨rfl,rfl⟩
theorem countS_cold (w:World) (yb:Nat) (rs:RS) (s:St) (k:Nat) (h:RRel K w yb rs s) (hk:k < s.defs.length) (hf:s.defs[k].fast=false) (hc:wrap64 (s.defs[k].count+1) < s.hot):
  Calls Tryz.prog 173 #[.pointer (some ⟨yb,0,none⟩),.int .i64 k] w fun e w'=>e=.returned (.tuple #[])/\RRel K w' yb rs { s with defs:=s.defs.set k { s.defs[k] with count:=wrap64 (s.defs[k].count+1) } }/\STo yb w w' rs rs:=by
 obtain⟨gd,capd,xs,nm,vb,vt,hD⟩:=h.dr.cells k hk;obtain⟨cb,hcb⟩:=hD.blk;have hlen:=h.dr.len;have cy:w.cell? ⟨yb,17,none⟩=some (.slice (some ⟨gd,0,none⟩) s.defs.length capd):=by rw[<-hD.dv];exact h.blk.cell rfl
 have ch:w.cell? ⟨yb,19,none⟩=some (.int .i64 s.hot):=by rw[<-h.hot];exact h.blk.cell rfl
 have hyg:¬ yb=gd:=by rintro rfl;exact absurd (hcb.inj h.blk).1 (by decide)
 have k3:=hD.cell _ _ hD.x3;have k4:=hD.cell _ _ hD.x4;have f3:=hD.free (k * 6+3);have HF:=hide hf;rw[hf] at k4;have HD:=hide hD;clear hf hD;generalize hcn:wrap64 (s.defs[k].count+1)=cn at hc ⊢;go_enter Tryz.func173,Tryz.ntmps173;go_wp2
 go_quiet (fail)
 go_wp2
 go_end0
 have hD:=HD.out;have hgd:own rs.d.dv gd:=by rw[hD.dv];rfl
 have hkp:Kp w (w.setCell ⟨gd,k * 6+3,none⟩ (.int .i64 cn)) (fun b=>own rs.d.dv b):=(Kp.refl w _).set (a:=⟨gd,k * 6+3,none⟩) (fun _=>hgd) _;have hkeep:Keeps (nK K) (nK K) w (w.setCell ⟨gd,k * 6+3,none⟩ (.int .i64 cn)):=
  Keeps.kp hkp (fun b t c hb hbl=>by have:=row_type hD.row hb hbl;subst this;exact⟨by decide,by decide⟩) _
 have hrow:=row_set hD.row hgd (k * 6+3) (.int .i64 cn);have hset:=defsIn_set { s.defs[k] with count:=cn } nm vb vt ⟨hD.at_.nm,hD.at_.body.keep hkeep,toksIn_keep hkeep hD.at_.built⟩ _ _ (defsIn_keep hkeep _ _ hD.its) k hk;have e4:(xs.set (k * 6+3) (.int .i64 cn))[k * 6+4]? = some (.bool s.defs[k].fast):=by rw[List.getElem?_set_ne (by omega)];exact hD.x4
 have e5:(xs.set (k * 6+3) (.int .i64 cn))[k * 6+5]? = some vt:=by rw[List.getElem?_set_ne (by omega)];exact hD.x5
 dsimp only at hset;rw[set_same hD.x0,set_same hD.x1,set_same hD.x2,set_same e4,set_same e5] at hset;have hN:=h.redef hkp ⟨⟨_,by simpa using hrow,hset⟩,by simpa using h.dr.len,fun b hb=>Nat.lt_of_lt_of_le (h.dr.old b hb) hkp.size⟩ (cb_set h.good hk rfl);have hdr:Kp w ((w.setCell ⟨gd,k * 6+3,none⟩ (.int .i64 cn)).drewN nq) (fun b=>own rs.d.dv b):=hkp.drewN _;exact⟨rfl,h.redef hdr ((hN.1.dr).kpF ((Kp.refl _ _).drewN _)) (cb_set h.good hk rfl)⟩
theorem countS_hot (w:World) (yb:Nat) (rs:RS) (s:St) (k g:Nat) (h:RRel K w yb rs s) (hk:k < s.defs.length) (hf:s.defs[k].fast=false) (hc:s.hot<=wrap64 (s.defs[k].count+1)) (bs:List Tok)
  (hbs:buildsG (s.defs.set k { s.defs[k] with count:=wrap64 (s.defs[k].count+1),fast:=true }) g s.built.toNat s.defs[k].body=some bs):
  Calls Tryz.prog 173 #[.pointer (some ⟨yb,0,none⟩),.int .i64 k] w fun e w'=>e=.returned (.tuple #[])/\RRel K w' yb rs { s with defs:=s.defs.set k { s.defs[k] with count:=wrap64 (s.defs[k].count+1),fast:=true,built:=bs } }/\STo yb w w' rs rs:=by
 obtain⟨gd,capd,xs,nm,vb,vt,hD⟩:=h.dr.cells k hk;obtain⟨cb,hcb⟩:=hD.blk;have hlen:=h.dr.len;have cy:w.cell? ⟨yb,17,none⟩=some (.slice (some ⟨gd,0,none⟩) s.defs.length capd):=by rw[<-hD.dv];exact h.blk.cell rfl
 have ch:w.cell? ⟨yb,19,none⟩=some (.int .i64 s.hot):=by rw[<-h.hot];exact h.blk.cell rfl
 have cbu:w.cell? ⟨yb,20,none⟩=some (.int .i64 s.built):=by rw[<-h.blt];exact h.blk.cell rfl
 have hyg:¬ yb=gd:=by rintro rfl;exact absurd (hcb.inj h.blk).1 (by decide)
 have k2:=hD.cell _ _ hD.x2;have k3:=hD.cell _ _ hD.x3;have k4:=hD.cell _ _ hD.x4;have k5:=hD.cell _ _ hD.x5;have f3:=hD.free (k * 6+3);have f4:=hD.free (k * 6+4);have f5:=hD.free (k * 6+5);obtain⟨xsb,hrb,-⟩:=hD.at_.body.out;obtain⟨ab,pb,hvb⟩:=row_slice hrb;obtain⟨wst,hrt,hwt⟩:=hD.at_.built;obtain⟨a5,p5,hvt⟩:=row_slice hrt;subst hvb;subst hvt;rw[hf] at k4;generalize hcn:wrap64 (s.defs[k].count+1)=cn at hc hbs ⊢;have hgd:own rs.d.dv gd:=by rw[hD.dv];rfl
 obtain⟨w2,hw2⟩:∃ w2,w2=(w.setCell ⟨gd,k * 6+3,none⟩ (.int .i64 cn)).setCell ⟨gd,k * 6+4,none⟩ (.bool true):=⟨_,rfl⟩;have hkp2:Kp w w2 (fun b=>own rs.d.dv b):=by rw[hw2];exact ((Kp.refl w _).set (a:=⟨gd,k * 6+3,none⟩) (fun _=>hgd) _).set (a:=⟨gd,k * 6+4,none⟩) (fun _=>hgd) _
 have hkeep2:Keeps (nK K) (nK K) w w2:=Keeps.kp hkp2 (fun b t c hb hbl=>by have:=row_type hD.row hb hbl;subst this;exact⟨by decide,by decide⟩) _;have hrow2:w2.ownsRow 0 95 6 rs.d.dv s.defs.length ((xs.set (k * 6+3) (.int .i64 cn)).set (k * 6+4) (.bool true)):=by rw[hw2];exact row_set (row_set hD.row hgd (k * 6+3) (.int .i64 cn)) hgd (k * 6+4) (.bool true)
 have hset2:defsIn K w2 (s.defs.set k { s.defs[k] with count:=cn,fast:=true }) ((xs.set (k * 6+3) (.int .i64 cn)).set (k * 6+4) (.bool true)):=by
  have hset:=defsIn_set { s.defs[k] with count:=cn,fast:=true } nm (.slice ab s.defs[k].body.length pb) (.slice a5 wst.length p5) ⟨hD.at_.nm,hD.at_.body.keep hkeep2,toksIn_keep hkeep2 hD.at_.built⟩ _ _ (defsIn_keep hkeep2 _ _ hD.its) k hk;have e5:((xs.set (k * 6+3) (.int .i64 cn)).set (k * 6+4) (.bool true))[k * 6+5]? = some (.slice a5 wst.length p5):=by rw[List.getElem?_set_ne (by omega),List.getElem?_set_ne (by omega)];exact hD.x5
  dsimp only at hset;rw[set_same hD.x0,set_same hD.x1,set_same hD.x2,set_same e5] at hset;exact hset
 have hN2:=h.redef hkp2 (defs:=s.defs.set k { s.defs[k] with count:=cn,fast:=true }) ⟨⟨_,by simpa using hrow2,hset2⟩,by simpa using h.dr.len,fun b hb=>Nat.lt_of_lt_of_le (h.dr.old b hb) hkp2.size⟩ (cb_set h.good hk rfl);have hb0:=h.good.b0;have hb1:=h.good.b1;have hcbk:CBnd s.defs[k].body:=h.good.cb s.defs[k] (List.getElem_mem hk);have hlbs:bs.length<=4000000000000:=by
  have h1:=builds_len (cb_set (d':={ s.defs[k] with count:=cn,fast:=true }) h.good hk rfl) _ _ _ hcbk hbs;exact Nat.le_trans h1 (bnd_le _ (by omega))
 have HBU:Hid (∀ wx,Kp w2 wx (fun _=>False)->Calls Tryz.prog 188 #[.pointer (some ⟨yb,0,none⟩),.slice ab s.defs[k].body.length pb,.int .i64 s.built,.slice none 0 0] wx fun e w'=>∃ v' ws',e=.returned v'/\Kp w2 w' (fun _=>False)/\w'.ownsRow 0 9 1 v' ws'.length (ws'.map Value.string)/\(texts ws'=bs/\∀ b,own v' b->nK K b)/\w'.cell? ⟨gd,k * 6+5,none⟩=some (.slice a5 wst.length p5)/\w'.frozen? ⟨gd,k * 6+5,none⟩=false/\w'.cell? ⟨yb,17,none⟩=some (.slice (some ⟨gd,0,none⟩) s.defs.length capd)):=fun wx hkx=>by
  have h1:=buildsAll w2 yb rs _ g hN2.1.blk hN2.1.dr (cb_set (d':={ s.defs[k] with count:=cn,fast:=true }) h.good hk rfl) s.built.toNat (by omega) s.defs[k].body bs wx (.slice ab s.defs[k].body.length pb) (.slice none 0 0) [] hbs (hD.at_.body.keep hkeep2) hkx (World.ownsRow_nil _ _ _ _) (fun b hb=>by simp[own,Value.ownBlock] at hb) (by simpa using hlbs) hcbk;have e:((s.built.toNat:Nat):Int)=s.built:=by omega
  rw[e] at h1;refine h1.mono ?_;rintro e w' ⟨v',ws',h2,h3,h4,hnw,_,_,_,h5⟩;obtain⟨c2,hc2⟩:=row_blk hrow2 hgd;have hc3:=h3.blk hc2 (by simp);have e5:((xs.set (k * 6+3) (.int .i64 cn)).set (k * 6+4) (.bool true))[k * 6+5]? = some (.slice a5 wst.length p5):=by rw[List.getElem?_set_ne (by omega),List.getElem?_set_ne (by omega)];exact hD.x5
  obtain⟨gd',capd',hv',hcl⟩:=row_cell (h3.row hrow2 (by simp)) (by omega);rw[hD.dv] at hv';injection hv' with e1 e2 e3;injection e1 with e1;injection e1 with e1;exact⟨v',ws',h2,h3,h4,⟨by simpa [texts] using h5,fun b hb hK=>by have q1:=h.dr.old b hK;have q2:=hkp2.size;have q3:w2.heap.size<=b:=hnw b hb;omega⟩,by rw[e1];exact hcl _ _ e5,hc3.free _,by rw[<-hD.dv];exact (h3.blk hN2.1.blk (by simp)).cell rfl⟩
 have HD:=hide hD;have HW2:=hide hw2;have HS2:=hide hset2;have HR2:=hide hrow2;have HN2:=hide hN2;have HK2:=hide hkp2;clear hrb hrt hwt hf hD hN2 hkp2 hrow2 hset2 hkeep2 hbs hlbs hcbk hw2;go_enter Tryz.func173,Tryz.ntmps173;go_wp2
 go_quiet (fail)
 go_wp2
 go_region_with (go_at_call 188;refine (HBU.out _ (by rw[HW2.out];exact⟨rfl,rfl,rfl,Nat.le_refl _,fun _ _ _=>rfl⟩)).mono ?_;rintro e w5 ⟨v5,ws5,rfl,hk5,hr5,ht5,kk5,ff5,cc5⟩;obtain⟨av,pv,rfl⟩:=row_slice hr5;have HT5:=hide ht5;clear ht5)
 all_goals
  go_wp2
  go_end0
  have hgd:own rs.d.dv gd:=by rw[HD.out.dv];rfl
  have hkp5:Kp w2 (w5.setCell ⟨gd,k * 6+5,none⟩ (.slice av ws5.length pv)) (fun b=>own rs.d.dv b):=(hk5.mono (fun _ _ h=>h.elim)).set (a:=⟨gd,k * 6+5,none⟩) (fun _=>hgd) _;have hkp:Kp w (w5.setCell ⟨gd,k * 6+5,none⟩ (.slice av ws5.length pv)) (fun b=>own rs.d.dv b):=HK2.out.trans hkp5;have hkeep5:Keeps (nK K) (nK K) w2 (w5.setCell ⟨gd,k * 6+5,none⟩ (.slice av ws5.length pv)):=Keeps.kp hkp5 (fun b t c hb hbl=>by have:=row_type HR2.out hb hbl;subst this;exact⟨by decide,by decide⟩) _;have hrow5:=row_set (hk5.row HR2.out (by simp)) hgd (k * 6+5) (.slice av ws5.length pv);have hr5':(w5.setCell ⟨gd,k * 6+5,none⟩ (.slice av ws5.length pv)).ownsRow 0 9 1 (.slice av ws5.length pv) ws5.length (ws5.map Value.string):=by
   obtain⟨c2,hc2⟩:=row_blk HR2.out hgd;exact ownsRow_setCell_other hr5 (a:=⟨gd,k * 6+5,none⟩) (own_ne hr5 (hk5.blk hc2 (by simp)) (by decide)) _
  have hD:=HD.out;obtain⟨nm',vb',vt',hat',y0,y1,y2,y3,y4,y5⟩:=defsIn_at _ _ (defsIn_keep hkeep5 _ _ HS2.out) k (by simpa using hk);have hset:=defsIn_set { s.defs[k] with count:=cn,fast:=true,built:=bs } nm' vb' (.slice av ws5.length pv) ⟨by rw[hat'.nm];simp,by have:=hat'.body;simpa using this,⟨ws5,hr5',HT5.out.1,HT5.out.2⟩⟩ _ _ (defsIn_keep hkeep5 _ _ HS2.out) k (by simpa using hk);simp only[List.getElem_set_self] at y1 y3 y4;dsimp only at hset;rw[set_same y0,set_same y1,set_same y2,set_same y3,set_same y4,List.set_set] at hset;exact⟨rfl,h.redef hkp ⟨⟨_,by simpa using hrow5,hset⟩,by simpa using h.dr.len,fun b hb=>Nat.lt_of_lt_of_le (h.dr.old b hb) hkp.size⟩ (cb_set h.good hk rfl)⟩
end
section
open Go.RowKit
def CLen (l:List It) (n:Nat):Prop:=∀ g names,callsG g l=some names->names.length<=n
theorem CLen.mono {l:List It} {n m:Nat} (h:CLen l n) (hm:n<=m):CLen l m:=fun g names hg=>Nat.le_trans (h g names hg) hm
theorem CLen.nil:CLen [] 0:=by
 intro g names h
 cases g with
 | zero=>cases h
 | succ g=>simp only[callsG] at h;injection h with h;subst h;simp
theorem calls_cons {g:Nat} {x:It} {l:List It} {names:List Tok} (h:callsG (g+1) (x :: l)=some names):∃ a b c,callsG g x.a=some a/\callsG g x.b=some b/\callsG g l=some c/\names=(if x.kind=99 then [x.name] else []) ++ a ++ b ++ c:=by
 simp only[callsG] at h
 split at h
 ·rename_i a b c h1 h2 h3
  injection h with h;exact⟨a,b,c,h1,h2,h3,h.symm⟩
 ·cases h
theorem CLen.one {x:It} {na nb:Nat} (ha:CLen x.a na) (hb:CLen x.b nb):CLen [x] (1+na+nb):=by
 intro g names h
 cases g with
 | zero=>cases h
 | succ g=>
  obtain⟨a,b,c,h1,h2,h3,h4⟩:=calls_cons h;have q1:=ha _ _ h1;have q2:=hb _ _ h2;have q3:=CLen.nil _ _ h3;rw[h4];simp only[List.length_append]
  split <;> simp <;> omega
theorem CLen.one0 {x:It} {na nb:Nat} (hk:¬ x.kind=99) (ha:CLen x.a na) (hb:CLen x.b nb):CLen [x] (na+nb):=by
 intro g names h
 cases g with
 | zero=>cases h
 | succ g=>
  obtain⟨a,b,c,h1,h2,h3,h4⟩:=calls_cons h;have q1:=ha _ _ h1;have q2:=hb _ _ h2;have q3:=CLen.nil _ _ h3;rw[h4,if_neg hk];simp only[List.length_append,List.length_nil];omega
theorem calls_app:∀ (l l':List It) (g:Nat) (names:List Tok),callsG g (l ++ l')=some names->∃ n1 n2 g',callsG g l=some n1/\callsG g' l'=some n2/\names=n1 ++ n2
 | [],l',g,names,h=>by
  cases g with
  | zero=>cases h
  | succ g=>exact⟨[],names,g+1,rfl,h,rfl⟩
 | x :: l,l',g,names,h=>by
  cases g with
  | zero=>cases h
  | succ g=>
   obtain⟨a,b,c,h1,h2,h3,h4⟩:=calls_cons (l:=l ++ l') h;obtain⟨n1,n2,g',h5,h6,h7⟩:=calls_app l l' g c h3;refine⟨(if x.kind=99 then [x.name] else []) ++ a ++ b ++ n1,n2,g',?_,h6,by rw[h4,h7];simp⟩;simp only[callsG,h1,h2,h5]
theorem CLen.app {l l':List It} {n n':Nat} (h:CLen l n) (h':CLen l' n'):CLen (l ++ l') (n+n'):=by
 intro g names hg;obtain⟨n1,n2,g',h1,h2,h3⟩:=calls_app l l' g names hg;rw[h3,List.length_append];exact Nat.add_le_add (h _ _ h1) (h' _ _ h2)
theorem braces_len:∀ (r:List Tok) (ts r':List Tok),pBraces r=.ok (ts,r')->r'.length<=r.length
 | [],_,_,h=>by cases h
 | t :: r,ts,r',h=>by
  unfold pBraces at h
  split at h
  ·cases h
  split at h
  ·injection h with h;injection h with h1 h2;subst h2;simp
  split at h
  ·cases h
  ·rename_i ts1 r1 h1
   injection h with h;injection h with h2 h3;subst h3;have:=braces_len r _ _ h1;simp;omega
theorem pOne_calls {known:Tok->Bool} {lo:Nat} {t:Tok} {x:It} (h:pOne known lo t=.ok x):x.a=[]/\x.b=[]:=by
 unfold pOne at h
 repeat' split at h
 all_goals first
  | (cases h;done)
  | (injection h with h;subst h;exact⟨rfl,rfl⟩)
def PLen (item:Bool) (r:List Tok) (xs:List It) (r':List Tok):Prop:=∃ n,CLen xs n/\r'.length+n<=r.length+(if item=true then 1 else 0)/\r'.length<=r.length
theorem PLen.out {item:Bool} {r:List Tok} {xs:List It} {r':List Tok} (h:PLen item r xs r'):∃ n,CLen xs n/\r'.length+n<=r.length+(if item=true then 1 else 0)/\r'.length<=r.length:=h
theorem pRead_calls (known:Tok->Bool):∀ (g:Nat) (j:PJ) (r:List Tok) (xs:List It) (t:Tok) (r':List Tok),pRead known g j r=some (.ok (xs,t,r'))->PLen j.item r xs r':=by
 intro g
 induction g with
 | zero=>intro j r xs t r' h;cases h
 | succ g ih=>
  intro j r xs t r' h;unfold pRead at h
  cases hj:j.item with
  | false=>
   rw[if_pos hj] at h
   split at h
   ·cases h
   ·rename_i t1 r1
    split at h
    ·injection h with h;injection h with h;injection h with h1 h2;injection h2 with h2 h3;subst h1;subst h3;exact⟨0,CLen.nil,by simp,by simp⟩
    ·split at h
     ·cases h
     ·cases h
     ·rename_i xs1 t2 r2 h1
      have k1:=ih _ _ _ _ _ h1
      split at h
      ·cases h
      ·cases h
      ·rename_i ys t3 r3 h2
       have k2:=ih _ _ _ _ _ h2;injection h with h;injection h with h;injection h with e1 e2;injection e2 with e2 e3;subst e1;subst e3;obtain⟨n1,c1,d1,e1'⟩:=k1;obtain⟨n2,c2,d2,e2'⟩:=k2;rw[hj] at d2;simp only[if_true] at d1;simp only[Bool.false_eq_true,if_false] at d2;exact⟨n1+n2,c1.app c2,by simp;omega,by first|omega|(simp;omega)⟩
  | true=>
   rw[if_neg (by rw[hj];decide)] at h
   split at h
   ·split at h
    ·cases h
    ·cases h
    ·rename_i a t1 r1 h1
     obtain⟨n1,c1,d1,e1'⟩:=ih _ _ _ _ _ h1;simp only[Bool.false_eq_true,if_false] at d1
     split at h
     ·split at h
      ·cases h
      ·cases h
      ·rename_i b t2 r2 h2
       obtain⟨n2,c2,d2,e2'⟩:=ih _ _ _ _ _ h2;simp only[Bool.false_eq_true,if_false] at d2;injection h with h;injection h with h;injection h with e1 e2;injection e2 with e2 e3;subst e1;subst e3;exact⟨n1+n2,CLen.one0 (by simp) c1 c2,by simp;omega,by first|omega|(simp;omega)⟩
     ·injection h with h;injection h with h;injection h with e1 e2;injection e2 with e2 e3;subst e1;subst e3;exact⟨n1+0,CLen.one0 (by simp) c1 CLen.nil,by simp;omega,by first|omega|(simp;omega)⟩
   ·split at h
    ·split at h
     ·cases h
     ·cases h
     ·rename_i a t1 r1 h1
      obtain⟨n1,c1,d1,e1'⟩:=ih _ _ _ _ _ h1;simp only[Bool.false_eq_true,if_false] at d1
      split at h
      ·split at h
       ·cases h
       ·cases h
       ·rename_i b t2 r2 h2
        obtain⟨n2,c2,d2,e2'⟩:=ih _ _ _ _ _ h2;simp only[Bool.false_eq_true,if_false] at d2;injection h with h;injection h with h;injection h with e1 e2;injection e2 with e2 e3;subst e1;subst e3;exact⟨n1+n2,CLen.one0 (by simp) c1 c2,by simp;omega,by first|omega|(simp;omega)⟩
      ·injection h with h;injection h with h;injection h with e1 e2;injection e2 with e2 e3;subst e1;subst e3;exact⟨n1+0,CLen.one0 (by simp) c1 CLen.nil,by simp;omega,by first|omega|(simp;omega)⟩
    ·split at h
     ·split at h
      ·cases h
      ·cases h
      ·rename_i a t1 r1 h1
       obtain⟨n1,c1,d1,e1'⟩:=ih _ _ _ _ _ h1;simp only[Bool.false_eq_true,if_false] at d1;injection h with h;injection h with h;injection h with e1 e2;injection e2 with e2 e3;subst e1;subst e3;exact⟨n1+0,CLen.one0 (by simp) c1 CLen.nil,by simp;omega,by first|omega|(simp;omega)⟩
     ·split at h
      ·split at h
       ·cases h
       ·rename_i ts r1 h1
        have:=braces_len _ _ _ h1;injection h with h;injection h with h;injection h with e1 e2;injection e2 with e2 e3;subst e1;subst e3;exact⟨0+0,CLen.one0 (by simp) CLen.nil CLen.nil,by simp;omega,by first|omega|(simp;omega)⟩
      ·split at h
       ·cases h
       ·rename_i x h1
        obtain⟨xa,xb⟩:=pOne_calls h1;injection h with h;injection h with h;injection h with e1 e2;injection e2 with e2 e3;subst e1;subst e3;exact⟨1+0+0,CLen.one (by rw[xa];exact CLen.nil) (by rw[xb];exact CLen.nil),by simp,by simp⟩
theorem pDefD_ok {g:Nat} {defs:List Def} {r:List Tok} {nm:Tok} {b:List It} {r1:List Tok} (hl:r.length<=1000) (h:pDefD g defs r=some (.ok (nm,b,r1))):CBnd b/\(¬ findI defs nm < 0\/(findI defs nm < 0/\defs.length < 30)):=by
 cases r with
 | nil=>cases h
 | cons t r=>
  unfold pDefD at h;dsimp only at h
  split at h
  ·cases h
  split at h
  ·cases h
  rename_i h30
  split at h
  ·cases h
  ·cases h
  ·rename_i b' t' r' hr
   injection h with h;injection h with h;injection h with e1 e2;injection e2 with e2 e3;subst e1;subst e2;obtain⟨n,c,d,-⟩:=pRead_calls _ _ _ _ _ _ _ hr;simp only[Bool.false_eq_true,if_false] at d;simp at hl;refine⟨c.mono (by omega),?_⟩;by_cases hf:findI defs t < 0
   ·right
    refine⟨hf,?_⟩;rw[knownD_neg hf] at h30;simp at h30;exact h30
   ·exact .inl hf
end
section
open Go.RowKit
theorem pRead_mono (known:Tok->Bool):∀ (g:Nat) (j:PJ) (r:List Tok) (res:PRes),pRead known g j r=some res->pRead known (g+1) j r=some res:=by
 intro g
 induction g with
 | zero=>intro j r res h;cases h
 | succ g ih=>
  intro j r res h;unfold pRead at h ⊢;by_cases hj:j.item=false
  ·rw[if_pos hj] at h ⊢
   cases r with
   | nil=>exact h
   | cons t r1=>
    dsimp only at h ⊢;by_cases he:j.ends.any (· == t)=true
    ·rw[if_pos he] at h ⊢;exact h
    rw[if_neg he] at h ⊢
    cases hx:pRead known g ⟨true,j.loops,[],t⟩ r1 with
    | none=>rw[hx] at h;cases h
    | some v=>
     rw[hx] at h;rw[ih _ _ _ hx]
     cases v with
     | error e=>exact h
     | ok q=>
      obtain⟨xs,t2,r2⟩:=q;dsimp only at h ⊢
      cases hy:pRead known g j r2 with
      | none=>rw[hy] at h;cases h
      | some v2=>rw[hy] at h;rw[ih _ _ _ hy];exact h
  rw[if_neg hj] at h ⊢;by_cases h1:j.t=kIf
  ·rw[if_pos h1] at h ⊢
   cases hx:pRead known g ⟨false,j.loops,[kElse,kThen],[]⟩ r with
   | none=>rw[hx] at h;cases h
   | some v=>
    rw[hx] at h;rw[ih _ _ _ hx]
    cases v with
    | error e=>exact h
    | ok q=>
     obtain⟨a,t1,r1⟩:=q;dsimp only at h ⊢;by_cases h2:t1=kElse
     ·rw[if_pos h2] at h ⊢
      cases hy:pRead known g ⟨false,j.loops,[kThen],[]⟩ r1 with
      | none=>rw[hy] at h;cases h
      | some v2=>rw[hy] at h;rw[ih _ _ _ hy];exact h
     ·rw[if_neg h2] at h ⊢;exact h
  rw[if_neg h1] at h ⊢;by_cases h3:j.t=kBegin
  ·rw[if_pos h3] at h ⊢
   cases hx:pRead known g ⟨false,j.loops,[kUntil,kWhile],[]⟩ r with
   | none=>rw[hx] at h;cases h
   | some v=>
    rw[hx] at h;rw[ih _ _ _ hx]
    cases v with
    | error e=>exact h
    | ok q=>
     obtain⟨a,t1,r1⟩:=q;dsimp only at h ⊢;by_cases h2:t1=kWhile
     ·rw[if_pos h2] at h ⊢
      cases hy:pRead known g ⟨false,j.loops,[kRepeat],[]⟩ r1 with
      | none=>rw[hy] at h;cases h
      | some v2=>rw[hy] at h;rw[ih _ _ _ hy];exact h
     ·rw[if_neg h2] at h ⊢;exact h
  rw[if_neg h3] at h ⊢;by_cases h4:j.t=kDo
  ·rw[if_pos h4] at h ⊢
   cases hx:pRead known g ⟨false,j.loops+1,[kLoop],[]⟩ r with
   | none=>rw[hx] at h;cases h
   | some v=>rw[hx] at h;rw[ih _ _ _ hx];exact h
  rw[if_neg h4] at h ⊢;exact h
theorem pDef_mono {g:Nat} {s:St} {r:List Tok} {res:DRes} (h:pDef g s r=some res):pDef (g+1) s r=some res:=by
 cases r with
 | nil=>exact h
 | cons t r=>
  unfold pDef at h ⊢;dsimp only at h ⊢;by_cases h1:isName t=false
  ·rw[if_pos h1] at h ⊢;exact h
  rw[if_neg h1] at h ⊢;by_cases h2:s.known t=false/\30<=s.defs.length
  ·rw[if_pos h2] at h ⊢;exact h
  rw[if_neg h2] at h ⊢
  cases hx:pRead s.known g ⟨false,0,[kSemi],[]⟩ r with
  | none=>rw[hx] at h;cases h
  | some v=>rw[hx] at h;rw[pRead_mono _ _ _ _ _ hx];exact h
theorem callsG_mono:∀ (g:Nat) (l:List It) (names:List Tok),callsG g l=some names->callsG (g+1) l=some names:=by
 intro g
 induction g with
 | zero=>intro l names h;cases h
 | succ g ih=>
  intro l names h
  cases l with
  | nil=>exact h
  | cons x l=>
   obtain⟨a,b,c,h1,h2,h3,h4⟩:=calls_cons h;rw[callsG,ih _ _ h1,ih _ _ h2,ih _ _ h3,h4]
theorem foldN_mono {f f':Tok->Option (List Tok)} (hf:∀ t x,f t=some x->f' t=some x):∀ (l res:List Tok),foldN f l=some res->foldN f' l=some res
 | [],res,h=>h
 | t :: l,res,h=>by
  unfold foldN at h ⊢
  split at h
  ·rename_i x y h1 h2
   rw[hf _ _ h1,foldN_mono hf l y h2];exact h
  ·cases h
theorem buildsG_mono (defs:List Def) (g:Nat):∀ (n:Nat) (l:List It) (res:List Tok),buildsG defs g n l=some res->buildsG defs (g+1) n l=some res
 | 0,l,res,h=>h
 | n+1,l,res,h=>by
  unfold buildsG at h ⊢
  cases hc:callsG g l with
  | none=>rw[hc] at h;cases h
  | some names=>
   rw[hc] at h;rw[callsG_mono _ _ _ hc];dsimp only at h ⊢;refine foldN_mono (fun t x ht=>?_) names res h
   cases hb:bodyOf defs t with
   | none=>rw[hb] at ht;cases ht
   | some b=>rw[hb] at ht;exact buildsG_mono defs g n b x ht
theorem count_mono {g:Nat} {s s':St} {k:Nat} (h:s.count g k=some s'):s.count (g+1) k=some s':=by
 unfold St.count at h ⊢
 split at h
 ·cases h
 ·by_cases h1:(‹Def›:Def).fast=true
  ·rw[if_pos h1] at h ⊢;exact h
  rw[if_neg h1] at h ⊢
  split at h
  ·rename_i h2;rw[if_pos h2];exact h
  ·rename_i h2;rw[if_neg h2]
   split at h
   ·cases h
   ·rename_i bs hb;rw[buildsG_mono _ _ _ _ _ hb];exact h
theorem xCome_mono {g:Nat} {f:Fr} {s s':St} (h:xCome g f s=some s'):xCome (g+1) f s=some s':=by
 unfold xCome at h ⊢
 split at h
 ·exact h
 ·split at h
  ·cases h
  ·split at h
   ·rename_i h1;rw[if_pos h1];exact count_mono h
   ·rename_i h1;rw[if_neg h1];exact h
end
section
open Go.RowKit
theorem xOne_mono {g:Nat} (ih:∀ (j:XJ) (s:St) (r:St × Bool),xRun g j s=some r->xRun (g+1) j s=some r) {f:Fr} {lp:List Int} {x:It} {s:St} {r:St × Bool} (h:xOne g f lp x s=some r):xOne (g+1) f lp x s=some r:=by
 unfold xOne at h ⊢;by_cases h1:x.kind=110
 ·rw[if_pos h1] at h ⊢;exact h
 rw[if_neg h1] at h ⊢;by_cases h2:x.kind=112
 ·rw[if_pos h2] at h ⊢;exact h
 rw[if_neg h2] at h ⊢;by_cases h3:x.kind=105
 ·rw[if_pos h3] at h ⊢;exact h
 rw[if_neg h3] at h ⊢;by_cases h4:x.kind=120
 ·rw[if_pos h4] at h ⊢;exact h
 rw[if_neg h4] at h ⊢;by_cases h5:x.kind=114
 ·rw[if_pos h5] at h ⊢
  cases hx:xRun g (jEnter f) s with
  | none=>rw[hx] at h;cases h
  | some v=>rw[hx] at h;rw[ih _ _ _ hx];exact h
 rw[if_neg h5] at h ⊢;by_cases h6:x.kind=99
 ·rw[if_pos h6] at h ⊢
  cases hx:xRun g (jCall x.name) s with
  | none=>rw[hx] at h;cases h
  | some v=>rw[hx] at h;rw[ih _ _ _ hx];exact h
 rw[if_neg h6] at h ⊢;by_cases h7:x.kind=123
 ·rw[if_pos h7] at h ⊢;by_cases hd:20<=s.depth
  ·rw[if_pos hd] at h ⊢;exact h
  rw[if_neg hd] at h ⊢
  cases hx:xRun g (jToks x.toks) { s with depth:=s.depth+1 } with
  | none=>rw[hx] at h;cases h
  | some v=>rw[hx] at h;rw[ih _ _ _ hx];exact h
 rw[if_neg h7] at h ⊢;by_cases h8:x.kind=100
 ·rw[if_pos h8] at h ⊢
  split at h
  ·exact ih _ _ _ h
  ·exact h
 rw[if_neg h8] at h ⊢;exact h
theorem xTok_mono {g:Nat} (ih:∀ (j:XJ) (s:St) (r:St × Bool),xRun g j s=some r->xRun (g+1) j s=some r) {t:Tok} {s s':St} (h:xTok g t s=some s'):xTok (g+1) t s=some s':=by
 unfold xTok at h ⊢
 cases hn:numP t with
 | some n=>rw[hn] at h;exact h
 | none=>
  rw[hn] at h;dsimp only at h ⊢
  cases hp:plainL.findIdx? (· == t) with
  | some k=>rw[hp] at h;exact h
  | none=>
   rw[hp] at h;dsimp only at h ⊢;by_cases h1:(keptL.any (· == t) || t == kSemi || t == kOpen || t == kClose)=true
   ·rw[if_pos h1] at h ⊢;exact h
   rw[if_neg h1] at h ⊢;by_cases h2:s.known t=false
   ·rw[if_pos h2] at h ⊢;exact h
   rw[if_neg h2] at h ⊢;by_cases h3:s.step.e ≠ 0
   ·rw[if_pos h3] at h ⊢;exact h
   rw[if_neg h3] at h ⊢
   cases hx:xRun g (jCall t) s.step with
   | none=>rw[hx] at h;cases h
   | some v=>rw[hx] at h;rw[ih _ _ _ hx];exact h
theorem xRun_mono1:∀ (g:Nat) (j:XJ) (s:St) (r:St × Bool),xRun g j s=some r->xRun (g+1) j s=some r:=by
 intro g
 induction g with
 | zero=>intro j s r h;cases h
 | succ g ih=>
  intro j s r h;unfold xRun at h ⊢;by_cases h0:j.what=0
  ·rw[if_pos h0] at h ⊢
   cases hl:j.l with
   | nil=>rw[hl] at h;exact h
   | cons x l=>
    rw[hl] at h;dsimp only at h ⊢
    cases hx:xRun g (jItem j.f j.lp x) s with
    | none=>rw[hx] at h;cases h
    | some v=>
     obtain⟨s1,left⟩:=v;rw[hx] at h;rw[ih _ _ _ hx];dsimp only at h ⊢;by_cases hc:left=true\/s1.e ≠ 0
     ·rw[if_pos hc] at h ⊢;exact h
     ·rw[if_neg hc] at h ⊢;exact ih _ _ _ h
  rw[if_neg h0] at h ⊢;by_cases h1:j.what=1
  ·rw[if_pos h1] at h ⊢;by_cases q1:j.x.kind=63
   ·rw[if_pos q1] at h ⊢;by_cases e1:s.test.1.e ≠ 0
    ·rw[if_pos e1] at h ⊢;exact h
    rw[if_neg e1] at h ⊢;by_cases e2:s.test.2=true
    ·rw[if_pos e2] at h ⊢;exact ih _ _ _ h
    ·rw[if_neg e2] at h ⊢;exact ih _ _ _ h
   rw[if_neg q1] at h ⊢;by_cases q2:j.x.kind=117
   ·rw[if_pos q2] at h ⊢
    cases hx:xRun g (jBody j.f j.lp j.x.a) s with
    | none=>rw[hx] at h;cases h
    | some v=>
     obtain⟨s1,left⟩:=v;rw[hx] at h;rw[ih _ _ _ hx];dsimp only at h ⊢;by_cases e0:left=true
     ·rw[if_pos e0] at h ⊢;exact h
     rw[if_neg e0] at h ⊢;by_cases e1:s1.test.1.e ≠ 0
     ·rw[if_pos e1] at h ⊢;exact h
     rw[if_neg e1] at h ⊢;by_cases e2:s1.test.2=true
     ·rw[if_pos e2] at h ⊢;exact h
     ·rw[if_neg e2] at h ⊢;exact ih _ _ _ h
   rw[if_neg q2] at h ⊢;by_cases q3:j.x.kind=119
   ·rw[if_pos q3] at h ⊢
    cases hx:xRun g (jBody j.f j.lp j.x.a) s with
    | none=>rw[hx] at h;cases h
    | some v=>
     obtain⟨s1,left⟩:=v;rw[hx] at h;rw[ih _ _ _ hx];dsimp only at h ⊢;by_cases e0:left=true
     ·rw[if_pos e0] at h ⊢;exact h
     rw[if_neg e0] at h ⊢;by_cases e1:s1.test.1.e ≠ 0
     ·rw[if_pos e1] at h ⊢;exact h
     rw[if_neg e1] at h ⊢;by_cases e2:s1.test.2=false
     ·rw[if_pos e2] at h ⊢;exact h
     rw[if_neg e2] at h ⊢
     cases hy:xRun g (jBody j.f j.lp j.x.b) s1.test.1 with
     | none=>rw[hy] at h;cases h
     | some v3=>
      obtain⟨s3,left3⟩:=v3;rw[hy] at h;rw[ih _ _ _ hy];dsimp only at h ⊢;by_cases e3:left3=true
      ·rw[if_pos e3] at h ⊢;exact h
      ·rw[if_neg e3] at h ⊢;exact ih _ _ _ h
   rw[if_neg q3] at h ⊢;by_cases q4:s.step.e ≠ 0
   ·rw[if_pos q4] at h ⊢;exact h
   rw[if_neg q4] at h ⊢;exact xOne_mono (f:=j.f) (lp:=j.lp) (x:=j.x) (s:=s.step) (r:=r) ih h
  rw[if_neg h1] at h ⊢;by_cases h2:j.what=2
  ·rw[if_pos h2] at h ⊢;by_cases e0:j.n < j.m
   ·rw[if_pos e0] at h ⊢;by_cases e1:s.step.e ≠ 0
    ·rw[if_pos e1] at h ⊢;exact h
    rw[if_neg e1] at h ⊢
    cases hx:xRun g (jBody j.f (j.n :: j.lp) j.l) s.step with
    | none=>rw[hx] at h;cases h
    | some v=>
     obtain⟨s2,left⟩:=v;rw[hx] at h;rw[ih _ _ _ hx];dsimp only at h ⊢;by_cases e2:left=true
     ·rw[if_pos e2] at h ⊢;exact h
     ·rw[if_neg e2] at h ⊢;exact ih _ _ _ h
   ·rw[if_neg e0] at h ⊢;exact h
  rw[if_neg h2] at h ⊢;by_cases h3:j.what=3
  ·rw[if_pos h3] at h ⊢;by_cases q:20<=s.depth
   ·rw[if_pos q] at h ⊢;exact h
   rw[if_neg q] at h ⊢
   have h:(match xCome g j.f s with
    | none=>none
    | some s1=>match xRun g (jBody j.f [] j.f.body) { s1 with depth:=s1.depth+1 } with
     | none=>none
     | some (s2,_)=>some ({ s2 with depth:=s2.depth - 1 },false))=some r:=h
   show (match xCome (g+1) j.f s with
    | none=>none
    | some s1=>match xRun (g+1) (jBody j.f [] j.f.body) { s1 with depth:=s1.depth+1 } with
     | none=>none
     | some (s2,_)=>some ({ s2 with depth:=s2.depth - 1 },false))=some r
   cases hc:xCome g j.f s with
   | none=>rw[hc] at h;cases h
   | some s1=>
    rw[hc] at h;rw[xCome_mono hc];dsimp only at h ⊢
    cases hx:xRun g (jBody j.f [] j.f.body) { s1 with depth:=s1.depth+1 } with
    | none=>rw[hx] at h;cases h
    | some v=>rw[hx] at h;rw[ih _ _ _ hx];exact h
  rw[if_neg h3] at h ⊢;by_cases h4:j.what=4
  ·rw[if_pos h4] at h ⊢
   split at h
   ·cases h
   ·exact ih _ _ _ h
  rw[if_neg h4] at h ⊢
  cases hts:j.ts with
  | nil=>rw[hts] at h;exact h
  | cons t r1=>
   rw[hts] at h;dsimp only at h ⊢;by_cases he:s.e ≠ 0
   ·rw[if_pos he] at h ⊢;exact h
   have he0:s.e=0:=by simpa using he
   by_cases ht:t=kColon
   ·subst ht;have h:xRun (g+1) (jToks (kColon :: r1)) s=some r:=h;show xRun (g+1+1) (jToks (kColon :: r1)) s=some r;rw[x_def _ s r1 he0] at h ⊢
    cases hp:pDef g s r1 with
    | none=>rw[hp] at h;cases h
    | some res=>
     rw[hp] at h;rw[pDef_mono hp]
     cases res with
     | error e=>exact h
     | ok q=>
      obtain⟨nm,b,r2⟩:=q;dsimp only at h ⊢;by_cases e1:s.step.e ≠ 0
      ·rw[if_pos e1] at h ⊢;exact h
      ·rw[if_neg e1] at h ⊢;exact ih _ _ _ h
   ·have h:xRun (g+1) (jToks (t :: r1)) s=some r:=h;show xRun (g+1+1) (jToks (t :: r1)) s=some r;rw[x_tok _ s t r1 he0 ht] at h ⊢
    cases hx:xTok g t s with
    | none=>rw[hx] at h;cases h
    | some s2=>rw[hx] at h;rw[xTok_mono ih hx];exact ih _ _ _ h
theorem xRun_mono {g g':Nat} (hg:g<=g') {j:XJ} {s:St} {r:St × Bool} (h:xRun g j s=some r):xRun g' j s=some r:=by
 induction hg with
 | refl=>exact h
 | step _ ih=>exact xRun_mono1 _ _ _ _ ih
end
end Go.Proofs.YteainaiebcphlaaGreatDoor
