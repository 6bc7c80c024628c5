import Derived.Test.YteainaiebcphlaaGreatDoorV14
import Derived.Test.YteainaiebcphlaaGreatDoorV11
import Derived.Test.YteainaiebcphlaaGreatDoorV17
namespace Go.Proofs.YteainaiebcphlaaGreatDoor
set_option maxRecDepth 1000000
set_option maxHeartbeats 4000000
set_option linter.all false
section
open Go.RowKit
variable {K:Nat->Prop}
structure FrAt (K:Nat->Prop) (w:World) (fb:Nat) (f:Fr) (lp:List Int) (lv nv:Value):Prop where
 blk:∃ nm vb,Blk w fb 191 #[.int .i64 f.id,.string nm,vb,lv]/\nm.data.toList=f.name/\Body K w vb f.body
 row:w.ownsRow 0 3 1 lv lp.length (ints lp.reverse)
 ins:∀ n∈lp,In n
 sep:∀ k,own lv k->¬ own nv k
abbrev FTo (yb fb:Nat) (w w':World) (rs rs':RS) (lv lv':Value):Prop:=To (fun k=>k=yb\/k=fb) w w' (fun k=>(own rs.nv k\/own rs.d.dv k)\/own lv k) (fun k=>(own rs'.nv k\/own rs'.d.dv k)\/own lv' k)
theorem RRel.ndef {w:World} {yb:Nat} {rs:RS} {s:St} (h:RRel K w yb rs s) {b:Nat} {t:TypeId} {c:Array Value} (hb:Blk w b t c) (h1:t ≠ 67) (h2:t ≠ 3) (h3:t ≠ 95):¬ (b=yb\/(own rs.nv b\/own rs.d.dv b)):=by
 obtain⟨ns,hi,_⟩:=h.inv;obtain⟨xs,hr,_⟩:=h.dr.ex;rintro (e|e|e)
 ·subst e;exact h1 (hb.inj hi.blk).1
 ·exact h2 (row_type hi.row e hb)
 ·exact h3 (row_type hr e hb)
theorem FrAt.lv_ne {w:World} {yb fb:Nat} {rs:RS} {s:St} {f:Fr} {lp:List Int} {lv:Value} (h:RRel K w yb rs s) (hf:FrAt K w fb f lp lv rs.nv) {k:Nat} (hk:own lv k):¬ (k=yb\/(own rs.nv k\/own rs.d.dv k))/\¬ k=fb:=by
 obtain⟨ns,hi,_⟩:=h.inv;obtain⟨xs,hr,_⟩:=h.dr.ex;obtain⟨c,hc⟩:=row_blk hf.row hk;obtain⟨nm,vb,hb,_⟩:=hf.blk;refine⟨?_,fun e=>by subst e;exact absurd (hc.inj hb).1 (by decide)⟩;rintro (e|e|e)
 ·subst e;exact absurd (hc.inj hi.blk).1 (by decide)
 ·exact hf.sep k hk e
 ·exact absurd (row_type hr e hc) (by decide)
theorem FrAt.noB {w:World} {yb fb:Nat} {rs:RS} {s:St} {f:Fr} {lp:List Int} {lv:Value} (h:RRel K w yb rs s) (hf:FrAt K w fb f lp lv rs.nv):NoB w (fun k=>(k=yb\/k=fb)\/((own rs.nv k\/own rs.d.dv k)\/own lv k)):=by
 intro b t c hb hc;obtain⟨nm,vb,hbf,_⟩:=hf.blk;rcases hb with (e|e)|(e|e)
 ·exact h.noB b t c (.inl e) hc
 ·subst e;have:=(hc.inj hbf).1;subst this;exact⟨by decide,by decide⟩
 ·exact h.noB b t c (.inr e) hc
 ·have:=row_type hf.row e hc;subst this;exact⟨by decide,by decide⟩
theorem FrAt.sto {w w':World} {yb fb:Nat} {rs rs':RS} {s:St} {f:Fr} {lp:List Int} {lv:Value} (h:RRel K w yb rs s) (hf:FrAt K w fb f lp lv rs.nv) (hto:STo yb w w' rs rs'):FrAt K w' fb f lp lv rs'.nv/\FTo yb fb w w' rs rs' lv lv:=by
 obtain⟨nm,vb,hbf,hnm,hbd⟩:=hf.blk;refine⟨⟨⟨nm,vb,?_,hnm,hbd.keep (Keeps.to hto h.noB _)⟩,?_,hf.ins,fun k hk hn=>?_⟩,⟨hto.kp.mono (fun k _ hk=>?_),fun k hk=>?_⟩⟩
 ·exact hto.kp.blk hbf (h.ndef hbf (by decide) (by decide) (by decide))
 ·exact hto.kp.row hf.row (fun k hk=>(hf.lv_ne h hk).1)
 ·rcases hto.nx k (.inl hn) with h1|h1
  ·exact (hf.lv_ne h hk).1 (.inr h1)
  ·have:=own_lt hf.row hk;omega
 ·rcases hk with e|e
  ·exact .inl (.inl e)
  ·exact .inr (.inl e)
 ·rcases hk with e|e
  ·rcases hto.nx k e with h1|h1
   ·exact .inl (.inl h1)
   ·exact .inr h1
  ·exact .inl (.inr e)
theorem FTo.refl (yb fb:Nat) (w:World) (rs:RS) (lv:Value):FTo yb fb w w rs rs lv lv:=To.refl _ _ _
structure FPost (K:Nat->Prop) (yb fb:Nat) (w w':World) (rs:RS) (s':St) (f:Fr) (lp:List Int) (lv:Value):Prop where
 ex:∃ rs' lv',RRel K w' yb rs' s'/\FrAt K w' fb f lp lv' rs'.nv/\FTo yb fb w w' rs rs' lv lv'
abbrev itV (x:It) (nm:ByteArray) (va vb vt:Value):Value:=.agg #[.int .u8 x.kind,.int .i64 x.n,.string nm,va,vb,vt]
def CB (K:Nat->Prop) (g:Nat):Prop:=∀ (w:World) (yb fb:Nat) (rs:RS) (s s':St) (f:Fr) (lp:List Int) (lv v:Value) (l:List It) (left:Bool),RRel K w yb rs s->s.e=0->FrAt K w fb f lp lv rs.nv->(lp.length:Int)<=s.steps->Body K w v l ->
 xRun g (jBody f lp l) s=some (s',left)->Calls Tryz.prog 174 #[.pointer (some ⟨yb,0,none⟩),.pointer (some ⟨fb,0,none⟩),v] w fun e w'=>e=.returned (.bool left)/\FPost K yb fb w w' rs s' f lp lv
def CI (K:Nat->Prop) (g:Nat):Prop:=∀ (w:World) (yb fb:Nat) (rs:RS) (s s':St) (f:Fr) (lp:List Int) (lv:Value) (x:It) (nm:ByteArray) (va vb vt:Value) (left:Bool),RRel K w yb rs s->s.e=0->FrAt K w fb f lp lv rs.nv->(lp.length:Int)<=s.steps ->
 ItAt (Body K w) (Toks K w) x nm va vb vt->xRun g (jItem f lp x) s=some (s',left)->Calls Tryz.prog 189 #[.pointer (some ⟨yb,0,none⟩),.pointer (some ⟨fb,0,none⟩),itV x nm va vb vt] w fun e w'=>e=.returned (.bool left)/\FPost K yb fb w w' rs s' f lp lv
def xLoop (g:Nat) (f:Fr) (lp:List Int) (l:List It) (s:St):Option (St × Bool):=match s.rs with
 | b :: m :: r=>xRun g (jDo f lp b m l) { s with rs:=r }
 | _=>some (s.err 6,true)
def CL (K:Nat->Prop) (g:Nat):Prop:=∀ (w:World) (yb fb:Nat) (rs:RS) (s s':St) (f:Fr) (lp:List Int) (lv:Value) (x:It) (nm:ByteArray) (va vb vt:Value) (left:Bool),RRel K w yb rs s->s.e=0->FrAt K w fb f lp lv rs.nv->(lp.length:Int)<=s.steps ->
 ItAt (Body K w) (Toks K w) x nm va vb vt->xLoop g f lp x.a s=some (s',left)->Calls Tryz.prog 212 #[.pointer (some ⟨yb,0,none⟩),.pointer (some ⟨fb,0,none⟩),itV x nm va vb vt] w fun e w'=>e=.returned (.bool left)/\FPost K yb fb w w' rs s' f lp lv
def CE (K:Nat->Prop) (g:Nat):Prop:=∀ (w:World) (yb fb:Nat) (rs:RS) (s s':St) (f:Fr) (lv:Value) (left:Bool),RRel K w yb rs s->s.e=0->FrAt K w fb f [] lv rs.nv ->
 xRun g (jEnter f) s=some (s',left)->Calls Tryz.prog 143 #[.pointer (some ⟨yb,0,none⟩),.pointer (some ⟨fb,0,none⟩)] w fun e w'=>e=.returned (.tuple #[])/\FPost K yb fb w w' rs s' f [] lv
def CC (K:Nat->Prop) (g:Nat):Prop:=∀ (w:World) (yb:Nat) (rs:RS) (s s':St) (tb:ByteArray) (left:Bool),RRel K w yb rs s->s.e=0 ->
 xRun g (jCall tb.data.toList) s=some (s',left)->Calls Tryz.prog 90 #[.pointer (some ⟨yb,0,none⟩),.string tb] w fun e w'=>e=.returned (.tuple #[])/\∃ rs',RRel K w' yb rs' s'/\STo yb w w' rs rs'
def CT (K:Nat->Prop) (g:Nat):Prop:=∀ (w:World) (yb:Nat) (rs:RS) (s s':St) (v:Value) (ts:List Tok) (left:Bool),RRel K w yb rs s->Toks K w v ts->ts.length<=1000 ->
 xRun g (jToks ts) s=some (s',left)->Calls Tryz.prog 63 #[.pointer (some ⟨yb,0,none⟩),v] w fun e w'=>e=.returned (.tuple #[])/\∃ rs',RRel K w' yb rs' s'/\STo yb w w' rs rs'
structure BodyAt (K:Nat->Prop) (g yb fb:Nat) (w wr:World) (rs:RS) (s':St) (f:Fr) (lp:List Int) (lv v:Value) (l:List It) (left:Bool) (k:Nat):Prop where
 ex:∃ g' rsk lvk sk,g'<=g/\RRel K wr yb rsk sk/\sk.e=0/\FrAt K wr fb f lp lvk rsk.nv/\(lp.length:Int)<=sk.steps/\FTo yb fb w wr rs rsk lv lvk/\xRun g' (jBody f lp (l.drop k)) sk=some (s',left)
 body:Body K wr v l
end
section
open Go.RowKit
variable {K:Nat->Prop}
theorem row_slice_len {w:World} {e:TypeId} {z:Nat} {v:Value} {n:Nat} {xs:List Value} (h:w.ownsRow 0 e z v n xs):n<=9223372036854775807:=by
 rcases h.2 with⟨_,h0⟩|⟨_,_,_,_,_,_,h1,h2,_⟩
 ·omega
 ·unfold maxLen at h2;omega
structure ICell (K:Nat->Prop) (w:World) (v:Value) (l:List It) (k:Nat) (hk:k < l.length) (gd cap:Nat) (nm:ByteArray) (va vb vt:Value):Prop where
 dv:v=.slice (some ⟨gd,0,none⟩) l.length cap
 at_:ItAt (Body K w) (Toks K w) l[k] nm va vb vt
 c0:w.cell? ⟨gd,k * 6,none⟩=some (.int .u8 l[k].kind)
 c1:w.cell? ⟨gd,k * 6+1,none⟩=some (.int .i64 l[k].n)
 c2:w.cell? ⟨gd,k * 6+2,none⟩=some (.string nm)
 c3:w.cell? ⟨gd,k * 6+3,none⟩=some va
 c4:w.cell? ⟨gd,k * 6+4,none⟩=some vb
 c5:w.cell? ⟨gd,k * 6+5,none⟩=some vt
theorem Body.cells {w:World} {v:Value} {l:List It} (h:Body K w v l) (k:Nat) (hk:k < l.length):∃ gd cap nm va vb vt,ICell K w v l k hk gd cap nm va vb vt:=by
 obtain⟨xs,hr,_,hx⟩:=h.out;obtain⟨nm,va,vb,vt,h1,h2,h3,h4,h5,h6,h7⟩:=itsIn_at _ _ hx k hk;obtain⟨gd,cap,hv,hc⟩:=row_cell hr (by omega);exact⟨gd,cap,nm,va,vb,vt,hv,h1,hc _ _ h2,hc _ _ h3,hc _ _ h4,hc _ _ h5,hc _ _ h6,hc _ _ h7⟩
theorem bodyX (g:Nat) (hI:∀ g',g' < g->CI K g'):CB K g:=by
 intro w yb fb rs s s' f lp lv v l left hr he hf hlp hb hx;have h0:Hid (BodyAt K g yb fb w w rs s' f lp lv v l left 0):=⟨⟨g,rs,lv,s,Nat.le_refl _,hr,he,hf,hlp,FTo.refl _ _ _ _ _,hx⟩,hb⟩;obtain⟨xs,hrow,-⟩:=hb.out;have hll:=row_slice_len hrow;obtain⟨ao,cap,rfl⟩:=row_slice hrow;have HI:=hide hI;clear hr he hf hlp hb hx hrow hI;go_enter Tryz.func174,Tryz.ntmps174;go_wp2
 go_loopw [7] (fun i wr=>∃ k:Nat,k<=l.length/\i=.int .i64 k/\BodyAt K g yb fb w wr rs s' f lp lv (.slice ao l.length cap) l left k) (fun i _=>l.length - (intOf i).toNat)
 case atStart=>exact⟨0,Nat.zero_le _,rfl,h0.out⟩
 case round=>
  obtain⟨k,hk,rfl,⟨g',rsk,lvk,sk,hg,hrel,he,hf,hlp,hto,hx⟩,hb⟩:=hrel;by_cases hlt:k < l.length
  ·obtain⟨gd,cap',nm,va,vb,vt,hC⟩:=hb.cells k hlt;have hdv:=hC.dv;injection hdv with e1 e2 e3;subst e1;clear e2 e3;obtain⟨-,hat,c0,c1,c2,c3,c4,c5⟩:=hC;rw[List.drop_eq_getElem_cons hlt] at hx
   cases g' with
   | zero=>cases hx
   | succ g'=>
    rw[x_cons] at hx
    split at hx
    ·cases hx
    ·rename_i s1 left1 hx1
     go_wp2_with fail
     refine (HI.out g' (by omega) wr yb fb rsk sk s1 f lp lvk l[k] nm va vb vt left1 hrel he hf hlp hat hx1).mono ?_;rintro e w1 ⟨rfl,rs1,lv1,hrel1,hf1,hto1⟩;have hb1:=hb.keep (Keeps.to hto1 (hf.noB hrel) _);have hst:=(xRun_keep _ _ _ _ _ hx1).2;have hTO:=hto.trans hto1;have ce:w1.cell? ⟨yb,21,none⟩=some (.int .i64 s1.e):=by rw[<-hrel1.e];exact hrel1.blk.cell rfl
     have HR:=hide hrel1;have HF:=hide hf1;have HB:=hide hb1;have HT:=hide hTO;clear hat c0 c1 c2 c3 c4 c5 hrel hf hto hb hrel1 hf1 hto1 hb1 hTO hx1 he;by_cases hl1:left1=true
     ·subst hl1;rw[if_pos (.inl rfl)] at hx;injection hx with hx;injection hx with hx1 hx2;subst hx1;subst hx2;go_wp2;go_ret;exact⟨rfl,rs1,lv1,HR.out,HF.out,HT.out⟩
     ·have hl1:left1=false:=by simpa using hl1
      subst hl1;by_cases he1:s1.e=0
      ·rw[if_neg (by simp[he1])] at hx;rw[he1] at ce;have HX:=hide hx;clear hx;go_wp2
       go_roundw
       case rel=>exact⟨k+1,by omega,by go_num,⟨⟨g',rs1,lv1,s1,by omega,HR.out,he1,HF.out,by omega,HT.out,HX.out⟩,HB.out⟩⟩
       case measure=>simp[intOf];omega
      ·rw[if_pos (.inr he1)] at hx;injection hx with hx;injection hx with hx1 hx2;subst hx1;subst hx2;go_wp2;go_ret;exact⟨rfl,rs1,lv1,HR.out,HF.out,HT.out⟩
  ·rw[List.drop_of_length_le (by omega)] at hx
   cases g' with
   | zero=>cases hx
   | succ g'=>
    rw[x_nil] at hx;injection hx with hx;injection hx with hx1 hx2;subst hx1;subst hx2;go_wp2;go_ret;exact⟨rfl,rsk,lvk,hrel,hf,hto⟩
end
section
open Go.RowKit
variable {K:Nat->Prop}
theorem RRel.setDp {w:World} {yb:Nat} {rs:RS} {s:St} (h:RRel K w yb rs s) (n:Int) (h0:0<=n) (h1:n<=20):RRel K (w.setCell ⟨yb,23,none⟩ (.int .i64 n)) yb { rs with d:={ rs.d with dp:=n } } { s with depth:=n }/\STo yb w (w.setCell ⟨yb,23,none⟩ (.int .i64 n)) rs { rs with d:={ rs.d with dp:=n } }:=by
 obtain⟨ns,hi,hns⟩:=h.inv;have hk:Kp w (w.setCell ⟨yb,23,none⟩ (.int .i64 n)) (fun b=>b=yb):=Kp.one _ _ _ _;have hb:=hi.blk;refine⟨⟨⟨ns,⟨hi.blk.set 23 _,ownsRow_setCell_other hi.row (own_ne hi.row hi.blk (by decide)) _,hi.len⟩,hns⟩,h.e,h.st,h.mem,h.out,h.ids,h.hot,h.blt,rfl,h.dr.kp hk (NoB.one hb (by decide) (by decide)) (fun b c e hc=>by subst e;exact absurd (hc.inj hb).1 (by decide)),?_⟩,⟨hk.mono (fun b _ e=>.inl e),fun _ h=>.inl h⟩⟩;have hg:=h.good;exact⟨hg.g,hg.s0,hg.s1,hg.s2,h0,h1,hg.b0,hg.b1,hg.cb⟩
theorem RRel.setEr {w:World} {yb:Nat} {rs:RS} {s:St} (h:RRel K w yb rs s) (n:Int) (h0:n ≠ 0):RRel K (w.setCell ⟨yb,21,none⟩ (.int .i64 n)) yb { rs with e:=n } (s.err n)/\STo yb w (w.setCell ⟨yb,21,none⟩ (.int .i64 n)) rs { rs with e:=n }:=by
 obtain⟨ns,hi,hns⟩:=h.inv;have hk:Kp w (w.setCell ⟨yb,21,none⟩ (.int .i64 n)) (fun b=>b=yb):=Kp.one _ _ _ _;have hb:=hi.blk;refine⟨⟨⟨ns,⟨hi.blk.set 21 _,ownsRow_setCell_other hi.row (own_ne hi.row hi.blk (by decide)) _,hi.len⟩,fun h=>absurd h h0⟩,rfl,h.st,h.mem,h.out,h.ids,h.hot,h.blt,h.dp,h.dr.kp hk (NoB.one hb (by decide) (by decide)) (fun b c e hc=>by subst e;exact absurd (hc.inj hb).1 (by decide)),?_⟩,⟨hk.mono (fun b _ e=>.inl e),fun _ h=>.inl h⟩⟩;have hg:=h.good;exact⟨hg.g,hg.s0,hg.s1,fun h=>absurd h h0,hg.d0,hg.d1,hg.b0,hg.b1,hg.cb⟩
theorem count_e {g:Nat} {s s':St} {k:Nat} (h:s.count g k=some s'):s'.e=s.e:=by
 unfold St.count at h
 repeat' split at h
 all_goals first
  | (cases h;done)
  | (injection h with h;subst h;rfl)
theorem enter_tail {g:Nat} {f:Fr} {s1 s':St} {left:Bool} (h:(match (some s1:Option St) with
      | none=>none
      | some s1=>match xRun g (jBody f [] f.body) { s1 with depth:=s1.depth+1 } with
        | none=>none
        | some (s2,_)=>some ({ s2 with depth:=s2.depth - 1 },false))=some (s',left)):∃ s2 left2,xRun g (jBody f [] f.body) { s1 with depth:=s1.depth+1 }=some (s2,left2)/\s'={ s2 with depth:=s2.depth - 1 }:=by
  dsimp only at h
  split at h
  · cases h
  · rename_i s2 left2 hx
    injection h with h;injection h with h1 h2;exact⟨s2,left2,hx,h1.symm⟩
structure ComeAt (K:Nat->Prop) (yb fb:Nat) (w wr:World) (rs:RS) (s1:St) (f:Fr) (lv:Value):Prop where
 rel:RRel K wr yb rs s1
 fr:FrAt K wr fb f [] lv rs.nv
 tt:FTo yb fb w wr rs rs lv lv
theorem enterX (g:Nat) (hB:∀ g',g' < g->CB K g'):CE K g:=by
 intro w yb fb rs s s' f lv left hr he hf hx
 cases g with
 | zero=>cases hx
 | succ g=>
  have HB:=hide hB;clear hB;have cd:w.cell? ⟨yb,23,none⟩=some (.int .i64 s.depth):=by rw[<-hr.dp];exact hr.blk.cell rfl
  have fd:=hr.blk.free 23;have fe:=hr.blk.free 21;have ce:w.cell? ⟨yb,21,none⟩=some (.int .i64 s.e):=by rw[<-hr.e];exact hr.blk.cell rfl
  have hd0:=hr.good.d0;have hd1:=hr.good.d1;rw[x_enter] at hx;by_cases h20:20<=s.depth
  ·rw[if_pos h20] at hx;injection hx with hx;injection hx with hx1 hx2;subst hx1;clear hx2;rw[show s.depth=20 by omega] at cd;have HF:=hide hf;clear h20 hd0 hd1 hf;go_enter Tryz.func143,Tryz.ntmps143;go_wp2;refine bodyPost_ret (results_none rfl _ _ _) rfl ?_;obtain⟨hr1,hto1⟩:=hr.setEr 8 (by decide);obtain⟨hf1,hto2⟩:=HF.out.sto hr hto1;exact⟨rfl,_,lv,hr1,hf1,hto2⟩
  ·rw[if_neg h20] at hx;obtain⟨nm,vb,hbf,hnm,hbd⟩:=hf.blk;have q0:w.cell? ⟨fb,0,none⟩=some (.int .i64 f.id):=hbf.cell rfl;have q1:w.cell? ⟨fb,1,none⟩=some (.string nm):=hbf.cell rfl;have q2:w.cell? ⟨fb,2,none⟩=some vb:=hbf.cell rfl;have hfy:¬ fb=yb:=by rintro rfl;exact absurd (hbf.inj hr.blk).1 (by decide)
   have HX:=hide hx;have HC:Hid (ComeAt K yb fb w w rs s f lv):=⟨hr,hf,FTo.refl _ _ _ _ _⟩;have HE:=hide he;clear hx he hf ce fe;go_enter Tryz.func143,Tryz.ntmps143
   go_wp2_with fail
   refine (findS _ _ _ _ nm hr.blk hr.dr).mono ?_;rintro e w' ⟨rfl,hw⟩;rw[hw];clear hw;rw[hnm];by_cases hfi:findI s.defs f.name < 0
   ·have hn:=findI_none' hfi;have HCO:Hid (xCome g f s=some s):=by unfold Hid xCome St.find;rw[hn]
    rw[show findI s.defs f.name = -1 by unfold findI;rw[hn]];clear hn;go_wp2
    go_quiet (fail)
    have hK:Kp w (w.drewN nq) (fun _=>False):=(Kp.refl w (fun _=>False)).drewN nq;have hC:ComeAt K yb fb w (w.drewN nq) rs s f lv:=by
     obtain⟨hF,hTO⟩:=HC.out.fr.sto HC.out.rel (STo.kpF (rs:=rs) hK);exact⟨HC.out.rel.kpF hK,hF,hTO⟩
    have hbdW:=hbd.keep (Keeps.kpF hK (nK K));have HE1:=HE;have hKE:=HX.out;rw[HCO.out] at hKE;obtain⟨s2,left2,hx2,hs2⟩:=enter_tail hKE;have HX2:=hide hx2;have HS2:=hide hs2;clear hKE HCO hx2 hs2 HX;obtain⟨hR2,hTO2⟩:=hC.rel.setDp (s.depth+1) (by omega) (by omega);obtain⟨hF3,hTO3⟩:=hC.fr.sto hC.rel hTO2;have hTO4:=hC.tt.trans hTO3;have hbd4:=hbdW.keep (Keeps.to hTO2 hC.rel.noB (nK K));have HR2:=hide hR2;have HF3:=hide hF3;have HTO4:=hide hTO4;have HBD4:=hide hbd4;clear hR2 hF3 hTO2 hTO3 hTO4 hbd4 hbdW hC
    go_wp2_with fail
    refine (HB.out g (by omega) _ yb fb _ _ s2 f [] lv vb f.body left2 HR2.out HE1.out HF3.out (by simp;exact HR2.out.good.s0) HBD4.out HX2.out).mono ?_;rintro e w9 ⟨rfl,rs1,lv1,hrel1,hf1,hto1⟩;have hdp:=(xRun_keep _ _ _ _ _ HX2.out).1;dsimp only at hdp;have cd1:w9.cell? ⟨yb,23,none⟩=some (.int .i64 s2.depth):=by rw[<-hrel1.dp];exact hrel1.blk.cell rfl
    have fd1:=hrel1.blk.free 23;rw[hdp] at cd1;obtain⟨hR5,hTO5⟩:=hrel1.setDp s.depth (by omega) (by omega);obtain⟨hF6,hTO6⟩:=hf1.sto hrel1 hTO5;have hTO7:=HTO4.out.trans (hto1.trans hTO6);have HS2':Hid (s2.depth - 1=s.depth):=by unfold Hid;omega
    clear hdp hrel1 hf1 hto1 hTO5 hTO6;go_wp2
    go_end0
    rw[HS2.out,HS2'.out];exact⟨rfl,{ rs1 with d:={ rs1.d with dp:=s.depth } },lv1,by simpa using hR5,hF6,by simpa using hTO7⟩
   ·obtain⟨kd,hkd,hfk,hfx⟩:=findI_lt hfi;obtain⟨gd,capd,xs,nm',vb',vt',hD⟩:=hr.dr.cells kd hkd;have hdl:=hr.dr.len;have cy:w.cell? ⟨yb,17,none⟩=some (.slice (some ⟨gd,0,none⟩) s.defs.length capd):=by rw[<-hD.dv];exact hr.blk.cell rfl
    have k1:=hD.cell _ _ hD.x1;rw[hfk];have HCO:Hid (xCome g f s=if s.defs[kd].id=f.id then s.count g kd else some s):=by unfold Hid xCome St.find;rw[hfx];simp[hkd]
    clear hfk hfx hfi hD;by_cases hid:s.defs[kd].id=f.id
    ·rw[hid] at k1;have hKE:=HX.out;rw[HCO.out,if_pos hid] at hKE
     cases hcn:s.count g kd with
     | none=>rw[hcn] at hKE;cases hKE
     | some s1=>
      rw[hcn] at hKE;obtain⟨s2,left2,hx2,hs2⟩:=enter_tail hKE;have HX2:=hide hx2;have HS2:=hide hs2;have HCN:=hide hcn;have hc1:=St.count_keep hcn;have HE1:Hid (s1.e=0):=by unfold Hid;rw[count_e hcn];exact HE.out
      rw[hc1.1] at HX2;clear hKE HCO hx2 hs2 HX hcn hid hc1;go_wp2
      go_quiet (fail)
      have hK:Kp w (w.drewN nq) (fun _=>False):=(Kp.refl w (fun _=>False)).drewN nq
      go_wp2_with fail
      refine (countS _ yb rs s s1 kd g (hr.kpF hK) hkd HCN.out).mono ?_;rintro e w1 ⟨rfl,hrel1,hto1⟩;have hC:ComeAt K yb fb w w1 rs s1 f lv:=by
       have hto0:STo yb w w1 rs rs:=(STo.kpF (rs:=rs) hK).trans hto1;obtain⟨hF,hTO⟩:=HC.out.fr.sto HC.out.rel hto0;exact⟨hrel1,hF,hTO⟩
      have hbdW:=(hbd.keep (Keeps.kpF hK (nK K))).keep (Keeps.to hto1 (hr.kpF hK).noB (nK K));have hblk1:Blk w1 fb 191 #[.int .i64 f.id,.string nm,vb,lv]:=hto1.kp.blk (hK.blk hbf (by simp)) ((hr.kpF hK).ndef (hK.blk hbf (by simp)) (by decide) (by decide) (by decide));have q2':w1.cell? ⟨fb,2,none⟩=some vb:=hblk1.cell rfl;have cd':w1.cell? ⟨yb,23,none⟩=some (.int .i64 s.depth):=by rw[<-hr.dp];exact hrel1.blk.cell rfl
      have fd':=hrel1.blk.free 23;clear hblk1 hto1 hrel1 k1 cy cd fd q0 q1 q2;obtain⟨hR2,hTO2⟩:=hC.rel.setDp (s.depth+1) (by omega) (by omega);obtain⟨hF3,hTO3⟩:=hC.fr.sto hC.rel hTO2;have hTO4:=hC.tt.trans hTO3;have hbd4:=hbdW.keep (Keeps.to hTO2 hC.rel.noB (nK K));have HR2:=hide hR2;have HF3:=hide hF3;have HTO4:=hide hTO4;have HBD4:=hide hbd4;clear hR2 hF3 hTO2 hTO3 hTO4 hbd4 hbdW hC
      go_wp2_with fail
      refine (HB.out g (by omega) _ yb fb _ _ s2 f [] lv vb f.body left2 HR2.out HE1.out HF3.out (by simp;exact HR2.out.good.s0) HBD4.out HX2.out).mono ?_;rintro e w9 ⟨rfl,rs1,lv1,hrel1,hf1,hto1⟩;have hdp:=(xRun_keep _ _ _ _ _ HX2.out).1;dsimp only at hdp;have cd1:w9.cell? ⟨yb,23,none⟩=some (.int .i64 s2.depth):=by rw[<-hrel1.dp];exact hrel1.blk.cell rfl
      have fd1:=hrel1.blk.free 23;rw[hdp] at cd1;obtain⟨hR5,hTO5⟩:=hrel1.setDp s.depth (by omega) (by omega);obtain⟨hF6,hTO6⟩:=hf1.sto hrel1 hTO5;have hTO7:=HTO4.out.trans (hto1.trans hTO6);have HS2':Hid (s2.depth - 1=s.depth):=by unfold Hid;omega
      clear hdp hrel1 hf1 hto1 hTO5 hTO6;go_wp2
      go_end0
      rw[HS2.out,HS2'.out];exact⟨rfl,{ rs1 with d:={ rs1.d with dp:=s.depth } },lv1,by simpa using hR5,hF6,by simpa using hTO7⟩
    ·have HCO:Hid (xCome g f s=some s):=by unfold Hid;rw[HCO.out,if_neg hid]
     go_wp2
     go_quiet (fail)
     have hK:Kp w (w.drewN nq) (fun _=>False):=(Kp.refl w (fun _=>False)).drewN nq;have hC:ComeAt K yb fb w (w.drewN nq) rs s f lv:=by
      obtain⟨hF,hTO⟩:=HC.out.fr.sto HC.out.rel (STo.kpF (rs:=rs) hK);exact⟨HC.out.rel.kpF hK,hF,hTO⟩
     have hbdW:=hbd.keep (Keeps.kpF hK (nK K));have HE1:=HE;have hKE:=HX.out;rw[HCO.out] at hKE;obtain⟨s2,left2,hx2,hs2⟩:=enter_tail hKE;have HX2:=hide hx2;have HS2:=hide hs2;clear hKE HCO hx2 hs2 HX;obtain⟨hR2,hTO2⟩:=hC.rel.setDp (s.depth+1) (by omega) (by omega);obtain⟨hF3,hTO3⟩:=hC.fr.sto hC.rel hTO2;have hTO4:=hC.tt.trans hTO3;have hbd4:=hbdW.keep (Keeps.to hTO2 hC.rel.noB (nK K));have HR2:=hide hR2;have HF3:=hide hF3;have HTO4:=hide hTO4;have HBD4:=hide hbd4;clear hR2 hF3 hTO2 hTO3 hTO4 hbd4 hbdW hC
     go_wp2_with fail
     refine (HB.out g (by omega) _ yb fb _ _ s2 f [] lv vb f.body left2 HR2.out HE1.out HF3.out (by simp;exact HR2.out.good.s0) HBD4.out HX2.out).mono ?_;rintro e w9 ⟨rfl,rs1,lv1,hrel1,hf1,hto1⟩;have hdp:=(xRun_keep _ _ _ _ _ HX2.out).1;dsimp only at hdp;have cd1:w9.cell? ⟨yb,23,none⟩=some (.int .i64 s2.depth):=by rw[<-hrel1.dp];exact hrel1.blk.cell rfl
     have fd1:=hrel1.blk.free 23;rw[hdp] at cd1;obtain⟨hR5,hTO5⟩:=hrel1.setDp s.depth (by omega) (by omega);obtain⟨hF6,hTO6⟩:=hf1.sto hrel1 hTO5;have hTO7:=HTO4.out.trans (hto1.trans hTO6);have HS2':Hid (s2.depth - 1=s.depth):=by unfold Hid;omega
     clear hdp hrel1 hf1 hto1 hTO5 hTO6;go_wp2
     go_end0
     rw[HS2.out,HS2'.out];exact⟨rfl,{ rs1 with d:={ rs1.d with dp:=s.depth } },lv1,by simpa using hR5,hF6,by simpa using hTO7⟩
end
section
open Go.RowKit
variable {K:Nat->Prop}
theorem find_idx {defs:List Def} {t:Tok} {d:Def} (h:defs.find? (fun d=>d.name == t)=some d):∃ k,∃ hk:k < defs.length,findI defs t=k/\defs[k]=d:=by
 induction defs with
 | nil=>cases h
 | cons x l ih=>
  cases hx:(x.name == t) with
  | true=>
   rw[List.find?_cons_of_pos (by exact hx)] at h;injection h with h;refine⟨0,by simp,?_,h⟩;unfold findI;rw[List.findIdx?_cons,hx];rfl
  | false=>
   rw[List.find?_cons_of_neg (by simp[hx])] at h;obtain⟨k,hk,h1,h2⟩:=ih h;refine⟨k+1,by simpa using hk,?_,by simpa using h2⟩;unfold findI at h1 ⊢;rw[List.findIdx?_cons,hx]
   cases hl:l.findIdx? (fun d=>d.name == t) with
   | none=>rw[hl] at h1;dsimp only at h1;omega
   | some m=>rw[hl] at h1;dsimp only at h1;simp;omega
theorem FTo.away {yb fb:Nat} {w wa w':World} {rs rs':RS} {lv':Value} (h:FTo yb fb wa w' rs rs' (.slice none 0 0) lv') (hk:Kp w wa (fun _=>False)) (hfb:w.heap.size<=fb):STo yb w w' rs rs':=by
 refine⟨⟨h.kp.os.trans hk.os,h.kp.tape.trans hk.tape,h.kp.output.trans hk.output,Nat.le_trans hk.size h.kp.size,fun k hlt hn=>?_⟩,fun k hkk=>?_⟩
 ·refine (h.kp.block k (by have:=hk.size;omega) ?_).trans (hk.block k hlt (by simp));rintro ((e|e)|(e|e))
  ·exact hn (.inl e)
  ·omega
  ·exact hn (.inr e)
  ·simp[own,Value.ownBlock] at e
 ·rcases h.nx k (.inl hkk) with (e|e)|e
  ·exact .inl e
  ·simp[own,Value.ownBlock] at e
  ·right;have:=hk.size;omega
theorem callX (g:Nat) (hE:∀ g',g' < g->CE K g'):CC K g:=by
 intro w yb rs s s' tb left hr he hx
 cases g with
 | zero=>cases hx
 | succ g=>
  rw[x_call] at hx
  split at hx
  ·cases hx
  ·rename_i d hd
   obtain⟨k,hk,hfi,rfl⟩:=find_idx hd;obtain⟨gd,capd,xs,nm,vb,vt,hD⟩:=hr.dr.cells k hk;have hdl:=hr.dr.len;have cy:w.cell? ⟨yb,17,none⟩=some (.slice (some ⟨gd,0,none⟩) s.defs.length capd):=by rw[<-hD.dv];exact hr.blk.cell rfl
   have hat:=hD.at_;obtain⟨xsb,hrb,-⟩:=hat.body.out;obtain⟨ab,pb,rfl⟩:=row_slice hrb;obtain⟨wst,hrt,hwt,-⟩:=hat.built;obtain⟨a5,p5,rfl⟩:=row_slice hrt;have k0:=hD.cell _ _ hD.x0;have k1:=hD.cell _ _ hD.x1;have k2:=hD.cell _ _ hD.x2;have k3:=hD.cell _ _ hD.x3;have k4:=hD.cell _ _ hD.x4;have k5:=hD.cell _ _ hD.x5;have hyl:=hr.blk.lt;have hgl:gd < w.heap.size:=by obtain⟨c,hc⟩:=hD.blk;exact hc.lt
   have HE:=hide hE;have HX:=hide hx;have HFI:Hid (∀ w1:World,Kp w w1 (fun _=>False)->Calls Tryz.prog 89 #[.pointer (some ⟨yb,0,none⟩),.string tb] w1 fun e w'=>e=.returned (.int .i64 (k:Nat))/\w'=w1):=fun w1 hw1=>by
    have:=findS w1 yb rs s.defs tb (hr.kpF hw1).blk (hr.kpF hw1).dr;rw[hfi] at this;exact this
   have HEN:Hid (∀ o:Obj,Calls Tryz.prog 143 #[.pointer (some ⟨yb,0,none⟩),.pointer (some ⟨w.heap.size+1,0,none⟩)] ((w.alloc o).alloc (.cells #[.int .i64 s.defs[k].id,.string nm,.slice ab s.defs[k].body.length pb,.slice none 0 0] 191)).drew fun e w'=>e=.returned (.tuple #[])/\∃ rs',RRel K w' yb rs' s'/\STo yb w w' rs rs'):=by
    intro o;have hK1:Kp w (w.alloc o) (fun _=>False):=(Kp.refl w (fun _=>False)).alloc o;have hK:Kp w ((w.alloc o).alloc (.cells #[.int .i64 s.defs[k].id,.string nm,.slice ab s.defs[k].body.length pb,.slice none 0 0] 191)).drew (fun _=>False):=(hK1.alloc _).drew;have hB:=Blk.new (w.alloc o) #[.int .i64 s.defs[k].id,.string nm,.slice ab s.defs[k].body.length pb,.slice none 0 0] 191;rw[show (w.alloc o).heap.size=w.heap.size+1 by simp] at hB;have hF:FrAt K ((w.alloc o).alloc (.cells #[.int .i64 s.defs[k].id,.string nm,.slice ab s.defs[k].body.length pb,.slice none 0 0] 191)).drew (w.heap.size+1) ⟨s.defs[k].id,s.defs[k].name,s.defs[k].body⟩ [] (.slice none 0 0) rs.nv:=
     ⟨⟨nm,_,hB.drew,hat.nm,hat.body.keep (Keeps.kpF hK _)⟩,World.ownsRow_nil _ _ _ _,by simp,fun q hq=>by simp[own,Value.ownBlock] at hq⟩
    refine (hE g (by omega) _ yb _ rs s s' _ _ left (hr.kpF hK) he hF hx).mono ?_;rintro e w1 ⟨rfl,rs1,lv1,hrel1,hf1,hto1⟩;exact⟨rfl,rs1,hrel1,FTo.away hto1 hK (by omega)⟩
   clear hD hE hx hd hfi hrb hrt hwt;go_enter Tryz.func90,Tryz.ntmps90;go_wp2
   go_region_with (go_at_call 89;refine (HFI.out _ (by first|exact ((Kp.refl w (fun _=>False)).alloc _).drew|exact (Kp.refl w (fun _=>False)).drew)).mono ?_;rintro e w' ⟨rfl,hw⟩;rw[hw];clear hw)
   all_goals
    go_wp2_with fail
    refine (HEN.out _).mono ?_;rintro e w1 ⟨rfl,rs1,hrel1,hto1⟩;go_wp2
    go_end0
    exact⟨rfl,rs1,hrel1,hto1⟩
end
section
open Go.RowKit
variable {K:Nat->Prop}
theorem FTo.held {yb fb:Nat} {w w':World} {rs rs':RS} {s:St} {f:Fr} {lp:List Int} {lv lv':Value} {q:Nat} {c:Array Value} (hr:RRel K w yb rs s) (hf:FrAt K w fb f lp lv rs.nv) (hto:FTo yb fb w w' rs rs' lv lv') (hb:Blk w q 3 c) (h1:¬ own rs.nv q) (h2:¬ own lv q):
  Blk w' q 3 c/\¬ own rs'.nv q/\¬ own lv' q:=by
 obtain⟨nm,vb,hbf,_⟩:=hf.blk;obtain⟨xs,hrd,_⟩:=hr.dr.ex;have hd:¬ own rs.d.dv q:=own_ne hrd hb (by decide);have hlt:=hb.lt;have hV:¬ ((own rs.nv q\/own rs.d.dv q)\/own lv q):=by rintro ((e|e)|e);exact h1 e;exact hd e;exact h2 e
 refine⟨hto.blk hb ?_ hV,fun e=>?_,fun e=>?_⟩
 ·rintro (e|e)
  ·subst e;exact absurd (hb.inj hr.blk).1 (by decide)
  ·subst e;exact absurd (hb.inj hbf).1 (by decide)
 ·rcases hto.nx q (.inl (.inl e)) with h|h
  ·exact hV h
  ·omega
 ·rcases hto.nx q (.inr e) with h|h
  ·exact hV h
  ·omega
theorem FrAt.push {yb fb:Nat} {w w1:World} {rs:RS} {s:St} {f:Fr} {lp:List Int} {lv v':Value} {n:Int} {o:Obj} (hr:RRel K w yb rs s) (hf:FrAt K w fb f lp lv rs.nv) (hn:In n)
  (hown:w1.ownsRow 0 3 1 v' (lp.length+1) (ints lp.reverse ++ [.int .i64 n])) (hgrow:(w.alloc o).grownBy w1 lv.ownBlock) (hnx:∀ k,own v' k->own lv k\/w.heap.size+1<=k):
  Kp w w1 (fun b=>own lv b)/\(∃ nm vb,Blk w1 fb 191 #[.int .i64 f.id,.string nm,vb,lv])/\RRel K (w1.setCell ⟨fb,3,none⟩ v') yb rs s/\FrAt K (w1.setCell ⟨fb,3,none⟩ v') fb f (n :: lp) v' rs.nv/\FTo yb fb w (w1.setCell ⟨fb,3,none⟩ v') rs rs lv v'/\Keeps (nK K) (nK K) w (w1.setCell ⟨fb,3,none⟩ v'):=by
 obtain⟨nm,vb,hbf,hnm,hbd⟩:=hf.blk;obtain⟨ns,hi,hns⟩:=hr.inv;obtain⟨xs,hrd,_⟩:=hr.dr.ex;have hk1:Kp w w1 (fun b=>own lv b):=(((Kp.refl w _).alloc o)).grown hgrow (fun b _ e=>e);have hb1:Blk w1 fb 191 #[.int .i64 f.id,.string nm,vb,lv]:=hk1.blk hbf (own_ne hf.row hbf (by decide));have hkp:Kp w (w1.setCell ⟨fb,3,none⟩ v') (fun b=>b=fb\/own lv b):=(hk1.mono (fun _ _ h=>.inr h)).set (a:=⟨fb,3,none⟩) (fun _=>.inl rfl) _;have hNB:NoB w (fun b=>b=fb\/own lv b):=fun b t c hb hbl=>hf.noB hr b t c (by rcases hb with e|e;exact .inl (.inr e);exact .inr (.inr e)) hbl;have hkeep:Keeps (nK K) (nK K) w (w1.setCell ⟨fb,3,none⟩ v'):=Keeps.kp hkp hNB _;have hrow:(w1.setCell ⟨fb,3,none⟩ v').ownsRow 0 3 1 v' (lp.length+1) (ints lp.reverse ++ [.int .i64 n]):=ownsRow_setCell_other hown (a:=⟨fb,3,none⟩) (own_ne hown hb1 (by decide)) _;have hny:¬ (yb=fb\/own lv yb):=by
  rintro (e|e)
  ·subst e;exact absurd (hbf.inj hi.blk).1 (by decide)
  ·exact (own_ne hf.row hi.blk (by decide)) e
 refine⟨hk1,⟨nm,vb,hb1⟩,⟨⟨ns,⟨hkp.blk hi.blk hny,hkp.row hi.row (fun b hb hh=>?_),hi.len⟩,hns⟩,hr.e,hr.st,hr.mem,hr.out,hr.ids,hr.hot,hr.blt,hr.dp,hr.dr.kp hkp hNB (fun b c hb hc=>?_),hr.good⟩,⟨⟨nm,vb,hb1.set 3 v',hnm,hbd.keep hkeep⟩,by simpa [ints] using hrow,?_,fun k hk hn'=>?_⟩,⟨hkp.mono (fun b _ hb=>?_),fun k hk=>?_⟩,hkeep⟩
 ·obtain⟨c,hc⟩:=row_blk hi.row hb;rcases hh with e|e
  ·subst e;exact absurd (hc.inj hbf).1 (by decide)
  ·exact hf.sep b e hb
 ·rcases hb with e|e
  ·subst e;exact absurd (hc.inj hbf).1 (by decide)
  ·exact absurd (row_type hf.row e hc) (by decide)
 ·intro x hx;rcases List.mem_cons.1 hx with h|h
  ·rw[h];exact hn
  ·exact hf.ins x h
 ·rcases hnx k hk with h|h
  ·exact hf.sep k h hn'
  ·have:=own_lt hi.row hn';omega
 ·rcases hb with e|e
  ·exact .inl (.inr e)
  ·exact .inr (.inr e)
 ·rcases hk with e|e
  ·exact .inl (.inl e)
  ·rcases hnx k e with h|h
   ·exact .inl (.inr h)
   ·right;omega
theorem FrAt.pop {yb fb:Nat} {w:World} {rs:RS} {s:St} {f:Fr} {lp:List Int} {gl cap:Nat} {n:Int} (hr:RRel K w yb rs s) (hf:FrAt K w fb f (n :: lp) (.slice (some ⟨gl,0,none⟩) (lp.length+1) cap) rs.nv):
  RRel K (w.setCell ⟨fb,3,none⟩ (.slice (some ⟨gl,0,none⟩) lp.length cap)) yb rs s/\FrAt K (w.setCell ⟨fb,3,none⟩ (.slice (some ⟨gl,0,none⟩) lp.length cap)) fb f lp (.slice (some ⟨gl,0,none⟩) lp.length cap) rs.nv/\FTo yb fb w (w.setCell ⟨fb,3,none⟩ (.slice (some ⟨gl,0,none⟩) lp.length cap)) rs rs (.slice (some ⟨gl,0,none⟩) (lp.length+1) cap) (.slice (some ⟨gl,0,none⟩) lp.length cap)/\Keeps (nK K) (nK K) w (w.setCell ⟨fb,3,none⟩ (.slice (some ⟨gl,0,none⟩) lp.length cap)):=by
 obtain⟨nm,vb,hbf,hnm,hbd⟩:=hf.blk;obtain⟨ns,hi,hns⟩:=hr.inv;obtain⟨xs,hrd,_⟩:=hr.dr.ex;have hkp:Kp w (w.setCell ⟨fb,3,none⟩ (.slice (some ⟨gl,0,none⟩) lp.length cap)) (fun b=>b=fb):=Kp.one _ _ _ _;have hNB:NoB w (fun b=>b=fb):=NoB.one hbf (by decide) (by decide);have hkeep:Keeps (nK K) (nK K) w (w.setCell ⟨fb,3,none⟩ (.slice (some ⟨gl,0,none⟩) lp.length cap)):=Keeps.kp hkp hNB _;have hny:¬ yb=fb:=by
  intro e;subst e;exact absurd (hbf.inj hi.blk).1 (by decide)
 have hrow:w.ownsRow 0 3 1 (.slice (some ⟨gl,0,none⟩) lp.length cap) lp.length (ints lp.reverse):=by
  rcases hf.row.2 with⟨hv,_⟩|⟨g,cap',cur,hv,_,hgg,hnc,hcm,hcs,htk⟩
  ·cases hv
  ·injection hv with e1 e2 e3;injection e1 with e1;injection e1 with e1;subst e1;subst e3;have:=row_of (ns:=(n :: lp).reverse) (hb:=hgg) (by simpa using hnc) hcm hcs (by simpa using htk) lp.length (by simp)
   simpa [List.take_append_of_le_length] using this
 refine⟨⟨⟨ns,⟨hkp.blk hi.blk hny,hkp.row hi.row (fun b hb hh=>?_),hi.len⟩,hns⟩,hr.e,hr.st,hr.mem,hr.out,hr.ids,hr.hot,hr.blt,hr.dp,hr.dr.kp hkp hNB (fun b c hb hc=>?_),hr.good⟩,⟨⟨nm,vb,hbf.set 3 _,hnm,hbd.keep hkeep⟩,?_,fun x hx=>hf.ins x (by simp[hx]),fun k hk=>hf.sep k hk⟩,⟨hkp.mono (fun b _ hb=>.inl (.inr hb)),fun k hk=>.inl hk⟩,hkeep⟩
 ·obtain⟨c,hc⟩:=row_blk hi.row hb;subst hh;exact absurd (hc.inj hbf).1 (by decide)
 ·subst hb;exact absurd (hc.inj hbf).1 (by decide)
 ·exact ownsRow_setCell_other hrow (a:=⟨fb,3,none⟩) (own_ne hrow hbf (by decide)) _
theorem FrAt.popD {yb fb:Nat} {w:World} {rs:RS} {s:St} {f:Fr} {lp:List Int} {gl cap:Nat} {n:Int} (hr:RRel K w yb rs s) (hf:FrAt K w fb f (n :: lp) (.slice (some ⟨gl,0,none⟩) (lp.length+1) cap) rs.nv):
  RRel K (w.setCell ⟨fb,3,none⟩ (.slice (some ⟨gl,0,none⟩) lp.length cap)).drew yb rs s/\FrAt K (w.setCell ⟨fb,3,none⟩ (.slice (some ⟨gl,0,none⟩) lp.length cap)).drew fb f lp (.slice (some ⟨gl,0,none⟩) lp.length cap) rs.nv/\FTo yb fb w (w.setCell ⟨fb,3,none⟩ (.slice (some ⟨gl,0,none⟩) lp.length cap)).drew rs rs (.slice (some ⟨gl,0,none⟩) (lp.length+1) cap) (.slice (some ⟨gl,0,none⟩) lp.length cap)/\Keeps (nK K) (nK K) w (w.setCell ⟨fb,3,none⟩ (.slice (some ⟨gl,0,none⟩) lp.length cap)).drew:=by
 obtain⟨h1,h2,h3,h4⟩:=hf.pop hr;have hK:Kp (w.setCell ⟨fb,3,none⟩ (.slice (some ⟨gl,0,none⟩) lp.length cap)) (w.setCell ⟨fb,3,none⟩ (.slice (some ⟨gl,0,none⟩) lp.length cap)).drew (fun _=>False):=(Kp.refl _ _).drew;obtain⟨h5,h6⟩:=h2.sto h1 (STo.kpF (rs:=rs) hK);exact⟨h1.kpF hK,h5,h3.trans h6,fun b t c hs hb ht=>⟨(h4 b t c hs hb ht).1.drew,hs⟩⟩
theorem xBody_e:∀ (g:Nat) (f:Fr) (lp:List Int) (l:List It) (s s':St),s.e=0->xRun g (jBody f lp l) s=some (s',false)->s'.e=0
 | 0,_,_,_,_,_,_,h=>by cases h
 | g+1,f,lp,[],s,s',he,h=>by rw[x_nil] at h;injection h with h;injection h with h1 h2;subst h1;exact he
 | g+1,f,lp,x :: l,s,s',he,h=>by
  rw[x_cons] at h
  split at h
  ·cases h
  ·split at h
   ·injection h with h;injection h with h1 h2;cases h2
   ·rename_i s1 left1 _ hc
    exact xBody_e g f lp l s1 s' (by simp at hc;exact hc.2) h
structure LoopAt (K:Nat->Prop) (g yb fb gt:Nat) (w wr:World) (rs:RS) (s':St) (f:Fr) (lp:List Int) (lv va:Value) (l:List It) (left:Bool) (b m n:Int):Prop where
 ex:∃ g' rsk lvk sk,g'<=g/\RRel K wr yb rsk sk/\sk.e=0/\FrAt K wr fb f lp lvk rsk.nv/\(lp.length:Int)<=sk.steps/\FTo yb fb w wr rs rsk lv lvk/\xRun g' (jDo f lp n m l) sk=some (s',left)/\Blk wr gt 3 #[.int .i64 b,.int .i64 m,.int .i64 0]/\¬ own rsk.nv gt/\¬ own lvk gt
 body:Body K wr va l
 inn:In n
end
section
open Go.RowKit
theorem SGood.step {s:St} (h:SGood s) (he:s.e=0):SGood s.step:=by
 have h2:=h.s2 he;have h0:=h.s0;unfold St.step
 split
 ·exact⟨h.g,by show 0<=s.steps+1;omega,by show s.steps+1<=2001;omega,fun _=>by show s.steps+1<=2000;omega,h.d0,h.d1,h.b0,h.b1,h.cb⟩
 ·exact⟨h.g,by show 0<=s.steps+1;omega,by show s.steps+1<=2001;omega,(fun h=>by cases h),h.d0,h.d1,h.b0,h.b1,h.cb⟩
theorem SGood.put {s:St} (h:SGood s) {n:Int} (hn:In n):SGood (s.put n):=by
 unfold St.put
 split
 ·exact⟨⟨by simp only[List.mem_cons,forall_eq_or_imp];exact⟨hn,h.g.ins⟩,h.g.mems,by simp only[List.length_cons];omega,h.g.osz⟩,h.s0,h.s1,h.s2,h.d0,h.d1,h.b0,h.b1,h.cb⟩
 ·exact⟨h.g,h.s0,h.s1,(fun h=>by cases h),h.d0,h.d1,h.b0,h.b1,h.cb⟩
theorem SGood.word {s:St} (h:SGood s) (he:s.e=0) (k:Nat):SGood (s.word k):=by
 have hf:Fine (plainP k s.rs s.mem s.out):=plain_fine _ h.g;exact⟨hf,h.s0,h.s1,fun _=>h.s2 he,h.d0,h.d1,h.b0,h.b1,h.cb⟩
theorem SGood.err {s:St} (h:SGood s) {k:Int} (hk:k ≠ 0):SGood (s.err k):=⟨h.g,h.s0,h.s1,(fun e=>absurd e hk),h.d0,h.d1,h.b0,h.b1,h.cb⟩
theorem SGood.tail {s:St} (h:SGood s) {r:List Int} (hr:∀ x∈r,x∈s.rs) (hl:r.length<=s.rs.length):SGood { s with rs:=r }:=
 ⟨⟨fun x hx=>h.g.ins x (hr x hx),h.g.mems,Nat.le_trans hl h.g.len,h.g.osz⟩,h.s0,h.s1,h.s2,h.d0,h.d1,h.b0,h.b1,h.cb⟩
theorem SGood.test {s:St} (h:SGood s) (he:s.e=0):SGood s.test.1:=by
 have h1:=h.step he;unfold St.test
 split
 ·split
  ·exact h1.err (by decide)
  ·rename_i a r hr
   exact h1.tail (fun x hx=>by rw[hr];simp[hx]) (by rw[hr];simp)
 ·exact h1
theorem SGood.dep {s:St} (h:SGood s) {n:Int} (h0:0<=n) (h1:n<=20):SGood { s with depth:=n }:=⟨h.g,h.s0,h.s1,h.s2,h0,h1,h.b0,h.b1,h.cb⟩
theorem knows_iff {s:St} {t:Tok}:knows s t<->∃ d∈s.defs,(d.name == t)=true:=by
 unfold knows St.known St.find;rw[List.findIdx?_isSome,List.any_eq_true]
theorem set_defs_name {s:St} {nm:Tok} {b:List It} {d:Def} (hd:d∈s.defs):∃ d'∈(s.set nm b).defs,d'.name=d.name:=by
 obtain⟨i,hi,rfl⟩:=List.mem_iff_getElem.1 hd;unfold St.set;dsimp only
 cases hf:s.find nm with
 | none=>
  refine⟨slowIf nm s.defs[i],?_,slowIf_name _ _⟩;exact List.mem_append_left _ (List.mem_map_of_mem (List.getElem_mem hi))
 | some k=>
  by_cases hik:i=k
  ·subst hik;obtain⟨h1,h2,_⟩:=List.findIdx?_eq_some_iff_getElem.1 hf;refine⟨⟨nm,wrap64 (s.ids+1),b,0,false,[]⟩,?_,by have:=eq_of_beq h2;exact this.symm⟩;rw[List.mem_iff_getElem];exact⟨i,by simpa using hi,by simp⟩
  ·refine⟨slowIf nm s.defs[i],?_,slowIf_name _ _⟩;rw[List.mem_iff_getElem];refine⟨i,by simpa using hi,?_⟩;rw[List.getElem_set_ne (by omega),List.getElem_map];rfl
theorem set_knows {s:St} {nm:Tok} {b:List It} {t:Tok} (h:knows s t):knows (s.set nm b) t:=by
 rw[knows_iff] at h ⊢;obtain⟨d,hd,ht⟩:=h;obtain⟨d',hd',e⟩:=set_defs_name (nm:=nm) (b:=b) hd;exact⟨d',hd',by rw[e];exact ht⟩
theorem set_body {s:St} {nm:Tok} {b:List It} {d:Def} (hd:d∈(s.set nm b).defs):d.body=b\/∃ d0∈s.defs,d.body=d0.body:=by
 have key:∀ d∈s.defs.map (slowIf nm),∃ d0∈s.defs,d.body=d0.body:=by
  intro d hd;obtain⟨d0,h0,rfl⟩:=List.mem_map.1 hd;exact⟨d0,h0,slowIf_body _ _⟩
 unfold St.set at hd;dsimp only at hd
 cases hf:s.find nm with
 | none=>
  rw[hf] at hd;rcases List.mem_append.1 hd with h|h
  ·exact .inr (key d h)
  ·simp at h;rw[h];exact .inl rfl
 | some k=>
  rw[hf] at hd;rcases List.mem_or_eq_of_mem_set hd with h|h
  ·exact .inr (key d h)
  ·rw[h];exact .inl rfl
theorem WFs.set {s:St} (h:WFs s) {nm:Tok} {b:List It} {G:Nat} (hb:wb (knows s) G false b) (hcb:CBnd b):WFs (s.set nm b):=by
 have hg:=h.g;refine⟨⟨hg.g,hg.s0,hg.s1,hg.s2,hg.d0,hg.d1,hg.b0,hg.b1,fun d hd=>by
  rcases set_body hd with e|⟨d0,h0,e⟩
  ·rw[e];exact hcb
  ·rw[e];exact hg.cb d0 h0⟩,fun d hd=>?_,h.st⟩
 rcases set_body hd with e|⟨d0,h0,e⟩
 ·exact⟨G,by rw[e];exact wb_known (fun t ht=>set_knows ht) _ _ _ hb⟩
 ·obtain⟨g,hg⟩:=h.d d0 h0;exact⟨g,by rw[e];exact wb_known (fun t ht=>set_knows ht) _ _ _ hg⟩
theorem WFs.same {s s':St} (h:WFs s) (hg:SGood s') (hd:s'.defs=s.defs):WFs s'/\∀ t,knows s t->knows s' t:=by
 refine⟨⟨hg,fun d hm=>?_,hg.s2⟩,fun t ht=>(knows_def hd).2 ht⟩;rw[hd] at hm;obtain⟨g,hg⟩:=h.d d hm;exact⟨g,wb_known (fun t ht=>(knows_def hd).2 ht) _ _ _ hg⟩
theorem step_defs (s:St):s.step.defs=s.defs:=by unfold St.step;split <;> rfl
theorem step_ok {s:St} (he:s.e=0) (h:s.step.e=0):s.steps < 2000:=by
 unfold St.step at h
 split at h
 ·assumption
 ·cases h
theorem put_defs (s:St) (n:Int):(s.put n).defs=s.defs:=by unfold St.put;split <;> rfl
theorem test_defs (s:St):s.test.1.defs=s.defs:=by
 unfold St.test;split
 ·split
  ·exact step_defs s
  ·exact step_defs s
 ·exact step_defs s
theorem test_ok {s:St} (he:s.e=0) (h:s.test.1.e=0):s.steps < 2000:=by
 unfold St.test at h
 split at h
 ·exact step_ok he (by assumption)
 ·exact absurd h (by assumption)
def rem (s:St):Nat:=(2001 - s.steps).toNat
def Tot (j:XJ) (s:St):Prop:=∃ g s' left,xRun g j s=some (s',left)/\WFs s'/\∀ t,knows s t->knows s' t
def wbF (s:St) (f:Fr):Prop:=∃ G,wb (knows s) G false f.body
theorem wbF.mono {s s':St} {f:Fr} (h:wbF s f) (hk:∀ t,knows s t->knows s' t):wbF s' f:=by
 obtain⟨G,hG⟩:=h;exact⟨G,wb_known hk _ _ _ hG⟩
structure TotN (N:Nat):Prop where
 body:∀ (G:Nat) (s:St) (f:Fr) (lp:List Int) (l:List It) (lo:Bool),WFs s->s.e=0->rem s<=N->wb (knows s) G lo l->wbF s f->(lo=true->lp ≠ [])->(∀ n∈lp,In n)->Tot (jBody f lp l) s
 item:∀ (G:Nat) (s:St) (f:Fr) (lp:List Int) (x:It) (lo:Bool),WFs s->s.e=0->rem s<=N->okIt (knows s) (wb (knows s) G) lo x->wbF s f->(lo=true->lp ≠ [])->(∀ n∈lp,In n)->Tot (jItem f lp x) s
 do_:∀ (G:Nat) (s:St) (f:Fr) (lp:List Int) (n m:Int) (l:List It),WFs s->s.e=0->rem s<=N->wb (knows s) G true l->wbF s f->(∀ n∈lp,In n)->In n->In m->Tot (jDo f lp n m l) s
 enter:∀ (s:St) (f:Fr),WFs s->s.e=0->rem s<=N->wbF s f->Tot (jEnter f) s
 call:∀ (s:St) (t:Tok),WFs s->s.e=0->rem s<=N->knows s t->Tot (jCall t) s
 toks:∀ (s:St) (ts:List Tok),WFs s->(s.e=0->rem s<=N)->ts.length<=1000->Tot (jToks ts) s
theorem tot_of {j:XJ} {s:St} {g:Nat} {s':St} {left:Bool} (h:xRun g j s=some (s',left)) (hw:WFs s') (hk:∀ t,knows s t->knows s' t):Tot j s:=⟨g,s',left,h,hw,hk⟩
theorem TotN.zero:TotN 0:=by
 have no:∀ s:St,WFs s->s.e=0->rem s<=0->False:=by
  intro s hw he hr;have:=hw.st he;unfold rem at hr;omega
 refine⟨fun G s f lp l lo hw he hr=>(no s hw he hr).elim,fun G s f lp l lo hw he hr=>(no s hw he hr).elim,fun G s f lp n m l hw he hr=>(no s hw he hr).elim,fun s f hw he hr=>(no s hw he hr).elim,fun s t hw he hr=>(no s hw he hr).elim,fun s ts hw hr _=>?_⟩;by_cases he:s.e=0
 ·exact (no s hw he (hr he)).elim
 ·exact tot_of (x_terr 0 s ts he) hw (fun _ h=>h)
theorem step_next {N:Nat} {s:St} (hw:WFs s) (he:s.e=0) (hr:rem s<=N+1):WFs s.step/\(∀ t,knows s t->knows s.step t)/\(s.step.e=0->rem s.step<=N/\s.step.steps<=2000):=by
 have h1:=hw.same (hw.g.step he) (step_defs s);refine⟨h1.1,h1.2,fun h=>?_⟩;have:=step_ok he h;unfold rem at hr ⊢;rw[St.step_steps];omega
theorem test_next {N:Nat} {s:St} (hw:WFs s) (he:s.e=0) (hr:rem s<=N+1):WFs s.test.1/\(∀ t,knows s t->knows s.test.1 t)/\(s.test.1.e=0->rem s.test.1<=N):=by
 have h1:=hw.same (hw.g.test he) (test_defs s);refine⟨h1.1,h1.2,fun h=>?_⟩;have:=test_ok he h;unfold rem at hr ⊢;rw[St.test_steps];omega
theorem rem_le {g:Nat} {j:XJ} {s s':St} {left:Bool} (h:xRun g j s=some (s',left)):rem s'<=rem s:=by
 have:=(xRun_keep _ _ _ _ _ h).2;unfold rem;omega
theorem item_tot {N:Nat} (H:TotN N) (G:Nat) (hB:∀ (s:St) (f:Fr) (lp:List Int) (l:List It) (lo:Bool),WFs s->s.e=0->rem s<=N+1->wb (knows s) G lo l->wbF s f->(lo=true->lp ≠ [])->(∀ n∈lp,In n)->Tot (jBody f lp l) s)
  (s:St) (f:Fr) (lp:List Int) (x:It) (lo:Bool) (hw:WFs s) (he:s.e=0) (hr:rem s<=N+1) (hx:okIt (knows s) (wb (knows s) G) lo x) (hf:wbF s f) (hlp:lo=true->lp ≠ []) (hlI:∀ n∈lp,In n):Tot (jItem f lp x) s:=by
 obtain⟨tw,tk,tr⟩:=test_next hw he hr;obtain⟨sw,sk,sr⟩:=step_next hw he hr;by_cases k63:x.kind=63
 ·have hsub:wb (knows s) G lo x.a/\wb (knows s) G lo x.b:=by
   rcases hx with⟨h,h1,h2⟩|⟨h,h1,h2⟩|⟨h,h1,h2⟩
   ·rw[h1,h2];exact⟨wb_nil _ _ _,wb_nil _ _ _⟩
   ·exact⟨h1,h2⟩
   ·omega
  by_cases e1:s.test.1.e=0
  ·by_cases e2:s.test.2=true
   ·obtain⟨g,s',left,h,h1,h2⟩:=H.body G s.test.1 f lp x.a lo tw e1 (tr e1) (wb_known tk _ _ _ hsub.1) (hf.mono tk) hlp hlI;exact tot_of (g:=g+1) (by rw[x_if _ _ _ _ _ k63,if_neg (by simp[e1]),if_pos e2];exact h) h1 (fun t ht=>h2 t (tk t ht))
   ·obtain⟨g,s',left,h,h1,h2⟩:=H.body G s.test.1 f lp x.b lo tw e1 (tr e1) (wb_known tk _ _ _ hsub.2) (hf.mono tk) hlp hlI;exact tot_of (g:=g+1) (by rw[x_if _ _ _ _ _ k63,if_neg (by simp[e1]),if_neg e2];exact h) h1 (fun t ht=>h2 t (tk t ht))
  ·exact tot_of (g:=1) (by rw[x_if _ _ _ _ _ k63,if_pos e1]) tw tk
 by_cases k117:x.kind=117
 ·have hsub:wb (knows s) G lo x.a:=by
   rcases hx with⟨h,h1,h2⟩|⟨h,h1,h2⟩|⟨h,h1,h2⟩
   ·rw[h1];exact wb_nil _ _ _
   ·exact h1
   ·omega
  obtain⟨g1,s1,left1,h1,w1,kk1⟩:=hB s f lp x.a lo hw he hr hsub hf hlp hlI;by_cases e0:left1=true
  ·exact tot_of (g:=g1+1) (by rw[x_until _ _ _ _ _ k117,h1];dsimp only;rw[if_pos e0]) w1 kk1
  have e0':left1=false:=by simpa using e0
  subst e0';have he1:=xBody_e _ _ _ _ _ _ he h1;have hr1:rem s1<=N+1:=Nat.le_trans (rem_le h1) hr;obtain⟨tw1,tk1,tr1⟩:=test_next w1 he1 hr1;by_cases e1:s1.test.1.e=0
  ·by_cases e2:s1.test.2=true
   ·exact tot_of (g:=g1+1) (by rw[x_until _ _ _ _ _ k117,h1];dsimp only;rw[if_neg (by simp),if_neg (by simp[e1]),if_pos e2]) tw1 (fun t ht=>tk1 t (kk1 t ht))
   ·obtain⟨g2,s2,left2,h2,w2,kk2⟩:=H.item G s1.test.1 f lp x lo tw1 e1 (tr1 e1) (hx.mono (fun t ht=>tk1 t (kk1 t ht)) (fun lo l=>wb_known (fun t ht=>tk1 t (kk1 t ht)) G lo l)) (hf.mono (fun t ht=>tk1 t (kk1 t ht))) hlp hlI;have h1':=xRun_mono (g':=g1+g2) (by omega) h1;have h2':=xRun_mono (g':=g1+g2) (by omega) h2;exact tot_of (g:=g1+g2+1) (by rw[x_until _ _ _ _ _ k117,h1'];dsimp only;rw[if_neg (by simp),if_neg (by simp[e1]),if_neg e2];exact h2') w2 (fun t ht=>kk2 t (tk1 t (kk1 t ht)))
  ·exact tot_of (g:=g1+1) (by rw[x_until _ _ _ _ _ k117,h1];dsimp only;rw[if_neg (by simp),if_pos e1]) tw1 (fun t ht=>tk1 t (kk1 t ht))
 by_cases k119:x.kind=119
 ·have hsub:wb (knows s) G lo x.a/\wb (knows s) G lo x.b:=by
   rcases hx with⟨h,h1,h2⟩|⟨h,h1,h2⟩|⟨h,h1,h2⟩
   ·rw[h1,h2];exact⟨wb_nil _ _ _,wb_nil _ _ _⟩
   ·exact⟨h1,h2⟩
   ·omega
  obtain⟨g1,s1,left1,h1,w1,kk1⟩:=hB s f lp x.a lo hw he hr hsub.1 hf hlp hlI;by_cases e0:left1=true
  ·exact tot_of (g:=g1+1) (by rw[x_while _ _ _ _ _ k119,h1];dsimp only;rw[if_pos e0]) w1 kk1
  have e0':left1=false:=by simpa using e0
  subst e0';have he1:=xBody_e _ _ _ _ _ _ he h1;have hr1:rem s1<=N+1:=Nat.le_trans (rem_le h1) hr;obtain⟨tw1,tk1,tr1⟩:=test_next w1 he1 hr1;by_cases e1:s1.test.1.e=0
  ·by_cases e2:s1.test.2=false
   ·exact tot_of (g:=g1+1) (by rw[x_while _ _ _ _ _ k119,h1];dsimp only;rw[if_neg (by simp),if_neg (by simp[e1]),if_pos e2]) tw1 (fun t ht=>tk1 t (kk1 t ht))
   ·have kk1t:∀ t,knows s t->knows s1.test.1 t:=fun t ht=>tk1 t (kk1 t ht);obtain⟨g2,s2,left2,h2,w2,kk2⟩:=H.body G s1.test.1 f lp x.b lo tw1 e1 (tr1 e1) (wb_known kk1t _ _ _ hsub.2) (hf.mono kk1t) hlp hlI;have h1':=xRun_mono (g':=g1+g2) (by omega) h1;have h2':=xRun_mono (g':=g1+g2) (by omega) h2;by_cases e3:left2=true
    ·exact tot_of (g:=g1+g2+1) (by rw[x_while _ _ _ _ _ k119,h1'];dsimp only;rw[if_neg (by simp),if_neg (by simp[e1]),if_neg e2,h2'];dsimp only;rw[if_pos e3]) w2 (fun t ht=>kk2 t (kk1t t ht))
    have e3':left2=false:=by simpa using e3
    subst e3';have he2:=xBody_e _ _ _ _ _ _ e1 h2;have kk2t:∀ t,knows s t->knows s2 t:=fun t ht=>kk2 t (kk1t t ht);obtain⟨g3,s3,left3,h3,w3,kk3⟩:=H.item G s2 f lp x lo w2 he2 (Nat.le_trans (rem_le h2) (tr1 e1)) (hx.mono kk2t (fun lo l=>wb_known kk2t G lo l)) (hf.mono kk2t) hlp hlI;have h1'':=xRun_mono (g':=g1+g2+g3) (by omega) h1;have h2'':=xRun_mono (g':=g1+g2+g3) (by omega) h2;have h3'':=xRun_mono (g':=g1+g2+g3) (by omega) h3;exact tot_of (g:=g1+g2+g3+1) (by rw[x_while _ _ _ _ _ k119,h1''];dsimp only;rw[if_neg (by simp),if_neg (by simp[e1]),if_neg e2,h2''];dsimp only;rw[if_neg (by simp)];exact h3'') w3 (fun t ht=>kk3 t (kk2t t ht))
  ·exact tot_of (g:=g1+1) (by rw[x_while _ _ _ _ _ k119,h1];dsimp only;rw[if_neg (by simp),if_pos e1]) tw1 (fun t ht=>tk1 t (kk1 t ht))
 by_cases e1:s.step.e=0
 ·obtain⟨srr,s20⟩:=sr e1;have goal:∀ g r,xOne g f lp x s.step=some r->xRun (g+1) (jItem f lp x) s=some r:=fun g r h=>by rw[x_one _ _ _ _ _ k63 k117 k119,if_neg (by simp[e1])];exact h
  rcases hx with⟨h,h1,h2⟩|⟨h,h1,h2⟩|⟨h,h1,h2⟩
  ·rcases h with h|h|h|h|h|h|h
   ·have hn:=sw.same (s':=s.step.put x.n) (sw.g.put h.2) (put_defs _ _);exact tot_of (goal 0 _ (by unfold xOne;rw[if_pos h.1])) hn.1 (fun t ht=>hn.2 t (sk t ht))
   ·obtain⟨g,s2,l2,hx2,w2,kk2⟩:=H.enter s.step f sw e1 srr (hf.mono sk);exact tot_of (goal g _ (by unfold xOne;rw[if_neg (by omega),if_neg (by omega),if_neg (by omega),if_neg (by omega),if_pos h,hx2])) w2 (fun t ht=>kk2 t (sk t ht))
   ·exact tot_of (goal 0 _ (by unfold xOne;rw[if_neg (by omega),if_neg (by omega),if_neg (by omega),if_pos h])) sw sk
   ·by_cases hd:20<=s.step.depth
    ·have hn:=sw.same (s':=s.step.err 8) (sw.g.err (by decide)) rfl;exact tot_of (goal 0 _ (by unfold xOne;rw[if_neg (by omega),if_neg (by omega),if_neg (by omega),if_neg (by omega),if_neg (by omega),if_neg (by omega),if_pos h.1,if_pos hd])) hn.1 (fun t ht=>hn.2 t (sk t ht))
    ·have hn:=sw.same (s':={ s.step with depth:=s.step.depth+1 }) (sw.g.dep (by have:=sw.g.d0;omega) (by omega)) rfl;obtain⟨g,s2,l2,hx2,w2,kk2⟩:=H.toks { s.step with depth:=s.step.depth+1 } x.toks hn.1 (fun _=>srr) h.2;have hdp:=(xRun_keep _ _ _ _ _ hx2).1;have hn2:=w2.same (s':={ s2 with depth:=s2.depth - 1 }) (w2.g.dep (by have:=sw.g.d0;dsimp only at hdp;omega) (by have:=w2.g.d1;omega)) rfl;exact tot_of (goal g _ (by unfold xOne;rw[if_neg (by omega),if_neg (by omega),if_neg (by omega),if_neg (by omega),if_neg (by omega),if_neg (by omega),if_pos h.1,if_neg hd,hx2])) hn2.1 (fun t ht=>hn2.2 t (kk2 t (hn.2 t (sk t ht))))
   ·obtain⟨hk,hp⟩:=h
    cases hq:plainL.findIdx? (· == x.name) with
    | none=>rw[hq] at hp;cases hp
    | some k=>
     have hn:=sw.same (s':=s.step.word k) (sw.g.word e1 k) rfl;exact tot_of (goal 0 _ (by unfold xOne;rw[if_neg (by omega),if_pos hk,hq])) hn.1 (fun t ht=>hn.2 t (sk t ht))
   ·obtain⟨hk,hp⟩:=h;obtain⟨g,s2,l2,hx2,w2,kk2⟩:=H.call s.step x.name sw e1 srr (sk _ hp);exact tot_of (goal g _ (by unfold xOne;rw[if_neg (by omega),if_neg (by omega),if_neg (by omega),if_neg (by omega),if_neg (by omega),if_pos hk,hx2])) w2 (fun t ht=>kk2 t (sk t ht))
   ·obtain⟨hk,hp⟩:=h
    cases lp with
    | nil=>exact absurd rfl (hlp hp)
    | cons i r=>
     have hn:=sw.same (s':=s.step.put i) (sw.g.put (hlI i (by simp))) (put_defs _ _);exact tot_of (goal 0 _ (by unfold xOne;rw[if_neg (by omega),if_neg (by omega),if_pos hk])) hn.1 (fun t ht=>hn.2 t (sk t ht))
  ·omega
  ·have hun:∀ g,xOne g f lp x s.step=xLoop g f lp x.a s.step:=fun g=>by
    unfold xOne xLoop;rw[if_neg (by omega),if_neg (by omega),if_neg (by omega),if_neg (by omega),if_neg (by omega),if_neg (by omega),if_neg (by omega),if_pos h];rfl
   cases hrs:s.step.rs with
   | nil=>
    have hn:=sw.same (s':=s.step.err 6) (sw.g.err (by decide)) rfl;exact tot_of (goal 0 _ (by rw[hun];unfold xLoop;rw[hrs])) hn.1 (fun t ht=>hn.2 t (sk t ht))
   | cons b r=>
    cases r with
    | nil=>
     have hn:=sw.same (s':=s.step.err 6) (sw.g.err (by decide)) rfl;exact tot_of (goal 0 _ (by rw[hun];unfold xLoop;rw[hrs])) hn.1 (fun t ht=>hn.2 t (sk t ht))
    | cons m r=>
     have hn:=sw.same (s':={ s.step with rs:=r }) (sw.g.tail (fun x hx=>by rw[hrs];simp[hx]) (by rw[hrs];simp;omega)) rfl;obtain⟨g,s2,l2,hx2,w2,kk2⟩:=H.do_ G { s.step with rs:=r } f lp b m x.a hn.1 e1 srr (wb_known (fun t ht=>hn.2 t (sk t ht)) _ _ _ h1) (hf.mono (fun t ht=>hn.2 t (sk t ht))) hlI (sw.g.g.ins b (by rw[hrs];simp)) (sw.g.g.ins m (by rw[hrs];simp));exact tot_of (goal g _ (by rw[hun];unfold xLoop;rw[hrs];exact hx2)) w2 (fun t ht=>kk2 t (hn.2 t (sk t ht)))
 ·exact tot_of (g:=1) (by rw[x_one _ _ _ _ _ k63 k117 k119,if_pos e1]) sw sk
theorem body_tot {N:Nat} (H:TotN N):∀ (G:Nat) (s:St) (f:Fr) (lp:List Int) (l:List It) (lo:Bool),WFs s->s.e=0->rem s<=N+1->wb (knows s) G lo l->wbF s f->(lo=true->lp ≠ [])->(∀ n∈lp,In n)->Tot (jBody f lp l) s:=by
 intro G
 induction G with
 | zero=>
  intro s f lp l lo hw he hr hl hf hlp hlI;have hl:l=[]:=hl;subst hl;exact tot_of (x_nil 0 f lp s) hw (fun _ h=>h)
 | succ G ih=>
  intro s f lp l
  induction l generalizing s with
  | nil=>intro lo hw he hr hl hf hlp hlI;exact tot_of (x_nil 0 f lp s) hw (fun _ h=>h)
  | cons x l ihl=>
   intro lo hw he hr hl hf hlp hlI;obtain⟨g1,s1,left1,h1,w1,kk1⟩:=item_tot H G ih s f lp x lo hw he hr (hl x (by simp)) hf hlp hlI;by_cases hc:left1=true\/s1.e ≠ 0
   ·exact tot_of (g:=g1+1) (by rw[x_cons,h1];dsimp only;rw[if_pos hc]) w1 kk1
   ·have he1:s1.e=0:=by
     by_cases h:s1.e=0
     ·exact h
     ·exact absurd (.inr h) hc
    obtain⟨g2,s2,left2,h2,w2,kk2⟩:=ihl s1 lo w1 he1 (Nat.le_trans (rem_le h1) hr) (wb_known kk1 _ _ _ (fun y hy=>hl y (by simp[hy]))) (hf.mono kk1) hlp hlI;have h1':=xRun_mono (g':=g1+g2) (by omega) h1;have h2':=xRun_mono (g':=g1+g2) (by omega) h2;exact tot_of (g:=g1+g2+1) (by rw[x_cons,h1'];dsimp only;rw[if_neg hc];exact h2') w2 (fun t ht=>kk2 t (kk1 t ht))
end
end Go.Proofs.YteainaiebcphlaaGreatDoor
