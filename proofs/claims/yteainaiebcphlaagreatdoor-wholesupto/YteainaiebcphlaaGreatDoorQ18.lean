import Derived.Test.YteainaiebcphlaaGreatDoorQ13
import Derived.Test.YteainaiebcphlaaGreatDoorQ11
import Derived.Test.YteainaiebcphlaaGreatDoorQ17
namespace Go.Proofs.YteainaiebcphlaaGreatDoor
set_option maxRecDepth 1000000
set_option maxHeartbeats 4000000
set_option linter.all false
open Go.Proofs.Tryz
section
open Go.RowKit
variable {K:Nat->Prop}
structure iq (K:Nat->Prop)(w:World)(fb:Nat)(f:Fr)(lp:List Int)(lv nv:Value):Prop where
 blk:∃nm vb,aC w fb 191 #[.int .i64 f.id,.string nm,vb,lv]/\nm.data.toList=f.name/\kZ K w vb f.body
 row:w.ownsRow 0 3 1 lv lp.length (bD lp.reverse)
 ins:∀n∈lp,In n
 sep:∀k,own lv k->¬own nv k
abbrev yu (yb fb:Nat)(w w':World)(rs rs':RS)(lv jt:Value):Prop:=To (λk=>k=yb\/k=fb) w w' (λk=>(own rs.nv k\/own rs.d.dv k)\/own lv k) (λk=>(own rs'.nv k\/own rs'.d.dv k)\/own jt k)
theorem bP.Ue {w:World}{yb:Nat}{rs:RS}{s:St}(h:bP K w yb rs s){b:Nat}{t:TypeId}{c:Array Value}(hb:aC w b t c)(h1:t≠67)(h2:t≠3)(h3:t≠95):¬(b=yb\/(own rs.nv b\/own rs.d.dv b)):=by
 obtain⟨ns,hi,_⟩:=h.inv;obtain⟨xs,hr,_⟩:=h.dr.ex;rintro (e|e|e)
 ·subst e;exact h1 (hb.inj hi.blk).1
 ·exact h2 (aQ hi.row e hb)
 ·exact h3 (aQ hr e hb)
theorem iq.Ot {w:World}{yb fb:Nat}{rs:RS}{s:St}{f:Fr}{lp:List Int}{lv:Value}(h:bP K w yb rs s)(hf:iq K w fb f lp lv rs.nv){k:Nat}(hk:own lv k):¬(k=yb\/(own rs.nv k\/own rs.d.dv k))/\¬k=fb:=by
 obtain⟨ns,hi,_⟩:=h.inv;obtain⟨xs,hr,_⟩:=h.dr.ex;obtain⟨c,hc⟩:=aV hf.row hk;obtain⟨nm,vb,hb,_⟩:=hf.blk;refine⟨?_,λe=>by subst e;exact ax (hc.inj hb).1 (by decide)⟩;rintro (e|e|e)
 ·subst e;exact ax (hc.inj hi.blk).1 (by decide)
 ·exact hf.sep k hk e
 ·exact ax (aQ hr e hc) (by decide)
theorem iq.jX {w:World}{yb fb:Nat}{rs:RS}{s:St}{f:Fr}{lp:List Int}{lv:Value}(h:bP K w yb rs s)(hf:iq K w fb f lp lv rs.nv):vZ w (λk=>(k=yb\/k=fb)\/((own rs.nv k\/own rs.d.dv k)\/own lv k)):=by
 intro b t c hb hc;obtain⟨nm,vb,kB,_⟩:=hf.blk;rcases hb with (e|e)|(e|e)
 ·exact h.jX b t c (.inl e) hc
 ·subst e;have:=(hc.inj kB).1;subst this;exact⟨by decide,by decide⟩
 ·exact h.jX b t c (.inr e) hc
 ·have:=aQ hf.row e hc;subst this;exact⟨by decide,by decide⟩
theorem iq.iF {w w':World}{yb fb:Nat}{rs rs':RS}{s:St}{f:Fr}{lp:List Int}{lv:Value}(h:bP K w yb rs s)(hf:iq K w fb f lp lv rs.nv)(hto:fG yb w w' rs rs'):iq K w' fb f lp lv rs'.nv/\yu yb fb w w' rs rs' lv lv:=by
 obtain⟨nm,vb,kB,hnm,hbd⟩:=hf.blk;refine⟨⟨⟨nm,vb,?_,hnm,hbd.keep (aF.to hto h.jX _)⟩,?_,hf.ins,λk hk hn=>?_⟩,⟨hto.kp.mono (λk _ hk=>?_),λk hk=>?_⟩⟩
 ·exact hto.kp.blk kB (h.Ue kB (by decide) (by decide) (by decide))
 ·exact hto.kp.row hf.row (λk hk=>(hf.Ot h hk).1)
 ·rcases hto.nx k (.inl hn) with h1|h1
  ·exact(hf.Ot h hk).1 (.inr h1)
  ·have:=bw hf.row hk;omega
 ·rcases hk with e|e
  ·exact .inl (.inl e)
  ·exact .inr (.inl e)
 ·rcases hk with e|e
  ·rcases hto.nx k e with h1|h1
   ·exact .inl (.inl h1)
   ·exact .inr h1
  ·exact .inl (.inr e)
theorem yu.refl (yb fb:Nat)(w:World)(rs:RS)(lv:Value):yu yb fb w w rs rs lv lv:=To.refl _ _ _
structure uw (K:Nat->Prop)(yb fb:Nat)(w w':World)(rs:RS)(s':St)(f:Fr)(lp:List Int)(lv:Value):Prop where
 ex:∃rs' jt,bP K w' yb rs' s'/\iq K w' fb f lp jt rs'.nv/\yu yb fb w w' rs rs' lv jt
abbrev qs (x:It)(nm:ByteArray)(va vb vt:Value):Value:=.agg #[.int .u8 x.kind,.int .i64 x.n,.string nm,va,vb,vt]
def CB (K:Nat->Prop)(g:Nat):Prop:=∀(w:World) (yb fb:Nat) (rs:RS) (s s':St) (f:Fr) (lp:List Int) (lv v:Value) (l:List It) (left:Bool),bP K w yb rs s->s.e=0->iq K w fb f lp lv rs.nv->(lp.length:Int)<=s.steps->kZ K w v l ->
 aI g (bZ f lp l) s=some (s',left)->Calls prog 174 #[.pointer (some ⟨yb,0,none⟩),.pointer (some ⟨fb,0,none⟩),v] w λe w'=>e=.returned (.bool left)/\uw K yb fb w w' rs s' f lp lv
def CI (K:Nat->Prop)(g:Nat):Prop:=∀(w:World) (yb fb:Nat) (rs:RS) (s s':St) (f:Fr) (lp:List Int) (lv:Value) (x:It) (nm:ByteArray) (va vb vt:Value) (left:Bool),bP K w yb rs s->s.e=0->iq K w fb f lp lv rs.nv->(lp.length:Int)<=s.steps ->
 pQ (kZ K w) (zQ K w) x nm va vb vt->aI g (cT f lp x) s=some (s',left)->Calls prog 189 #[.pointer (some ⟨yb,0,none⟩),.pointer (some ⟨fb,0,none⟩),qs x nm va vb vt] w λe w'=>e=.returned (.bool left)/\uw K yb fb w w' rs s' f lp lv
def pR (g:Nat)(f:Fr)(lp:List Int)(l:List It)(s:St):Option (St × Bool):=match s.rs with
 | b::m::r=>aI g (Eb f lp b m l) {s with rs:=r}
 | _=>some (s.err 6,true)
def CL (K:Nat->Prop)(g:Nat):Prop:=∀(w:World) (yb fb:Nat) (rs:RS) (s s':St) (f:Fr) (lp:List Int) (lv:Value) (x:It) (nm:ByteArray) (va vb vt:Value) (left:Bool),bP K w yb rs s->s.e=0->iq K w fb f lp lv rs.nv->(lp.length:Int)<=s.steps ->
 pQ (kZ K w) (zQ K w) x nm va vb vt->pR g f lp x.a s=some (s',left)->Calls prog 212 #[.pointer (some ⟨yb,0,none⟩),.pointer (some ⟨fb,0,none⟩),qs x nm va vb vt] w λe w'=>e=.returned (.bool left)/\uw K yb fb w w' rs s' f lp lv
def CE (K:Nat->Prop)(g:Nat):Prop:=∀(w:World) (yb fb:Nat) (rs:RS) (s s':St) (f:Fr) (lv:Value) (left:Bool),bP K w yb rs s->s.e=0->iq K w fb f [] lv rs.nv ->
 aI g (iM f) s=some (s',left)->Calls prog 143 #[.pointer (some ⟨yb,0,none⟩),.pointer (some ⟨fb,0,none⟩)] w λe w'=>e=.returned (.tuple #[])/\uw K yb fb w w' rs s' f [] lv
def CC (K:Nat->Prop)(g:Nat):Prop:=∀(w:World) (yb:Nat) (rs:RS) (s s':St) (tb:ByteArray) (left:Bool),bP K w yb rs s->s.e=0 ->
 aI g (gB tb.data.toList) s=some (s',left)->Calls prog 90 #[.pointer (some ⟨yb,0,none⟩),.string tb] w λe w'=>e=.returned (.tuple #[])/\∃rs',bP K w' yb rs' s'/\fG yb w w' rs rs'
def CT (K:Nat->Prop)(g:Nat):Prop:=∀(w:World) (yb:Nat) (rs:RS) (s s':St) (v:Value) (ts:List Tok) (left:Bool),bP K w yb rs s->zQ K w v ts->ts.length<=1000 ->
 aI g (aT ts) s=some (s',left)->Calls prog 63 #[.pointer (some ⟨yb,0,none⟩),v] w λe w'=>e=.returned (.tuple #[])/\∃rs',bP K w' yb rs' s'/\fG yb w w' rs rs'
structure Hf (K:Nat->Prop)(g yb fb:Nat)(w wr:World)(rs:RS)(s':St)(f:Fr)(lp:List Int)(lv v:Value)(l:List It)(left:Bool)(k:Nat):Prop where
 ex:∃g' jc yw sk,g'<=g/\bP K wr yb jc sk/\sk.e=0/\iq K wr fb f lp yw jc.nv/\(lp.length:Int)<=sk.steps/\yu yb fb w wr rs jc lv yw/\aI g' (bZ f lp (l.drop k)) sk=some (s',left)
 body:kZ K wr v l
end
section
open Go.RowKit
variable {K:Nat->Prop}
theorem ow {w:World}{e:TypeId}{z:Nat}{v:Value}{n:Nat}{xs:List Value}(h:w.ownsRow 0 e z v n xs):n<=9223372036854775807:=by
 rcases h.2 with⟨_,h0⟩|⟨_,_,_,_,_,_,h1,h2,_⟩
 ·omega
 ·unfold maxLen at h2;omega
structure Uf (K:Nat->Prop)(w:World)(v:Value)(l:List It)(k:Nat)(hk:k<l.length)(gd cap:Nat)(nm:ByteArray)(va vb vt:Value):Prop where
 dv:v=.slice (some ⟨gd,0,none⟩) l.length cap
 at_:pQ (kZ K w) (zQ K w) l[k] nm va vb vt
 c0:w.cell? ⟨gd,k*6,none⟩=some (.int .u8 l[k].kind)
 c1:w.cell? ⟨gd,k*6+1,none⟩=some (.int .i64 l[k].n)
 c2:w.cell? ⟨gd,k*6+2,none⟩=some (.string nm)
 c3:w.cell? ⟨gd,k*6+3,none⟩=some va
 c4:w.cell? ⟨gd,k*6+4,none⟩=some vb
 c5:w.cell? ⟨gd,k*6+5,none⟩=some vt
theorem kZ.cells {w:World}{v:Value}{l:List It}(h:kZ K w v l)(k:Nat)(hk:k<l.length):∃gd cap nm va vb vt,Uf K w v l k hk gd cap nm va vb vt:=by
 obtain⟨xs,hr,_,hx⟩:=h.out;obtain⟨nm,va,vb,vt,h1,h2,h3,h4,h5,h6,h7⟩:=tS _ _ hx k hk;obtain⟨gd,cap,hv,hc⟩:=bE hr (by omega);exact⟨gd,cap,nm,va,vb,vt,hv,h1,hc _ _ h2,hc _ _ h3,hc _ _ h4,hc _ _ h5,hc _ _ h6,hc _ _ h7⟩
theorem Ug (g:Nat)(hI:∀g',g'<g->CI K g'):CB K g:=by
 intro w yb fb rs s s' f lp lv v l left hr he hf hlp hb hx;have h0:Hid (Hf K g yb fb w w rs s' f lp lv v l left 0):=⟨⟨g,rs,lv,s,ah _,hr,he,hf,hlp,yu.refl _ _ _ _ _,hx⟩,hb⟩;obtain⟨xs,aJ,-⟩:=hb.out;have hll:=ow aJ;obtain⟨ao,cap,rfl⟩:=aB aJ;have HI:=az hI;clear hr he hf hlp hb hx aJ hI;go_enter func174,ntmps174;go_wp2
 go_loopw [7] (λi wr=>∃k:Nat,k<=l.length/\i=.int .i64 k/\Hf K g yb fb w wr rs s' f lp lv (.slice ao l.length cap) l left k) (λi _=>l.length-(intOf i).toNat)
 case atStart=>exact⟨0,Nat.zero_le _,rfl,h0.out⟩
 case round=>
  obtain⟨k,hk,rfl,⟨g',jc,yw,sk,hg,hrel,he,hf,hlp,hto,hx⟩,hb⟩:=hrel;by_cases hlt:k<l.length
  ·obtain⟨gd,cap',nm,va,vb,vt,hC⟩:=hb.cells k hlt;have hdv:=hC.dv;injection hdv with e1 e2 e3;subst e1;clear e2 e3;obtain⟨-,hat,c0,c1,c2,c3,c4,c5⟩:=hC;rw[List.drop_eq_getElem_cons hlt] at hx
   cases g' with
   | zero=>cases hx
   | succ g'=>
    rw[qz] at hx
    split at hx
    ·cases hx
    ·rename_i s1 fK hx1
     go_wp2_with fail
     refine(HI.out g' (by omega) wr yb fb jc sk s1 f lp yw l[k] nm va vb vt fK hrel he hf hlp hat hx1).mono ?_;rintro e w1 ⟨rfl,fB,gi,cM,cY,bt⟩;have hb1:=hb.keep (aF.to bt (hf.jX hrel) _);have hst:=(cH _ _ _ _ _ hx1).2;have F3:=hto.trans bt;have ce:w1.cell? ⟨yb,21,none⟩=some (.int .i64 s1.e):=by rw[<-cM.e];exact cM.blk.cell rfl
     have HR:=az cM;have HF:=az cY;have HB:=az hb1;have HT:=az F3;clear hat c0 c1 c2 c3 c4 c5 hrel hf hto hb cM cY bt hb1 F3 hx1 he;by_cases ld:fK=true
     ·subst ld;rw[ag (.inl rfl)] at hx;injection hx with hx;injection hx with hx1 hx2;subst hx1 hx2;go_wp2;go_ret;exact⟨rfl,fB,gi,HR.out,HF.out,HT.out⟩
     ·have ld:fK=false:=by simpa using ld
      subst ld;by_cases fA:s1.e=0
      ·rw[af (by simp[fA])] at hx;rw[fA] at ce;have HX:=az hx;clear hx;go_wp2
       go_roundw
       case rel=>exact⟨k+1,by omega,by go_num,⟨⟨g',fB,gi,s1,by omega,HR.out,fA,HF.out,by omega,HT.out,HX.out⟩,HB.out⟩⟩
       case measure=>simp[intOf];omega
      ·rw[ag (.inr fA)] at hx;injection hx with hx;injection hx with hx1 hx2;subst hx1 hx2;go_wp2;go_ret;exact⟨rfl,fB,gi,HR.out,HF.out,HT.out⟩
  ·rw[List.drop_of_length_le (by omega)] at hx
   cases g' with
   | zero=>cases hx
   | succ g'=>
    rw[xw] at hx;injection hx with hx;injection hx with hx1 hx2;subst hx1 hx2;go_wp2;go_ret;exact⟨rfl,jc,yw,hrel,hf,hto⟩
end
section
open Go.RowKit
variable {K:Nat->Prop}
theorem bP.kf {w:World}{yb:Nat}{rs:RS}{s:St}(h:bP K w yb rs s)(n:Int)(h0:0<=n)(h1:n<=20):bP K (w.setCell ⟨yb,23,none⟩ (.int .i64 n)) yb {rs with d:={rs.d with dp:=n}} {s with depth:=n}/\fG yb w (w.setCell ⟨yb,23,none⟩ (.int .i64 n)) rs {rs with d:={rs.d with dp:=n}}:=by
 obtain⟨ns,hi,hns⟩:=h.inv;have hk:Kp w (w.setCell ⟨yb,23,none⟩ (.int .i64 n)) (λb=>b=yb):=Kp.one _ _ _ _;have hb:=hi.blk;refine⟨⟨⟨ns,⟨hi.blk.set 23 _,ownsRow_setCell_other hi.row (aH hi.row hi.blk (by decide)) _,hi.len⟩,hns⟩,h.e,h.st,h.mem,h.out,h.ids,h.hot,h.blt,rfl,h.dr.kp hk (vZ.one hb (by decide) (by decide)) (λb c e hc=>by subst e;exact ax (hc.inj hb).1 (by decide)),?_⟩,⟨hk.mono (λb _ e=>.inl e),λ_ h=>.inl h⟩⟩;have hg:=h.good;exact⟨hg.g,hg.s0,hg.s1,hg.s2,h0,h1,hg.b0,hg.b1,hg.cb⟩
theorem bP.r7 {w:World}{yb:Nat}{rs:RS}{s:St}(h:bP K w yb rs s)(n:Int)(h0:n≠0):bP K (w.setCell ⟨yb,21,none⟩ (.int .i64 n)) yb {rs with e:=n} (s.err n)/\fG yb w (w.setCell ⟨yb,21,none⟩ (.int .i64 n)) rs {rs with e:=n}:=by
 obtain⟨ns,hi,hns⟩:=h.inv;have hk:Kp w (w.setCell ⟨yb,21,none⟩ (.int .i64 n)) (λb=>b=yb):=Kp.one _ _ _ _;have hb:=hi.blk;refine⟨⟨⟨ns,⟨hi.blk.set 21 _,ownsRow_setCell_other hi.row (aH hi.row hi.blk (by decide)) _,hi.len⟩,λh=>ax h h0⟩,rfl,h.st,h.mem,h.out,h.ids,h.hot,h.blt,h.dp,h.dr.kp hk (vZ.one hb (by decide) (by decide)) (λb c e hc=>by subst e;exact ax (hc.inj hb).1 (by decide)),?_⟩,⟨hk.mono (λb _ e=>.inl e),λ_ h=>.inl h⟩⟩;have hg:=h.good;exact⟨hg.g,hg.s0,hg.s1,λh=>ax h h0,hg.d0,hg.d1,hg.b0,hg.b1,hg.cb⟩
theorem Lz {g:Nat}{s s':St}{k:Nat}(h:s.count g k=some s'):s'.e=s.e:=by
 unfold St.count at h
 repeat' split at h
 all_goals first
  | (cases h;done)
  | (injection h with h;subst h;rfl)
theorem lJ {g:Nat}{f:Fr}{s1 s':St}{left:Bool}(h:(match (some s1:Option St) with
      | none=>none
      | some s1=>match aI g (bZ f [] f.body) {s1 with depth:=s1.depth+1} with
        | none=>none
        | some (s2,_)=>some ({s2 with depth:=s2.depth-1},false))=some (s',left)):∃s2 bH,aI g (bZ f [] f.body) {s1 with depth:=s1.depth+1}=some (s2,bH)/\s'={s2 with depth:=s2.depth-1}:=by
  dsimp only at h
  split at h
  · cases h
  · rename_i s2 bH hx
    injection h with h;injection h with h1 h2;exact⟨s2,bH,hx,h1.symm⟩
structure yx (K:Nat->Prop)(yb fb:Nat)(w wr:World)(rs:RS)(s1:St)(f:Fr)(lv:Value):Prop where
 rel:bP K wr yb rs s1
 fr:iq K wr fb f [] lv rs.nv
 tt:yu yb fb w wr rs rs lv lv
theorem P4 (g:Nat)(hB:∀g',g'<g->CB K g'):CE K g:=by
 intro w yb fb rs s s' f lv left hr he hf hx
 cases g with
 | zero=>cases hx
 | succ g=>
  have HB:=az hB;clear hB;have cd:w.cell? ⟨yb,23,none⟩=some (.int .i64 s.depth):=by rw[<-hr.dp];exact hr.blk.cell rfl
  have fd:=hr.blk.free 23;have fe:=hr.blk.free 21;have ce:w.cell? ⟨yb,21,none⟩=some (.int .i64 s.e):=by rw[<-hr.e];exact hr.blk.cell rfl
  have hd0:=hr.good.d0;have hd1:=hr.good.d1;rw[lC] at hx;by_cases h20:20<=s.depth
  ·rw[ag h20] at hx;injection hx with hx;injection hx with hx1 hx2;subst hx1;clear hx2;rw[show s.depth=20 by omega] at cd;have HF:=az hf;clear h20 hd0 hd1 hf;go_enter func143,ntmps143;go_wp2;refine bodyPost_ret (results_none rfl _ _ _) rfl ?_;obtain⟨hr1,bt⟩:=hr.r7 8 (by decide);obtain⟨cY,bM⟩:=HF.out.iF hr bt;exact⟨rfl,_,lv,hr1,cY,bM⟩
  ·rw[af h20] at hx;obtain⟨nm,vb,kB,hnm,hbd⟩:=hf.blk;have q0:w.cell? ⟨fb,0,none⟩=some (.int .i64 f.id):=kB.cell rfl;have q1:w.cell? ⟨fb,1,none⟩=some (.string nm):=kB.cell rfl;have q2:w.cell? ⟨fb,2,none⟩=some vb:=kB.cell rfl;have hfy:¬fb=yb:=by rintro rfl;exact ax (kB.inj hr.blk).1 (by decide)
   have HX:=az hx;have HC:Hid (yx K yb fb w w rs s f lv):=⟨hr,hf,yu.refl _ _ _ _ _⟩;have HE:=az he;clear hx he hf ce fe;go_enter func143,ntmps143
   go_wp2_with fail
   refine(pM _ _ _ _ nm hr.blk hr.dr).mono ?_;rintro e w' ⟨rfl,hw⟩;rw[hw];clear hw;rw[hnm];by_cases hfi:cR s.ay f.name<0
   ·have hn:=rW hfi;have LA:Hid (eA g f s=some s):=by unfold Hid eA St.find;rw[hn]
    rw[show cR s.ay f.name = -1 by unfold cR;rw[hn]];clear hn;go_wp2
    go_quiet (fail)
    have hK:Kp w (w.drewN nq) (λ_=>False):=(Kp.refl w (λ_=>False)).drewN nq;have hC:yx K yb fb w (w.drewN nq) rs s f lv:=by
     obtain⟨hF,F3⟩:=HC.out.fr.iF HC.out.rel (fG.cI (rs:=rs) hK);exact⟨HC.out.rel.cI hK,hF,F3⟩
    have zR:=hbd.keep (aF.cI hK (nK K));have Da:=HE;have Db:=HX.out;rw[LA.out] at Db;obtain⟨s2,bH,hx2,hs2⟩:=lJ Db;have uy:=az hx2;have vY:=az hs2;clear Db LA hx2 hs2 HX;obtain⟨Ou,jw⟩:=hC.rel.kf (s.depth+1) (by omega) (by omega);obtain⟨Ov,gI⟩:=hC.fr.iF hC.rel jw;have oX:=hC.tt.trans gI;have oY:=zR.keep (aF.to jw hC.rel.jX (nK K));have kH:=az Ou;have F4:=az Ov;have Hg:=az oX;have Hh:=az oY;clear Ou Ov jw gI oX oY zR hC
    go_wp2_with fail
    refine(HB.out g (by omega) _ yb fb _ _ s2 f [] lv vb f.body bH kH.out Da.out F4.out (by simp;exact kH.out.good.s0) Hh.out uy.out).mono ?_;rintro e w9 ⟨rfl,fB,gi,cM,cY,bt⟩;have hdp:=(cH _ _ _ _ _ uy.out).1;dsimp only at hdp;have Uh:w9.cell? ⟨yb,23,none⟩=some (.int .i64 s2.depth):=by rw[<-cM.dp];exact cM.blk.cell rfl
    have fd1:=cM.blk.free 23;rw[hdp] at Uh;obtain⟨O9,uz⟩:=cM.kf s.depth (by omega) (by omega);obtain⟨Ui,zS⟩:=cY.iF cM uz;have Hi:=Hg.out.trans (bt.trans zS);have BN:Hid (s2.depth-1=s.depth):=by unfold Hid;omega
    clear hdp cM cY bt uz zS;go_wp2
    go_end0
    rw[vY.out,BN.out];exact⟨rfl,{fB with d:={fB.d with dp:=s.depth}},gi,by simpa using O9,Ui,by simpa using Hi⟩
   ·obtain⟨kd,kG,mh,TK⟩:=ur hfi;obtain⟨gd,fq,xs,sV,Ek,KB,hD⟩:=hr.dr.cells kd kG;have hdl:=hr.dr.len;have cy:w.cell? ⟨yb,17,none⟩=some (.slice (some ⟨gd,0,none⟩) s.ay.length fq):=by rw[<-hD.dv];exact hr.blk.cell rfl
    have k1:=hD.cell _ _ hD.x1;rw[mh];have LA:Hid (eA g f s=if s.ay[kd].id=f.id then s.count g kd else some s):=by unfold Hid eA St.find;rw[TK];simp[kG]
    clear mh TK hfi hD;by_cases hid:s.ay[kd].id=f.id
    ·rw[hid] at k1;have Db:=HX.out;rw[LA.out,ag hid] at Db
     cases hcn:s.count g kd with
     | none=>rw[hcn] at Db;cases Db
     | some s1=>
      rw[hcn] at Db;obtain⟨s2,bH,hx2,hs2⟩:=lJ Db;have uy:=az hx2;have vY:=az hs2;have HCN:=az hcn;have hc1:=St.lu hcn;have Da:Hid (s1.e=0):=by unfold Hid;rw[Lz hcn];exact HE.out
      rw[hc1.1] at uy;clear Db LA hx2 hs2 HX hcn hid hc1;go_wp2
      go_quiet (fail)
      have hK:Kp w (w.drewN nq) (λ_=>False):=(Kp.refl w (λ_=>False)).drewN nq
      go_wp2_with fail
      refine(Pz _ yb rs s s1 kd g (hr.cI hK) kG HCN.out).mono ?_;rintro e w1 ⟨rfl,cM,bt⟩;have hC:yx K yb fb w w1 rs s1 f lv:=by
       have dP:fG yb w w1 rs rs:=(fG.cI (rs:=rs) hK).trans bt;obtain⟨hF,F3⟩:=HC.out.fr.iF HC.out.rel dP;exact⟨cM,hF,F3⟩
      have zR:=(hbd.keep (aF.cI hK (nK K))).keep (aF.to bt (hr.cI hK).jX (nK K));have Ow:aC w1 fb 191 #[.int .i64 f.id,.string nm,vb,lv]:=bt.kp.blk (hK.blk kB (by simp)) ((hr.cI hK).Ue (hK.blk kB (by simp)) (by decide) (by decide) (by decide));have q2':w1.cell? ⟨fb,2,none⟩=some vb:=Ow.cell rfl;have cd':w1.cell? ⟨yb,23,none⟩=some (.int .i64 s.depth):=by rw[<-hr.dp];exact cM.blk.cell rfl
      have fd':=cM.blk.free 23;clear Ow bt cM k1 cy cd fd q0 q1 q2;obtain⟨Ou,jw⟩:=hC.rel.kf (s.depth+1) (by omega) (by omega);obtain⟨Ov,gI⟩:=hC.fr.iF hC.rel jw;have oX:=hC.tt.trans gI;have oY:=zR.keep (aF.to jw hC.rel.jX (nK K));have kH:=az Ou;have F4:=az Ov;have Hg:=az oX;have Hh:=az oY;clear Ou Ov jw gI oX oY zR hC
      go_wp2_with fail
      refine(HB.out g (by omega) _ yb fb _ _ s2 f [] lv vb f.body bH kH.out Da.out F4.out (by simp;exact kH.out.good.s0) Hh.out uy.out).mono ?_;rintro e w9 ⟨rfl,fB,gi,cM,cY,bt⟩;have hdp:=(cH _ _ _ _ _ uy.out).1;dsimp only at hdp;have Uh:w9.cell? ⟨yb,23,none⟩=some (.int .i64 s2.depth):=by rw[<-cM.dp];exact cM.blk.cell rfl
      have fd1:=cM.blk.free 23;rw[hdp] at Uh;obtain⟨O9,uz⟩:=cM.kf s.depth (by omega) (by omega);obtain⟨Ui,zS⟩:=cY.iF cM uz;have Hi:=Hg.out.trans (bt.trans zS);have BN:Hid (s2.depth-1=s.depth):=by unfold Hid;omega
      clear hdp cM cY bt uz zS;go_wp2
      go_end0
      rw[vY.out,BN.out];exact⟨rfl,{fB with d:={fB.d with dp:=s.depth}},gi,by simpa using O9,Ui,by simpa using Hi⟩
    ·have LA:Hid (eA g f s=some s):=by unfold Hid;rw[LA.out,af hid]
     go_wp2
     go_quiet (fail)
     have hK:Kp w (w.drewN nq) (λ_=>False):=(Kp.refl w (λ_=>False)).drewN nq;have hC:yx K yb fb w (w.drewN nq) rs s f lv:=by
      obtain⟨hF,F3⟩:=HC.out.fr.iF HC.out.rel (fG.cI (rs:=rs) hK);exact⟨HC.out.rel.cI hK,hF,F3⟩
     have zR:=hbd.keep (aF.cI hK (nK K));have Da:=HE;have Db:=HX.out;rw[LA.out] at Db;obtain⟨s2,bH,hx2,hs2⟩:=lJ Db;have uy:=az hx2;have vY:=az hs2;clear Db LA hx2 hs2 HX;obtain⟨Ou,jw⟩:=hC.rel.kf (s.depth+1) (by omega) (by omega);obtain⟨Ov,gI⟩:=hC.fr.iF hC.rel jw;have oX:=hC.tt.trans gI;have oY:=zR.keep (aF.to jw hC.rel.jX (nK K));have kH:=az Ou;have F4:=az Ov;have Hg:=az oX;have Hh:=az oY;clear Ou Ov jw gI oX oY zR hC
     go_wp2_with fail
     refine(HB.out g (by omega) _ yb fb _ _ s2 f [] lv vb f.body bH kH.out Da.out F4.out (by simp;exact kH.out.good.s0) Hh.out uy.out).mono ?_;rintro e w9 ⟨rfl,fB,gi,cM,cY,bt⟩;have hdp:=(cH _ _ _ _ _ uy.out).1;dsimp only at hdp;have Uh:w9.cell? ⟨yb,23,none⟩=some (.int .i64 s2.depth):=by rw[<-cM.dp];exact cM.blk.cell rfl
     have fd1:=cM.blk.free 23;rw[hdp] at Uh;obtain⟨O9,uz⟩:=cM.kf s.depth (by omega) (by omega);obtain⟨Ui,zS⟩:=cY.iF cM uz;have Hi:=Hg.out.trans (bt.trans zS);have BN:Hid (s2.depth-1=s.depth):=by unfold Hid;omega
     clear hdp cM cY bt uz zS;go_wp2
     go_end0
     rw[vY.out,BN.out];exact⟨rfl,{fB with d:={fB.d with dp:=s.depth}},gi,by simpa using O9,Ui,by simpa using Hi⟩
end
section
open Go.RowKit
variable {K:Nat->Prop}
theorem Hj {ay:List Def}{t:Tok}{d:Def}(h:ay.find? (λd=>d.name==t)=some d):∃k,∃hk:k<ay.length,cR ay t=k/\ay[k]=d:=by
 induction ay with
 | nil=>cases h
 | cons x l ih=>
  cases hx:(x.name==t) with
  | true=>
   rw[List.find?_cons_of_pos (by exact hx)] at h;injection h with h;refine⟨0,by simp,?_,h⟩;unfold cR;rw[List.findIdx?_cons,hx];rfl
  | false=>
   rw[List.find?_cons_of_neg (by simp[hx])] at h;obtain⟨k,hk,h1,h2⟩:=ih h;refine⟨k+1,by simpa using hk,?_,by simpa using h2⟩;unfold cR at h1 ⊢;rw[List.findIdx?_cons,hx]
   cases hl:l.findIdx? (λd=>d.name==t) with
   | none=>rw[hl] at h1;dsimp only at h1;omega
   | some m=>rw[hl] at h1;dsimp only at h1;simp;omega
theorem yu.away {yb fb:Nat}{w wa w':World}{rs rs':RS}{jt:Value}(h:yu yb fb wa w' rs rs' (.slice none 0 0) jt)(hk:Kp w wa (λ_=>False))(Y6:w.heap.size<=fb):fG yb w w' rs rs':=by
 refine⟨⟨h.kp.os.trans hk.os,h.kp.tape.trans hk.tape,h.kp.output.trans hk.output,ai hk.size h.kp.size,λk hlt hn=>?_⟩,λk hkk=>?_⟩
 ·refine(h.kp.block k (by have:=hk.size;omega) ?_).trans (hk.block k hlt (by simp));rintro ((e|e)|(e|e))
  ·exact hn (.inl e)
  ·omega
  ·exact hn (.inr e)
  ·simp[own,Value.ownBlock] at e
 ·rcases h.nx k (.inl hkk) with (e|e)|e
  ·exact .inl e
  ·simp[own,Value.ownBlock] at e
  ·right;have:=hk.size;omega
theorem Uj (g:Nat)(hE:∀g',g'<g->CE K g'):CC K g:=by
 intro w yb rs s s' tb left hr he hx
 cases g with
 | zero=>cases hx
 | succ g=>
  rw[qA] at hx
  split at hx
  ·cases hx
  ·rename_i d hd
   obtain⟨k,hk,hfi,rfl⟩:=Hj hd;obtain⟨gd,fq,xs,nm,vb,vt,hD⟩:=hr.dr.cells k hk;have hdl:=hr.dr.len;have cy:w.cell? ⟨yb,17,none⟩=some (.slice (some ⟨gd,0,none⟩) s.ay.length fq):=by rw[<-hD.dv];exact hr.blk.cell rfl
   have hat:=hD.at_;obtain⟨Tv,hrb,-⟩:=hat.body.out;obtain⟨ab,pb,rfl⟩:=aB hrb;obtain⟨Le,hrt,hwt,-⟩:=hat.built;obtain⟨a5,p5,rfl⟩:=aB hrt;have k0:=hD.cell _ _ hD.x0;have k1:=hD.cell _ _ hD.x1;have k2:=hD.cell _ _ hD.x2;have k3:=hD.cell _ _ hD.x3;have k4:=hD.cell _ _ hD.x4;have k5:=hD.cell _ _ hD.x5;have KC:=hr.blk.lt;have hgl:gd<w.heap.size:=by obtain⟨c,hc⟩:=hD.blk;exact hc.lt
   have HE:=az hE;have HX:=az hx;have YL:Hid (∀w1:World,Kp w w1 (λ_=>False)->Calls prog 89 #[.pointer (some ⟨yb,0,none⟩),.string tb] w1 λe w'=>e=.returned (.int .i64 (k:Nat))/\w'=w1):=λw1 hw1=>by
    have:=pM w1 yb rs s.ay tb (hr.cI hw1).blk (hr.cI hw1).dr;rw[hfi] at this;exact this
   have SR:Hid (∀o:Obj,Calls prog 143 #[.pointer (some ⟨yb,0,none⟩),.pointer (some ⟨w.heap.size+1,0,none⟩)] ((w.alloc o).alloc (.cells #[.int .i64 s.ay[k].id,.string nm,.slice ab s.ay[k].body.length pb,.slice none 0 0] 191)).drew λe w'=>e=.returned (.tuple #[])/\∃rs',bP K w' yb rs' s'/\fG yb w w' rs rs'):=by
    intro o;have hK1:Kp w (w.alloc o) (λ_=>False):=(Kp.refl w (λ_=>False)).alloc o;have hK:Kp w ((w.alloc o).alloc (.cells #[.int .i64 s.ay[k].id,.string nm,.slice ab s.ay[k].body.length pb,.slice none 0 0] 191)).drew (λ_=>False):=(hK1.alloc _).drew;have hB:=aC.new (w.alloc o) #[.int .i64 s.ay[k].id,.string nm,.slice ab s.ay[k].body.length pb,.slice none 0 0] 191;rw[show(w.alloc o).heap.size=w.heap.size+1 by simp] at hB;have hF:iq K ((w.alloc o).alloc (.cells #[.int .i64 s.ay[k].id,.string nm,.slice ab s.ay[k].body.length pb,.slice none 0 0] 191)).drew (w.heap.size+1) ⟨s.ay[k].id,s.ay[k].name,s.ay[k].body⟩ [] (.slice none 0 0) rs.nv:=
     ⟨⟨nm,_,hB.drew,hat.nm,hat.body.keep (aF.cI hK _)⟩,World.ownsRow_nil _ _ _ _,by simp,λq hq=>by simp[own,Value.ownBlock] at hq⟩
    refine(hE g (by omega) _ yb _ rs s s' _ _ left (hr.cI hK) he hF hx).mono ?_;rintro e w1 ⟨rfl,fB,gi,cM,cY,bt⟩;exact⟨rfl,fB,cM,yu.away bt hK (by omega)⟩
   clear hD hE hx hd hfi hrb hrt hwt;go_enter func90,ntmps90;go_wp2
   go_region_with (go_at_call 89;refine(YL.out _ (by first|exact((Kp.refl w (λ_=>False)).alloc _).drew|exact(Kp.refl w (λ_=>False)).drew)).mono ?_;rintro e w' ⟨rfl,hw⟩;rw[hw];clear hw)
   all_goals
    go_wp2_with fail
    refine(SR.out _).mono ?_;rintro e w1 ⟨rfl,fB,cM,bt⟩;go_wp2
    go_end0
    exact⟨rfl,fB,cM,bt⟩
end
section
open Go.RowKit
variable {K:Nat->Prop}
theorem yu.held {yb fb:Nat}{w w':World}{rs rs':RS}{s:St}{f:Fr}{lp:List Int}{lv jt:Value}{q:Nat}{c:Array Value}(hr:bP K w yb rs s)(hf:iq K w fb f lp lv rs.nv)(hto:yu yb fb w w' rs rs' lv jt)(hb:aC w q 3 c)(h1:¬own rs.nv q)(h2:¬own lv q):
  aC w' q 3 c/\¬own rs'.nv q/\¬own jt q:=by
 obtain⟨nm,vb,kB,_⟩:=hf.blk;obtain⟨xs,hrd,_⟩:=hr.dr.ex;have hd:¬own rs.d.dv q:=aH hrd hb (by decide);have hlt:=hb.lt;have hV:¬((own rs.nv q\/own rs.d.dv q)\/own lv q):=by rintro ((e|e)|e);exact h1 e;exact hd e;exact h2 e
 refine⟨hto.blk hb ?_ hV,λe=>?_,λe=>?_⟩
 ·rintro (e|e)
  ·subst e;exact ax (hb.inj hr.blk).1 (by decide)
  ·subst e;exact ax (hb.inj kB).1 (by decide)
 ·rcases hto.nx q (.inl (.inl e)) with h|h
  ·exact hV h
  ·omega
 ·rcases hto.nx q (.inr e) with h|h
  ·exact hV h
  ·omega
theorem iq.push {yb fb:Nat}{w w1:World}{rs:RS}{s:St}{f:Fr}{lp:List Int}{lv v':Value}{n:Int}{o:Obj}(hr:bP K w yb rs s)(hf:iq K w fb f lp lv rs.nv)(hn:In n)
  (hown:w1.ownsRow 0 3 1 v' (lp.length+1) (bD lp.reverse++[.int .i64 n])) (hgrow:(w.alloc o).grownBy w1 lv.ownBlock) (hnx:∀k,own v' k->own lv k\/w.heap.size+1<=k):
  Kp w w1 (λb=>own lv b)/\(∃nm vb,aC w1 fb 191 #[.int .i64 f.id,.string nm,vb,lv])/\bP K (w1.setCell ⟨fb,3,none⟩ v') yb rs s/\iq K (w1.setCell ⟨fb,3,none⟩ v') fb f (n::lp) v' rs.nv/\yu yb fb w (w1.setCell ⟨fb,3,none⟩ v') rs rs lv v'/\aF (nK K) (nK K) w (w1.setCell ⟨fb,3,none⟩ v'):=by
 obtain⟨nm,vb,kB,hnm,hbd⟩:=hf.blk;obtain⟨ns,hi,hns⟩:=hr.inv;obtain⟨xs,hrd,_⟩:=hr.dr.ex;have hk1:Kp w w1 (λb=>own lv b):=(((Kp.refl w _).alloc o)).grown hgrow (λb _ e=>e);have hb1:aC w1 fb 191 #[.int .i64 f.id,.string nm,vb,lv]:=hk1.blk kB (aH hf.row kB (by decide));have hkp:Kp w (w1.setCell ⟨fb,3,none⟩ v') (λb=>b=fb\/own lv b):=(hk1.mono (λ_ _ h=>.inr h)).set (a:=⟨fb,3,none⟩) (λ_=>.inl rfl) _;have Uk:vZ w (λb=>b=fb\/own lv b):=λb t c hb hbl=>hf.jX hr b t c (by rcases hb with e|e;exact .inl (.inr e);exact .inr (.inr e)) hbl;have hkeep:aF (nK K) (nK K) w (w1.setCell ⟨fb,3,none⟩ v'):=aF.kp hkp Uk _;have aJ:(w1.setCell ⟨fb,3,none⟩ v').ownsRow 0 3 1 v' (lp.length+1) (bD lp.reverse++[.int .i64 n]):=ownsRow_setCell_other hown (a:=⟨fb,3,none⟩) (aH hown hb1 (by decide)) _;have Y8:¬(yb=fb\/own lv yb):=by
  rintro (e|e)
  ·subst e;exact ax (kB.inj hi.blk).1 (by decide)
  ·exact(aH hf.row hi.blk (by decide)) e
 refine⟨hk1,⟨nm,vb,hb1⟩,⟨⟨ns,⟨hkp.blk hi.blk Y8,hkp.row hi.row (λb hb hh=>?_),hi.len⟩,hns⟩,hr.e,hr.st,hr.mem,hr.out,hr.ids,hr.hot,hr.blt,hr.dp,hr.dr.kp hkp Uk (λb c hb hc=>?_),hr.good⟩,⟨⟨nm,vb,hb1.set 3 v',hnm,hbd.keep hkeep⟩,by simpa [bD] using aJ,?_,λk hk hn'=>?_⟩,⟨hkp.mono (λb _ hb=>?_),λk hk=>?_⟩,hkeep⟩
 ·obtain⟨c,hc⟩:=aV hi.row hb;rcases hh with e|e
  ·subst e;exact ax (hc.inj kB).1 (by decide)
  ·exact hf.sep b e hb
 ·rcases hb with e|e
  ·subst e;exact ax (hc.inj kB).1 (by decide)
  ·exact ax (aQ hf.row e hc) (by decide)
 ·intro x hx;rcases List.mem_cons.1 hx with h|h
  ·rw[h];exact hn
  ·exact hf.ins x h
 ·rcases hnx k hk with h|h
  ·exact hf.sep k h hn'
  ·have:=bw hi.row hn';omega
 ·rcases hb with e|e
  ·exact .inl (.inr e)
  ·exact .inr (.inr e)
 ·rcases hk with e|e
  ·exact .inl (.inl e)
  ·rcases hnx k e with h|h
   ·exact .inl (.inr h)
   ·right;omega
theorem iq.pop {yb fb:Nat}{w:World}{rs:RS}{s:St}{f:Fr}{lp:List Int}{gl cap:Nat}{n:Int}(hr:bP K w yb rs s)(hf:iq K w fb f (n::lp) (.slice (some ⟨gl,0,none⟩) (lp.length+1) cap) rs.nv):
  bP K (w.setCell ⟨fb,3,none⟩ (.slice (some ⟨gl,0,none⟩) lp.length cap)) yb rs s/\iq K (w.setCell ⟨fb,3,none⟩ (.slice (some ⟨gl,0,none⟩) lp.length cap)) fb f lp (.slice (some ⟨gl,0,none⟩) lp.length cap) rs.nv/\yu yb fb w (w.setCell ⟨fb,3,none⟩ (.slice (some ⟨gl,0,none⟩) lp.length cap)) rs rs (.slice (some ⟨gl,0,none⟩) (lp.length+1) cap) (.slice (some ⟨gl,0,none⟩) lp.length cap)/\aF (nK K) (nK K) w (w.setCell ⟨fb,3,none⟩ (.slice (some ⟨gl,0,none⟩) lp.length cap)):=by
 obtain⟨nm,vb,kB,hnm,hbd⟩:=hf.blk;obtain⟨ns,hi,hns⟩:=hr.inv;obtain⟨xs,hrd,_⟩:=hr.dr.ex;have hkp:Kp w (w.setCell ⟨fb,3,none⟩ (.slice (some ⟨gl,0,none⟩) lp.length cap)) (λb=>b=fb):=Kp.one _ _ _ _;have Uk:vZ w (λb=>b=fb):=vZ.one kB (by decide) (by decide);have hkeep:aF (nK K) (nK K) w (w.setCell ⟨fb,3,none⟩ (.slice (some ⟨gl,0,none⟩) lp.length cap)):=aF.kp hkp Uk _;have Y8:¬yb=fb:=by
  intro e;subst e;exact ax (kB.inj hi.blk).1 (by decide)
 have aJ:w.ownsRow 0 3 1 (.slice (some ⟨gl,0,none⟩) lp.length cap) lp.length (bD lp.reverse):=by
  rcases hf.row.2 with⟨hv,_⟩|⟨g,cap',cur,hv,_,hgg,hnc,hcm,hcs,htk⟩
  ·cases hv
  ·injection hv with e1 e2 e3;injection e1 with e1;injection e1 with e1;subst e1 e3;have:=Kv (ns:=(n::lp).reverse) (hb:=hgg) (by simpa using hnc) hcm hcs (by simpa using htk) lp.length (by simp)
   simpa [List.take_append_of_le_length] using this
 refine⟨⟨⟨ns,⟨hkp.blk hi.blk Y8,hkp.row hi.row (λb hb hh=>?_),hi.len⟩,hns⟩,hr.e,hr.st,hr.mem,hr.out,hr.ids,hr.hot,hr.blt,hr.dp,hr.dr.kp hkp Uk (λb c hb hc=>?_),hr.good⟩,⟨⟨nm,vb,kB.set 3 _,hnm,hbd.keep hkeep⟩,?_,λx hx=>hf.ins x (by simp[hx]),λk hk=>hf.sep k hk⟩,⟨hkp.mono (λb _ hb=>.inl (.inr hb)),λk hk=>.inl hk⟩,hkeep⟩
 ·obtain⟨c,hc⟩:=aV hi.row hb;subst hh;exact ax (hc.inj kB).1 (by decide)
 ·subst hb;exact ax (hc.inj kB).1 (by decide)
 ·exact ownsRow_setCell_other aJ (a:=⟨fb,3,none⟩) (aH aJ kB (by decide)) _
theorem iq.Y9 {yb fb:Nat}{w:World}{rs:RS}{s:St}{f:Fr}{lp:List Int}{gl cap:Nat}{n:Int}(hr:bP K w yb rs s)(hf:iq K w fb f (n::lp) (.slice (some ⟨gl,0,none⟩) (lp.length+1) cap) rs.nv):
  bP K (w.setCell ⟨fb,3,none⟩ (.slice (some ⟨gl,0,none⟩) lp.length cap)).drew yb rs s/\iq K (w.setCell ⟨fb,3,none⟩ (.slice (some ⟨gl,0,none⟩) lp.length cap)).drew fb f lp (.slice (some ⟨gl,0,none⟩) lp.length cap) rs.nv/\yu yb fb w (w.setCell ⟨fb,3,none⟩ (.slice (some ⟨gl,0,none⟩) lp.length cap)).drew rs rs (.slice (some ⟨gl,0,none⟩) (lp.length+1) cap) (.slice (some ⟨gl,0,none⟩) lp.length cap)/\aF (nK K) (nK K) w (w.setCell ⟨fb,3,none⟩ (.slice (some ⟨gl,0,none⟩) lp.length cap)).drew:=by
 obtain⟨h1,h2,h3,h4⟩:=hf.pop hr;have hK:Kp (w.setCell ⟨fb,3,none⟩ (.slice (some ⟨gl,0,none⟩) lp.length cap)) (w.setCell ⟨fb,3,none⟩ (.slice (some ⟨gl,0,none⟩) lp.length cap)).drew (λ_=>False):=(Kp.refl _ _).drew;obtain⟨h5,h6⟩:=h2.iF h1 (fG.cI (rs:=rs) hK);exact⟨h1.cI hK,h5,h3.trans h6,λb t c hs hb ht=>⟨(h4 b t c hs hb ht).1.drew,hs⟩⟩
theorem jx:∀(g:Nat) (f:Fr) (lp:List Int) (l:List It) (s s':St),s.e=0->aI g (bZ f lp l) s=some (s',false)->s'.e=0
 | 0,_,_,_,_,_,_,h=>by cases h
 | g+1,f,lp,[],s,s',he,h=>by rw[xw] at h;injection h with h;injection h with h1 h2;subst h1;exact he
 | g+1,f,lp,x::l,s,s',he,h=>by
  rw[qz] at h
  split at h
  ·cases h
  ·split at h
   ·injection h with h;injection h with h1 h2;cases h2
   ·rename_i s1 fK _ hc
    exact jx g f lp l s1 s' (by simp at hc;exact hc.2) h
structure Hl (K:Nat->Prop)(g yb fb gt:Nat)(w wr:World)(rs:RS)(s':St)(f:Fr)(lp:List Int)(lv va:Value)(l:List It)(left:Bool)(b m n:Int):Prop where
 ex:∃g' jc yw sk,g'<=g/\bP K wr yb jc sk/\sk.e=0/\iq K wr fb f lp yw jc.nv/\(lp.length:Int)<=sk.steps/\yu yb fb w wr rs jc lv yw/\aI g' (Eb f lp n m l) sk=some (s',left)/\aC wr gt 3 #[.int .i64 b,.int .i64 m,.int .i64 0]/\¬own jc.nv gt/\¬own yw gt
 body:kZ K wr va l
 inn:In n
end
section
open Go.RowKit
theorem cC.step {s:St}(h:cC s)(he:s.e=0):cC s.step:=by
 have h2:=h.s2 he;have h0:=h.s0;unfold St.step
 split
 ·exact⟨h.g,by show 0<=s.steps+1;omega,by show s.steps+1<=2001;omega,λ_=>by show s.steps+1<=2000;omega,h.d0,h.d1,h.b0,h.b1,h.cb⟩
 ·exact⟨h.g,by show 0<=s.steps+1;omega,by show s.steps+1<=2001;omega,(λh=>by cases h),h.d0,h.d1,h.b0,h.b1,h.cb⟩
theorem cC.put {s:St}(h:cC s){n:Int}(hn:In n):cC (s.put n):=by
 unfold St.put
 split
 ·exact⟨⟨by simp only[List.mem_cons,forall_eq_or_imp];exact⟨hn,h.g.ins⟩,h.g.sP,by simp only[aq];omega,h.g.tQ⟩,h.s0,h.s1,h.s2,h.d0,h.d1,h.b0,h.b1,h.cb⟩
 ·exact⟨h.g,h.s0,h.s1,(λh=>by cases h),h.d0,h.d1,h.b0,h.b1,h.cb⟩
theorem cC.word {s:St}(h:cC s)(he:s.e=0)(k:Nat):cC (s.word k):=by
 have hf:l9 (jI k s.rs s.mem s.out):=tR _ h.g;exact⟨hf,h.s0,h.s1,λ_=>h.s2 he,h.d0,h.d1,h.b0,h.b1,h.cb⟩
theorem cC.err {s:St}(h:cC s){k:Int}(hk:k≠0):cC (s.err k):=⟨h.g,h.s0,h.s1,(λe=>ax e hk),h.d0,h.d1,h.b0,h.b1,h.cb⟩
theorem cC.tail {s:St}(h:cC s){r:List Int}(hr:∀x∈r,x∈s.rs)(hl:r.length<=s.rs.length):cC {s with rs:=r}:=
 ⟨⟨λx hx=>h.g.ins x (hr x hx),h.g.sP,ai hl h.g.len,h.g.tQ⟩,h.s0,h.s1,h.s2,h.d0,h.d1,h.b0,h.b1,h.cb⟩
theorem cC.test {s:St}(h:cC s)(he:s.e=0):cC s.test.1:=by
 have h1:=h.step he;unfold St.test
 split
 ·split
  ·exact h1.err (by decide)
  ·rename_i a r hr
   exact h1.tail (λx hx=>by rw[hr];simp[hx]) (by rw[hr];simp)
 ·exact h1
theorem cC.dep {s:St}(h:cC s){n:Int}(h0:0<=n)(h1:n<=20):cC {s with depth:=n}:=⟨h.g,h.s0,h.s1,h.s2,h0,h1,h.b0,h.b1,h.cb⟩
theorem EF {s:St}{t:Tok}:bq s t<->∃d∈s.ay,(d.name==t)=true:=by
 unfold bq St.aA St.find;rw[List.findIdx?_isSome,List.any_eq_true]
theorem wF {s:St}{nm:Tok}{b:List It}{d:Def}(hd:d∈s.ay):∃d'∈(s.set nm b).ay,d'.name=d.name:=by
 obtain⟨i,hi,rfl⟩:=List.mem_iff_getElem.1 hd;unfold St.set;dsimp only
 cases hf:s.find nm with
 | none=>
  refine⟨gH nm s.ay[i],?_,mE _ _⟩;exact List.mem_append_left _ (List.mem_map_of_mem (List.getElem_mem hi))
 | some k=>
  by_cases hik:i=k
  ·subst hik;obtain⟨h1,h2,_⟩:=List.findIdx?_eq_some_iff_getElem.1 hf;refine⟨⟨nm,wrap64 (s.ids+1),b,0,false,[]⟩,?_,by have:=eq_of_beq h2;exact this.symm⟩;rw[List.mem_iff_getElem];exact⟨i,by simpa using hi,by simp⟩
  ·refine⟨gH nm s.ay[i],?_,mE _ _⟩;rw[List.mem_iff_getElem];refine⟨i,by simpa using hi,?_⟩;rw[List.getElem_set_ne (by omega),List.getElem_map];rfl
theorem qD {s:St}{nm:Tok}{b:List It}{t:Tok}(h:bq s t):bq (s.set nm b) t:=by
 rw[EF] at h ⊢;obtain⟨d,hd,ht⟩:=h;obtain⟨d',hd',e⟩:=wF (nm:=nm) (b:=b) hd;exact⟨d',hd',by rw[e];exact ht⟩
theorem uA {s:St}{nm:Tok}{b:List It}{d:Def}(hd:d∈(s.set nm b).ay):d.body=b\/∃d0∈s.ay,d.body=d0.body:=by
 have key:∀d∈s.ay.map (gH nm),∃d0∈s.ay,d.body=d0.body:=by
  intro d hd;obtain⟨d0,h0,rfl⟩:=List.mem_map.1 hd;exact⟨d0,h0,zG _ _⟩
 unfold St.set at hd;dsimp only at hd
 cases hf:s.find nm with
 | none=>
  rw[hf] at hd;rcases List.mem_append.1 hd with h|h
  ·exact .inr (key d h)
  ·simp at h;rw[h];exact .inl rfl
 | some k=>
  rw[hf] at hd;rcases List.mem_or_eq_of_mem_set hd with h|h
  ·exact .inr (key d h)
  ·rw[h];exact .inl rfl
theorem iZ.set {s:St}(h:iZ s){nm:Tok}{b:List It}{G:Nat}(hb:wb (bq s) G false b)(hcb:qB b):iZ (s.set nm b):=by
 have hg:=h.g;refine⟨⟨hg.g,hg.s0,hg.s1,hg.s2,hg.d0,hg.d1,hg.b0,hg.b1,λd hd=>by
  rcases uA hd with e|⟨d0,h0,e⟩
  ·rw[e];exact hcb
  ·rw[e];exact hg.cb d0 h0⟩,λd hd=>?_,h.st⟩
 rcases uA hd with e|⟨d0,h0,e⟩
 ·exact⟨G,by rw[e];exact cm (λt ht=>qD ht) _ _ _ hb⟩
 ·obtain⟨g,hg⟩:=h.d d0 h0;exact⟨g,by rw[e];exact cm (λt ht=>qD ht) _ _ _ hg⟩
theorem iZ.same {s s':St}(h:iZ s)(hg:cC s')(hd:s'.ay=s.ay):iZ s'/\∀t,bq s t->bq s' t:=by
 refine⟨⟨hg,λd hm=>?_,hg.s2⟩,λt ht=>(xI hd).2 ht⟩;rw[hd] at hm;obtain⟨g,hg⟩:=h.d d hm;exact⟨g,cm (λt ht=>(xI hd).2 ht) _ _ _ hg⟩
theorem kS (s:St):s.step.ay=s.ay:=by unfold St.step;split <;> rfl
theorem nH {s:St}(he:s.e=0)(h:s.step.e=0):s.steps<2000:=by
 unfold St.step at h
 split at h
 ·assumption
 ·cases h
theorem uB (s:St)(n:Int):(s.put n).ay=s.ay:=by unfold St.put;split <;> rfl
theorem EG (s:St):s.test.1.ay=s.ay:=by
 unfold St.test;split
 ·split
  ·exact kS s
  ·exact kS s
 ·exact kS s
theorem LC {s:St}(he:s.e=0)(h:s.test.1.e=0):s.steps<2000:=by
 unfold St.test at h
 split at h
 ·exact nH he (by assumption)
 ·exact ax h (by assumption)
def rem (s:St):Nat:=(2001-s.steps).toNat
def Dc (j:XJ)(s:St):Prop:=∃g s' left,aI g j s=some (s',left)/\iZ s'/\∀t,bq s t->bq s' t
def F5 (s:St)(f:Fr):Prop:=∃G,wb (bq s) G false f.body
theorem F5.mono {s s':St}{f:Fr}(h:F5 s f)(hk:∀t,bq s t->bq s' t):F5 s' f:=by
 obtain⟨G,hG⟩:=h;exact⟨G,cm hk _ _ _ hG⟩
structure uC (N:Nat):Prop where
 body:∀(G:Nat) (s:St) (f:Fr) (lp:List Int) (l:List It) (lo:Bool),iZ s->s.e=0->rem s<=N->wb (bq s) G lo l->F5 s f->(lo=true->lp≠[])->(∀n∈lp,In n)->Dc (bZ f lp l) s
 item:∀(G:Nat) (s:St) (f:Fr) (lp:List Int) (x:It) (lo:Bool),iZ s->s.e=0->rem s<=N->ym (bq s) (wb (bq s) G) lo x->F5 s f->(lo=true->lp≠[])->(∀n∈lp,In n)->Dc (cT f lp x) s
 do_:∀(G:Nat) (s:St) (f:Fr) (lp:List Int) (n m:Int) (l:List It),iZ s->s.e=0->rem s<=N->wb (bq s) G true l->F5 s f->(∀n∈lp,In n)->In n->In m->Dc (Eb f lp n m l) s
 enter:∀(s:St) (f:Fr),iZ s->s.e=0->rem s<=N->F5 s f->Dc (iM f) s
 call:∀(s:St) (t:Tok),iZ s->s.e=0->rem s<=N->bq s t->Dc (gB t) s
 toks:∀(s:St) (ts:List Tok),iZ s->(s.e=0->rem s<=N)->ts.length<=1000->Dc (aT ts) s
theorem bN {j:XJ}{s:St}{g:Nat}{s':St}{left:Bool}(h:aI g j s=some (s',left))(hw:iZ s')(hk:∀t,bq s t->bq s' t):Dc j s:=⟨g,s',left,h,hw,hk⟩
theorem uC.zero:uC 0:=by
 have no:∀s:St,iZ s->s.e=0->rem s<=0->False:=by
  intro s hw he hr;have:=hw.st he;unfold rem at hr;omega
 refine⟨λG s f lp l lo hw he hr=>(no s hw he hr).elim,λG s f lp l lo hw he hr=>(no s hw he hr).elim,λG s f lp n m l hw he hr=>(no s hw he hr).elim,λs f hw he hr=>(no s hw he hr).elim,λs t hw he hr=>(no s hw he hr).elim,λs ts hw hr _=>?_⟩;by_cases he:s.e=0
 ·exact(no s hw he (hr he)).elim
 ·exact bN (yh 0 s ts he) hw (λ_ h=>h)
theorem nI {N:Nat}{s:St}(hw:iZ s)(he:s.e=0)(hr:rem s<=N+1):iZ s.step/\(∀t,bq s t->bq s.step t)/\(s.step.e=0->rem s.step<=N/\s.step.steps<=2000):=by
 have h1:=hw.same (hw.g.step he) (kS s);refine⟨h1.1,h1.2,λh=>?_⟩;have:=nH he h;unfold rem at hr ⊢;rw[St.aO];omega
theorem qE {N:Nat}{s:St}(hw:iZ s)(he:s.e=0)(hr:rem s<=N+1):iZ s.test.1/\(∀t,bq s t->bq s.test.1 t)/\(s.test.1.e=0->rem s.test.1<=N):=by
 have h1:=hw.same (hw.g.test he) (EG s);refine⟨h1.1,h1.2,λh=>?_⟩;have:=LC he h;unfold rem at hr ⊢;rw[St.cD];omega
theorem qF {g:Nat}{j:XJ}{s s':St}{left:Bool}(h:aI g j s=some (s',left)):rem s'<=rem s:=by
 have:=(cH _ _ _ _ _ h).2;unfold rem;omega
theorem zT {N:Nat}(H:uC N)(G:Nat)(hB:∀(s:St) (f:Fr) (lp:List Int) (l:List It) (lo:Bool),iZ s->s.e=0->rem s<=N+1->wb (bq s) G lo l->F5 s f->(lo=true->lp≠[])->(∀n∈lp,In n)->Dc (bZ f lp l) s)
  (s:St) (f:Fr) (lp:List Int) (x:It) (lo:Bool) (hw:iZ s) (he:s.e=0) (hr:rem s<=N+1) (hx:ym (bq s) (wb (bq s) G) lo x) (hf:F5 s f) (hlp:lo=true->lp≠[]) (zU:∀n∈lp,In n):Dc (cT f lp x) s:=by
 obtain⟨tw,tk,tr⟩:=qE hw he hr;obtain⟨sw,sk,sr⟩:=nI hw he hr;by_cases Ul:x.kind=63
 ·have hsub:wb (bq s) G lo x.a/\wb (bq s) G lo x.b:=by
   rcases hx with⟨h,h1,h2⟩|⟨h,h1,h2⟩|⟨h,h1,h2⟩
   ·rw[h1,h2];exact⟨mG _ _ _,mG _ _ _⟩
   ·exact⟨h1,h2⟩
   ·omega
  by_cases e1:s.test.1.e=0
  ·by_cases e2:s.test.2=true
   ·obtain⟨g,s',left,h,h1,h2⟩:=H.body G s.test.1 f lp x.a lo tw e1 (tr e1) (cm tk _ _ _ hsub.1) (hf.mono tk) hlp zU;exact bN (g:=g+1) (by rw[Gx _ _ _ _ _ Ul,af (by simp[e1]),ag e2];exact h) h1 (λt ht=>h2 t (tk t ht))
   ·obtain⟨g,s',left,h,h1,h2⟩:=H.body G s.test.1 f lp x.b lo tw e1 (tr e1) (cm tk _ _ _ hsub.2) (hf.mono tk) hlp zU;exact bN (g:=g+1) (by rw[Gx _ _ _ _ _ Ul,af (by simp[e1]),af e2];exact h) h1 (λt ht=>h2 t (tk t ht))
  ·exact bN (g:=1) (by rw[Gx _ _ _ _ _ Ul,ag e1]) tw tk
 by_cases EH:x.kind=117
 ·have hsub:wb (bq s) G lo x.a:=by
   rcases hx with⟨h,h1,h2⟩|⟨h,h1,h2⟩|⟨h,h1,h2⟩
   ·rw[h1];exact mG _ _ _
   ·exact h1
   ·omega
  obtain⟨g1,s1,fK,h1,w1,tj⟩:=hB s f lp x.a lo hw he hr hsub hf hlp zU;by_cases e0:fK=true
  ·exact bN (g:=g1+1) (by rw[nB _ _ _ _ _ EH,h1];dsimp only;rw[ag e0]) w1 tj
  have Za:fK=false:=by simpa using e0
  subst Za;have fA:=jx _ _ _ _ _ _ he h1;have hr1:rem s1<=N+1:=ai (qF h1) hr;obtain⟨P5,KG,XY⟩:=qE w1 fA hr1;by_cases e1:s1.test.1.e=0
  ·by_cases e2:s1.test.2=true
   ·exact bN (g:=g1+1) (by rw[nB _ _ _ _ _ EH,h1];dsimp only;rw[af (by simp),af (by simp[e1]),ag e2]) P5 (λt ht=>KG t (tj t ht))
   ·obtain⟨g2,s2,bH,h2,w2,wj⟩:=H.item G s1.test.1 f lp x lo P5 e1 (XY e1) (hx.mono (λt ht=>KG t (tj t ht)) (λlo l=>cm (λt ht=>KG t (tj t ht)) G lo l)) (hf.mono (λt ht=>KG t (tj t ht))) hlp zU;have h1':=dB (g':=g1+g2) (by omega) h1;have h2':=dB (g':=g1+g2) (by omega) h2;exact bN (g:=g1+g2+1) (by rw[nB _ _ _ _ _ EH,h1'];dsimp only;rw[af (by simp),af (by simp[e1]),af e2];exact h2') w2 (λt ht=>wj t (KG t (tj t ht)))
  ·exact bN (g:=g1+1) (by rw[nB _ _ _ _ _ EH,h1];dsimp only;rw[af (by simp),ag e1]) P5 (λt ht=>KG t (tj t ht))
 by_cases BO:x.kind=119
 ·have hsub:wb (bq s) G lo x.a/\wb (bq s) G lo x.b:=by
   rcases hx with⟨h,h1,h2⟩|⟨h,h1,h2⟩|⟨h,h1,h2⟩
   ·rw[h1,h2];exact⟨mG _ _ _,mG _ _ _⟩
   ·exact⟨h1,h2⟩
   ·omega
  obtain⟨g1,s1,fK,h1,w1,tj⟩:=hB s f lp x.a lo hw he hr hsub.1 hf hlp zU;by_cases e0:fK=true
  ·exact bN (g:=g1+1) (by rw[lB _ _ _ _ _ BO,h1];dsimp only;rw[ag e0]) w1 tj
  have Za:fK=false:=by simpa using e0
  subst Za;have fA:=jx _ _ _ _ _ _ he h1;have hr1:rem s1<=N+1:=ai (qF h1) hr;obtain⟨P5,KG,XY⟩:=qE w1 fA hr1;by_cases e1:s1.test.1.e=0
  ·by_cases e2:s1.test.2=false
   ·exact bN (g:=g1+1) (by rw[lB _ _ _ _ _ BO,h1];dsimp only;rw[af (by simp),af (by simp[e1]),ag e2]) P5 (λt ht=>KG t (tj t ht))
   ·have LD:∀t,bq s t->bq s1.test.1 t:=λt ht=>KG t (tj t ht);obtain⟨g2,s2,bH,h2,w2,wj⟩:=H.body G s1.test.1 f lp x.b lo P5 e1 (XY e1) (cm LD _ _ _ hsub.2) (hf.mono LD) hlp zU;have h1':=dB (g':=g1+g2) (by omega) h1;have h2':=dB (g':=g1+g2) (by omega) h2;by_cases e3:bH=true
    ·exact bN (g:=g1+g2+1) (by rw[lB _ _ _ _ _ BO,h1'];dsimp only;rw[af (by simp),af (by simp[e1]),af e2,h2'];dsimp only;rw[ag e3]) w2 (λt ht=>wj t (LD t ht))
    have e3':bH=false:=by simpa using e3
    subst e3';have pF:=jx _ _ _ _ _ _ e1 h2;have LF:∀t,bq s t->bq s2 t:=λt ht=>wj t (LD t ht);obtain⟨g3,s3,iy,h3,w3,Zb⟩:=H.item G s2 f lp x lo w2 pF (ai (qF h2) (XY e1)) (hx.mono LF (λlo l=>cm LF G lo l)) (hf.mono LF) hlp zU;have Zc:=dB (g':=g1+g2+g3) (by omega) h1;have Zd:=dB (g':=g1+g2+g3) (by omega) h2;have Ze:=dB (g':=g1+g2+g3) (by omega) h3;exact bN (g:=g1+g2+g3+1) (by rw[lB _ _ _ _ _ BO,Zc];dsimp only;rw[af (by simp),af (by simp[e1]),af e2,Zd];dsimp only;rw[af (by simp)];exact Ze) w3 (λt ht=>Zb t (LF t ht))
  ·exact bN (g:=g1+1) (by rw[lB _ _ _ _ _ BO,h1];dsimp only;rw[af (by simp),ag e1]) P5 (λt ht=>KG t (tj t ht))
 by_cases e1:s.step.e=0
 ·obtain⟨BP,Zf⟩:=sr e1;have goal:∀g r,eN g f lp x s.step=some r->aI (g+1) (cT f lp x) s=some r:=λg r h=>by rw[j5 _ _ _ _ _ Ul EH BO,af (by simp[e1])];exact h
  rcases hx with⟨h,h1,h2⟩|⟨h,h1,h2⟩|⟨h,h1,h2⟩
  ·rcases h with h|h|h|h|h|h|h
   ·have hn:=sw.same (s':=s.step.put x.n) (sw.g.put h.2) (uB _ _);exact bN (goal 0 _ (by unfold eN;rw[ag h.1])) hn.1 (λt ht=>hn.2 t (sk t ht))
   ·obtain⟨g,s2,l2,hx2,w2,wj⟩:=H.enter s.step f sw e1 BP (hf.mono sk);exact bN (goal g _ (by unfold eN;rw[af (by omega),af (by omega),af (by omega),af (by omega),ag h,hx2])) w2 (λt ht=>wj t (sk t ht))
   ·exact bN (goal 0 _ (by unfold eN;rw[af (by omega),af (by omega),af (by omega),ag h])) sw sk
   ·by_cases hd:20<=s.step.depth
    ·have hn:=sw.same (s':=s.step.err 8) (sw.g.err (by decide)) rfl;exact bN (goal 0 _ (by unfold eN;rw[af (by omega),af (by omega),af (by omega),af (by omega),af (by omega),af (by omega),ag h.1,ag hd])) hn.1 (λt ht=>hn.2 t (sk t ht))
    ·have hn:=sw.same (s':={s.step with depth:=s.step.depth+1}) (sw.g.dep (by have:=sw.g.d0;omega) (by omega)) rfl;obtain⟨g,s2,l2,hx2,w2,wj⟩:=H.toks {s.step with depth:=s.step.depth+1} x.toks hn.1 (λ_=>BP) h.2;have hdp:=(cH _ _ _ _ _ hx2).1;have hn2:=w2.same (s':={s2 with depth:=s2.depth-1}) (w2.g.dep (by have:=sw.g.d0;dsimp only at hdp;omega) (by have:=w2.g.d1;omega)) rfl;exact bN (goal g _ (by unfold eN;rw[af (by omega),af (by omega),af (by omega),af (by omega),af (by omega),af (by omega),ag h.1,af hd,hx2])) hn2.1 (λt ht=>hn2.2 t (wj t (hn.2 t (sk t ht))))
   ·obtain⟨hk,hp⟩:=h
    cases hq:aN.findIdx? (· == x.name) with
    | none=>rw[hq] at hp;cases hp
    | some k=>
     have hn:=sw.same (s':=s.step.word k) (sw.g.word e1 k) rfl;exact bN (goal 0 _ (by unfold eN;rw[af (by omega),ag hk,hq])) hn.1 (λt ht=>hn.2 t (sk t ht))
   ·obtain⟨hk,hp⟩:=h;obtain⟨g,s2,l2,hx2,w2,wj⟩:=H.call s.step x.name sw e1 BP (sk _ hp);exact bN (goal g _ (by unfold eN;rw[af (by omega),af (by omega),af (by omega),af (by omega),af (by omega),ag hk,hx2])) w2 (λt ht=>wj t (sk t ht))
   ·obtain⟨hk,hp⟩:=h
    cases lp with
    | nil=>exact ax rfl (hlp hp)
    | cons i r=>
     have hn:=sw.same (s':=s.step.put i) (sw.g.put (zU i (by simp))) (uB _ _);exact bN (goal 0 _ (by unfold eN;rw[af (by omega),af (by omega),ag hk])) hn.1 (λt ht=>hn.2 t (sk t ht))
  ·omega
  ·have hun:∀g,eN g f lp x s.step=pR g f lp x.a s.step:=λg=>by
    unfold eN pR;rw[af (by omega),af (by omega),af (by omega),af (by omega),af (by omega),af (by omega),af (by omega),ag h];rfl
   cases hrs:s.step.rs with
   | nil=>
    have hn:=sw.same (s':=s.step.err 6) (sw.g.err (by decide)) rfl;exact bN (goal 0 _ (by rw[hun];unfold pR;rw[hrs])) hn.1 (λt ht=>hn.2 t (sk t ht))
   | cons b r=>
    cases r with
    | nil=>
     have hn:=sw.same (s':=s.step.err 6) (sw.g.err (by decide)) rfl;exact bN (goal 0 _ (by rw[hun];unfold pR;rw[hrs])) hn.1 (λt ht=>hn.2 t (sk t ht))
    | cons m r=>
     have hn:=sw.same (s':={s.step with rs:=r}) (sw.g.tail (λx hx=>by rw[hrs];simp[hx]) (by rw[hrs];simp;omega)) rfl;obtain⟨g,s2,l2,hx2,w2,wj⟩:=H.do_ G {s.step with rs:=r} f lp b m x.a hn.1 e1 BP (cm (λt ht=>hn.2 t (sk t ht)) _ _ _ h1) (hf.mono (λt ht=>hn.2 t (sk t ht))) zU (sw.g.g.ins b (by rw[hrs];simp)) (sw.g.g.ins m (by rw[hrs];simp));exact bN (goal g _ (by rw[hun];unfold pR;rw[hrs];exact hx2)) w2 (λt ht=>wj t (hn.2 t (sk t ht)))
 ·exact bN (g:=1) (by rw[j5 _ _ _ _ _ Ul EH BO,ag e1]) sw sk
theorem uD {N:Nat}(H:uC N):∀(G:Nat) (s:St) (f:Fr) (lp:List Int) (l:List It) (lo:Bool),iZ s->s.e=0->rem s<=N+1->wb (bq s) G lo l->F5 s f->(lo=true->lp≠[])->(∀n∈lp,In n)->Dc (bZ f lp l) s:=by
 intro G
 induction G with
 | zero=>
  intro s f lp l lo hw he hr hl hf hlp zU;have hl:l=[]:=hl;subst hl;exact bN (xw 0 f lp s) hw (λ_ h=>h)
 | succ G ih=>
  intro s f lp l
  induction l generalizing s with
  | nil=>intro lo hw he hr hl hf hlp zU;exact bN (xw 0 f lp s) hw (λ_ h=>h)
  | cons x l ihl=>
   intro lo hw he hr hl hf hlp zU;obtain⟨g1,s1,fK,h1,w1,tj⟩:=zT H G ih s f lp x lo hw he hr (hl x (by simp)) hf hlp zU;by_cases hc:fK=true\/s1.e≠0
   ·exact bN (g:=g1+1) (by rw[qz,h1];dsimp only;rw[ag hc]) w1 tj
   ·have fA:s1.e=0:=by
     by_cases h:s1.e=0
     ·exact h
     ·exact ax (.inr h) hc
    obtain⟨g2,s2,bH,h2,w2,wj⟩:=ihl s1 lo w1 fA (ai (qF h1) hr) (cm tj _ _ _ (λy hy=>hl y (by simp[hy]))) (hf.mono tj) hlp zU;have h1':=dB (g':=g1+g2) (by omega) h1;have h2':=dB (g':=g1+g2) (by omega) h2;exact bN (g:=g1+g2+1) (by rw[qz,h1'];dsimp only;rw[af hc];exact h2') w2 (λt ht=>wj t (tj t ht))
end
end Go.Proofs.YteainaiebcphlaaGreatDoor
