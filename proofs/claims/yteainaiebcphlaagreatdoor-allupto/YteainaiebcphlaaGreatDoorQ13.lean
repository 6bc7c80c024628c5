import Derived.Test.YteainaiebcphlaaGreatDoorQ11
import Derived.Test.YteainaiebcphlaaGreatDoorQ12
import Derived.Test.YteainaiebcphlaaGreatDoorQ10
import Derived.DeepKeys4
import Derived.Maps.RangeWalk
namespace Go.Proofs.YteainaiebcphlaaGreatDoor
set_option maxRecDepth 1000000
set_option maxHeartbeats 4000000
set_option linter.all false
open Go.Proofs.Tryz
section
open Go.RowKit
theorem uh (aA:Tok->Bool):∀(g:Nat) (j:PJ) (r:List Tok) (res:fh),aK aA g j r=some res->aK aA (g+1) j r=some res:=by
 intro g
 induction g with
 | zero=>intro j r res h;cases h
 | succ g ih=>
  intro j r res h;unfold aK at h ⊢;by_cases hj:j.item=false
  ·rw[ag hj] at h ⊢
   cases r with
   | nil=>exact h
   | cons t r1=>
    dsimp only at h ⊢;by_cases he:j.ends.any (· == t)=true
    ·rw[ag he] at h ⊢;exact h
    rw[af he] at h ⊢
    cases hx:aK aA g ⟨true,j.loops,[],t⟩ r1 with
    | none=>rw[hx] at h;cases h
    | some v=>
     rw[hx] at h;rw[ih _ _ _ hx]
     cases v with
     | error e=>exact h
     | ok q=>
      obtain⟨xs,t2,r2⟩:=q;dsimp only at h ⊢
      cases hy:aK aA g j r2 with
      | none=>rw[hy] at h;cases h
      | some v2=>rw[hy] at h;rw[ih _ _ _ hy];exact h
  rw[af hj] at h ⊢;by_cases h1:j.t=FW
  ·rw[ag h1] at h ⊢
   cases hx:aK aA g ⟨false,j.loops,[eY,dF],[]⟩ r with
   | none=>rw[hx] at h;cases h
   | some v=>
    rw[hx] at h;rw[ih _ _ _ hx]
    cases v with
    | error e=>exact h
    | ok q=>
     obtain⟨a,t1,r1⟩:=q;dsimp only at h ⊢;by_cases h2:t1=eY
     ·rw[ag h2] at h ⊢
      cases hy:aK aA g ⟨false,j.loops,[dF],[]⟩ r1 with
      | none=>rw[hy] at h;cases h
      | some v2=>rw[hy] at h;rw[ih _ _ _ hy];exact h
     ·rw[af h2] at h ⊢;exact h
  rw[af h1] at h ⊢;by_cases h3:j.t=jf
  ·rw[ag h3] at h ⊢
   cases hx:aK aA g ⟨false,j.loops,[fL,di],[]⟩ r with
   | none=>rw[hx] at h;cases h
   | some v=>
    rw[hx] at h;rw[ih _ _ _ hx]
    cases v with
    | error e=>exact h
    | ok q=>
     obtain⟨a,t1,r1⟩:=q;dsimp only at h ⊢;by_cases h2:t1=di
     ·rw[ag h2] at h ⊢
      cases hy:aK aA g ⟨false,j.loops,[gj],[]⟩ r1 with
      | none=>rw[hy] at h;cases h
      | some v2=>rw[hy] at h;rw[ih _ _ _ hy];exact h
     ·rw[af h2] at h ⊢;exact h
  rw[af h3] at h ⊢;by_cases h4:j.t=Gr
  ·rw[ag h4] at h ⊢
   cases hx:aK aA g ⟨false,j.loops+1,[mA],[]⟩ r with
   | none=>rw[hx] at h;cases h
   | some v=>rw[hx] at h;rw[ih _ _ _ hx];exact h
  rw[af h4] at h ⊢;exact h
theorem xD {g:Nat}{s:St}{r:List Tok}{res:BG}(h:jY g s r=some res):jY (g+1) s r=some res:=by
 cases r with
 | nil=>exact h
 | cons t r=>
  unfold jY at h ⊢;dsimp only at h ⊢;by_cases h1:dX t=false
  ·rw[ag h1] at h ⊢;exact h
  rw[af h1] at h ⊢;by_cases h2:s.aA t=false/\30<=s.ay.length
  ·rw[ag h2] at h ⊢;exact h
  rw[af h2] at h ⊢
  cases hx:aK s.aA g ⟨false,0,[eH],[]⟩ r with
  | none=>rw[hx] at h;cases h
  | some v=>rw[hx] at h;rw[uh _ _ _ _ _ hx];exact h
theorem rV:∀(g:Nat) (l:List It) (names:List Tok),bz g l=some names->bz (g+1) l=some names:=by
 intro g
 induction g with
 | zero=>intro l names h;cases h
 | succ g ih=>
  intro l names h
  cases l with
  | nil=>exact h
  | cons x l=>
   obtain⟨a,b,c,h1,h2,h3,h4⟩:=jL h;rw[bz,ih _ _ h1,ih _ _ h2,ih _ _ h3,h4]
theorem lD {f f':Tok->Option (List Tok)}(hf:∀t x,f t=some x->f' t=some x):∀(l res:List Tok),kO f l=some res->kO f' l=some res
 | [],res,h=>h
 | t::l,res,h=>by
  unfold kO at h ⊢
  split at h
  ·rename_i x y h1 h2
   rw[hf _ _ h1,lD hf l y h2];exact h
  ·cases h
theorem lF (ay:List Def)(g:Nat):∀(n:Nat) (l:List It) (res:List Tok),cJ ay g n l=some res->cJ ay (g+1) n l=some res
 | 0,l,res,h=>h
 | n+1,l,res,h=>by
  unfold cJ at h ⊢
  cases hc:bz g l with
  | none=>rw[hc] at h;cases h
  | some names=>
   rw[hc] at h;rw[rV _ _ _ hc];dsimp only at h ⊢;refine lD (λt x ht=>?_) names res h
   cases hb:dx ay t with
   | none=>rw[hb] at ht;cases ht
   | some b=>rw[hb] at ht;exact lF ay g n b x ht
theorem BH {g:Nat}{s s':St}{k:Nat}(h:s.count g k=some s'):s.count (g+1) k=some s':=by
 unfold St.count at h ⊢
 split at h
 ·cases h
 ·by_cases h1:(‹Def›:Def).bF=true
  ·rw[ag h1] at h ⊢;exact h
  rw[af h1] at h ⊢
  split at h
  ·rename_i h2;rw[ag h2];exact h
  ·rename_i h2;rw[af h2]
   split at h
   ·cases h
   ·rename_i bs hb;rw[lF _ _ _ _ _ hb];exact h
theorem uj {g:Nat}{f:Fr}{s s':St}(h:eA g f s=some s'):eA (g+1) f s=some s':=by
 unfold eA at h ⊢
 split at h
 ·exact h
 ·split at h
  ·cases h
  ·split at h
   ·rename_i h1;rw[ag h1];exact BH h
   ·rename_i h1;rw[af h1];exact h
theorem Em {g:Nat}(ih:∀(j:XJ) (s:St) (r:St × Bool),aI g j s=some r->aI (g+1) j s=some r){f:Fr}{lp:List Int}{x:It}{s:St}{r:St × Bool}(h:eN g f lp x s=some r):eN (g+1) f lp x s=some r:=by
 unfold eN at h ⊢;by_cases h1:x.kind=110
 ·rw[ag h1] at h ⊢;exact h
 rw[af h1] at h ⊢;by_cases h2:x.kind=112
 ·rw[ag h2] at h ⊢;exact h
 rw[af h2] at h ⊢;by_cases h3:x.kind=105
 ·rw[ag h3] at h ⊢;exact h
 rw[af h3] at h ⊢;by_cases h4:x.kind=120
 ·rw[ag h4] at h ⊢;exact h
 rw[af h4] at h ⊢;by_cases h5:x.kind=114
 ·rw[ag h5] at h ⊢
  cases hx:aI g (iM f) s with
  | none=>rw[hx] at h;cases h
  | some v=>rw[hx] at h;rw[ih _ _ _ hx];exact h
 rw[af h5] at h ⊢;by_cases h6:x.kind=99
 ·rw[ag h6] at h ⊢
  cases hx:aI g (gB x.name) s with
  | none=>rw[hx] at h;cases h
  | some v=>rw[hx] at h;rw[ih _ _ _ hx];exact h
 rw[af h6] at h ⊢;by_cases h7:x.kind=123
 ·rw[ag h7] at h ⊢;by_cases hd:20<=s.depth
  ·rw[ag hd] at h ⊢;exact h
  rw[af hd] at h ⊢
  cases hx:aI g (aT x.toks) {s with depth:=s.depth+1} with
  | none=>rw[hx] at h;cases h
  | some v=>rw[hx] at h;rw[ih _ _ _ hx];exact h
 rw[af h7] at h ⊢;by_cases h8:x.kind=100
 ·rw[ag h8] at h ⊢
  split at h
  ·exact ih _ _ _ h
  ·exact h
 rw[af h8] at h ⊢;exact h
theorem xE {g:Nat}(ih:∀(j:XJ) (s:St) (r:St × Bool),aI g j s=some r->aI (g+1) j s=some r){t:Tok}{s s':St}(h:fV g t s=some s'):fV (g+1) t s=some s':=by
 unfold fV at h ⊢
 cases hn:bA t with
 | some n=>rw[hn] at h;exact h
 | none=>
  rw[hn] at h;dsimp only at h ⊢
  cases hp:aN.findIdx? (· == t) with
  | some k=>rw[hp] at h;exact h
  | none=>
   rw[hp] at h;dsimp only at h ⊢;by_cases h1:(eB.any (· == t)||t==eH||t==fu||t==dS)=true
   ·rw[ag h1] at h ⊢;exact h
   rw[af h1] at h ⊢;by_cases h2:s.aA t=false
   ·rw[ag h2] at h ⊢;exact h
   rw[af h2] at h ⊢;by_cases h3:s.step.e≠0
   ·rw[ag h3] at h ⊢;exact h
   rw[af h3] at h ⊢
   cases hx:aI g (gB t) s.step with
   | none=>rw[hx] at h;cases h
   | some v=>rw[hx] at h;rw[ih _ _ _ hx];exact h
theorem uk:∀(g:Nat) (j:XJ) (s:St) (r:St × Bool),aI g j s=some r->aI (g+1) j s=some r:=by
 intro g
 induction g with
 | zero=>intro j s r h;cases h
 | succ g ih=>
  intro j s r h;unfold aI at h ⊢;by_cases h0:j.what=0
  ·rw[ag h0] at h ⊢
   cases hl:j.l with
   | nil=>rw[hl] at h;exact h
   | cons x l=>
    rw[hl] at h;dsimp only at h ⊢
    cases hx:aI g (cT j.f j.lp x) s with
    | none=>rw[hx] at h;cases h
    | some v=>
     obtain⟨s1,left⟩:=v;rw[hx] at h;rw[ih _ _ _ hx];dsimp only at h ⊢;by_cases hc:left=true\/s1.e≠0
     ·rw[ag hc] at h ⊢;exact h
     ·rw[af hc] at h ⊢;exact ih _ _ _ h
  rw[af h0] at h ⊢;by_cases h1:j.what=1
  ·rw[ag h1] at h ⊢;by_cases q1:j.x.kind=63
   ·rw[ag q1] at h ⊢;by_cases e1:s.test.1.e≠0
    ·rw[ag e1] at h ⊢;exact h
    rw[af e1] at h ⊢;by_cases e2:s.test.2=true
    ·rw[ag e2] at h ⊢;exact ih _ _ _ h
    ·rw[af e2] at h ⊢;exact ih _ _ _ h
   rw[af q1] at h ⊢;by_cases q2:j.x.kind=117
   ·rw[ag q2] at h ⊢
    cases hx:aI g (bZ j.f j.lp j.x.a) s with
    | none=>rw[hx] at h;cases h
    | some v=>
     obtain⟨s1,left⟩:=v;rw[hx] at h;rw[ih _ _ _ hx];dsimp only at h ⊢;by_cases e0:left=true
     ·rw[ag e0] at h ⊢;exact h
     rw[af e0] at h ⊢;by_cases e1:s1.test.1.e≠0
     ·rw[ag e1] at h ⊢;exact h
     rw[af e1] at h ⊢;by_cases e2:s1.test.2=true
     ·rw[ag e2] at h ⊢;exact h
     ·rw[af e2] at h ⊢;exact ih _ _ _ h
   rw[af q2] at h ⊢;by_cases q3:j.x.kind=119
   ·rw[ag q3] at h ⊢
    cases hx:aI g (bZ j.f j.lp j.x.a) s with
    | none=>rw[hx] at h;cases h
    | some v=>
     obtain⟨s1,left⟩:=v;rw[hx] at h;rw[ih _ _ _ hx];dsimp only at h ⊢;by_cases e0:left=true
     ·rw[ag e0] at h ⊢;exact h
     rw[af e0] at h ⊢;by_cases e1:s1.test.1.e≠0
     ·rw[ag e1] at h ⊢;exact h
     rw[af e1] at h ⊢;by_cases e2:s1.test.2=false
     ·rw[ag e2] at h ⊢;exact h
     rw[af e2] at h ⊢
     cases hy:aI g (bZ j.f j.lp j.x.b) s1.test.1 with
     | none=>rw[hy] at h;cases h
     | some v3=>
      obtain⟨s3,iy⟩:=v3;rw[hy] at h;rw[ih _ _ _ hy];dsimp only at h ⊢;by_cases e3:iy=true
      ·rw[ag e3] at h ⊢;exact h
      ·rw[af e3] at h ⊢;exact ih _ _ _ h
   rw[af q3] at h ⊢;by_cases q4:s.step.e≠0
   ·rw[ag q4] at h ⊢;exact h
   rw[af q4] at h ⊢;exact Em (f:=j.f) (lp:=j.lp) (x:=j.x) (s:=s.step) (r:=r) ih h
  rw[af h1] at h ⊢;by_cases h2:j.what=2
  ·rw[ag h2] at h ⊢;by_cases e0:j.n<j.m
   ·rw[ag e0] at h ⊢;by_cases e1:s.step.e≠0
    ·rw[ag e1] at h ⊢;exact h
    rw[af e1] at h ⊢
    cases hx:aI g (bZ j.f (j.n::j.lp) j.l) s.step with
    | none=>rw[hx] at h;cases h
    | some v=>
     obtain⟨s2,left⟩:=v;rw[hx] at h;rw[ih _ _ _ hx];dsimp only at h ⊢;by_cases e2:left=true
     ·rw[ag e2] at h ⊢;exact h
     ·rw[af e2] at h ⊢;exact ih _ _ _ h
   ·rw[af e0] at h ⊢;exact h
  rw[af h2] at h ⊢;by_cases h3:j.what=3
  ·rw[ag h3] at h ⊢;by_cases q:20<=s.depth
   ·rw[ag q] at h ⊢;exact h
   rw[af q] at h ⊢
   have h:(match eA g j.f s with
    | none=>none
    | some s1=>match aI g (bZ j.f [] j.f.body) {s1 with depth:=s1.depth+1} with
     | none=>none
     | some (s2,_)=>some ({s2 with depth:=s2.depth-1},false))=some r:=h
   show(match eA (g+1) j.f s with
    | none=>none
    | some s1=>match aI (g+1) (bZ j.f [] j.f.body) {s1 with depth:=s1.depth+1} with
     | none=>none
     | some (s2,_)=>some ({s2 with depth:=s2.depth-1},false))=some r
   cases hc:eA g j.f s with
   | none=>rw[hc] at h;cases h
   | some s1=>
    rw[hc] at h;rw[uj hc];dsimp only at h ⊢
    cases hx:aI g (bZ j.f [] j.f.body) {s1 with depth:=s1.depth+1} with
    | none=>rw[hx] at h;cases h
    | some v=>rw[hx] at h;rw[ih _ _ _ hx];exact h
  rw[af h3] at h ⊢;by_cases h4:j.what=4
  ·rw[ag h4] at h ⊢
   split at h
   ·cases h
   ·exact ih _ _ _ h
  rw[af h4] at h ⊢
  cases hts:j.ts with
  | nil=>rw[hts] at h;exact h
  | cons t r1=>
   rw[hts] at h;dsimp only at h ⊢;by_cases he:s.e≠0
   ·rw[ag he] at h ⊢;exact h
   have Gw:s.e=0:=by simpa using he
   by_cases ht:t=dK
   ·subst ht;have h:aI (g+1) (aT (dK::r1)) s=some r:=h;show aI (g+1+1) (aT (dK::r1)) s=some r;rw[tO _ s r1 Gw] at h ⊢
    cases hp:jY g s r1 with
    | none=>rw[hp] at h;cases h
    | some res=>
     rw[hp] at h;rw[xD hp]
     cases res with
     | error e=>exact h
     | ok q=>
      obtain⟨nm,b,r2⟩:=q;dsimp only at h ⊢;by_cases e1:s.step.e≠0
      ·rw[ag e1] at h ⊢;exact h
      ·rw[af e1] at h ⊢;exact ih _ _ _ h
   ·have h:aI (g+1) (aT (t::r1)) s=some r:=h;show aI (g+1+1) (aT (t::r1)) s=some r;rw[zy _ s t r1 Gw ht] at h ⊢
    cases hx:fV g t s with
    | none=>rw[hx] at h;cases h
    | some s2=>rw[hx] at h;rw[xE ih hx];exact ih _ _ _ h
theorem dB {g g':Nat}(hg:g<=g'){j:XJ}{s:St}{r:St × Bool}(h:aI g j s=some r):aI g' j s=some r:=by
 induction hg with
 | refl=>exact h
 | step _ ih=>exact uk _ _ _ _ ih
end
section
open Go.RowKit
variable {K:Nat->Prop}
theorem Pz (w:World)(yb:Nat)(rs:RS)(s s':St)(k g:Nat)(h:bP K w yb rs s)(hk:k<s.ay.length)(hs:s.count g k=some s'):
  Calls prog 173 #[.pointer (some ⟨yb,0,none⟩),.int .i64 k] w λe w'=>e=.returned (.tuple #[])/\bP K w' yb rs s'/\fG yb w w' rs rs:=by
 unfold St.count at hs;rw[List.getElem?_eq_getElem hk] at hs;dsimp only at hs
 cases hf:s.ay[k].bF with
 | true=>
  rw[ag hf] at hs;injection hs with hs;subst hs;refine(zE w yb rs s k h hk hf).mono ?_;rintro e w' ⟨rfl,rfl⟩;exact⟨rfl,h,To.refl _ _ _⟩
 | false=>
  rw[af (by rw[hf];decide)] at hs;by_cases hc:wrap64 (s.ay[k].count+1)<s.hot
  ·rw[ag hc] at hs;injection hs with hs;subst hs;exact zF w yb rs s k h hk hf hc
  ·rw[af hc] at hs
   split at hs
   ·cases hs
   ·rename_i bs hbs
    injection hs with hs;subst hs;exact BF w yb rs s k g h hk hf (by omega) bs hbs
theorem GN (s:ByteArray)(v:Value)(ws:List ByteArray)(w:World)(hr:w.ownsRow 0 9 1 v ws.length (ws.map Value.string)):
  Calls prog 134 #[.string s,v] w λe w'=>e=.returned (.bool ((aD ws).any (· == s.data.toList)))/\w'=w:=by
 have hmax:ws.length<=9223372036854775807:=by
  rcases hr.2 with⟨_,h0⟩|⟨_,_,_,_,_,_,h1,h2,_⟩
  ·omega
  ·unfold maxLen at h2;omega
 have hcell:∀k (hk:k<ws.length),∃g cap,v=.slice (some ⟨g,0,none⟩) ws.length cap/\w.cell? ⟨g,k,none⟩=some (.string ws[k]):=λk hk=>by
  obtain⟨g,cap,h1,h2⟩:=bE hr (by omega);exact⟨g,cap,h1,h2 k _ (by simp[hk])⟩
 obtain⟨ao,cap,rfl⟩:=aB hr;have HC:=az hcell;clear hcell hr;rw[<-xG];go_enter func134,ntmps134;go_wp2
 go_loop [5] (λi=>∃k:Nat,k<=ws.length/\i=.int .i64 k/\(ws.take k).any (λt=>t.toList==s.toList)=false) (λi=>ws.length-(intOf i).toNat)
 case atStart=>exact⟨0,Nat.zero_le _,rfl,rfl⟩
 case round=>
  obtain⟨k,hk,rfl,hno⟩:=hrel;have HN:=az hno;clear hno;by_cases hlt:k<ws.length
  ·obtain⟨g,cap',hv,c⟩:=HC.out k hlt;injection hv with e1 e2 e3;subst e1;clear e2 e3;go_wp2
   ·have hx:(ws[k].toList==s.toList)=true:=by assumption
    go_ret;refine⟨?_,rfl⟩;have:(ws.any λt=>t.toList==s.toList)=true:=List.any_eq_true.2 ⟨ws[k],List.getElem_mem hlt,hx⟩;rw[this];rfl
   ·have hx:(ws[k].toList==s.toList)=false:=by assumption
    go_round
    case rel=>
     refine⟨k+1,by omega,by go_num,?_⟩;rw[List.take_succ_eq_append_getElem hlt,List.any_append,HN.out];simp[hx]
    case measure=>simp[intOf];omega
  ·go_wp2;go_ret;refine⟨?_,rfl⟩;have:=HN.out;rw[List.take_of_length_le (by omega)] at this;rw[this];rfl
def gH (t:Tok)(d:Def):Def:=if d.bF=true/\d.built.any (· == t)=true then cP d else d
def iG (ay:List Def)(t:Tok)(i:Nat):List Def:=(ay.take i).map (gH t)++ay.drop i
theorem nE (ay:List Def)(t:Tok)(i:Nat):(iG ay t i).length=ay.length:=by simp[iG];omega
theorem BI (ay:List Def)(t:Tok):iG ay t 0=ay:=by simp[iG]
theorem um (ay:List Def)(t:Tok)(i:Nat)(h:i<ay.length):(iG ay t i)[i]'(by rw[nE];exact h)=ay[i]:=by
 unfold iG;rw[List.getElem_append_right (by simp;omega)];simp[Nat.min_eq_left (Nat.le_of_lt h)]
theorem uo (ay:List Def)(t:Tok)(i:Nat)(h:i<ay.length):iG ay t (i+1)=(iG ay t i).set i (gH t ay[i]):=by
 unfold iG;rw[List.take_succ_eq_append_getElem h,List.map_append,List.append_assoc,List.set_append_right _ _ (by simp;omega)];have:i-(List.map (gH t) (ay.take i)).length=0:=by simp;omega
 rw[this,List.drop_eq_getElem_cons h];rfl
theorem En (ay:List Def)(t:Tok):iG ay t ay.length=ay.map (gH t):=by simp[iG]
theorem bP.cI {w w':World}{yb:Nat}{rs:RS}{s:St}(h:bP K w yb rs s)(hk:Kp w w' (λ_=>False)):bP K w' yb rs s:=by
 obtain⟨ns,hi,hns⟩:=h.inv;exact⟨⟨ns,hi.kp hk,hns⟩,h.e,h.st,h.mem,h.out,h.ids,h.hot,h.blt,h.dp,h.dr.cI hk,h.good⟩
theorem fG.cI {w w':World}{yb:Nat}{rs:RS}(hk:Kp w w' (λ_=>False)):fG yb w w' rs rs:=⟨hk.mono (λ_ _ h=>h.elim),λ_ h=>.inl h⟩
theorem bP.PA {w:World}{yb:Nat}{rs:RS}{s:St}(h:bP K w yb rs s)(n:Int):bP K (w.setCell ⟨yb,18,none⟩ (.int .i64 n)) yb {rs with d:={rs.d with ids:=n}} {s with ids:=n}/\fG yb w (w.setCell ⟨yb,18,none⟩ (.int .i64 n)) rs {rs with d:={rs.d with ids:=n}}:=by
 obtain⟨ns,hi,hns⟩:=h.inv;have hk:Kp w (w.setCell ⟨yb,18,none⟩ (.int .i64 n)) (λb=>b=yb):=Kp.one _ _ _ _;have hb:=hi.blk;refine⟨⟨⟨ns,⟨hi.blk.set 18 _,ownsRow_setCell_other hi.row (aH hi.row hi.blk (by decide)) _,hi.len⟩,hns⟩,h.e,h.st,h.mem,h.out,rfl,h.hot,h.blt,h.dp,h.dr.kp hk (vZ.one hb (by decide) (by decide)) (λb c e hc=>by subst e;exact ax (hc.inj hb).1 (by decide)),?_⟩,⟨hk.mono (λb _ e=>.inl e),λ_ h=>.inl h⟩⟩;have hg:=h.good;exact⟨hg.g,hg.s0,hg.s1,hg.s2,hg.d0,hg.d1,hg.b0,hg.b1,hg.cb⟩
theorem oQ (w:World)(c:Array Value)(t:TypeId):∀(j:Nat) (u:Value),c.toList[j]? = some u->(w.alloc (.cells c t)).cell? ((⟨w.heap.size,0,none⟩:Addr).add j)=some u:=by
 intro j u hj;rw[qp];exact(aC.new w c t).cell (by simpa using hj)
theorem bP.grow {wr w1:World}{yb:Nat}{rs:RS}{s:St}{FX:List Value}{o:Obj}{v':Value}{d:Def}{nm:ByteArray}{vb vt:Value}(h:bP K wr yb rs s)(Pw:gG K wr s.ay FX)(hl:s.ay.length<30)
  (hown:w1.ownsRow 0 95 6 v' (s.ay.length+1) (FX++[.string nm,.int .i64 d.id,vb,.int .i64 d.count,.bool d.bF,vt])) (hgrow:((wr.alloc o).drew).grownBy w1 rs.d.dv.ownBlock) (hnx:∀k,own v' k->own rs.d.dv k\/wr.heap.size+1<=k)
  (hat:xy K wr d nm vb vt) (hcb:qB d.body):
  aC w1 yb 67 rs.arr/\bP K (w1.setCell ⟨yb,17,none⟩ v') yb {rs with d:={rs.d with dv:=v'}} {s with ay:=s.ay++[d]}/\fG yb wr (w1.setCell ⟨yb,17,none⟩ v') rs {rs with d:={rs.d with dv:=v'}}:=by
 obtain⟨ns,hi,hns⟩:=h.inv;obtain⟨xs0,cZ,_⟩:=h.dr.ex;have hk1:Kp wr w1 (λb=>own rs.d.dv b):=(((Kp.refl wr _).alloc o).drew).grown hgrow (λb _ e=>e);have XR:=hi.blk;have hb1:aC w1 yb 67 rs.arr:=hk1.blk XR (aH cZ XR (by decide));have hkp:Kp wr (w1.setCell ⟨yb,17,none⟩ v') (λb=>b=yb\/own rs.d.dv b):=(hk1.mono (λ_ _ h=>.inr h)).set (a:=⟨yb,17,none⟩) (λ_=>.inl rfl) _;have hkeep:aF (nK K) (nK K) wr (w1.setCell ⟨yb,17,none⟩ v'):=aF.kp hkp (λb t c hb hbl=>by
  rcases hb with e|e
  ·subst e;have:=(hbl.inj XR).1;subst this;exact⟨by decide,by decide⟩
  ·have:=aQ cZ e hbl;subst this;exact⟨by decide,by decide⟩) _
 have TF:(w1.setCell ⟨yb,17,none⟩ v').ownsRow 0 95 6 v' (s.ay.length+1) (FX++[.string nm,.int .i64 d.id,vb,.int .i64 d.count,.bool d.bF,vt]):=
  ownsRow_setCell_other hown (a:=⟨yb,17,none⟩) (aH hown hb1 (by decide)) _
 have hg:=h.good;refine⟨hb1,⟨⟨ns,⟨hb1.set 17 _,?_,hi.len⟩,hns⟩,h.e,h.st,h.mem,h.out,h.ids,h.hot,h.blt,h.dp,⟨⟨_,by simpa using TF,?_⟩,by simp;omega,λb hb=>aj (h.dr.old b hb) hkp.size⟩,⟨hg.g,hg.s0,hg.s1,hg.s2,hg.d0,hg.d1,hg.b0,hg.b1,λx hx=>?_⟩⟩,⟨hkp.mono (λb _ hb=>?_),λb hb=>?_⟩⟩
 ·have hr1:=hk1.row hi.row (λb hb hd=>by obtain⟨c,hc⟩:=aV hi.row hb;exact ax (aQ cZ hd hc) (by decide));exact ownsRow_setCell_other hr1 (a:=⟨yb,17,none⟩) (aH hr1 hb1 (by decide)) _
 ·exact uq _ _ _ _ (eV hkeep _ _ Pw) ⟨nm,vb,vt,[],rfl,hat.nm,hat.body.keep hkeep,aM hkeep hat.built,rfl⟩
 ·rcases List.mem_append.1 hx with h1|h1
  ·exact hg.cb x h1
  ·have:x=d:=by simpa using h1
   rw[this];exact hcb
 ·rcases hb with e|e
  ·exact .inl e
  ·exact .inr (.inr e)
 ·rcases hb with e|e
  ·exact .inl (.inl e)
  ·rcases hnx b e with h1|h1
   ·exact .inl (.inr h1)
   ·right;omega
structure C2 (K:Nat->Prop)(w wr:World)(yb:Nat)(rs:RS)(s:St)(t:Tok)(db i:Nat)(c:Array Value):Prop where
 rel:bP K wr yb rs {s with ay:=iG s.ay t i}
 tt:fG yb w wr rs rs
 blk:aC wr db 95 c
theorem mE (t:Tok)(d:Def):(gH t d).name=d.name:=by unfold gH;split <;> rfl
theorem zG (t:Tok)(d:Def):(gH t d).body=d.body:=by unfold gH;split <;> rfl
theorem GP (ay:List Def)(t t':Tok):(ay.map (gH t)).findIdx? (λd=>d.name==t')=ay.findIdx? (λd=>d.name==t'):=by
 rw[List.findIdx?_map]
 congr 1
 funext d
 simp[mE]
theorem Eo (ay:List Def)(t t':Tok):cR (ay.map (gH t)) t'=cR ay t':=by unfold cR;rw[GP]
theorem ur {ay:List Def}{t:Tok}(h:¬cR ay t<0):∃k,k<ay.length/\cR ay t=k/\ay.findIdx? (λd=>d.name==t)=some k:=by
 unfold cR at h ⊢
 cases hf:ay.findIdx? (λd=>d.name==t) with
 | none=>rw[hf] at h;simp at h
 | some k=>
  have:=(List.findIdx?_eq_some_iff_getElem.1 hf).1;exact⟨k,this,rfl,rfl⟩
theorem rW {ay:List Def}{t:Tok}(h:cR ay t<0):ay.findIdx? (λd=>d.name==t)=none:=by
 unfold cR at h
 cases hf:ay.findIdx? (λd=>d.name==t) with
 | none=>rfl
 | some k=>rw[hf] at h;simp at h;omega
theorem Tryz.Lf:(prog.info? 95).map (λi=>(i.zero,i.size,i.bytes))=some (some (.agg #[.string ⟨#[]⟩,.int .i64 0,.slice none 0 0,.int .i64 0,.bool false,.slice none 0 0]),6,88):=by kernel_rfl
theorem YS (w:World)(yb:Nat)(rs:RS)(s:St)(tb:ByteArray)(v:Value)(b:List It)(h:bP K w yb rs s)(hb:kZ K w v b)(hcb:qB b)(mD:¬cR s.ay tb.data.toList<0\/(cR s.ay tb.data.toList<0/\s.ay.length<30)):
  Calls prog 86 #[.pointer (some ⟨yb,0,none⟩),.string tb,v] w λe w'=>e=.returned (.tuple #[])/\∃rs',bP K w' yb rs' (s.set tb.data.toList b)/\fG yb w w' rs rs':=by
 obtain⟨i0,hi,hz0,hz1,hz2⟩:=info_parts Tryz.Lf;obtain⟨Tv,hrb,-⟩:=hb.out;obtain⟨ab,pb,rfl⟩:=aB hrb;clear hrb;have hdl:=h.dr.len;have ci:w.cell? ⟨yb,18,none⟩=some (.int .i64 s.ids):=by rw[<-h.ids];exact h.blk.cell rfl
 have fi:=h.blk.free 18;have KC:=h.blk.lt;obtain⟨h1,bt⟩:=h.PA (wrap64 (s.ids+1));have hb1:kZ K (w.setCell ⟨yb,18,none⟩ (.int .i64 (wrap64 (s.ids+1)))) (.slice ab b.length pb) b:=hb.keep (aF.to bt h.jX _);have hsz1:(w.setCell ⟨yb,18,none⟩ (.int .i64 (wrap64 (s.ids+1)))).heap.size=w.heap.size:=by simp[World.setCell]
 have h2:=h1.cI ((Kp.refl _ (λ_=>False)).alloc (.cells #[.string tb,.int .i64 (wrap64 (s.ids+1)),.slice ab b.length pb,.int .i64 0,.bool false,.slice none 0 0] 95));have hb2:=hb1.keep (aF.cI ((Kp.refl _ (λ_=>False)).alloc (.cells #[.string tb,.int .i64 (wrap64 (s.ids+1)),.slice ab b.length pb,.int .i64 0,.bool false,.slice none 0 0] 95)) (nK K));have bM:fG yb w ((w.setCell ⟨yb,18,none⟩ (.int .i64 (wrap64 (s.ids+1)))).alloc (.cells #[.string tb,.int .i64 (wrap64 (s.ids+1)),.slice ab b.length pb,.int .i64 0,.bool false,.slice none 0 0] 95)) rs {rs with d:={rs.d with ids:=wrap64 (s.ids+1)}}:=bt.trans (fG.cI ((Kp.refl _ _).alloc _));have aX:=aC.new (w.setCell ⟨yb,18,none⟩ (.int .i64 (wrap64 (s.ids+1)))) #[.string tb,.int .i64 (wrap64 (s.ids+1)),.slice ab b.length pb,.int .i64 0,.bool false,.slice none 0 0] 95;rw[hsz1] at aX;generalize hid:wrap64 (s.ids+1)=id at h1 bt hb1 h2 hb2 bM aX;have PB:∀q,own rs.d.dv q->q<w.heap.size:=λq hq=>by obtain⟨xs,hr,_⟩:=h.dr.ex;exact bw hr hq
 have HID:=az hid;clear h1 bt hb1 hb;go_enter func86,ntmps86;go_wp2;clear hid;obtain⟨s1,hs1⟩:∃s1:St,s1={s with ids:=id}:=⟨_,rfl⟩;obtain⟨fB,wB⟩:∃fB:RS,fB={rs with d:={rs.d with ids:=id}}:=⟨_,rfl⟩;have hdef:s1.ay=s.ay:=by rw[hs1]
 have TG:fB.d.dv=rs.d.dv:=by rw[wB]
 have YT:fB.nv=rs.nv:=by rw[wB]
 rw[<-hs1,<-wB] at h2;rw[<-wB] at bM;rw[<-hdef] at hdl mD;rw[<-TG] at PB;have SM:=az hs1;have adL:=az wB;have TH:=az hdef;clear hs1 wB hdef TG YT;generalize hW2:((w.setCell ⟨yb,18,none⟩ (.int .i64 id)).alloc (.cells #[.string tb,.int .i64 id,.slice ab b.length pb,.int .i64 0,.bool false,.slice none 0 0] 95))=W2 at h2 hb2 bM aX ⊢;clear hW2;have adM:w.heap.size<W2.heap.size:=aX.lt;have HH:Hid (C2 K W2 W2 yb fB s1 tb.data.toList w.heap.size 0 #[.string tb,.int .i64 id,.slice ab b.length pb,.int .i64 0,.bool false,.slice none 0 0]):=⟨by rw[BI];exact h2,To.refl _ _ _,aX⟩;have zh:=az hb2;have TI:=az bM;have TJ:=az h2;clear h2 aX bM hb2 ci fi
 go_loopw [7] (λi wr=>∃k:Nat,k<=s1.ay.length/\i=.int .i64 k/\C2 K W2 wr yb fB s1 tb.data.toList w.heap.size k #[.string tb,.int .i64 id,.slice ab b.length pb,.int .i64 0,.bool false,.slice none 0 0]) (λi _=>s1.ay.length-(intOf i).toNat)
 case atStart=>exact⟨0,Nat.zero_le _,rfl,HH.out⟩
 case round=>
  obtain⟨k,hk,rfl,hrel,hto,hblk⟩:=hrel;have hml:=nE s1.ay tb.data.toList k;by_cases hlt:k<s1.ay.length
  ·obtain⟨gd,fq,xs,nm,vb,vt,hD⟩:=hrel.dr.cells k (by show k<(iG s1.ay tb.data.toList k).length;omega);have cy:wr.cell? ⟨yb,17,none⟩=some (.slice (some ⟨gd,0,none⟩) s1.ay.length fq):=by
    have:=hrel.blk.cell (o:=17) (v:=fB.d.dv) rfl;rw[hD.dv] at this;rw[this];simp only[nE]
   have k4:=hD.cell _ _ hD.x4;have k5:=hD.cell _ _ hD.x5;have hat:=hD.at_;simp only[um _ _ _ hlt] at k4 k5 hat;obtain⟨Le,hrt,hwt,-⟩:=hat.built;obtain⟨a5,p5,rfl⟩:=aB hrt;have HWT:=az hwt;clear hD hwt hat hml
   go_wp2_with fail
   refine(GN tb _ Le _ hrt).mono ?_;rintro e w' ⟨rfl,hw⟩;rw[hw];clear hw;rw[show aD Le=s1.ay[k].built from HWT.out];clear hrt;by_cases hc:s1.ay[k].bF=true/\s1.ay[k].built.any (· == tb.data.toList)=true
   ·obtain⟨hc1,hc2⟩:=hc;rw[hc1] at k4;rw[hc2];have HM:Hid (iG s1.ay tb.data.toList (k+1)=(iG s1.ay tb.data.toList k).set k (cP s1.ay[k])):=by
     unfold Hid;rw[uo _ _ _ hlt];unfold gH;rw[ag ⟨hc1,hc2⟩]
    clear hc1 hc2
    go_wp2_with fail
    refine(TB _ _ _ _ k hrel (by show k<(iG s1.ay tb.data.toList k).length;rw[nE];exact hlt)).mono ?_;rintro e w5 ⟨rfl,oq,mF⟩;have HN:C2 K W2 w5 yb fB s1 tb.data.toList w.heap.size (k+1) #[.string tb,.int .i64 id,.slice ab b.length pb,.int .i64 0,.bool false,.slice none 0 0]:=by
     refine⟨?_,hto.trans mF,mF.blk hblk (λe=>?_) (λe=>?_)⟩
     ·rw[HM.out];simp only[um _ _ _ hlt] at oq;exact oq
     ·omega
     ·rcases e with e|e
      ·obtain⟨ns,hi',_⟩:=hrel.inv;exact ax (aQ hi'.row e hblk) (by decide)
      ·have:=PB _ e;omega
    clear oq mF hrel hto hblk k4 k5 cy;go_wp2
    go_roundw
    case rel=>exact⟨k+1,by omega,by go_num,HN⟩
    case measure=>simp[intOf];omega
   ·have HM:Hid (iG s1.ay tb.data.toList (k+1)=iG s1.ay tb.data.toList k):=by
     unfold Hid;rw[uo _ _ _ hlt];unfold gH;rw[af hc];have:=um s1.ay tb.data.toList k hlt
     conv=>lhs;rw[<-this]
     exact List.set_getElem_self _
    have HN:C2 K W2 wr yb fB s1 tb.data.toList w.heap.size (k+1) #[.string tb,.int .i64 id,.slice ab b.length pb,.int .i64 0,.bool false,.slice none 0 0]:=⟨by rw[HM.out];exact hrel,hto,hblk⟩
    cases hc1:s1.ay[k].bF with
    | false=>
     rw[hc1] at k4;clear hc1 hc hrel hto hblk;go_wp2
     go_roundw
     case rel=>exact⟨k+1,by omega,by go_num,HN⟩
     case measure=>simp[intOf];omega
    | true=>
     have hc2:s1.ay[k].built.any (· == tb.data.toList)=false:=by
      cases hx:s1.ay[k].built.any (· == tb.data.toList) with
      | false=>rfl
      | true=>exact ax ⟨hc1,hx⟩ hc
     rw[hc1] at k4;rw[hc2];clear hc1 hc hc2 hrel hto hblk;go_wp2
     go_roundw
     case rel=>exact⟨k+1,by omega,by go_num,HN⟩
     case measure=>simp[intOf];omega
  ·have hkl:k=s1.ay.length:=by omega
   subst hkl;rw[En] at hrel;obtain⟨defs',uu⟩:∃d',d'=s1.ay.map (gH tb.data.toList):=⟨_,rfl⟩;rw[<-uu] at hrel;have hlen':defs'.length=s1.ay.length:=by rw[uu];simp
   have hfm:cR defs' tb.data.toList=cR s1.ay tb.data.toList:=by rw[uu,Eo]
   have HDF:=az uu;have PC:=az hlen';have hbr:=zh.out.keep (aF.to hto TJ.out.jX _);have HBR:=az hbr;clear uu hml hbr;obtain⟨FX,hrd,Pw⟩:=hrel.dr.ex;obtain⟨FY,fq,rU⟩:=aB hrd;have cy:wr.cell? ⟨yb,17,none⟩=some (.slice FY s1.ay.length fq):=by
    have:=hrel.blk.cell (o:=17) (v:=fB.d.dv) rfl;rw[rU] at this;rw[this];show some (Value.slice FY defs'.length fq)=_;rw[hlen']
   have fy:=hrel.blk.free 17;obtain⟨y0,y1,y2,y3,y4,y5⟩:=hblk.six;clear hlen'
   go_wp2_with fail
   refine(pM _ _ _ _ tb hrel.blk hrel.dr).mono ?_;rintro e w' ⟨rfl,hw⟩;rw[hw];clear hw;rw[show({s1 with ay:=defs'}:St).ay=defs' from rfl,hfm];clear hfm;rcases mD with hf|⟨hf,hf2⟩
   ·obtain⟨kd,kG,mh,TK⟩:=ur (show ¬cR s1.ay tb.data.toList<0 by omega);have TL:∀d∈defs',qB d.body:=hrel.good.cb;obtain⟨gd,TE,xs,nm,vb,vt,hD⟩:=hrel.dr.cells kd (by show kd<defs'.length;rw[PC.out];exact kG);have hv2:=hD.dv;rw[rU] at hv2;injection hv2 with e1 e2 e3;subst e1 e3;clear e2;have z0:=hD.cell _ _ hD.x0;have z1:=hD.cell _ _ hD.x1;have z2:=hD.cell _ _ hD.x2;have z3:=hD.cell _ _ hD.x3;have z4:=hD.cell _ _ hD.x4;have z5:=hD.cell _ _ hD.x5;have g0:=hD.free (kd*6);have g1:=hD.free (kd*6+1);have g2:=hD.free (kd*6+2);have g3:=hD.free (kd*6+3);have g4:=hD.free (kd*6+4);have g5:=hD.free (kd*6+5);obtain⟨cgd,YU⟩:=hD.blk;have YV:¬gd=yb:=by rintro rfl;exact ax (YU.inj hrel.blk).1 (by decide)
    have hgd:own fB.d.dv gd:=by rw[hD.dv];rfl
    have hgw:¬gd=w.heap.size:=by have:=PB _ hgd;omega
    have YW:=az TK;have HD:=az hD;rw[mh];clear mh TK hf hD hrd Pw rU;go_wp2
    go_region
    all_goals
     go_wp2;refine bodyPost_ret (results_none rfl _ _ _) rfl ?_;have hD:=HD.out;have hkp:Kp wr ((((((wr.setCell ⟨gd,kd*6,none⟩ (.string tb)).setCell ⟨gd,kd*6+1,none⟩ (.int .i64 id)).setCell ⟨gd,kd*6+2,none⟩ (.slice ab b.length pb)).setCell ⟨gd,kd*6+3,none⟩ (.int .i64 0)).setCell ⟨gd,kd*6+4,none⟩ (.bool false)).setCell ⟨gd,kd*6+5,none⟩ (.slice none 0 0)) (λq=>own fB.d.dv q):=
      ((((((Kp.refl wr _).set (a:=⟨gd,kd*6,none⟩) (λ_=>hgd) _).set (a:=⟨gd,kd*6+1,none⟩) (λ_=>hgd) _).set (a:=⟨gd,kd*6+2,none⟩) (λ_=>hgd) _).set (a:=⟨gd,kd*6+3,none⟩) (λ_=>hgd) _).set (a:=⟨gd,kd*6+4,none⟩) (λ_=>hgd) _).set (a:=⟨gd,kd*6+5,none⟩) (λ_=>hgd) _
     have aJ:=eU (eU (eU (eU (eU (eU hD.row hgd (kd*6) (.string tb)) hgd (kd*6+1) (.int .i64 id)) hgd (kd*6+2) (.slice ab b.length pb)) hgd (kd*6+3) (.int .i64 0)) hgd (kd*6+4) (.bool false)) hgd (kd*6+5) (.slice none 0 0);have hkeep:=aF.kp hkp (λq t' c hb hbl=>by have:=aQ hD.row hb hbl;subst this;exact⟨by decide,by decide⟩) (nK K);have jK:=iN ⟨tb.data.toList,id,b,0,false,[]⟩ tb (.slice ab b.length pb) (.slice none 0 0) ⟨rfl,HBR.out.keep hkeep,ek.nil _ _⟩ _ _ (eV hkeep _ _ hD.its) kd (by show kd<defs'.length;rw[PC.out];exact kG);have hN:=hrel.om hkp (ay:=defs'.set kd ⟨tb.data.toList,id,b,0,false,[]⟩) ⟨⟨_,by simpa using aJ,jK⟩,by rw[List.length_set,PC.out];exact hdl,λb hb=>aj (hrel.dr.old b hb) hkp.size⟩ (λd hd=>by
      rcases List.mem_or_eq_of_mem_set hd with h1|h1
      ·exact TL d h1
      ·rw[h1];exact hcb)
     refine⟨rfl,fB,?_,TI.out.trans (hto.trans (hN.2.trans (fG.cI (Kp.refl _ _).drew)))⟩;have eX:s.set tb.data.toList b={s1 with ay:=defs'.set kd ⟨tb.data.toList,id,b,0,false,[]⟩}:=by
      unfold St.set St.find;rw[<-TH.out,YW.out,HDF.out,SM.out,HID.out];rfl
     rw[eX];exact hN.1.cI (Kp.refl _ _).drew
   ·have YW:=az (rW hf);have TL:∀d∈defs',qB d.body:=hrel.good.cb;have TM:wr.ownsRow 0 95 6 (.slice FY s1.ay.length fq) s1.ay.length FX:=by
     have:=hrd;rw[rU] at this;have e:({s1 with ay:=defs'}:St).ay.length=s1.ay.length:=PC.out;rw[e] at this;exact this
    have HXD:Hid (gG K wr defs' FX):=Pw;have HVD:Hid (fB.d.dv=.slice FY s1.ay.length fq):=by
     have e:({s1 with ay:=defs'}:St).ay.length=s1.ay.length:=PC.out;rw[e] at rU;exact rU
    clear Pw rU hrd;go_wp2;have adP:=hrel.blk.lt;have TN:bP K wr yb fB {s1 with ay:=defs'}:=hrel;have CX:Hid (xy K wr ⟨tb.data.toList,id,b,0,false,[]⟩ tb (.slice ab b.length pb) (.slice none 0 0)):=⟨rfl,HBR.out,ek.nil _ _⟩
    go_region_law (refine mq _ rfl (.tmp 73) (.tmp 75) 65 rfl 95 i0 (.agg #[.string ⟨#[]⟩,.int .i64 0,.slice none 0 0,.int .i64 0,.bool false,.slice none 0 0]) 6 88 underlying65 hi hz0 hz1 hz2 rfl (by decide) _ _ _ rfl (TM.alloc _).drew ⟨wr.heap.size,0,none⟩ 1 1 [.string tb,.int .i64 id,.slice ab b.length pb,.int .i64 0,.bool false,.slice none 0 0] rfl rfl (λj u hj=>oQ wr _ _ j u hj) (by intro u hu;simp at hu;rcases hu with rfl|rfl|rfl|rfl|rfl|rfl <;> rfl) (by unfold maxLen;omega) (by omega) ?_;intro v' w1 hown hgrow hnx;obtain⟨av,pv,rfl⟩:=aB hown;have HG:=TN.grow (d:=⟨tb.data.toList,id,b,0,false,[]⟩) HXD.out (by show defs'.length<30;rw[PC.out];exact hf2) (by show w1.ownsRow 0 95 6 _ (defs'.length+1) _;rw[PC.out];exact hown) (by rw[HVD.out];exact hgrow) (by rw[HVD.out];exact λk hk=>(hnx k hk).imp (λh=>h) (λh=>by simpa using h)) CX.out hcb;have q1:w1.cell? ⟨yb,17,none⟩=some fB.d.dv:=HG.1.cell rfl;have q2:=HG.1.free 17)
    all_goals
     go_wp2
     go_end0
     refine⟨rfl,_,?_,TI.out.trans (hto.trans HG.2.2)⟩;have eX:s.set tb.data.toList b={s1 with ay:=defs'++[⟨tb.data.toList,id,b,0,false,[]⟩]}:=by
      unfold St.set St.find;rw[<-TH.out,YW.out,HDF.out,SM.out,HID.out];rfl
     rw[eX];exact HG.2.1
end
section
open Go.RowKit
def ym (aA:Tok->Prop)(sub:Bool->List It->Prop)(lo:Bool)(x:It):Prop:=
 (((x.kind=110/\In x.n)\/x.kind=114\/x.kind=120\/(x.kind=123/\x.toks.length<=1000)\/(x.kind=112/\(aN.findIdx? (· == x.name)).isSome=true)\/(x.kind=99/\aA x.name)\/(x.kind=105/\lo=true))/\x.a=[]/\x.b=[]) \/
 ((x.kind=63\/x.kind=117\/x.kind=119)/\sub lo x.a/\sub lo x.b)\/(x.kind=100/\sub true x.a/\x.b=[])
def wb (aA:Tok->Prop):Nat->Bool->List It->Prop
 | 0,_,l=>l=[]
 | g+1,lo,l=>∀x∈l,ym aA (wb aA g) lo x
theorem ym.mono {aA known':Tok->Prop}{sub sub':Bool->List It->Prop}(hk:∀t,aA t->known' t)(hs:∀lo l,sub lo l->sub' lo l){lo:Bool}{x:It}(h:ym aA sub lo x):ym known' sub' lo x:=by
 rcases h with⟨h,h1,h2⟩|⟨h,h1,h2⟩|⟨h,h1,h2⟩
 ·refine .inl ⟨?_,h1,h2⟩;rcases h with h|h|h|h|h|h|h
  ·exact .inl h
  ·exact .inr (.inl h)
  ·exact .inr (.inr (.inl h))
  ·exact .inr (.inr (.inr (.inl h)))
  ·exact .inr (.inr (.inr (.inr (.inl h))))
  ·exact .inr (.inr (.inr (.inr (.inr (.inl ⟨h.1,hk _ h.2⟩)))))
  ·exact .inr (.inr (.inr (.inr (.inr (.inr h)))))
 ·exact .inr (.inl ⟨h,hs _ _ h1,hs _ _ h2⟩)
 ·exact .inr (.inr ⟨h,hs _ _ h1,h2⟩)
theorem cm {aA known':Tok->Prop}(hk:∀t,aA t->known' t):∀(g:Nat) (lo:Bool) (l:List It),wb aA g lo l->wb known' g lo l
 | 0,_,_,h=>h
 | g+1,_,_,h=>λx hx=>(h x hx).mono hk (λlo l=>cm hk g lo l)
theorem mG (aA:Tok->Prop):∀(g:Nat) (lo:Bool),wb aA g lo []
 | 0,_=>rfl
 | _+1,_=>λx hx=>by cases hx
theorem C3 {aA:Tok->Prop}:∀(g:Nat) (lo:Bool) (l:List It),wb aA g lo l->wb aA (g+1) lo l
 | 0,lo,l,h=>by have h:l=[]:=h;subst h;exact mG _ _ _
 | g+1,_,_,h=>λx hx=>(h x hx).mono (λ_ h=>h) (λlo l=>C3 g lo l)
theorem xH {aA:Tok->Prop}{g g':Nat}(hg:g<=g'){lo:Bool}{l:List It}(h:wb aA g lo l):wb aA g' lo l:=by
 induction hg with
 | refl=>exact h
 | step _ ih=>exact C3 _ _ _ ih
theorem PD {aA:Tok->Prop}{g g':Nat}{lo:Bool}{l l':List It}(h:wb aA g lo l)(h':wb aA g' lo l'):wb aA (g+g' + 1) lo (l++l'):=by
 intro x hx;rcases List.mem_append.1 hx with h1|h1
 ·exact xH (g:=g) (g':=g+g' + 1) (by omega) h x h1
 ·exact xH (g:=g') (g':=g+g' + 1) (by omega) h' x h1
theorem nG {g g':Nat}(hg:g<=g'){l:List It}{names:List Tok}(h:bz g l=some names):bz g' l=some names:=by
 induction hg with
 | refl=>exact h
 | step _ ih=>exact rV _ _ _ ih
theorem rX {aA:Tok->Prop}:∀(g:Nat) (lo:Bool) (l:List It),wb aA g lo l->∃G names,bz G l=some names/\∀n∈names,aA n:=by
 intro g
 induction g with
 | zero=>intro lo l h;have h:l=[]:=h;subst h;exact⟨1,[],rfl,by simp⟩
 | succ g ih=>
  intro lo l
  induction l with
  | nil=>intro _;exact⟨1,[],rfl,by simp⟩
  | cons x l ihl=>
   intro h;obtain⟨G3,c,hc,kc⟩:=ihl (λy hy=>h y (by simp[hy]));have hx:=h x (by simp);have key:∃G1 a G2 b,bz G1 x.a=some a/\bz G2 x.b=some b/\(∀n∈a,aA n)/\(∀n∈b,aA n)/\(x.kind=99->aA x.name):=by
    rcases hx with⟨h,h1,h2⟩|⟨h,h1,h2⟩|⟨h,h1,h2⟩
    ·refine⟨1,[],1,[],by rw[h1];rfl,by rw[h2];rfl,by simp,by simp,λhk=>?_⟩;rcases h with h|h|h|h|h|h|h
     ·omega
     ·omega
     ·omega
     ·omega
     ·omega
     ·exact h.2
     ·omega
    ·obtain⟨G1,a,ha,ka⟩:=ih _ _ h1;obtain⟨G2,b,hb,kb⟩:=ih _ _ h2;exact⟨G1,a,G2,b,ha,hb,ka,kb,λhk=>by omega⟩
    ·obtain⟨G1,a,ha,ka⟩:=ih _ _ h1;exact⟨G1,a,1,[],ha,by rw[h2];rfl,ka,by simp,λhk=>by omega⟩
   obtain⟨G1,a,G2,b,ha,hb,ka,kb,kn⟩:=key;refine⟨G1+G2+G3+1,(if x.kind=99 then [x.name] else [])++a++b++c,?_,?_⟩
   ·rw[bz,nG (by omega) ha,nG (by omega) hb,nG (by omega) hc]
   ·intro n hn;simp only[List.mem_append] at hn;rcases hn with ((hn|hn)|hn)|hn
    ·split at hn
     ·rename_i hk;simp at hn;rw[hn];exact kn hk
     ·cases hn
    ·exact ka n hn
    ·exact kb n hn
    ·exact kc n hn
theorem oU {ay:List Def}{n:Nat}{g g':Nat}(hg:g<=g'){l:List It}{res:List Tok}(h:cJ ay g n l=some res):cJ ay g' n l=some res:=by
 induction hg with
 | refl=>exact h
 | step _ ih=>exact lF _ _ _ _ _ ih
def lG (ay:List Def)(t:Tok):Prop:=(ay.find? (λd=>d.name==t)).isSome=true
theorem yo {ay:List Def}{aA:Tok->Prop}(hk:∀t,aA t->lG ay t)(hd:∀d∈ay,∃g,wb aA g false d.body):∀(n:Nat) (lo:Bool) (g:Nat) (l:List It),wb aA g lo l->∃G res,cJ ay G n l=some res:=by
 intro n
 induction n with
 | zero=>intro lo g l _;exact⟨0,[],rfl⟩
 | succ n ih=>
  intro lo g l h;obtain⟨G,names,hc,kn⟩:=rX g lo l h;have key:∀(names:List Tok),(∀t∈names,aA t)->∃G res,kO (λt=>match dx ay t with|none=>none|some b=>cJ ay G n b) names=some res:=by
   intro names
   induction names with
   | nil=>intro _;exact⟨0,[],rfl⟩
   | cons t r ihr=>
    intro hk2;obtain⟨G2,y,hy⟩:=ihr (λq hq=>hk2 q (by simp[hq]));have hin:=hk t (hk2 t (by simp));unfold lG at hin
    cases hf:ay.find? (λd=>d.name==t) with
    | none=>rw[hf] at hin;cases hin
    | some d=>
     obtain⟨gd,hgd⟩:=hd d (List.mem_of_find?_eq_some hf);obtain⟨G1,x,hx⟩:=ih false gd d.body hgd;have hb:dx ay t=some d.body:=by unfold dx;rw[hf];rfl
     refine⟨G1+G2,t::x++y,?_⟩;have e1:(match dx ay t with|none=>none|some b=>cJ ay (G1+G2) n b)=some x:=by rw[hb];exact oU (by omega) hx
     have e2:kO (λt=>match dx ay t with|none=>none|some b=>cJ ay (G1+G2) n b) r=some y:=by
      refine lD (λt x ht=>?_) r y hy
      cases hb2:dx ay t with
      | none=>rw[hb2] at ht;cases ht
      | some b=>rw[hb2] at ht;exact oU (by omega) ht
     unfold kO;rw[e1,e2]
  obtain⟨G2,res,aG⟩:=key names kn;refine⟨G+G2,res,?_⟩;unfold cJ;rw[nG (by omega) hc];dsimp only;refine lD (λt x ht=>?_) names res aG
  cases hb2:dx ay t with
  | none=>rw[hb2] at ht;cases ht
  | some b=>rw[hb2] at ht;exact oU (by omega) ht
def bq (s:St)(t:Tok):Prop:=s.aA t=true
structure iZ (s:St):Prop where
 g:cC s
 d:∀d∈s.ay,∃g,wb (bq s) g false d.body
 st:s.e=0->s.steps<=2000
theorem xI {s s':St}(h:s'.ay=s.ay){t:Tok}:bq s' t<->bq s t:=by
 unfold bq St.aA St.find;rw[h]
theorem zH {ay defs':List Def}(h:defs'.map Def.name=ay.map Def.name)(t:Tok):(defs'.findIdx? (λd=>d.name==t)).isSome=(ay.findIdx? (λd=>d.name==t)).isSome:=by
 have e:∀l:List Def,(l.findIdx? (λd=>d.name==t)).isSome=(l.map Def.name).any (· == t):=by
  intro l
  induction l with
  | nil=>rfl
  | cons x l ih=>
   rw[List.findIdx?_cons]
   cases hx:(x.name==t) with
   | true=>simp[hx]
   | false=>simp[hx] at ih ⊢;rw[<-ih]
 rw[e,e,h]
theorem zI {s:St}{t:Tok}(h:bq s t):lG s.ay t:=by
 unfold bq St.aA St.find at h;unfold lG
 cases hf:s.ay.findIdx? (λd=>d.name==t) with
 | none=>rw[hf] at h;cases h
 | some k=>
  obtain⟨h1,h2,_⟩:=List.findIdx?_eq_some_iff_getElem.1 hf;rw[List.find?_isSome];exact⟨_,List.getElem_mem h1,h2⟩
theorem BJ {ay:List Def}{k:Nat}{d':Def}(hk:k<ay.length)(hn:d'.name=ay[k].name){t:Tok}(h:lG ay t):lG (ay.set k d') t:=by
 unfold lG at h ⊢;rw[List.find?_isSome] at h ⊢;obtain⟨d,hd,ht⟩:=h;obtain⟨i,hi,rfl⟩:=List.mem_iff_getElem.1 hd;by_cases hik:i=k
 ·subst hik;exact⟨d',by rw[List.mem_iff_getElem];exact⟨i,by simpa using hi,by simp⟩,by rw[hn];exact ht⟩
 ·exact⟨ay[i],by rw[List.mem_iff_getElem];exact⟨i,by simpa using hi,by rw[List.getElem_set_ne (by omega)]⟩,ht⟩
theorem Ep {ay:List Def}{k:Nat}{d':Def}(hk:k<ay.length)(hn:d'.name=ay[k].name):(ay.set k d').map Def.name=ay.map Def.name:=by
 rw[List.map_set,hn];have:(ay.map Def.name)[k]'(by simpa using hk)=ay[k].name:=by simp
 rw[<-this,List.set_getElem_self]
theorem zJ {s:St}(h:iZ s){k:Nat}(hk:k<s.ay.length):∃G s',s.count G k=some s'/\iZ s'/\(∀t,bq s' t<->bq s t):=by
 have jK:∀(d':Def),d'.name=s.ay[k].name->d'.body=s.ay[k].body->iZ {s with ay:=s.ay.set k d'}/\(∀t,bq {s with ay:=s.ay.set k d'} t<->bq s t):=by
  intro d' hn hb;have hkn:∀t,bq {s with ay:=s.ay.set k d'} t<->bq s t:=by
   intro t;unfold bq St.aA St.find;dsimp only;rw[zH (Ep hk hn)]
  have hg:=h.g;refine⟨⟨⟨hg.g,hg.s0,hg.s1,hg.s2,hg.d0,hg.d1,hg.b0,hg.b1,oO hg hk hb⟩,λd hd=>?_,h.st⟩,hkn⟩;have:∃d0∈s.ay,d0.body=d.body:=by
   rcases List.mem_or_eq_of_mem_set hd with h1|h1
   ·exact⟨d,h1,rfl⟩
   ·exact⟨s.ay[k],List.getElem_mem hk,by rw[h1,hb]⟩
  obtain⟨d0,hd0,e⟩:=this;obtain⟨g,hg⟩:=h.d d0 hd0;exact⟨g,by rw[<-e];exact cm (λt ht=>(hkn t).2 ht) _ _ _ hg⟩
 by_cases hf:s.ay[k].bF=true
 ·refine⟨0,s,?_,h,λ_=>Iff.rfl⟩;unfold St.count;rw[List.getElem?_eq_getElem hk];dsimp only;rw[ag hf]
 by_cases hc:wrap64 (s.ay[k].count+1)<s.hot
 ·obtain⟨h1,h2⟩:=jK {s.ay[k] with count:=wrap64 (s.ay[k].count+1)} rfl rfl;refine⟨0,_,?_,h1,h2⟩;unfold St.count;rw[List.getElem?_eq_getElem hk];dsimp only;rw[af hf,ag hc]
 ·obtain⟨gb,hgb⟩:=h.d s.ay[k] (List.getElem_mem hk);have hd2:∀d∈s.ay.set k {s.ay[k] with count:=wrap64 (s.ay[k].count+1),bF:=true},∃g,wb (bq s) g false d.body:=by
   intro d hd;rcases List.mem_or_eq_of_mem_set hd with h1|h1
   ·exact h.d d h1
   ·rw[h1];exact h.d s.ay[k] (List.getElem_mem hk)
  have hk2:∀t,bq s t->lG (s.ay.set k {s.ay[k] with count:=wrap64 (s.ay[k].count+1),bF:=true}) t:=λt ht=>BJ (d':={s.ay[k] with count:=wrap64 (s.ay[k].count+1),bF:=true}) hk rfl (zI ht);obtain⟨G,bs,hbs⟩:=yo hk2 hd2 s.built.toNat false gb s.ay[k].body hgb;obtain⟨h1,h2⟩:=jK {s.ay[k] with count:=wrap64 (s.ay[k].count+1),bF:=true,built:=bs} rfl rfl;refine⟨G,_,?_,h1,h2⟩;unfold St.count;rw[List.getElem?_eq_getElem hk];dsimp only;rw[af hf,af hc,hbs]
theorem Tryz.GQ:laidOutB prog=true:=by kernel_rfl
theorem Tryz.TP:(284:TypeId)<prog.types.size:=of_decide_eq_true (by kernel_rfl)
theorem Tryz.TQ:(match prog.underlying 284 with|some (.array _ _)|some (.struct _)=>true|_=>false)=true:=by kernel_rfl
theorem Tryz.PE:prog.keyTypeAt 2 284=true:=by kernel_rfl
theorem Tryz.BK:Maps.Keyed prog 284:=Maps.Keyed.of_law (deep_law_laid Tryz.GQ (m:=2) (by omega) Tryz.TP Tryz.PE Tryz.TQ)
theorem Tryz.TR:prog.keyType 284=true:=by kernel_rfl
theorem Tryz.GR:prog.cellsOf 284=2:=by kernel_rfl
theorem Tryz.GS:prog.cellsOf 9=1:=by kernel_rfl
theorem Tryz.GU:prog.cellsOf 3=1:=by kernel_rfl
abbrev ja (nm:ByteArray)(lf:Int):Value:=.agg #[.string nm,.int .i64 lf]
theorem Tryz.Lg : ∃fs : Array Field, prog.underlying 284=some (.struct fs) ∧ fs.toList.map (λf => (f.type, f.offset))=[(9, 0), (3, 1)] ∧ (fs.all (·.name != "_"))=true := ⟨_, underlying284, by kernel_rfl, by kernel_rfl⟩
theorem Tryz.PF:∃n,prog.types.size+1=n+1+1:=⟨prog.types.size-1,by have:=Tryz.TP;have h:0<prog.types.size:=Nat.lt_of_le_of_lt (Nat.zero_le _) this;omega⟩
theorem C4 (nm:ByteArray)(hs:nm.size<=maxLen)(lf:Int)(hl:(Lit.int .i64 lf).wf=true):∃kl,keyOf prog 284 (ja nm lf)=some kl:=by
 obtain⟨fs,hu,hf,hb⟩:=Tryz.Lg;obtain⟨n,hn⟩:=Tryz.PF;obtain⟨f1,f2,hfs,e1,e2,e3,e4⟩:∃f1 f2:Field,fs.toList=[f1,f2]/\f1.type=9/\f1.offset=0/\f2.type=3/\f2.offset=1:=by
  generalize fs.toList=l at hf
  match l,hf with
  | [],hf=>cases hf
  | [_],hf=>simp at hf
  | [f1,f2],hf=>
   simp at hf;exact⟨f1,f2,rfl,hf.1.1,hf.1.2,hf.2.1,hf.2.2⟩
  | _::_::_::_,hf=>simp at hf
 have hform:(ja nm lf).formed prog 284=true:=by simp[Value.formed,hu,Tryz.GR]
 unfold keyOf;rw[hu];simp only[Tryz.TR,hform,Bool.and_self,if_true];rw[hn];unfold Program.keyLits;rw[hu];have hc:(ja nm lf).cells.toList=[.string nm,.int .i64 lf]:=rfl;rw[hc];simp only[Tryz.GR,hb,aq,List.length_nil,and_self,if_true,hfs,List.mapM_cons,List.mapM_nil,e1,e2,e3,e4,Tryz.GS,Tryz.GU];unfold Program.keyLits;rw[underlying9,underlying3];simp[hs,hl]
theorem Lh {nm sV:ByteArray}{lf Li:Int}{kl:Lit}(h:keyOf prog 284 (ja nm lf)=some kl)(h':keyOf prog 284 (ja sV Li)=some kl):nm=sV/\lf=Li:=by
 have:=Tryz.BK.inj h h';simp at this;exact this
theorem zK {α:Type}:∀(l m:List α),l.Pairwise (· ≠ ·)->(∀x∈l,x∈m)->l.length<=m.length
 | [],_,_,_=>Nat.zero_le _
 | x::l,m,hp,hs=>by
  obtain⟨a,b,rfl⟩:=List.append_of_mem (hs x (by simp));obtain⟨h1,h2⟩:=List.pairwise_cons.1 hp;have:=zK l (a++b) h2 (λy hy=>by
   have h3:=hs y (by simp[hy]);have h4:=h1 y hy;simp only[List.mem_append,List.mem_cons] at h3 ⊢;rcases h3 with h3|h3|h3
   ·exact .inl h3
   ·exact ax h3.symm h4
   ·exact .inr h3)
  simp only[List.length_append,aq] at this ⊢;omega
theorem mH {P:Program}{k:TypeId}{R:Value->Option (DataW Value × List MemPlace)}{w:World}{b n:Nat}{DD:DataW Value}(h:w.ownsMap P k R b n DD)(K:Maps.Keyed P k)(m:List Lit)(hm:∀kl,Maps.has DD kl=true->kl∈m):Maps.size DD<=m.length:=by
 obtain⟨es,rfl,h1,h2⟩:=h.entries K;have:(es.map Prod.fst).length<=m.length:=zK _ _ (List.pairwise_map.2 h1) (λkl hkl=>by
  obtain⟨p,hp,rfl⟩:=List.mem_map.1 hkl;refine hm _ ?_;rw[Maps.has_eq,List.any_eq_true];exact⟨p,hp,WideAt.sameKey_self (h2 p hp)⟩)
 rw[Maps.size_eq]
 simpa using this
theorem lH {P:Program}{k:TypeId}{R:Value->Option (DataW Value × List MemPlace)}{w:World}{b n:Nat}{DD:DataW Value}(h:w.ownsMap P k R b n DD):w.ownsMap P k R b (Maps.size DD) DD:=by
 obtain⟨es,clock,h1,h2,h3,rfl⟩:=h;refine⟨es,clock,h1,h2,?_,rfl⟩;simp[Maps.size,length_sorted]
end
end Go.Proofs.YteainaiebcphlaaGreatDoor
