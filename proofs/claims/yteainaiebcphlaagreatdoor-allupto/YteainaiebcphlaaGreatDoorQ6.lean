import Derived.Test.YteainaiebcphlaaGreatDoorQ5
import Derived.Test.YteainaiebcphlaaGreatDoorQ4
import Derived.Lib.ParseIntBCases
namespace Go.Proofs.YteainaiebcphlaaGreatDoor
set_option maxRecDepth 1000000
set_option maxHeartbeats 4000000
set_option linter.all false
open Go.Proofs.Tryz
section
open Go.RowKit
theorem Sk (w:World)(D:Nat->Prop)(xb rb:Nat)(m:MS)(rs:List Int)(act:Value)(hact:bB (BD D w) 0 act)(h:aW w xb rb m rs.reverse)(ry:m.out.size<=300)(ql:∀a∈rs,In a):
  bp act (pt rb) w λe w'=>e=.returned (.int .i64 (A2 m.mem m.out rs).e)/\bL w w' xb rb m (A2 m.mem m.out rs):=by
 obtain⟨fb,rfl,_,hf⟩:=hact;refine⟨_,_,_,rfl,qi,?_⟩
 match rs,h with
 | [],h=>exact oC w xb rb _ _ _ h (by simp)
 | [_],h=>exact oC w xb rb _ _ _ h (by simp)
 | b::a::r,h=>exact Rq w xb rb _ _ b a r h hf
theorem Sl (w:World)(D:Nat->Prop)(xb rb:Nat)(m:MS)(rs:List Int)(act:Value)(hact:bB (BD D w) 1 act)(h:aW w xb rb m rs.reverse)(ry:m.out.size<=300)(ql:∀a∈rs,In a):
  bp act (pt rb) w λe w'=>e=.returned (.int .i64 (A3 m.mem m.out rs).e)/\bL w w' xb rb m (A3 m.mem m.out rs):=by
 obtain⟨fb,rfl,_,hf⟩:=hact;refine⟨_,_,_,rfl,qi,?_⟩
 match rs,h with
 | [],h=>exact oC w xb rb _ _ _ h (by simp)
 | [_],h=>exact oC w xb rb _ _ _ h (by simp)
 | b::a::r,h=>exact Rs w xb rb _ _ b a r h hf
theorem Sm (w:World)(D:Nat->Prop)(xb rb:Nat)(m:MS)(rs:List Int)(act:Value)(hact:bB (BD D w) 2 act)(h:aW w xb rb m rs.reverse)(ry:m.out.size<=300)(ql:∀a∈rs,In a):
  bp act (pt rb) w λe w'=>e=.returned (.int .i64 (A4 m.mem m.out rs).e)/\bL w w' xb rb m (A4 m.mem m.out rs):=by
 obtain⟨fb,rfl,_,hf⟩:=hact;refine⟨_,_,_,rfl,qi,?_⟩
 match rs,h with
 | [],h=>exact oC w xb rb _ _ _ h (by simp)
 | [_],h=>exact oC w xb rb _ _ _ h (by simp)
 | b::a::r,h=>exact Rt w xb rb _ _ b a r h hf
theorem Sn (w:World)(D:Nat->Prop)(xb rb:Nat)(m:MS)(rs:List Int)(act:Value)(hact:bB (BD D w) 3 act)(h:aW w xb rb m rs.reverse)(ry:m.out.size<=300)(ql:∀a∈rs,In a):
  bp act (pt rb) w λe w'=>e=.returned (.int .i64 (vO m.mem m.out rs).e)/\bL w w' xb rb m (vO m.mem m.out rs):=by
 obtain⟨fb,rfl,_,hf⟩:=hact;refine⟨_,_,_,rfl,DI,?_⟩
 match rs,h with
 | [],h=>exact Dz w xb rb _ _ _ h (by simp)
 | [_],h=>exact Dz w xb rb _ _ _ h (by simp)
 | b::a::r,h=>
  simp only[vO];by_cases hb:b=0
  ·subst hb;rw[ag rfl];exact DA w xb rb _ _ a r h
  ·rw[af hb];exact Ru w xb rb _ _ b a r h hf hb
theorem Sp (w:World)(D:Nat->Prop)(xb rb:Nat)(m:MS)(rs:List Int)(act:Value)(hact:bB (BD D w) 4 act)(h:aW w xb rb m rs.reverse)(ry:m.out.size<=300)(ql:∀a∈rs,In a):
  bp act (pt rb) w λe w'=>e=.returned (.int .i64 (vP m.mem m.out rs).e)/\bL w w' xb rb m (vP m.mem m.out rs):=by
 obtain⟨fb,rfl,_,hf⟩:=hact;refine⟨_,_,_,rfl,DI,?_⟩
 match rs,h with
 | [],h=>exact Dz w xb rb _ _ _ h (by simp)
 | [_],h=>exact Dz w xb rb _ _ _ h (by simp)
 | b::a::r,h=>
  simp only[vP];by_cases hb:b=0
  ·subst hb;rw[ag rfl];exact DA w xb rb _ _ a r h
  ·rw[af hb];exact Rv w xb rb _ _ b a r h hf hb
theorem W6 (w:World)(D:Nat->Prop)(xb rb:Nat)(m:MS)(rs:List Int)(act:Value)(hact:bB (BD D w) 5 act)(h:aW w xb rb m rs.reverse)(ry:m.out.size<=300)(ql:∀a∈rs,In a):
  bp act (pt rb) w λe w'=>e=.returned (.int .i64 (J0 m.mem m.out rs).e)/\bL w w' xb rb m (J0 m.mem m.out rs):=by
 obtain⟨fb,rfl,_,hf⟩:=hact;refine⟨_,_,_,rfl,qi,?_⟩
 match rs,h with
 | [],h=>exact oC w xb rb _ _ _ h (by simp)
 | [_],h=>exact oC w xb rb _ _ _ h (by simp)
 | b::a::r,h=>exact Wl w xb rb _ _ b a r h hf
theorem W7 (w:World)(D:Nat->Prop)(xb rb:Nat)(m:MS)(rs:List Int)(act:Value)(hact:bB (BD D w) 6 act)(h:aW w xb rb m rs.reverse)(ry:m.out.size<=300)(ql:∀a∈rs,In a):
  bp act (pt rb) w λe w'=>e=.returned (.int .i64 (J1 m.mem m.out rs).e)/\bL w w' xb rb m (J1 m.mem m.out rs):=by
 obtain⟨fb,rfl,_,hf⟩:=hact;refine⟨_,_,_,rfl,qi,?_⟩
 match rs,h with
 | [],h=>exact oC w xb rb _ _ _ h (by simp)
 | [_],h=>exact oC w xb rb _ _ _ h (by simp)
 | b::a::r,h=>exact Wm w xb rb _ _ b a r h hf
theorem Sq (w:World)(D:Nat->Prop)(xb rb:Nat)(m:MS)(rs:List Int)(act:Value)(hact:bB (BD D w) 7 act)(h:aW w xb rb m rs.reverse)(ry:m.out.size<=300)(ql:∀a∈rs,In a):
  bp act (pt rb) w λe w'=>e=.returned (.int .i64 (vQ m.mem m.out rs).e)/\bL w w' xb rb m (vQ m.mem m.out rs):=by
 obtain⟨cb,b0,pv,rfl,⟨_,hc⟩,⟨_,hpb⟩,nY⟩:=hact;have hpv:=nY.row;refine⟨_,_,_,rfl,qj,?_⟩
 match rs,h with
 | [],h=>exact iD w xb rb _ _ _ _ 1 h hc (by simp) (by decide)
 | a::r,h=>
  have hl:=h.len;simp only[au,aq] at hl;refine(WZ w xb rb _ _ _ r.reverse [a] [0,0] _ (by simpa using h) (by simp) (by simp) hc hpb hpv (by decide) (by decide)).mono ?_;rintro e w2 ⟨hp1,hp2⟩;simp only[vQ];by_cases hr:r.length<31
  ·rw[ag hr];have:=hp1 (by simp;omega);simpa [fQ] using this
  ·rw[af hr];exact hp2 (by simp;omega)
theorem NS (w:World)(D:Nat->Prop)(xb rb:Nat)(m:MS)(rs:List Int)(act:Value)(hact:bB (BD D w) 8 act)(h:aW w xb rb m rs.reverse)(ry:m.out.size<=300)(ql:∀a∈rs,In a):
  bp act (pt rb) w λe w'=>e=.returned (.int .i64 (rq m.mem m.out rs).e)/\bL w w' xb rb m (rq m.mem m.out rs):=by
 obtain⟨cb,b0,pv,rfl,⟨_,hc⟩,⟨_,hpb⟩,nY⟩:=hact;have hpv:=nY.row;refine⟨_,_,_,rfl,qj,?_⟩
 match rs,h with
 | [],h=>exact iD w xb rb _ _ _ _ 1 h hc (by simp) (by decide)
 | a::r,h=>
  have hl:=h.len;simp only[au,aq] at hl;refine(WZ w xb rb _ _ _ r.reverse [a] [] _ (by simpa using h) (by simp) (by simp) hc hpb hpv (by decide) (by decide)).mono ?_;rintro e w2 ⟨hp1,_⟩;have:=hp1 (by simp;omega)
  simpa [fQ,rq] using this
theorem NT (w:World)(D:Nat->Prop)(xb rb:Nat)(m:MS)(rs:List Int)(act:Value)(hact:bB (BD D w) 9 act)(h:aW w xb rb m rs.reverse)(ry:m.out.size<=300)(ql:∀a∈rs,In a):
  bp act (pt rb) w λe w'=>e=.returned (.int .i64 (ru m.mem m.out rs).e)/\bL w w' xb rb m (ru m.mem m.out rs):=by
 obtain⟨cb,b0,pv,rfl,⟨_,hc⟩,⟨_,hpb⟩,nY⟩:=hact;have hpv:=nY.row;refine⟨_,_,_,rfl,qj,?_⟩
 match rs,h with
 | [],h=>exact iD w xb rb _ _ _ _ 2 h hc (by simp) (by decide)
 | [_],h=>exact iD w xb rb _ _ _ _ 2 h hc (by simp) (by decide)
 | b::a::r,h=>
  have hl:=h.len;simp only[au,aq] at hl;refine(WZ w xb rb _ _ _ r.reverse [a,b] [1,0] _ (by simpa using h) (by simp) (by simp) hc hpb hpv (by decide) (by decide)).mono ?_;rintro e w2 ⟨hp1,_⟩;have:=hp1 (by simp;omega)
  simpa [fQ,ru] using this
theorem NU (w:World)(D:Nat->Prop)(xb rb:Nat)(m:MS)(rs:List Int)(act:Value)(hact:bB (BD D w) 10 act)(h:aW w xb rb m rs.reverse)(ry:m.out.size<=300)(ql:∀a∈rs,In a):
  bp act (pt rb) w λe w'=>e=.returned (.int .i64 (pE m.mem m.out rs).e)/\bL w w' xb rb m (pE m.mem m.out rs):=by
 obtain⟨cb,b0,pv,rfl,⟨_,hc⟩,⟨_,hpb⟩,nY⟩:=hact;have hpv:=nY.row;refine⟨_,_,_,rfl,qj,?_⟩
 match rs,h with
 | [],h=>exact iD w xb rb _ _ _ _ 2 h hc (by simp) (by decide)
 | [_],h=>exact iD w xb rb _ _ _ _ 2 h hc (by simp) (by decide)
 | b::a::r,h=>
  have hl:=h.len;simp only[au,aq] at hl;refine(WZ w xb rb _ _ _ r.reverse [a,b] [0,1,0] _ (by simpa using h) (by simp) (by simp) hc hpb hpv (by decide) (by decide)).mono ?_;rintro e w2 ⟨hp1,hp2⟩;simp only[pE];by_cases hr:r.length<30
  ·rw[ag hr];have:=hp1 (by simp;omega);simpa [fQ] using this
  ·rw[af hr];exact hp2 (by simp;omega)
theorem Sr (w:World)(D:Nat->Prop)(xb rb:Nat)(m:MS)(rs:List Int)(act:Value)(hact:bB (BD D w) 11 act)(h:aW w xb rb m rs.reverse)(ry:m.out.size<=300)(ql:∀a∈rs,In a):
  bp act (pt rb) w λe w'=>e=.returned (.int .i64 (x7 m.mem m.out rs).e)/\bL w w' xb rb m (x7 m.mem m.out rs):=by
 obtain⟨cb,b0,pv,rfl,⟨_,hc⟩,⟨_,hpb⟩,nY⟩:=hact;have hpv:=nY.row;refine⟨_,_,_,rfl,qj,?_⟩
 match rs,h with
 | [],h=>exact iD w xb rb _ _ _ _ 3 h hc (by simp) (by decide)
 | [_],h=>exact iD w xb rb _ _ _ _ 3 h hc (by simp) (by decide)
 | [_,_],h=>exact iD w xb rb _ _ _ _ 3 h hc (by simp) (by decide)
 | c::b::a::r,h=>
  have hl:=h.len;simp only[au,aq] at hl;refine(WZ w xb rb _ _ _ r.reverse [a,b,c] [1,2,0] _ (by simpa using h) (by simp) (by simp) hc hpb hpv (by decide) (by decide)).mono ?_;rintro e w2 ⟨hp1,_⟩;have:=hp1 (by simp;omega)
  simpa [fQ,x7] using this
theorem Ss (B:Nat)(W:World)(w:World)(D:Nat->Prop)(xb rb:Nat)(m:MS)(rs:List Int)(act:Value)(hact:bB (BD D w) 12 act)(h:aW w xb rb m rs.reverse)(ho:m.out.size<=300)(hin:∀a∈rs,In a)(hS:xe B W w xb rb m)(hG:Q5 B W):
  bp act (pt rb) w λe w'=>e=.returned (.int .i64 (A5 m.mem m.out rs).e)/\bL w w' xb rb m (A5 m.mem m.out rs):=by
 obtain⟨fb,rfl,_,hf⟩:=hact;refine⟨_,_,_,rfl,DJ,?_⟩
 match rs,h,hin with
 | [],h,_=>exact JA w xb rb _ _ _ h (by simp)
 | a::r,h,hin=>
  have ha:=hin a (by simp);exact R8 B W w xb rb _ _ a r h hf ho ha.1 ha.2 hS hG
theorem NV (w:World)(D:Nat->Prop)(xb rb:Nat)(m:MS)(rs:List Int)(act:Value)(hact:bB (BD D w) 13 act)(h:aW w xb rb m rs.reverse)(ho:m.out.size<=300)(ql:∀a∈rs,In a):
  bp act (pt rb) w λe w'=>e=.returned (.int .i64 (vR m.mem m.out rs).e)/\bL w w' xb rb m (vR m.mem m.out rs):=by
 obtain⟨fb,rfl,_,hf⟩:=hact;refine⟨_,_,_,rfl,DJ,?_⟩
 match rs,h with
 | [],h=>exact JA w xb rb _ _ _ h (by simp)
 | a::r,h=>exact NJ w xb rb _ _ a r h hf ho
theorem J9 (w:World)(D:Nat->Prop)(xb rb:Nat)(m:MS)(rs:List Int)(act:Value)(hact:bB (BD D w) 14 act)(h:aW w xb rb m rs.reverse)(ry:m.out.size<=300)(ql:∀a∈rs,In a):
  bp act (pt rb) w λe w'=>e=.returned (.int .i64 (lN m.mem m.out rs).e)/\bL w w' xb rb m (lN m.mem m.out rs):=by
 have hact:act=_:=hact;subst hact;refine⟨_,_,_,rfl,NL,?_⟩
 match rs,h with
 | [],h=>exact Wn w xb rb _ _ h (by simp)
 | a::r,h=>
  simp only[lN];by_cases hr:0<=a/\a<16
  ·rw[ag hr];exact Wo w xb rb _ a r h hr.1 hr.2
  ·rw[af hr];exact Wp w xb rb _ a r h hr
theorem Ka (w:World)(D:Nat->Prop)(xb rb:Nat)(m:MS)(rs:List Int)(act:Value)(hact:bB (BD D w) 15 act)(h:aW w xb rb m rs.reverse)(ry:m.out.size<=300)(ql:∀a∈rs,In a):
  bp act (pt rb) w λe w'=>e=.returned (.int .i64 (lQ m.mem m.out rs).e)/\bL w w' xb rb m (lQ m.mem m.out rs):=by
 have hact:act=_:=hact;subst hact;refine⟨_,_,_,rfl,NM,?_⟩
 match rs,h with
 | [],h=>exact O4 w xb rb _ _ h (by simp)
 | [_],h=>exact O4 w xb rb _ _ h (by simp)
 | b::a::r,h=>
  simp only[lQ];by_cases hr:0<=b/\b<16
  ·rw[ag hr];exact Wq w xb rb _ b a r h hr.1 hr.2
  ·rw[af hr];exact Ws w xb rb _ b a r h hr
theorem aaf (B:Nat)(W:World)(w:World)(D:Nat->Prop)(xb rb:Nat)(m:MS)(rs:List Int)(j:Nat)(act:Value)(hact:bB (BD D w) j act)(h:aW w xb rb m rs.reverse)(ho:m.out.size<=300)(hin:∀a∈rs,In a)(hS:xe B W w xb rb m)(hG:Q5 B W):
  bp act (pt rb) w λe w'=>e=.returned (.int .i64 (jI j rs m.mem m.out).e)/\bL w w' xb rb m (jI j rs m.mem m.out):=by
 match j,hact with
 | 0,hact=>exact Sk w D xb rb m rs act hact h ho hin
 | 1,hact=>exact Sl w D xb rb m rs act hact h ho hin
 | 2,hact=>exact Sm w D xb rb m rs act hact h ho hin
 | 3,hact=>exact Sn w D xb rb m rs act hact h ho hin
 | 4,hact=>exact Sp w D xb rb m rs act hact h ho hin
 | 5,hact=>exact W6 w D xb rb m rs act hact h ho hin
 | 6,hact=>exact W7 w D xb rb m rs act hact h ho hin
 | 7,hact=>exact Sq w D xb rb m rs act hact h ho hin
 | 8,hact=>exact NS w D xb rb m rs act hact h ho hin
 | 9,hact=>exact NT w D xb rb m rs act hact h ho hin
 | 10,hact=>exact NU w D xb rb m rs act hact h ho hin
 | 11,hact=>exact Sr w D xb rb m rs act hact h ho hin
 | 12,hact=>exact Ss B W w D xb rb m rs act hact h ho hin hS hG
 | 13,hact=>exact NV w D xb rb m rs act hact h ho hin
 | 14,hact=>exact J9 w D xb rb m rs act hact h ho hin
 | 15,hact=>exact Ka w D xb rb m rs act hact h ho hin
 | _+16,hact=>exact hact.elim
theorem Kb (M:Nat)(hM:1000000000000000000<=M):∀(l:List UInt8) (acc:Nat),l.all qX=true->(acc+1)*10 ^ l.length<=1000000000000000000->Lib.parseUintM M acc l=.ok (l.foldl (λn c=>10*n+(c.toNat-48)) acc)
 | [],acc,_,_=>rfl
 | c::r,acc,h,hb=>by
  simp only[List.all_cons,Bool.and_eq_true] at h;have hd:=of_decide_eq_true h.1;have hp:1<=10 ^ r.length:=Nat.one_le_pow _ _ (by decide);rw[aq,Nat.pow_succ] at hb;have h10:(acc+1)*10*10 ^ r.length<=1000000000000000000:=by rw[Nat.mul_assoc,Nat.mul_comm 10];exact hb
  have hle:(acc+1)*10<=(acc+1)*10*10 ^ r.length:=Nat.le_mul_of_pos_right _ hp;have hnext:(acc*10+(c.toNat-48)+1)*10 ^ r.length<=1000000000000000000:=ai (Nat.mul_le_mul_right _ (by omega)) h10;rw[Lib.parseUintM,ag hd,af (by omega),af (by omega),Kb M hM r _ h.2 hnext,List.foldl_cons,Nat.mul_comm 10 acc]
theorem qm {r:List UInt8}(h:cE r=true):Lib.parseUintB 64 r=.ok (jq r):=by
 simp only[cE,Bool.and_eq_true,decide_eq_true_eq] at h;unfold Lib.parseUintB;rw[af (by intro e;subst e;simp at h),Kb _ (by decide) r 0 h.2 (by have:=qg h.1.2;omega)];rfl
theorem vT {r:List UInt8}(h:cE r=true):jq r<1000000000000000000:=by
 simp only[cE,Bool.and_eq_true,decide_eq_true_eq] at h;have h1:=qf r h.2;have h2:=qg h.1.2;omega
theorem FI {l:List UInt8}{n:Int}(h:bA l=some n):Lib.parseIntB 64 l=.ok n:=by
 cases l with
 | nil=>simp[bA] at h
 | cons c r=>
  simp only[bA] at h
  split at h
  ·rename_i hc
   split at h
   ·rename_i hd
    injection h with h;have:=vT hd;rw[hc,Lib.parseIntB_minus,qm hd,Lib.signedC,af (by simp;omega),h]
   ·cases h
  ·rename_i hc
   split at h
   ·rename_i hd
    injection h with h;have hs:=vT hd;have h1:qX c=true:=by
     simp only[cE,Bool.and_eq_true,List.all_cons] at hd;exact hd.2.1
    have h2:=of_decide_eq_true h1;rw[Lib.parseIntB_plain 64 c r (by omega) (by omega),qm hd,Lib.signlessC,af (by simp;omega),h]
   ·cases h
theorem Kc (w:World)(t:ByteArray):Kp w (Lib.bytesWorld w 5 t) (λ_=>False):=by
 unfold Lib.bytesWorld World.freeze;rw[af (by decide)];refine⟨rfl,rfl,rfl,?_,λk hk _=>?_⟩
 ·simp
 ·show(Array.modify _ _ _)[k]? = _;rw[Array.getElem?_modify,af (by simp;omega)];exact Below.heap_alloc w.drew _ k hk
theorem Gs (s:ByteArray)(n:Int)(w:World)(h:bA s.toList=some n)(hs:s.size<=1000):
  Calls prog 70 #[.string s] w λe w'=>e=.returned (.int .i64 n)/\Kp w w' (λ_=>False):=by
 have hP:=Tryz.strconv_ParseInt_10_at64_ok s (by omega) n (FI (by rw[<-ByteArray.toList_eq];exact h)) w;have HP:=az hP;clear hP h;go_enter func70,ntmps70
 go_wp2_with fail
 refine HP.out.mono ?_;rintro e w1 ⟨rfl,hw⟩;have hk:Kp w w1 (λ_=>False):=by
  rcases hw with hw|⟨t,hw⟩
  ·subst hw;exact Kp.refl _ _
  ·subst hw;exact Kc w t
 clear hw;go_wp2;go_ret;exact⟨rfl,hk⟩
theorem FJ (c:UInt8)(r:List UInt8):Lib.trimPrefix (c::r) [45]=if c=45 then r else c::r:=by
 by_cases hc:c=45
 ·subst hc;rw[ag rfl];simp[Lib.trimPrefix,Lib.hasPrefix]
 ·rw[af hc];have h:Lib.hasPrefix (c::r) [45]=false:=by
   show List.isPrefixOf [45] (c::r)=false;simp[List.isPrefixOf,Ne.symm hc]
  unfold Lib.trimPrefix;rw[h];rfl
theorem Kf (l:List UInt8):(bA l).isSome=cE (Lib.trimPrefix l [45]):=by
 cases l with
 | nil=>rfl
 | cons c r=>
  rw[FJ];simp only[bA];by_cases hc:c=45
  ·rw[ag hc,ag hc]
   cases cE r <;> rfl
  ·rw[af hc,af hc]
   cases cE (c::r) <;> rfl
theorem Su (s:ByteArray)(w:World)(hs:s.size<=1000):
  Calls prog 93 #[.string s] w λe w'=>e=.returned (.bool (bA s.toList).isSome)/\w'=w:=by
 rw[ByteArray.toList_eq,Kf];obtain⟨d,hd⟩:∃d:ByteArray,d=⟨(Lib.trimPrefix s.data.toList [45]).toArray⟩:=⟨_,rfl⟩;have hdl:Lib.trimPrefix s.data.toList [45]=d.data.toList:=by rw[hd]
 rw[hdl];have hdz:d.size<=1000:=by
  have h1:(Lib.trimPrefix s.data.toList [45]).length<=s.data.toList.length:=by unfold Lib.trimPrefix;split <;> simp
  have h2:d.data.toList.length=d.size:=rfl;have h3:s.data.toList.length=s.size:=rfl;rw[hdl] at h1;omega
 have hC:=Tryz.strings_TrimPrefix s ⟨#[45]⟩ w;have HC:Hid (Calls prog 145 #[.string s,.string ⟨#[45]⟩] w λe w'=>e=.returned (.string d)/\w'=w):=by rw[hd];exact hC
 clear hC hd hdl;go_enter func93,ntmps93
 go_wp2_with fail
 refine HC.out.mono ?_;rintro e w' ⟨rfl,hw⟩;rw[hw];clear hw;by_cases hsz:1<=d.size/\d.size<=18
 ·obtain⟨hz1,hz2⟩:=hsz;go_wp2
  go_loop [17] (λi=>∃k:Nat,k<=d.size/\i=.int .i64 k/\(d.data.toList.take k).all qX=true) (λi=>d.size-(intOf i).toNat)
  case atStart=>exact⟨0,Nat.zero_le _,rfl,rfl⟩
  case round=>
   obtain⟨k,hk,rfl,hall⟩:=hrel;have HA:=az hall;clear hall;by_cases hlt:k<d.size
   ·by_cases hok:48<=d[k].toNat/\d[k].toNat<=57
    ·obtain⟨Ge,og⟩:=hok;go_wp2
     go_round
     case rel=>exact⟨k+1,by omega,by go_num,by rw[ie d k hlt,List.all_append,HA.out];simp[qX,Ge,og]⟩
     case measure=>simp[intOf];omega
    ·have HB:Hid (cE d.data.toList=false):=mV (l:=d.data.toList) (k:=k) hlt (decide_eq_false hok);rcases (show d[k].toNat<48\/(48<=d[k].toNat/\57<d[k].toNat) by omega) with h1|⟨h1,h2⟩
     all_goals
      clear hok;go_wp2;go_ret;exact⟨by rw[HB.out];rfl,rfl⟩
   ·have HB:Hid (cE d.data.toList=true):=by
     have h1:=HA.out;rw[List.take_of_length_le (by show d.data.size<=k;exact Nat.le_of_not_lt hlt)] at h1;unfold Hid cE;have h2:d.data.toList.length=d.size:=rfl;rw[h1,h2];simp[hz1,hz2]
    go_wp2;go_ret;exact⟨by rw[HB.out];rfl,rfl⟩
 ·have HB:Hid (cE d.data.toList=false):=by
   have h2:d.data.toList.length=d.size:=rfl;unfold Hid cE;rw[h2,decide_eq_false hsz];rfl
  rcases (show d.size<1\/(1<=d.size/\18<d.size) by omega) with h1|⟨h1,h2⟩
  all_goals
   clear hsz;go_wp2;go_ret;exact⟨by rw[HB.out];rfl,rfl⟩
def qV:List ByteArray:=[⟨#[]⟩,⟨#[]⟩,⟨#[43]⟩,⟨#[45]⟩,⟨#[42]⟩,⟨#[47]⟩,⟨#[109,111,100]⟩,⟨#[61]⟩,⟨#[60]⟩,⟨#[100,117,112]⟩,⟨#[100,114,111,112]⟩,⟨#[115,119,97,112]⟩,⟨#[111,118,101,114]⟩,⟨#[114,111,116]⟩,⟨#[46]⟩,⟨#[101,109,105,116]⟩,⟨#[64]⟩,⟨#[33]⟩,⟨#[58]⟩,⟨#[59]⟩,⟨#[123]⟩,⟨#[125]⟩,⟨#[105,102]⟩,⟨#[101,108,115,101]⟩,⟨#[116,104,101,110]⟩,⟨#[98,101,103,105,110]⟩,⟨#[117,110,116,105,108]⟩,⟨#[119,104,105,108,101]⟩,⟨#[114,101,112,101,97,116]⟩,⟨#[100,111]⟩,⟨#[108,111,111,112]⟩,⟨#[105]⟩,⟨#[114,101,99,117,114,115,101]⟩,⟨#[101,120,105,116]⟩]
def cG:List (List UInt8):=[[],[]]++(aN++([[58],[59],[123],[125]]++eB))
def bY:Array Value:=#[.string ⟨#[]⟩,.string ⟨#[]⟩,.string ⟨#[43]⟩,.string ⟨#[45]⟩,.string ⟨#[42]⟩,.string ⟨#[47]⟩,.string ⟨#[109,111,100]⟩,.string ⟨#[61]⟩,.string ⟨#[60]⟩,.string ⟨#[100,117,112]⟩,.string ⟨#[100,114,111,112]⟩,.string ⟨#[115,119,97,112]⟩,.string ⟨#[111,118,101,114]⟩,.string ⟨#[114,111,116]⟩,.string ⟨#[46]⟩,.string ⟨#[101,109,105,116]⟩,.string ⟨#[64]⟩,.string ⟨#[33]⟩,.string ⟨#[58]⟩,.string ⟨#[59]⟩,.string ⟨#[123]⟩,.string ⟨#[125]⟩,.string ⟨#[105,102]⟩,.string ⟨#[101,108,115,101]⟩,.string ⟨#[116,104,101,110]⟩,.string ⟨#[98,101,103,105,110]⟩,.string ⟨#[117,110,116,105,108]⟩,.string ⟨#[119,104,105,108,101]⟩,.string ⟨#[114,101,112,101,97,116]⟩,.string ⟨#[100,111]⟩,.string ⟨#[108,111,111,112]⟩,.string ⟨#[105]⟩,.string ⟨#[114,101,99,117,114,115,101]⟩,.string ⟨#[101,120,105,116]⟩]
theorem aa6 (w:World):(Instr.index 142 (.agg bY) (.int .i64 0)).run prog w=.ok (.string ⟨#[]⟩) w:=by kernel_rfl
theorem aa7 (w:World):(Instr.index 142 (.agg bY) (.int .i64 1)).run prog w=.ok (.string ⟨#[]⟩) w:=by kernel_rfl
theorem aa8 (w:World):(Instr.index 142 (.agg bY) (.int .i64 2)).run prog w=.ok (.string ⟨#[43]⟩) w:=by kernel_rfl
theorem aa9 (w:World):(Instr.index 142 (.agg bY) (.int .i64 3)).run prog w=.ok (.string ⟨#[45]⟩) w:=by kernel_rfl
theorem aba (w:World):(Instr.index 142 (.agg bY) (.int .i64 4)).run prog w=.ok (.string ⟨#[42]⟩) w:=by kernel_rfl
theorem abb (w:World):(Instr.index 142 (.agg bY) (.int .i64 5)).run prog w=.ok (.string ⟨#[47]⟩) w:=by kernel_rfl
theorem abc (w:World):(Instr.index 142 (.agg bY) (.int .i64 6)).run prog w=.ok (.string ⟨#[109,111,100]⟩) w:=by kernel_rfl
theorem abe (w:World):(Instr.index 142 (.agg bY) (.int .i64 7)).run prog w=.ok (.string ⟨#[61]⟩) w:=by kernel_rfl
theorem abg (w:World):(Instr.index 142 (.agg bY) (.int .i64 8)).run prog w=.ok (.string ⟨#[60]⟩) w:=by kernel_rfl
theorem abh (w:World):(Instr.index 142 (.agg bY) (.int .i64 9)).run prog w=.ok (.string ⟨#[100,117,112]⟩) w:=by kernel_rfl
theorem W8 (w:World):(Instr.index 142 (.agg bY) (.int .i64 10)).run prog w=.ok (.string ⟨#[100,114,111,112]⟩) w:=by kernel_rfl
theorem W9 (w:World):(Instr.index 142 (.agg bY) (.int .i64 11)).run prog w=.ok (.string ⟨#[115,119,97,112]⟩) w:=by kernel_rfl
theorem Xa (w:World):(Instr.index 142 (.agg bY) (.int .i64 12)).run prog w=.ok (.string ⟨#[111,118,101,114]⟩) w:=by kernel_rfl
theorem Xb (w:World):(Instr.index 142 (.agg bY) (.int .i64 13)).run prog w=.ok (.string ⟨#[114,111,116]⟩) w:=by kernel_rfl
theorem Xc (w:World):(Instr.index 142 (.agg bY) (.int .i64 14)).run prog w=.ok (.string ⟨#[46]⟩) w:=by kernel_rfl
theorem Xd (w:World):(Instr.index 142 (.agg bY) (.int .i64 15)).run prog w=.ok (.string ⟨#[101,109,105,116]⟩) w:=by kernel_rfl
theorem Xe (w:World):(Instr.index 142 (.agg bY) (.int .i64 16)).run prog w=.ok (.string ⟨#[64]⟩) w:=by kernel_rfl
theorem Xf (w:World):(Instr.index 142 (.agg bY) (.int .i64 17)).run prog w=.ok (.string ⟨#[33]⟩) w:=by kernel_rfl
theorem Xg (w:World):(Instr.index 142 (.agg bY) (.int .i64 18)).run prog w=.ok (.string ⟨#[58]⟩) w:=by kernel_rfl
theorem Xh (w:World):(Instr.index 142 (.agg bY) (.int .i64 19)).run prog w=.ok (.string ⟨#[59]⟩) w:=by kernel_rfl
theorem Xi (w:World):(Instr.index 142 (.agg bY) (.int .i64 20)).run prog w=.ok (.string ⟨#[123]⟩) w:=by kernel_rfl
theorem Xj (w:World):(Instr.index 142 (.agg bY) (.int .i64 21)).run prog w=.ok (.string ⟨#[125]⟩) w:=by kernel_rfl
theorem Xk (w:World):(Instr.index 142 (.agg bY) (.int .i64 22)).run prog w=.ok (.string ⟨#[105,102]⟩) w:=by kernel_rfl
theorem Xl (w:World):(Instr.index 142 (.agg bY) (.int .i64 23)).run prog w=.ok (.string ⟨#[101,108,115,101]⟩) w:=by kernel_rfl
theorem Xm (w:World):(Instr.index 142 (.agg bY) (.int .i64 24)).run prog w=.ok (.string ⟨#[116,104,101,110]⟩) w:=by kernel_rfl
theorem Xn (w:World):(Instr.index 142 (.agg bY) (.int .i64 25)).run prog w=.ok (.string ⟨#[98,101,103,105,110]⟩) w:=by kernel_rfl
theorem Xo (w:World):(Instr.index 142 (.agg bY) (.int .i64 26)).run prog w=.ok (.string ⟨#[117,110,116,105,108]⟩) w:=by kernel_rfl
theorem Xp (w:World):(Instr.index 142 (.agg bY) (.int .i64 27)).run prog w=.ok (.string ⟨#[119,104,105,108,101]⟩) w:=by kernel_rfl
theorem Xq (w:World):(Instr.index 142 (.agg bY) (.int .i64 28)).run prog w=.ok (.string ⟨#[114,101,112,101,97,116]⟩) w:=by kernel_rfl
theorem Xr (w:World):(Instr.index 142 (.agg bY) (.int .i64 29)).run prog w=.ok (.string ⟨#[100,111]⟩) w:=by kernel_rfl
theorem Xt (w:World):(Instr.index 142 (.agg bY) (.int .i64 30)).run prog w=.ok (.string ⟨#[108,111,111,112]⟩) w:=by kernel_rfl
theorem Xu (w:World):(Instr.index 142 (.agg bY) (.int .i64 31)).run prog w=.ok (.string ⟨#[105]⟩) w:=by kernel_rfl
theorem Xv (w:World):(Instr.index 142 (.agg bY) (.int .i64 32)).run prog w=.ok (.string ⟨#[114,101,99,117,114,115,101]⟩) w:=by kernel_rfl
theorem Xw (w:World):(Instr.index 142 (.agg bY) (.int .i64 33)).run prog w=.ok (.string ⟨#[101,120,105,116]⟩) w:=by kernel_rfl
theorem FK (k:Nat)(hk:k<34)(w:World):(Instr.index 142 (.agg bY) (.int .i64 (k:Int))).run prog w=.ok (.string (qV.getD k ⟨#[]⟩)) w:=by
 have:k=0\/k=1\/k=2\/k=3\/k=4\/k=5\/k=6\/k=7\/k=8\/k=9\/k=10\/k=11\/k=12\/k=13\/k=14\/k=15\/k=16\/k=17\/k=18\/k=19\/k=20\/k=21\/k=22\/k=23\/k=24\/k=25\/k=26\/k=27\/k=28\/k=29\/k=30\/k=31\/k=32\/k=33:=by omega
 rcases this with rfl|rfl|rfl|rfl|rfl|rfl|rfl|rfl|rfl|rfl|rfl|rfl|rfl|rfl|rfl|rfl|rfl|rfl|rfl|rfl|rfl|rfl|rfl|rfl|rfl|rfl|rfl|rfl|rfl|rfl|rfl|rfl|rfl|rfl
 ·exact aa6 w
 ·exact aa7 w
 ·exact aa8 w
 ·exact aa9 w
 ·exact aba w
 ·exact abb w
 ·exact abc w
 ·exact abe w
 ·exact abg w
 ·exact abh w
 ·exact W8 w
 ·exact W9 w
 ·exact Xa w
 ·exact Xb w
 ·exact Xc w
 ·exact Xd w
 ·exact Xe w
 ·exact Xf w
 ·exact Xg w
 ·exact Xh w
 ·exact Xi w
 ·exact Xj w
 ·exact Xk w
 ·exact Xl w
 ·exact Xm w
 ·exact Xn w
 ·exact Xo w
 ·exact Xp w
 ·exact Xq w
 ·exact Xr w
 ·exact Xt w
 ·exact Xu w
 ·exact Xv w
 ·exact Xw w
theorem Kg:qV.map (λt=>t.toList)=cG:=by simp[qV,cG,aN,eB,ByteArray.toList_eq]
def cL (l:List UInt8):Nat:=(cG.findIdx? (· == l)).getD 0
theorem FM {p:List UInt8->Bool}{L:List (List UInt8)}{k:Nat}(h:∀x∈L.take k,p x=false)(hk:k<L.length)(hp:p L[k]=true):L.findIdx? p=some k:=by
 rw[List.findIdx?_eq_some_iff_getElem];refine⟨hk,hp,λj hj=>?_⟩;have:=h L[j] (by rw[List.mem_take_iff_getElem];exact⟨j,by omega,rfl⟩);rw[this];decide
theorem Tm (s:ByteArray)(w:World)(tt:TypeId)(fr:Nat × Nat)(hs:s.size<=1000)(hg:w.heap[1]? = some (.cells bY tt fr))(R:Int)(hR:R=if (bA s.toList).isSome then 1 else(cL s.toList:Int)):
  Calls prog 67 #[.string s] w λe w'=>e=.returned (.int .i64 R)/\w'=w:=by
 have HR:=az hR;have HG:=az hg;clear hR hg;go_enter func67,ntmps67
 go_wp2_with fail
 refine(Su _ _ hs).mono ?_;rintro e w' ⟨rfl,hw⟩;rw[hw];clear hw
 cases hn:(bA s.toList).isSome
 ·have kH:Hid (R=(cL s.toList:Int)):=by have:=HR.out;rw[hn] at this;exact this
  go_wp2_with (refine wpList_load_row rfl 142 _ rfl 1 rfl tt _ fr _ HG.out underlying142 rfl (by kernel_rfl) ?_)
  go_loop [8] (λi=>∃k:Nat,k<=34/\i=.int .i64 k/\∀x∈cG.take k,(x==s.toList)=false) (λi=>34-(intOf i).toNat)
  case atStart=>exact⟨0,by omega,rfl,by simp⟩
  case round=>
   obtain⟨k,hk,rfl,hno⟩:=hrel;have HN:=az hno;clear hno;by_cases hlt:k<34
   ·have hidx:=FK k hlt;obtain⟨t,ht⟩:∃t,t=qV.getD k ⟨#[]⟩:=⟨_,rfl⟩;rw[<-ht] at hidx;have hkl:k<cG.length:=hlt;have HT:Hid (cG[k]=t.toList):=by
     unfold Hid;have:cG[k]? = some t.toList:=by
      rw[<-Kg,ht];have hw:k<qV.length:=hlt;simp[List.getD,hw]
     rw[List.getElem?_eq_getElem hkl] at this;exact Option.some.inj this
    clear ht
    cases hc:(s.toList==t.toList)
    ·go_wp2
     go_round
     case rel=>
      refine⟨k+1,by omega,by go_num,?_⟩;rw[List.take_succ_eq_append_getElem hkl];intro x hx;rcases List.mem_append.1 hx with h1|h1
      ·exact HN.out x h1
      ·have:x=cG[k]:=by simpa using h1
       rw[this,HT.out];rw[beq_eq_false_iff_ne] at hc ⊢;exact λe=>hc e.symm
     case measure=>simp[intOf];omega
    ·have HF:Hid (R=(k:Int)):=by
      unfold Hid;rw[kH.out];unfold cL;rw[FM HN.out hkl (by rw[HT.out];rw[beq_iff_eq] at hc ⊢;exact hc.symm)];rfl
     go_wp2;go_ret;exact⟨by rw[HF.out];rfl,rfl⟩
   ·have HF:Hid (R=0):=by
     unfold Hid;rw[kH.out];unfold cL;have:cG.findIdx? (· == s.toList)=none:=by
      rw[List.findIdx?_eq_none_iff];intro x hx;exact HN.out x (by rw[List.take_of_length_le (by show 34<=k;omega)];exact hx)
     rw[this];rfl
    go_wp2;go_ret;exact⟨by rw[HF.out];rfl,rfl⟩
 ·have kH:Hid (R=1):=by have:=HR.out;rw[hn] at this;exact this
  go_wp2;go_ret;exact⟨by rw[kH.out];rfl,rfl⟩
end
section
open Go.RowKit
variable {K:Nat->Prop}
def gG (K:Nat->Prop)(w:World):List Def->List Value->Prop
 | [],xs=>xs=[]
 | d::l,xs=>∃nm vb vt rest,xs=.string nm::.int .i64 d.id::vb::.int .i64 d.count::.bool d.bF::vt::rest/\nm.data.toList=d.name/\kZ K w vb d.body/\zQ K w vt d.built/\gG K w l rest
theorem eV {w w':World}(hk:aF (nK K) (nK K) w w'):∀(l:List Def) (xs:List Value),gG K w l xs->gG K w' l xs
 | [],_,h=>h
 | _::l,_,⟨nm,vb,vt,rest,h1,h2,h3,h4,h5⟩=>⟨nm,vb,vt,rest,h1,h2,h3.keep hk,aM hk h4,eV hk l rest h5⟩
theorem uq {w:World}:∀(l l':List Def) (xs xs':List Value),gG K w l xs->gG K w l' xs'->gG K w (l++l') (xs++xs')
 | [],_,_,_,h,h'=>by have h:_=_:=h;subst h;exact h'
 | _::l,l',_,xs',⟨nm,vb,vt,rest,h1,h2,h3,h4,h5⟩,h'=>⟨nm,vb,vt,rest++xs',by rw[h1];rfl,h2,h3,h4,uq l l' rest xs' h5 h'⟩
structure xy (K:Nat->Prop)(w:World)(d:Def)(nm:ByteArray)(vb vt:Value):Prop where
 nm:nm.data.toList=d.name
 body:kZ K w vb d.body
 built:zQ K w vt d.built
theorem six (a0 a1 a2 a3 a4 a5:Value)(rest:List Value)(i j:Nat):(a0::a1::a2::a3::a4::a5::rest)[(i+1)*6+j]? = rest[i*6+j]?:=by
 rw[show(i+1)*6+j=i*6+j+1+1+1+1+1+1 by omega];rfl
theorem nR (a0 a1 a2 a3 a4 a5:Value)(rest:List Value)(i j:Nat)(u:Value):(a0::a1::a2::a3::a4::a5::rest).set ((i+1)*6+j) u=a0::a1::a2::a3::a4::a5::rest.set (i*6+j) u:=by
 rw[show(i+1)*6+j=i*6+j+1+1+1+1+1+1 by omega];rfl
theorem kP {w:World}:∀(l:List Def) (xs:List Value),gG K w l xs->∀i (h:i<l.length),∃nm vb vt,xy K w l[i] nm vb vt /\
  xs[i*6]? = some (.string nm)/\xs[i*6+1]? = some (.int .i64 l[i].id)/\xs[i*6+2]? = some vb/\xs[i*6+3]? = some (.int .i64 l[i].count)/\xs[i*6+4]? = some (.bool l[i].bF)/\xs[i*6+5]? = some vt
 | [],_,_,i,h=>ax h (by simp)
 | d::l,xs,⟨nm,vb,vt,rest,h1,h2,h3,h4,h5⟩,0,h=>by
  subst h1;exact⟨nm,vb,vt,⟨h2,h3,h4⟩,by simp,by simp,by simp,by simp,by simp,by simp⟩
 | d::l,xs,⟨nm,vb,vt,rest,h1,h2,h3,h4,h5⟩,i+1,h=>by
  subst h1;obtain⟨sV,Ek,KB,k0,k1⟩:=kP l rest h5 i (by simpa using h);refine⟨sV,Ek,KB,k0,?_⟩;have e0:=six (.string nm) (.int .i64 d.id) vb (.int .i64 d.count) (.bool d.bF) vt rest i 0;simp only[Nat.add_zero] at e0;rw[e0,six,six,six,six,six];exact k1
theorem iN {w:World}(d':Def)(sV:ByteArray)(Ek KB:Value)(hd:xy K w d' sV Ek KB):∀(l:List Def) (xs:List Value),gG K w l xs->∀i,i<l.length ->
  gG K w (l.set i d') ((((((xs.set (i*6) (.string sV)).set (i*6+1) (.int .i64 d'.id)).set (i*6+2) Ek).set (i*6+3) (.int .i64 d'.count)).set (i*6+4) (.bool d'.bF)).set (i*6+5) KB)
 | [],_,_,i,h=>ax h (by simp)
 | d::l,xs,⟨nm,vb,vt,rest,h1,h2,h3,h4,h5⟩,0,h=>by
  subst h1;exact⟨sV,Ek,KB,rest,by simp,hd.nm,hd.body,hd.built,h5⟩
 | d::l,xs,⟨nm,vb,vt,rest,h1,h2,h3,h4,h5⟩,i+1,h=>by
  subst h1;have k:=iN d' sV Ek KB hd l rest h5 i (by simpa using h);refine⟨nm,vb,vt,_,?_,h2,h3,h4,k⟩;have e0:=nR (.string nm) (.int .i64 d.id) vb (.int .i64 d.count) (.bool d.bF) vt rest i 0 (.string sV);simp only[Nat.add_zero] at e0;rw[e0,nR,nR,nR,nR,nR]
theorem dU {xs:List Value}{i:Nat}{u:Value}(h:xs[i]? = some u):xs.set i u=xs:=by
 apply List.ext_getElem?
 intro j;rw[List.getElem?_set]
 split
 ·rename_i e;subst e
  have:i<xs.length:=by
   rcases Nat.lt_or_ge i xs.length with h1|h1
   ·exact h1
   ·rw[List.getElem?_eq_none h1] at h;cases h
  rw[ag this,h]
 ·rfl
theorem eU {w:World}{e:TypeId}{z:Nat}{v:Value}{n:Nat}{xs:List Value}(h:w.ownsRow 0 e z v n xs){g:Nat}(hg:own v g)(j:Nat)(u:Value):(w.setCell ⟨g,j,none⟩ u).ownsRow 0 e z v n (xs.set j u):=by
 refine⟨by simpa using h.1,?_⟩;rcases h.2 with⟨rfl,_⟩|⟨g',cap,cur,rfl,hb,hgg,hnc,hcm,hcs,htk⟩
 ·simp[own,Value.ownBlock] at hg
 ·simp[own,Value.ownBlock] at hg;subst hg;have hb':aC w g' e cur:=hgg;refine .inr ⟨g',cap,cur.setIfInBounds j u,rfl,hb,hb'.set j u,hnc,hcm,by simpa using hcs,?_⟩;rw[Array.toList_setIfInBounds,List.take_set,htk]
structure ji (K:Nat->Prop)(w:World)(dv:Value)(ay:List Def):Prop where
 ex:∃xs,w.ownsRow 0 95 6 dv ay.length xs/\gG K w ay xs
 len:ay.length<=30
 old:∀b,K b->b<w.heap.size
def zf (ay:List Def)(k:Nat):Tok:=(ay[k]?.map Def.name).getD []
theorem nT (ay:List Def)(k:Nat)(h:k<ay.length):zf ay k=ay[k].name:=by simp[zf,h]
def cR (ay:List Def)(t:Tok):Int:=match ay.findIdx? (λd=>d.name==t) with
 | some k=>k
 | none=>-1
theorem CO {ay:List Def}{t:Tok}(h:∀i (hi:i<ay.length),(ay[i].name==t)=false):cR ay t = -1:=by
 unfold cR;have:ay.findIdx? (λd=>d.name==t)=none:=by
  rw[List.findIdx?_eq_none_iff];intro d hd;obtain⟨i,hi,rfl⟩:=List.mem_iff_getElem.1 hd;exact h i hi
 rw[this]
theorem tY {ay:List Def}{t:Tok}{k:Nat}(hk:k<ay.length)(h0:∀i (hi:i<k),(ay[i].name==t)=false)(h1:(ay[k].name==t)=true):cR ay t=k:=by
 unfold cR;have:ay.findIdx? (λd=>d.name==t)=some k:=by
  rw[List.findIdx?_eq_some_iff_getElem];exact⟨hk,h1,λj hj=>by simpa using h0 j hj⟩
 rw[this]
theorem pM (w:World)(yb:Nat)(s:RS)(ay:List Def)(t:ByteArray)(hb:aC w yb 67 s.arr)(hd:ji K w s.d.dv ay):
  Calls prog 89 #[.pointer (some ⟨yb,0,none⟩),.string t] w λe w'=>e=.returned (.int .i64 (cR ay t.data.toList))/\w'=w:=by
 obtain⟨xs,hr,hx⟩:=hd.ex;have hlen:=hd.len;have c0:w.cell? ⟨yb,17,none⟩=some s.d.dv:=hb.cell rfl;obtain⟨ao,cap,hv⟩:∃ao cap,s.d.dv=.slice ao ay.length cap:=by
  rcases hr.2 with⟨hv,h0⟩|⟨g,cap,_,hv,_⟩
  ·exact⟨none,0,by rw[hv,h0]⟩
  ·exact⟨some ⟨g,0,none⟩,cap,hv⟩
 have hcell:∀k,k<ay.length->∃nm,nm.data.toList=zf ay k/\∃g,ao=some ⟨g,0,none⟩/\w.cell? ⟨g,k*6,none⟩=some (.string nm):=by
  intro k hk;obtain⟨nm,vb,vt,h1,h2,_⟩:=kP _ _ hx k hk;refine⟨nm,by rw[nT ay k hk];exact h1.nm,?_⟩;rcases hr.2 with⟨_,h0⟩|⟨g,cap',cur,hv',_,hgg,_,_,_,htk⟩
  ·omega
  ·rw[hv] at hv';injection hv' with e1 e2 e3;refine⟨g,e1,?_⟩;have hb':aC w g 95 cur:=hgg;refine hb'.cell ?_;rw[<-htk,List.getElem?_take] at h2
   split at h2
   ·simpa using h2
   ·cases h2
 rw[hv] at c0;have HC:=az hcell;clear hcell hr hx hv hd;go_enter func89,ntmps89;go_wp2
 go_loop [5] (λi=>∃k:Nat,k<=ay.length/\i=.int .i64 k/\∀i (hi:i<k),(zf ay i==t.data.toList)=false) (λi=>ay.length-(intOf i).toNat)
 case atStart=>exact⟨0,Nat.zero_le _,rfl,λi hi=>by omega⟩
 case round=>
  obtain⟨k,hk,rfl,hno⟩:=hrel;have HN:=az hno;clear hno;by_cases hlt:k<ay.length
  ·obtain⟨nm,hnm,g,rfl,c1⟩:=HC.out k hlt;have SY:=az hnm;clear hnm;go_wp2
   ·have hx:(nm.toList==t.toList)=true:=by assumption
    go_ret;refine⟨?_,rfl⟩;have hf:cR ay t.data.toList=k:=by
     refine tY hlt (λi hi=>by have:=HN.out i hi;rwa [nT ay i (by omega)] at this) ?_;have:=SY.out;rw[nT ay k hlt] at this;rw[<-this];simpa [ByteArray.toList_eq] using hx
    rw[hf];rfl
   ·have hx:(nm.toList==t.toList)=false:=by assumption
    go_round
    case rel=>
     refine⟨k+1,by omega,by go_num,λi hi=>?_⟩;rcases Nat.lt_or_ge i k with h|h
     ·exact HN.out i h
     ·have:i=k:=by omega
      subst this;rw[<-SY.out];simpa [ByteArray.toList_eq] using hx
    case measure=>simp[intOf];omega
  ·go_wp2;go_ret;refine⟨?_,rfl⟩;rw[CO (λi hi=>by have:=HN.out i (by omega);rwa [nT ay i hi] at this)];rfl
end
section
open Go.RowKit
variable {K:Nat->Prop}
theorem Kp.one (w:World)(b o:Nat)(v:Value):Kp w (w.setCell ⟨b,o,none⟩ v) (λk=>k=b):=(Kp.refl w (λk=>k=b)).set (a:=⟨b,o,none⟩) (λ_=>rfl) v
theorem aC.drewN {w:World}{b:Nat}{t:TypeId}{c:Array Value}(h:aC w b t c)(n:Nat):aC (w.drewN n) b t c:=h
theorem Kp.drewN {w w':World}{S:Nat->Prop}(h:Kp w w' S)(n:Nat):Kp w (w'.drewN n) S:=⟨h.os,h.tape,h.output,h.size,h.block⟩
theorem EP {w:World}{e:TypeId}{z:Nat}{v:Value}{k:Nat}{xs:List Value}(h:w.ownsRow 0 e z v k xs)(n:Nat):(w.drewN n).ownsRow 0 e z v k xs:=h
def kr (yb:Nat)(lv:Value)(k:Nat)(e:Int)(lo:Nat):Array Value:=#[.pointer (some ⟨yb,0,none⟩),lv,.int .i64 k,.int .i64 e,.int .i64 lo]
theorem oK (w:World)(sb yb:Nat)(lv:Value)(k:Nat)(lo:Nat)(e:Int)(h:aC w sb 181 (kr yb lv k 0 lo)):
  Calls prog 137 #[.pointer (some ⟨sb,0,none⟩),.int .i64 e] w λx w'=>x=.returned (.tuple #[])/\aC w' sb 181 (kr yb lv k e lo)/\Kp w w' (λb=>b=sb):=by
 have c3:w.cell? ⟨sb,3,none⟩=some (.int .i64 0):=h.cell rfl;have f3:=h.free 3;go_enter func137,ntmps137;go_wp2
 go_end0
 exact⟨rfl,h.set 3 _,Kp.one _ _ _ _⟩
theorem Kh (w:World)(sb yb:Nat)(lv:Value)(k:Nat)(lo:Nat)(e e0:Int)(he:(e0==0)=false)(h:aC w sb 181 (kr yb lv k e0 lo)):
  Calls prog 137 #[.pointer (some ⟨sb,0,none⟩),.int .i64 e] w λx w'=>x=.returned (.tuple #[])/\w'=w:=by
 have c3:w.cell? ⟨sb,3,none⟩=some (.int .i64 e0):=h.cell rfl;go_enter func137,ntmps137;go_wp2
 go_end0
 exact⟨rfl,rfl⟩
theorem aB {w:World}{e:TypeId}{z:Nat}{v:Value}{n:Nat}{xs:List Value}(h:w.ownsRow 0 e z v n xs):∃ao cap,v=.slice ao n cap:=by
 rcases h.2 with⟨hv,h0⟩|⟨g,cap,_,hv,_⟩
 ·exact⟨none,0,by rw[hv,h0]⟩
 ·exact⟨some ⟨g,0,none⟩,cap,hv⟩
theorem bE {w:World}{e:TypeId}{z:Nat}{v:Value}{n:Nat}{xs:List Value}(h:w.ownsRow 0 e z v n xs)(hn:0<n):∃g cap,v=.slice (some ⟨g,0,none⟩) n cap/\∀j u,xs[j]? = some u->w.cell? ⟨g,j,none⟩=some u:=by
 rcases h.2 with⟨hv,h0⟩|⟨g,cap,cur,hv,_,hgg,_,_,_,htk⟩
 ·omega
 ·refine⟨g,cap,hv,λj u hj=>?_⟩;have hb':aC w g e cur:=hgg;refine hb'.cell ?_;rw[<-htk,List.getElem?_take] at hj
  split at hj
  ·simpa using hj
  ·cases hj
theorem FN (w:World)(sb yb:Nat)(lv:Value)(n:Nat)(xs:List Value)(k:Nat)(lo:Nat)(e0:Int)(he:(e0 != 0)=true)(hr:w.ownsRow 0 9 1 lv n xs)(hB:aC w sb 181 (kr yb lv k e0 lo))(_hn:n<=1000)(_hk:k<=n):
  Calls prog 135 #[.pointer (some ⟨sb,0,none⟩)] w λx w'=>x=.returned (.string ⟨#[]⟩)/\aC w' sb 181 (kr yb lv k e0 lo)/\Kp w w' (λb=>b=sb):=by
 obtain⟨ao,cap,rfl⟩:=aB hr;have c3:w.cell? ⟨sb,3,none⟩=some (.int .i64 e0):=hB.cell rfl;have c2:w.cell? ⟨sb,2,none⟩=some (.int .i64 k):=hB.cell rfl;have c1:w.cell? ⟨sb,1,none⟩=some (.slice ao n cap):=hB.cell rfl;have pF:(e0==0)=false:=by simpa using he
 clear hr;by_cases hlt:k<n
 all_goals
  go_enter func135,ntmps135;go_wp2
  go_quiet (fail)
  go_wp2_with fail
  refine(Kh _ sb yb (.slice ao n cap) k lo _ _ pF (hB.drewN _)).mono ?_;rintro e w' ⟨rfl,rfl⟩;go_wp2;go_ret;exact⟨rfl,hB.drewN _,(Kp.refl _ _).drewN _⟩
theorem rA (w:World)(sb yb:Nat)(lv:Value)(n:Nat)(xs:List Value)(lo:Nat)(hr:w.ownsRow 0 9 1 lv n xs)(hB:aC w sb 181 (kr yb lv n 0 lo))(_hn:n<=1000):
  Calls prog 135 #[.pointer (some ⟨sb,0,none⟩)] w λx w'=>x=.returned (.string ⟨#[]⟩)/\aC w' sb 181 (kr yb lv n 4 lo)/\Kp w w' (λb=>b=sb):=by
 obtain⟨ao,cap,rfl⟩:=aB hr;have c3:w.cell? ⟨sb,3,none⟩=some (.int .i64 0):=hB.cell rfl;have c2:w.cell? ⟨sb,2,none⟩=some (.int .i64 n):=hB.cell rfl;have c1:w.cell? ⟨sb,1,none⟩=some (.slice ao n cap):=hB.cell rfl;clear hr;go_enter func135,ntmps135;go_wp2
 go_quiet (fail)
 go_wp2_with fail
 refine(oK _ sb yb (.slice ao n cap) n lo _ (hB.drewN _)).mono ?_;rintro e w' ⟨rfl,h1,h2⟩;go_wp2;go_ret;exact⟨rfl,h1,((Kp.refl w _).drewN _).trans h2⟩
theorem mW (w:World)(sb yb:Nat)(lv:Value)(ws:List ByteArray)(k:Nat)(lo:Nat)(hr:w.ownsRow 0 9 1 lv ws.length (ws.map Value.string))(hB:aC w sb 181 (kr yb lv k 0 lo))(hn:ws.length<=1000)(hk:k<ws.length):
  Calls prog 135 #[.pointer (some ⟨sb,0,none⟩)] w λx w'=>x=.returned (.string ws[k])/\aC w' sb 181 (kr yb lv (k+1) 0 lo)/\Kp w w' (λb=>b=sb):=by
 have hne:=aH hr hB (by decide);obtain⟨g,cap,rfl,hc⟩:=bE hr (by omega);have c3:w.cell? ⟨sb,3,none⟩=some (.int .i64 0):=hB.cell rfl;have c2:w.cell? ⟨sb,2,none⟩=some (.int .i64 k):=hB.cell rfl;have f2:=hB.free 2;have c1:w.cell? ⟨sb,1,none⟩=some (.slice (some ⟨g,0,none⟩) ws.length cap):=hB.cell rfl;have c4:w.cell? ⟨g,k,none⟩=some (.string ws[k]):=hc k _ (by simp[hk]);have N9:¬g=sb:=λe=>hne (by rw[e];rfl);clear hr hc hne;go_enter func135,ntmps135;go_wp2
 go_quiet (fail)
 go_wp2
 go_quiet (fail)
 go_wp2;go_ret;exact⟨rfl,(((hB.drewN _).set 2 _).drewN _),(((Kp.refl w _).drewN _).trans (Kp.one _ _ _ _)).drewN _⟩
end
section
open Go.RowKit
variable {K:Nat->Prop}
theorem vz {t:ByteArray}(h:t.size<1\/(1<=t.size/\8<t.size)):dX t.data.toList=false:=by
 have hl:t.data.toList.length=t.size:=rfl;unfold dX;rw[hl,decide_eq_false (by omega)];simp
theorem vB {t:ByteArray}{k:Nat}(hk:k<t.size)(h:¬(97<=t[k].toNat/\t[k].toNat<=122)):dX t.data.toList=false:=by
 unfold dX;have:(t.data.toList.all λc=>decide (97<=c.toNat/\c.toNat<=122))=false:=by
  rw[List.all_eq_false];exact⟨t.data.toList[k]'hk,List.getElem_mem _,by show ¬(decide (97<=t[k].toNat/\t[k].toNat<=122)=true);simpa using h⟩
 rw[this];simp
theorem vA {t:ByteArray}(h0:1<=t.size)(h1:t.size<=8)(ha:(t.data.toList.take t.size).all (λc=>decide (97<=c.toNat/\c.toNat<=122))=true):dX t.data.toList=(!aN.any (· == t.toList) && !eB.any (· == t.toList)):=by
 have hl:t.data.toList.length=t.size:=rfl;rw[List.take_of_length_le (by omega)] at ha;unfold dX;rw[ha,hl,decide_eq_true ⟨h0,h1⟩,ByteArray.toList_eq];simp
theorem DK (t:ByteArray)(w:World):
  Calls prog 136 #[.string t] w λe w'=>e=.returned (.bool (dX t.data.toList))/\Kp w w' (λ_=>False):=by
 by_cases hs:t.size<1\/(1<=t.size/\8<t.size)
 ·have H:=az (vz hs);rcases hs with h1|⟨h1,h2⟩
  all_goals
   go_enter func136,ntmps136;go_wp2;go_ret;refine⟨?_,Kp.refl _ _⟩;rw[H.out];rfl
 ·have h0:1<=t.size:=by omega
  have h8:t.size<=8:=by omega
  clear hs;go_enter func136,ntmps136;go_wp2
  go_loop [3] (λi=>∃k:Nat,k<=t.size/\i=.int .i64 k/\(t.data.toList.take k).all (λc=>decide (97<=c.toNat/\c.toNat<=122))=true) (λi=>t.size-(intOf i).toNat)
  case atStart=>exact⟨0,Nat.zero_le _,rfl,rfl⟩
  case round=>
   obtain⟨k,hk,rfl,hall⟩:=hrel;have HA:=az hall;clear hall;by_cases hlt:k<t.size
   ·by_cases hd:97<=t[k].toNat/\t[k].toNat<=122
    ·obtain⟨hd1,hd2⟩:=hd;go_wp2
     go_round
     case rel=>
      refine⟨k+1,by omega,by go_num,?_⟩;rw[ie t k hlt,List.all_append,HA.out];simp[hd1,hd2]
     case measure=>simp[intOf];omega
    ·have H:=az (vB hlt hd);rcases (show t[k].toNat<97\/(97<=t[k].toNat/\122<t[k].toNat) by omega) with h1|⟨h1,h2⟩
     all_goals
      clear hd;go_wp2;go_ret;refine⟨?_,Kp.refl _ _⟩;rw[H.out];rfl
   ·have hks:k=t.size:=by omega
    have H:=az (vA h0 h8 (by have:=HA.out;rwa [hks] at this));clear hks
    go_wp2_with fail
    refine(cS _ _).mono ?_;rintro e w1 ⟨rfl,hk1⟩
    go_wp2_with fail
    refine(dQ _ _).mono ?_;rintro e w2 ⟨rfl,hk2⟩
    cases b1:aN.any (· == t.toList)
    all_goals
     cases b2:eB.any (· == t.toList)
     all_goals
      go_wp2;go_ret;refine⟨?_,hk1.trans hk2⟩;rw[H.out,b1,b2];rfl
structure bI (K:Nat->Prop)(w:World)(sb yb:Nat)(rs:RS)(ay:List Def)(lv:Value)(ws:List ByteArray)(k:Nat)(e:Int)(lo:Nat):Prop where
 blk:aC w sb 181 (kr yb lv k e lo)
 A7:aC w yb 67 rs.arr
 dr:ji K w rs.d.dv ay
 row:w.ownsRow 0 9 1 lv ws.length (ws.map Value.string)
 len:ws.length<=1000
 gf:k<=ws.length
theorem ji.kp {w w':World}{dv:Value}{ay:List Def}{V:Nat->Prop}(h:ji K w dv ay)(hk:Kp w w' V)(hn:vZ w V)(hv:∀b c,V b->¬aC w b 95 c):ji K w' dv ay:=by
 obtain⟨xs,h1,h2⟩:=h.ex;exact⟨⟨xs,iY h1 (λb c hb' hc=>hk.blk hc (λhV=>hv b c hV hc)),eV (aF.kp hk hn _) _ _ h2⟩,h.len,λb hb=>aj (h.old b hb) hk.size⟩
theorem vZ.one {w:World}{b:Nat}{t:TypeId}{c:Array Value}(hb:aC w b t c)(h1:t≠227)(h2:t≠9):vZ w (λk=>k=b):=by
 intro b' t' c' e hb';subst e;have:=(hb.inj hb').1;subst this;exact⟨h1,h2⟩
theorem bI.to {w w':World}{sb yb:Nat}{rs:RS}{ay:List Def}{lv:Value}{ws:List ByteArray}{k:Nat}{e:Int}{lo:Nat}(h:bI K w sb yb rs ay lv ws k e lo)(hk:Kp w w' (λb=>b=sb)){k':Nat}{e':Int}{lo':Nat}
  (hb:aC w' sb 181 (kr yb lv k' e' lo')) (hk':k'<=ws.length):bI K w' sb yb rs ay lv ws k' e' lo':=by
 refine⟨hb,hk.blk h.A7 ?_,h.dr.kp hk (vZ.one h.blk (by decide) (by decide)) ?_,hk.row h.row ?_,h.len,hk'⟩
 ·intro e;subst e;exact ax (h.A7.inj h.blk).1 (by decide)
 ·intro b c e hb2;subst e;exact ax (hb2.inj h.blk).1 (by decide)
 ·intro b hb2 e;subst e;exact aH h.row h.blk (by decide) hb2
theorem bI.kp {w w':World}{sb yb:Nat}{rs:RS}{ay:List Def}{lv:Value}{ws:List ByteArray}{k:Nat}{e:Int}{lo:Nat}(h:bI K w sb yb rs ay lv ws k e lo)(hk:Kp w w' (λ_=>False)):bI K w' sb yb rs ay lv ws k e lo:=
 h.to (hk.mono (λ_ _ h=>h.elim)) (hk.blk h.blk (by simp)) h.gf
theorem bI.Ki {w:World}{sb yb:Nat}{rs:RS}{ay:List Def}{lv:Value}{ws:List ByteArray}{k:Nat}{e:Int}{lo:Nat}(h:bI K w sb yb rs ay lv ws k e lo)(lo':Nat):bI K (w.setCell ⟨sb,4,none⟩ (.int .i64 lo')) sb yb rs ay lv ws k e lo':=
 h.to (Kp.one _ _ _ _) (h.blk.set 4 _) h.gf
end
end Go.Proofs.YteainaiebcphlaaGreatDoor
