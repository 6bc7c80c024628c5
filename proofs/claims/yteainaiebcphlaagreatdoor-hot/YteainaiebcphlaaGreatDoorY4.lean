import Derived.Test.YteainaiebcphlaaGreatDoorY3
import Derived.Test.YteainaiebcphlaaGreatDoorY2
import Derived.Lib.ParseIntBCases
namespace Go.Proofs.YteainaiebcphlaaGreatDoor
set_option maxRecDepth 1000000
set_option maxHeartbeats 4000000
set_option linter.all false
section
open Go.RowKit
theorem do_add (w:World) (D:Nat->Prop) (xb rb:Nat) (m:MS) (rs:List Int) (act:Value) (hact:plainR (BD D w) 0 act) (h:MInv w xb rb m rs.reverse) (_ho:m.out.size<=300) (_hin:∀ a∈rs,In a):
  CallsV act (pt rb) w fun e w'=>e=.returned (.int .i64 (p_add m.mem m.out rs).e)/\MPost w w' xb rb m (p_add m.mem m.out rs):=by
 obtain⟨fb,rfl,_,hf⟩:=hact;refine⟨_,_,_,rfl,ent_cmp,?_⟩
 match rs,h with
 | [],h=>exact un_96 w xb rb _ _ _ h (by simp)
 | [_],h=>exact un_96 w xb rb _ _ _ h (by simp)
 | b :: a :: r,h=>exact cp_add w xb rb _ _ b a r h hf
theorem do_sub (w:World) (D:Nat->Prop) (xb rb:Nat) (m:MS) (rs:List Int) (act:Value) (hact:plainR (BD D w) 1 act) (h:MInv w xb rb m rs.reverse) (_ho:m.out.size<=300) (_hin:∀ a∈rs,In a):
  CallsV act (pt rb) w fun e w'=>e=.returned (.int .i64 (p_sub m.mem m.out rs).e)/\MPost w w' xb rb m (p_sub m.mem m.out rs):=by
 obtain⟨fb,rfl,_,hf⟩:=hact;refine⟨_,_,_,rfl,ent_cmp,?_⟩
 match rs,h with
 | [],h=>exact un_96 w xb rb _ _ _ h (by simp)
 | [_],h=>exact un_96 w xb rb _ _ _ h (by simp)
 | b :: a :: r,h=>exact cp_sub w xb rb _ _ b a r h hf
theorem do_mul (w:World) (D:Nat->Prop) (xb rb:Nat) (m:MS) (rs:List Int) (act:Value) (hact:plainR (BD D w) 2 act) (h:MInv w xb rb m rs.reverse) (_ho:m.out.size<=300) (_hin:∀ a∈rs,In a):
  CallsV act (pt rb) w fun e w'=>e=.returned (.int .i64 (p_mul m.mem m.out rs).e)/\MPost w w' xb rb m (p_mul m.mem m.out rs):=by
 obtain⟨fb,rfl,_,hf⟩:=hact;refine⟨_,_,_,rfl,ent_cmp,?_⟩
 match rs,h with
 | [],h=>exact un_96 w xb rb _ _ _ h (by simp)
 | [_],h=>exact un_96 w xb rb _ _ _ h (by simp)
 | b :: a :: r,h=>exact cp_mul w xb rb _ _ b a r h hf
theorem do_quo (w:World) (D:Nat->Prop) (xb rb:Nat) (m:MS) (rs:List Int) (act:Value) (hact:plainR (BD D w) 3 act) (h:MInv w xb rb m rs.reverse) (_ho:m.out.size<=300) (_hin:∀ a∈rs,In a):
  CallsV act (pt rb) w fun e w'=>e=.returned (.int .i64 (p_quo m.mem m.out rs).e)/\MPost w w' xb rb m (p_quo m.mem m.out rs):=by
 obtain⟨fb,rfl,_,hf⟩:=hact;refine⟨_,_,_,rfl,ent_dvd,?_⟩
 match rs,h with
 | [],h=>exact un_98 w xb rb _ _ _ h (by simp)
 | [_],h=>exact un_98 w xb rb _ _ _ h (by simp)
 | b :: a :: r,h=>
  simp only[p_quo];by_cases hb:b=0
  ·subst hb;rw[if_pos rfl];exact dv_zero w xb rb _ _ a r h
  ·rw[if_neg hb];exact dv_quo w xb rb _ _ b a r h hf hb
theorem do_mod (w:World) (D:Nat->Prop) (xb rb:Nat) (m:MS) (rs:List Int) (act:Value) (hact:plainR (BD D w) 4 act) (h:MInv w xb rb m rs.reverse) (_ho:m.out.size<=300) (_hin:∀ a∈rs,In a):
  CallsV act (pt rb) w fun e w'=>e=.returned (.int .i64 (p_mod m.mem m.out rs).e)/\MPost w w' xb rb m (p_mod m.mem m.out rs):=by
 obtain⟨fb,rfl,_,hf⟩:=hact;refine⟨_,_,_,rfl,ent_dvd,?_⟩
 match rs,h with
 | [],h=>exact un_98 w xb rb _ _ _ h (by simp)
 | [_],h=>exact un_98 w xb rb _ _ _ h (by simp)
 | b :: a :: r,h=>
  simp only[p_mod];by_cases hb:b=0
  ·subst hb;rw[if_pos rfl];exact dv_zero w xb rb _ _ a r h
  ·rw[if_neg hb];exact dv_mod w xb rb _ _ b a r h hf hb
theorem do_eq (w:World) (D:Nat->Prop) (xb rb:Nat) (m:MS) (rs:List Int) (act:Value) (hact:plainR (BD D w) 5 act) (h:MInv w xb rb m rs.reverse) (_ho:m.out.size<=300) (_hin:∀ a∈rs,In a):
  CallsV act (pt rb) w fun e w'=>e=.returned (.int .i64 (p_eq m.mem m.out rs).e)/\MPost w w' xb rb m (p_eq m.mem m.out rs):=by
 obtain⟨fb,rfl,_,hf⟩:=hact;refine⟨_,_,_,rfl,ent_cmp,?_⟩
 match rs,h with
 | [],h=>exact un_96 w xb rb _ _ _ h (by simp)
 | [_],h=>exact un_96 w xb rb _ _ _ h (by simp)
 | b :: a :: r,h=>exact cp_eq w xb rb _ _ b a r h hf
theorem do_lt (w:World) (D:Nat->Prop) (xb rb:Nat) (m:MS) (rs:List Int) (act:Value) (hact:plainR (BD D w) 6 act) (h:MInv w xb rb m rs.reverse) (_ho:m.out.size<=300) (_hin:∀ a∈rs,In a):
  CallsV act (pt rb) w fun e w'=>e=.returned (.int .i64 (p_lt m.mem m.out rs).e)/\MPost w w' xb rb m (p_lt m.mem m.out rs):=by
 obtain⟨fb,rfl,_,hf⟩:=hact;refine⟨_,_,_,rfl,ent_cmp,?_⟩
 match rs,h with
 | [],h=>exact un_96 w xb rb _ _ _ h (by simp)
 | [_],h=>exact un_96 w xb rb _ _ _ h (by simp)
 | b :: a :: r,h=>exact cp_lt w xb rb _ _ b a r h hf
theorem do_dup (w:World) (D:Nat->Prop) (xb rb:Nat) (m:MS) (rs:List Int) (act:Value) (hact:plainR (BD D w) 7 act) (h:MInv w xb rb m rs.reverse) (_ho:m.out.size<=300) (_hin:∀ a∈rs,In a):
  CallsV act (pt rb) w fun e w'=>e=.returned (.int .i64 (p_dup m.mem m.out rs).e)/\MPost w w' xb rb m (p_dup m.mem m.out rs):=by
 obtain⟨cb,b0,pv,rfl,⟨_,hc⟩,⟨_,hpb⟩,hpr⟩:=hact;have hpv:=hpr.row;refine⟨_,_,_,rfl,ent_rea,?_⟩
 match rs,h with
 | [],h=>exact re_under w xb rb _ _ _ _ 1 h hc (by simp) (by decide)
 | a :: r,h=>
  have hl:=h.len;simp only[List.length_reverse,List.length_cons] at hl;refine (reM w xb rb _ _ _ r.reverse [a] [0,0] _ (by simpa using h) (by simp) (by simp) hc hpb hpv (by decide) (by decide)).mono ?_;rintro e w2 ⟨hp1,hp2⟩;simp only[p_dup];by_cases hr:r.length < 31
  ·rw[if_pos hr];have:=hp1 (by simp;omega);simpa [picked] using this
  ·rw[if_neg hr];exact hp2 (by simp;omega)
theorem do_drop (w:World) (D:Nat->Prop) (xb rb:Nat) (m:MS) (rs:List Int) (act:Value) (hact:plainR (BD D w) 8 act) (h:MInv w xb rb m rs.reverse) (_ho:m.out.size<=300) (_hin:∀ a∈rs,In a):
  CallsV act (pt rb) w fun e w'=>e=.returned (.int .i64 (p_drop m.mem m.out rs).e)/\MPost w w' xb rb m (p_drop m.mem m.out rs):=by
 obtain⟨cb,b0,pv,rfl,⟨_,hc⟩,⟨_,hpb⟩,hpr⟩:=hact;have hpv:=hpr.row;refine⟨_,_,_,rfl,ent_rea,?_⟩
 match rs,h with
 | [],h=>exact re_under w xb rb _ _ _ _ 1 h hc (by simp) (by decide)
 | a :: r,h=>
  have hl:=h.len;simp only[List.length_reverse,List.length_cons] at hl;refine (reM w xb rb _ _ _ r.reverse [a] [] _ (by simpa using h) (by simp) (by simp) hc hpb hpv (by decide) (by decide)).mono ?_;rintro e w2 ⟨hp1,_⟩;have:=hp1 (by simp;omega)
  simpa [picked,p_drop] using this
theorem do_swap (w:World) (D:Nat->Prop) (xb rb:Nat) (m:MS) (rs:List Int) (act:Value) (hact:plainR (BD D w) 9 act) (h:MInv w xb rb m rs.reverse) (_ho:m.out.size<=300) (_hin:∀ a∈rs,In a):
  CallsV act (pt rb) w fun e w'=>e=.returned (.int .i64 (p_swap m.mem m.out rs).e)/\MPost w w' xb rb m (p_swap m.mem m.out rs):=by
 obtain⟨cb,b0,pv,rfl,⟨_,hc⟩,⟨_,hpb⟩,hpr⟩:=hact;have hpv:=hpr.row;refine⟨_,_,_,rfl,ent_rea,?_⟩
 match rs,h with
 | [],h=>exact re_under w xb rb _ _ _ _ 2 h hc (by simp) (by decide)
 | [_],h=>exact re_under w xb rb _ _ _ _ 2 h hc (by simp) (by decide)
 | b :: a :: r,h=>
  have hl:=h.len;simp only[List.length_reverse,List.length_cons] at hl;refine (reM w xb rb _ _ _ r.reverse [a,b] [1,0] _ (by simpa using h) (by simp) (by simp) hc hpb hpv (by decide) (by decide)).mono ?_;rintro e w2 ⟨hp1,_⟩;have:=hp1 (by simp;omega)
  simpa [picked,p_swap] using this
theorem do_over (w:World) (D:Nat->Prop) (xb rb:Nat) (m:MS) (rs:List Int) (act:Value) (hact:plainR (BD D w) 10 act) (h:MInv w xb rb m rs.reverse) (_ho:m.out.size<=300) (_hin:∀ a∈rs,In a):
  CallsV act (pt rb) w fun e w'=>e=.returned (.int .i64 (p_over m.mem m.out rs).e)/\MPost w w' xb rb m (p_over m.mem m.out rs):=by
 obtain⟨cb,b0,pv,rfl,⟨_,hc⟩,⟨_,hpb⟩,hpr⟩:=hact;have hpv:=hpr.row;refine⟨_,_,_,rfl,ent_rea,?_⟩
 match rs,h with
 | [],h=>exact re_under w xb rb _ _ _ _ 2 h hc (by simp) (by decide)
 | [_],h=>exact re_under w xb rb _ _ _ _ 2 h hc (by simp) (by decide)
 | b :: a :: r,h=>
  have hl:=h.len;simp only[List.length_reverse,List.length_cons] at hl;refine (reM w xb rb _ _ _ r.reverse [a,b] [0,1,0] _ (by simpa using h) (by simp) (by simp) hc hpb hpv (by decide) (by decide)).mono ?_;rintro e w2 ⟨hp1,hp2⟩;simp only[p_over];by_cases hr:r.length < 30
  ·rw[if_pos hr];have:=hp1 (by simp;omega);simpa [picked] using this
  ·rw[if_neg hr];exact hp2 (by simp;omega)
theorem do_rot (w:World) (D:Nat->Prop) (xb rb:Nat) (m:MS) (rs:List Int) (act:Value) (hact:plainR (BD D w) 11 act) (h:MInv w xb rb m rs.reverse) (_ho:m.out.size<=300) (_hin:∀ a∈rs,In a):
  CallsV act (pt rb) w fun e w'=>e=.returned (.int .i64 (p_rot m.mem m.out rs).e)/\MPost w w' xb rb m (p_rot m.mem m.out rs):=by
 obtain⟨cb,b0,pv,rfl,⟨_,hc⟩,⟨_,hpb⟩,hpr⟩:=hact;have hpv:=hpr.row;refine⟨_,_,_,rfl,ent_rea,?_⟩
 match rs,h with
 | [],h=>exact re_under w xb rb _ _ _ _ 3 h hc (by simp) (by decide)
 | [_],h=>exact re_under w xb rb _ _ _ _ 3 h hc (by simp) (by decide)
 | [_,_],h=>exact re_under w xb rb _ _ _ _ 3 h hc (by simp) (by decide)
 | c :: b :: a :: r,h=>
  have hl:=h.len;simp only[List.length_reverse,List.length_cons] at hl;refine (reM w xb rb _ _ _ r.reverse [a,b,c] [1,2,0] _ (by simpa using h) (by simp) (by simp) hc hpb hpv (by decide) (by decide)).mono ?_;rintro e w2 ⟨hp1,_⟩;have:=hp1 (by simp;omega)
  simpa [picked,p_rot] using this
theorem do_dot (B:Nat) (W:World) (w:World) (D:Nat->Prop) (xb rb:Nat) (m:MS) (rs:List Int) (act:Value) (hact:plainR (BD D w) 12 act) (h:MInv w xb rb m rs.reverse) (ho:m.out.size<=300) (hin:∀ a∈rs,In a) (hS:Safe B W w xb rb m) (hG:Glo B W):
  CallsV act (pt rb) w fun e w'=>e=.returned (.int .i64 (p_dot m.mem m.out rs).e)/\MPost w w' xb rb m (p_dot m.mem m.out rs):=by
 obtain⟨fb,rfl,_,hf⟩:=hact;refine⟨_,_,_,rfl,ent_shw,?_⟩
 match rs,h,hin with
 | [],h,_=>exact un_100 w xb rb _ _ _ h (by simp)
 | a :: r,h,hin=>
  have ha:=hin a (by simp);exact sh_dot B W w xb rb _ _ a r h hf ho ha.1 ha.2 hS hG
theorem do_emit (w:World) (D:Nat->Prop) (xb rb:Nat) (m:MS) (rs:List Int) (act:Value) (hact:plainR (BD D w) 13 act) (h:MInv w xb rb m rs.reverse) (ho:m.out.size<=300) (_hin:∀ a∈rs,In a):
  CallsV act (pt rb) w fun e w'=>e=.returned (.int .i64 (p_emit m.mem m.out rs).e)/\MPost w w' xb rb m (p_emit m.mem m.out rs):=by
 obtain⟨fb,rfl,_,hf⟩:=hact;refine⟨_,_,_,rfl,ent_shw,?_⟩
 match rs,h with
 | [],h=>exact un_100 w xb rb _ _ _ h (by simp)
 | a :: r,h=>exact sh_emit w xb rb _ _ a r h hf ho
theorem do_fetch (w:World) (D:Nat->Prop) (xb rb:Nat) (m:MS) (rs:List Int) (act:Value) (hact:plainR (BD D w) 14 act) (h:MInv w xb rb m rs.reverse) (_ho:m.out.size<=300) (_hin:∀ a∈rs,In a):
  CallsV act (pt rb) w fun e w'=>e=.returned (.int .i64 (p_fetch m.mem m.out rs).e)/\MPost w w' xb rb m (p_fetch m.mem m.out rs):=by
 have hact:act=_:=hact;subst hact;refine⟨_,_,_,rfl,ent_fet,?_⟩
 match rs,h with
 | [],h=>exact un_85 w xb rb _ _ h (by simp)
 | a :: r,h=>
  simp only[p_fetch];by_cases hr:0<=a/\a < 16
  ·rw[if_pos hr];exact fe_ok w xb rb _ a r h hr.1 hr.2
  ·rw[if_neg hr];exact fe_no w xb rb _ a r h hr
theorem do_store (w:World) (D:Nat->Prop) (xb rb:Nat) (m:MS) (rs:List Int) (act:Value) (hact:plainR (BD D w) 15 act) (h:MInv w xb rb m rs.reverse) (_ho:m.out.size<=300) (_hin:∀ a∈rs,In a):
  CallsV act (pt rb) w fun e w'=>e=.returned (.int .i64 (p_store m.mem m.out rs).e)/\MPost w w' xb rb m (p_store m.mem m.out rs):=by
 have hact:act=_:=hact;subst hact;refine⟨_,_,_,rfl,ent_sto,?_⟩
 match rs,h with
 | [],h=>exact un_86 w xb rb _ _ h (by simp)
 | [_],h=>exact un_86 w xb rb _ _ h (by simp)
 | b :: a :: r,h=>
  simp only[p_store];by_cases hr:0<=b/\b < 16
  ·rw[if_pos hr];exact st_ok w xb rb _ b a r h hr.1 hr.2
  ·rw[if_neg hr];exact st_no w xb rb _ b a r h hr
theorem actM (B:Nat) (W:World) (w:World) (D:Nat->Prop) (xb rb:Nat) (m:MS) (rs:List Int) (j:Nat) (act:Value) (hact:plainR (BD D w) j act) (h:MInv w xb rb m rs.reverse) (ho:m.out.size<=300) (hin:∀ a∈rs,In a) (hS:Safe B W w xb rb m) (hG:Glo B W):
  CallsV act (pt rb) w fun e w'=>e=.returned (.int .i64 (plainP j rs m.mem m.out).e)/\MPost w w' xb rb m (plainP j rs m.mem m.out):=by
 match j,hact with
 | 0,hact=>exact do_add w D xb rb m rs act hact h ho hin
 | 1,hact=>exact do_sub w D xb rb m rs act hact h ho hin
 | 2,hact=>exact do_mul w D xb rb m rs act hact h ho hin
 | 3,hact=>exact do_quo w D xb rb m rs act hact h ho hin
 | 4,hact=>exact do_mod w D xb rb m rs act hact h ho hin
 | 5,hact=>exact do_eq w D xb rb m rs act hact h ho hin
 | 6,hact=>exact do_lt w D xb rb m rs act hact h ho hin
 | 7,hact=>exact do_dup w D xb rb m rs act hact h ho hin
 | 8,hact=>exact do_drop w D xb rb m rs act hact h ho hin
 | 9,hact=>exact do_swap w D xb rb m rs act hact h ho hin
 | 10,hact=>exact do_over w D xb rb m rs act hact h ho hin
 | 11,hact=>exact do_rot w D xb rb m rs act hact h ho hin
 | 12,hact=>exact do_dot B W w D xb rb m rs act hact h ho hin hS hG
 | 13,hact=>exact do_emit w D xb rb m rs act hact h ho hin
 | 14,hact=>exact do_fetch w D xb rb m rs act hact h ho hin
 | 15,hact=>exact do_store w D xb rb m rs act hact h ho hin
 | _+16,hact=>exact hact.elim
end
section
open Go.RowKit
theorem parseU (M:Nat) (hM:1000000000000000000<=M):∀ (l:List UInt8) (acc:Nat),l.all digB=true->(acc+1) * 10 ^ l.length<=1000000000000000000->Lib.parseUintM M acc l=.ok (l.foldl (fun n c=>10 * n+(c.toNat - 48)) acc)
 | [],acc,_,_=>rfl
 | c :: r,acc,h,hb=>by
  simp only[List.all_cons,Bool.and_eq_true] at h;have hd:=of_decide_eq_true h.1;have hp:1<=10 ^ r.length:=Nat.one_le_pow _ _ (by decide);rw[List.length_cons,Nat.pow_succ] at hb;have h10:(acc+1) * 10 * 10 ^ r.length<=1000000000000000000:=by rw[Nat.mul_assoc,Nat.mul_comm 10];exact hb
  have hle:(acc+1) * 10<=(acc+1) * 10 * 10 ^ r.length:=Nat.le_mul_of_pos_right _ hp;have hnext:(acc * 10+(c.toNat - 48)+1) * 10 ^ r.length<=1000000000000000000:=Nat.le_trans (Nat.mul_le_mul_right _ (by omega)) h10;rw[Lib.parseUintM,if_pos hd,if_neg (by omega),if_neg (by omega),parseU M hM r _ h.2 hnext,List.foldl_cons,Nat.mul_comm 10 acc]
theorem parse_digits {r:List UInt8} (h:digitsB r=true):Lib.parseUintB 64 r=.ok (valD r):=by
 simp only[digitsB,Bool.and_eq_true,decide_eq_true_eq] at h;unfold Lib.parseUintB;rw[if_neg (by intro e;subst e;simp at h),parseU _ (by decide) r 0 h.2 (by have:=pow_le18 h.1.2;omega)];rfl
theorem valD_small {r:List UInt8} (h:digitsB r=true):valD r < 1000000000000000000:=by
 simp only[digitsB,Bool.and_eq_true,decide_eq_true_eq] at h;have h1:=valD_lt r h.2;have h2:=pow_le18 h.1.2;omega
theorem parse_num {l:List UInt8} {n:Int} (h:numP l=some n):Lib.parseIntB 64 l=.ok n:=by
 cases l with
 | nil=>simp[numP] at h
 | cons c r=>
  simp only[numP] at h
  split at h
  ·rename_i hc
   split at h
   ·rename_i hd
    injection h with h;have:=valD_small hd;rw[hc,Lib.parseIntB_minus,parse_digits hd,Lib.signedC,if_neg (by simp;omega),h]
   ·cases h
  ·rename_i hc
   split at h
   ·rename_i hd
    injection h with h;have hs:=valD_small hd;have h1:digB c=true:=by
     simp only[digitsB,Bool.and_eq_true,List.all_cons] at hd;exact hd.2.1
    have h2:=of_decide_eq_true h1;rw[Lib.parseIntB_plain 64 c r (by omega) (by omega),parse_digits hd,Lib.signlessC,if_neg (by simp;omega),h]
   ·cases h
theorem kp_bytes (w:World) (t:ByteArray):Kp w (Lib.bytesWorld w 5 t) (fun _=>False):=by
 unfold Lib.bytesWorld World.freeze;rw[if_neg (by decide)];refine⟨rfl,rfl,rfl,?_,fun k hk _=>?_⟩
 ·simp
 ·show (Array.modify _ _ _)[k]? = _;rw[Array.getElem?_modify,if_neg (by simp;omega)];exact Below.heap_alloc w.drew _ k hk
theorem valueM (s:ByteArray) (n:Int) (w:World) (h:numP s.toList=some n) (hs:s.size<=1000):
  Calls Tryz.prog 70 #[.string s] w fun e w'=>e=.returned (.int .i64 n)/\Kp w w' (fun _=>False):=by
 have hP:=Tryz.strconv_ParseInt_10_at64_ok s (by omega) n (parse_num (by rw[<-ByteArray.toList_eq];exact h)) w;have HP:=hide hP;clear hP h;go_enter Tryz.func70,Tryz.ntmps70
 go_wp2_with fail
 refine HP.out.mono ?_;rintro e w1 ⟨rfl,hw⟩;have hk:Kp w w1 (fun _=>False):=by
  rcases hw with hw|⟨t,hw⟩
  ·subst hw;exact Kp.refl _ _
  ·subst hw;exact kp_bytes w t
 clear hw;go_wp2;go_ret;exact⟨rfl,hk⟩
theorem trim_cons (c:UInt8) (r:List UInt8):Lib.trimPrefix (c :: r) [45]=if c=45 then r else c :: r:=by
 by_cases hc:c=45
 ·subst hc;rw[if_pos rfl];simp[Lib.trimPrefix,Lib.hasPrefix]
 ·rw[if_neg hc];have h:Lib.hasPrefix (c :: r) [45]=false:=by
   show List.isPrefixOf [45] (c :: r)=false;simp[List.isPrefixOf,Ne.symm hc]
  unfold Lib.trimPrefix;rw[h];rfl
theorem num_trim (l:List UInt8):(numP l).isSome=digitsB (Lib.trimPrefix l [45]):=by
 cases l with
 | nil=>rfl
 | cons c r=>
  rw[trim_cons];simp only[numP];by_cases hc:c=45
  ·rw[if_pos hc,if_pos hc]
   cases digitsB r <;> rfl
  ·rw[if_neg hc,if_neg hc]
   cases digitsB (c :: r) <;> rfl
theorem isNumM (s:ByteArray) (w:World) (hs:s.size<=1000):
  Calls Tryz.prog 93 #[.string s] w fun e w'=>e=.returned (.bool (numP s.toList).isSome)/\w'=w:=by
 rw[ByteArray.toList_eq,num_trim];obtain⟨d,hd⟩:∃ d:ByteArray,d=⟨(Lib.trimPrefix s.data.toList [45]).toArray⟩:=⟨_,rfl⟩;have hdl:Lib.trimPrefix s.data.toList [45]=d.data.toList:=by rw[hd]
 rw[hdl];have hdz:d.size<=1000:=by
  have h1:(Lib.trimPrefix s.data.toList [45]).length<=s.data.toList.length:=by unfold Lib.trimPrefix;split <;> simp
  have h2:d.data.toList.length=d.size:=rfl;have h3:s.data.toList.length=s.size:=rfl;rw[hdl] at h1;omega
 have hC:=Tryz.strings_TrimPrefix s ⟨#[45]⟩ w;have HC:Hid (Calls Tryz.prog 145 #[.string s,.string ⟨#[45]⟩] w fun e w'=>e=.returned (.string d)/\w'=w):=by rw[hd];exact hC
 clear hC hd hdl;go_enter Tryz.func93,Tryz.ntmps93
 go_wp2_with fail
 refine HC.out.mono ?_;rintro e w' ⟨rfl,hw⟩;rw[hw];clear hw;by_cases hsz:1<=d.size/\d.size<=18
 ·obtain⟨hz1,hz2⟩:=hsz;go_wp2
  go_loop [17] (fun i=>∃ k:Nat,k<=d.size/\i=.int .i64 k/\(d.data.toList.take k).all digB=true) (fun i=>d.size - (intOf i).toNat)
  case atStart=>exact⟨0,Nat.zero_le _,rfl,rfl⟩
  case round=>
   obtain⟨k,hk,rfl,hall⟩:=hrel;have HA:=hide hall;clear hall;by_cases hlt:k < d.size
   ·by_cases hok:48<=d[k].toNat/\d[k].toNat<=57
    ·obtain⟨ho1,ho2⟩:=hok;go_wp2
     go_round
     case rel=>exact⟨k+1,by omega,by go_num,by rw[take_snoc d k hlt,List.all_append,HA.out];simp[digB,ho1,ho2]⟩
     case measure=>simp[intOf];omega
    ·have HB:Hid (digitsB d.data.toList=false):=digitsB_bad (l:=d.data.toList) (k:=k) hlt (decide_eq_false hok);rcases (show d[k].toNat < 48\/(48<=d[k].toNat/\57 < d[k].toNat) by omega) with h1|⟨h1,h2⟩
     all_goals
      clear hok;go_wp2;go_ret;exact⟨by rw[HB.out];rfl,rfl⟩
   ·have HB:Hid (digitsB d.data.toList=true):=by
     have h1:=HA.out;rw[List.take_of_length_le (by show d.data.size<=k;exact Nat.le_of_not_lt hlt)] at h1;unfold Hid digitsB;have h2:d.data.toList.length=d.size:=rfl;rw[h1,h2];simp[hz1,hz2]
    go_wp2;go_ret;exact⟨by rw[HB.out];rfl,rfl⟩
 ·have HB:Hid (digitsB d.data.toList=false):=by
   have h2:d.data.toList.length=d.size:=rfl;unfold Hid digitsB;rw[h2,decide_eq_false hsz];rfl
  rcases (show d.size < 1\/(1<=d.size/\18 < d.size) by omega) with h1|⟨h1,h2⟩
  all_goals
   clear hsz;go_wp2;go_ret;exact⟨by rw[HB.out];rfl,rfl⟩
end
section
open Go.RowKit
def spellW:List ByteArray:=[⟨#[]⟩,⟨#[]⟩,⟨#[43]⟩,⟨#[45]⟩,⟨#[42]⟩,⟨#[47]⟩,⟨#[109,111,100]⟩,⟨#[61]⟩,⟨#[60]⟩,⟨#[100,117,112]⟩,⟨#[100,114,111,112]⟩,⟨#[115,119,97,112]⟩,⟨#[111,118,101,114]⟩,⟨#[114,111,116]⟩,⟨#[46]⟩,⟨#[101,109,105,116]⟩,⟨#[64]⟩,⟨#[33]⟩,⟨#[58]⟩,⟨#[59]⟩,⟨#[123]⟩,⟨#[125]⟩,⟨#[105,102]⟩,⟨#[101,108,115,101]⟩,⟨#[116,104,101,110]⟩,⟨#[98,101,103,105,110]⟩,⟨#[117,110,116,105,108]⟩,⟨#[119,104,105,108,101]⟩,⟨#[114,101,112,101,97,116]⟩,⟨#[100,111]⟩,⟨#[108,111,111,112]⟩,⟨#[105]⟩,⟨#[114,101,99,117,114,115,101]⟩,⟨#[101,120,105,116]⟩]
def spellL:List (List UInt8):=[[],[]] ++ (plainL ++ ([[58],[59],[123],[125]] ++ keptL))
def spellA:Array Value:=#[.string ⟨#[]⟩,.string ⟨#[]⟩,.string ⟨#[43]⟩,.string ⟨#[45]⟩,.string ⟨#[42]⟩,.string ⟨#[47]⟩,.string ⟨#[109,111,100]⟩,.string ⟨#[61]⟩,.string ⟨#[60]⟩,.string ⟨#[100,117,112]⟩,.string ⟨#[100,114,111,112]⟩,.string ⟨#[115,119,97,112]⟩,.string ⟨#[111,118,101,114]⟩,.string ⟨#[114,111,116]⟩,.string ⟨#[46]⟩,.string ⟨#[101,109,105,116]⟩,.string ⟨#[64]⟩,.string ⟨#[33]⟩,.string ⟨#[58]⟩,.string ⟨#[59]⟩,.string ⟨#[123]⟩,.string ⟨#[125]⟩,.string ⟨#[105,102]⟩,.string ⟨#[101,108,115,101]⟩,.string ⟨#[116,104,101,110]⟩,.string ⟨#[98,101,103,105,110]⟩,.string ⟨#[117,110,116,105,108]⟩,.string ⟨#[119,104,105,108,101]⟩,.string ⟨#[114,101,112,101,97,116]⟩,.string ⟨#[100,111]⟩,.string ⟨#[108,111,111,112]⟩,.string ⟨#[105]⟩,.string ⟨#[114,101,99,117,114,115,101]⟩,.string ⟨#[101,120,105,116]⟩]
theorem sp_0 (w:World):(Instr.index 142 (.agg spellA) (.int .i64 0)).run Tryz.prog w=.ok (.string ⟨#[]⟩) w:=by kernel_rfl
theorem sp_1 (w:World):(Instr.index 142 (.agg spellA) (.int .i64 1)).run Tryz.prog w=.ok (.string ⟨#[]⟩) w:=by kernel_rfl
theorem sp_2 (w:World):(Instr.index 142 (.agg spellA) (.int .i64 2)).run Tryz.prog w=.ok (.string ⟨#[43]⟩) w:=by kernel_rfl
theorem sp_3 (w:World):(Instr.index 142 (.agg spellA) (.int .i64 3)).run Tryz.prog w=.ok (.string ⟨#[45]⟩) w:=by kernel_rfl
theorem sp_4 (w:World):(Instr.index 142 (.agg spellA) (.int .i64 4)).run Tryz.prog w=.ok (.string ⟨#[42]⟩) w:=by kernel_rfl
theorem sp_5 (w:World):(Instr.index 142 (.agg spellA) (.int .i64 5)).run Tryz.prog w=.ok (.string ⟨#[47]⟩) w:=by kernel_rfl
theorem sp_6 (w:World):(Instr.index 142 (.agg spellA) (.int .i64 6)).run Tryz.prog w=.ok (.string ⟨#[109,111,100]⟩) w:=by kernel_rfl
theorem sp_7 (w:World):(Instr.index 142 (.agg spellA) (.int .i64 7)).run Tryz.prog w=.ok (.string ⟨#[61]⟩) w:=by kernel_rfl
theorem sp_8 (w:World):(Instr.index 142 (.agg spellA) (.int .i64 8)).run Tryz.prog w=.ok (.string ⟨#[60]⟩) w:=by kernel_rfl
theorem sp_9 (w:World):(Instr.index 142 (.agg spellA) (.int .i64 9)).run Tryz.prog w=.ok (.string ⟨#[100,117,112]⟩) w:=by kernel_rfl
theorem sp_10 (w:World):(Instr.index 142 (.agg spellA) (.int .i64 10)).run Tryz.prog w=.ok (.string ⟨#[100,114,111,112]⟩) w:=by kernel_rfl
theorem sp_11 (w:World):(Instr.index 142 (.agg spellA) (.int .i64 11)).run Tryz.prog w=.ok (.string ⟨#[115,119,97,112]⟩) w:=by kernel_rfl
theorem sp_12 (w:World):(Instr.index 142 (.agg spellA) (.int .i64 12)).run Tryz.prog w=.ok (.string ⟨#[111,118,101,114]⟩) w:=by kernel_rfl
theorem sp_13 (w:World):(Instr.index 142 (.agg spellA) (.int .i64 13)).run Tryz.prog w=.ok (.string ⟨#[114,111,116]⟩) w:=by kernel_rfl
theorem sp_14 (w:World):(Instr.index 142 (.agg spellA) (.int .i64 14)).run Tryz.prog w=.ok (.string ⟨#[46]⟩) w:=by kernel_rfl
theorem sp_15 (w:World):(Instr.index 142 (.agg spellA) (.int .i64 15)).run Tryz.prog w=.ok (.string ⟨#[101,109,105,116]⟩) w:=by kernel_rfl
theorem sp_16 (w:World):(Instr.index 142 (.agg spellA) (.int .i64 16)).run Tryz.prog w=.ok (.string ⟨#[64]⟩) w:=by kernel_rfl
theorem sp_17 (w:World):(Instr.index 142 (.agg spellA) (.int .i64 17)).run Tryz.prog w=.ok (.string ⟨#[33]⟩) w:=by kernel_rfl
theorem sp_18 (w:World):(Instr.index 142 (.agg spellA) (.int .i64 18)).run Tryz.prog w=.ok (.string ⟨#[58]⟩) w:=by kernel_rfl
theorem sp_19 (w:World):(Instr.index 142 (.agg spellA) (.int .i64 19)).run Tryz.prog w=.ok (.string ⟨#[59]⟩) w:=by kernel_rfl
theorem sp_20 (w:World):(Instr.index 142 (.agg spellA) (.int .i64 20)).run Tryz.prog w=.ok (.string ⟨#[123]⟩) w:=by kernel_rfl
theorem sp_21 (w:World):(Instr.index 142 (.agg spellA) (.int .i64 21)).run Tryz.prog w=.ok (.string ⟨#[125]⟩) w:=by kernel_rfl
theorem sp_22 (w:World):(Instr.index 142 (.agg spellA) (.int .i64 22)).run Tryz.prog w=.ok (.string ⟨#[105,102]⟩) w:=by kernel_rfl
theorem sp_23 (w:World):(Instr.index 142 (.agg spellA) (.int .i64 23)).run Tryz.prog w=.ok (.string ⟨#[101,108,115,101]⟩) w:=by kernel_rfl
theorem sp_24 (w:World):(Instr.index 142 (.agg spellA) (.int .i64 24)).run Tryz.prog w=.ok (.string ⟨#[116,104,101,110]⟩) w:=by kernel_rfl
theorem sp_25 (w:World):(Instr.index 142 (.agg spellA) (.int .i64 25)).run Tryz.prog w=.ok (.string ⟨#[98,101,103,105,110]⟩) w:=by kernel_rfl
theorem sp_26 (w:World):(Instr.index 142 (.agg spellA) (.int .i64 26)).run Tryz.prog w=.ok (.string ⟨#[117,110,116,105,108]⟩) w:=by kernel_rfl
theorem sp_27 (w:World):(Instr.index 142 (.agg spellA) (.int .i64 27)).run Tryz.prog w=.ok (.string ⟨#[119,104,105,108,101]⟩) w:=by kernel_rfl
theorem sp_28 (w:World):(Instr.index 142 (.agg spellA) (.int .i64 28)).run Tryz.prog w=.ok (.string ⟨#[114,101,112,101,97,116]⟩) w:=by kernel_rfl
theorem sp_29 (w:World):(Instr.index 142 (.agg spellA) (.int .i64 29)).run Tryz.prog w=.ok (.string ⟨#[100,111]⟩) w:=by kernel_rfl
theorem sp_30 (w:World):(Instr.index 142 (.agg spellA) (.int .i64 30)).run Tryz.prog w=.ok (.string ⟨#[108,111,111,112]⟩) w:=by kernel_rfl
theorem sp_31 (w:World):(Instr.index 142 (.agg spellA) (.int .i64 31)).run Tryz.prog w=.ok (.string ⟨#[105]⟩) w:=by kernel_rfl
theorem sp_32 (w:World):(Instr.index 142 (.agg spellA) (.int .i64 32)).run Tryz.prog w=.ok (.string ⟨#[114,101,99,117,114,115,101]⟩) w:=by kernel_rfl
theorem sp_33 (w:World):(Instr.index 142 (.agg spellA) (.int .i64 33)).run Tryz.prog w=.ok (.string ⟨#[101,120,105,116]⟩) w:=by kernel_rfl
theorem spellA_at (k:Nat) (hk:k < 34) (w:World):(Instr.index 142 (.agg spellA) (.int .i64 (k:Int))).run Tryz.prog w=.ok (.string (spellW.getD k ⟨#[]⟩)) w:=by
 have:k=0\/k=1\/k=2\/k=3\/k=4\/k=5\/k=6\/k=7\/k=8\/k=9\/k=10\/k=11\/k=12\/k=13\/k=14\/k=15\/k=16\/k=17\/k=18\/k=19\/k=20\/k=21\/k=22\/k=23\/k=24\/k=25\/k=26\/k=27\/k=28\/k=29\/k=30\/k=31\/k=32\/k=33:=by omega
 rcases this with rfl|rfl|rfl|rfl|rfl|rfl|rfl|rfl|rfl|rfl|rfl|rfl|rfl|rfl|rfl|rfl|rfl|rfl|rfl|rfl|rfl|rfl|rfl|rfl|rfl|rfl|rfl|rfl|rfl|rfl|rfl|rfl|rfl|rfl
 ·exact sp_0 w
 ·exact sp_1 w
 ·exact sp_2 w
 ·exact sp_3 w
 ·exact sp_4 w
 ·exact sp_5 w
 ·exact sp_6 w
 ·exact sp_7 w
 ·exact sp_8 w
 ·exact sp_9 w
 ·exact sp_10 w
 ·exact sp_11 w
 ·exact sp_12 w
 ·exact sp_13 w
 ·exact sp_14 w
 ·exact sp_15 w
 ·exact sp_16 w
 ·exact sp_17 w
 ·exact sp_18 w
 ·exact sp_19 w
 ·exact sp_20 w
 ·exact sp_21 w
 ·exact sp_22 w
 ·exact sp_23 w
 ·exact sp_24 w
 ·exact sp_25 w
 ·exact sp_26 w
 ·exact sp_27 w
 ·exact sp_28 w
 ·exact sp_29 w
 ·exact sp_30 w
 ·exact sp_31 w
 ·exact sp_32 w
 ·exact sp_33 w
theorem spellW_L:spellW.map (fun t=>t.toList)=spellL:=by simp[spellW,spellL,plainL,keptL,ByteArray.toList_eq]
def kindN (l:List UInt8):Nat:=(spellL.findIdx? (· == l)).getD 0
theorem find_snoc {p:List UInt8->Bool} {L:List (List UInt8)} {k:Nat} (h:∀ x∈L.take k,p x=false) (hk:k < L.length) (hp:p L[k]=true):L.findIdx? p=some k:=by
 rw[List.findIdx?_eq_some_iff_getElem];refine⟨hk,hp,fun j hj=>?_⟩;have:=h L[j] (by rw[List.mem_take_iff_getElem];exact⟨j,by omega,rfl⟩);rw[this];decide
theorem kindM (s:ByteArray) (w:World) (tt:TypeId) (fr:Nat × Nat) (hs:s.size<=1000) (hg:w.heap[1]? = some (.cells spellA tt fr)) (R:Int) (hR:R=if (numP s.toList).isSome then 1 else (kindN s.toList:Int)):
  Calls Tryz.prog 67 #[.string s] w fun e w'=>e=.returned (.int .i64 R)/\w'=w:=by
 have HR:=hide hR;have HG:=hide hg;clear hR hg;go_enter Tryz.func67,Tryz.ntmps67
 go_wp2_with fail
 refine (isNumM _ _ hs).mono ?_;rintro e w' ⟨rfl,hw⟩;rw[hw];clear hw
 cases hn:(numP s.toList).isSome
 ·have HR2:Hid (R=(kindN s.toList:Int)):=by have:=HR.out;rw[hn] at this;exact this
  go_wp2_with (refine wpList_load_row rfl 142 _ rfl 1 rfl tt _ fr _ HG.out Tryz.underlying142 rfl (by kernel_rfl) ?_)
  go_loop [8] (fun i=>∃ k:Nat,k<=34/\i=.int .i64 k/\∀ x∈spellL.take k,(x == s.toList)=false) (fun i=>34 - (intOf i).toNat)
  case atStart=>exact⟨0,by omega,rfl,by simp⟩
  case round=>
   obtain⟨k,hk,rfl,hno⟩:=hrel;have HN:=hide hno;clear hno;by_cases hlt:k < 34
   ·have hidx:=spellA_at k hlt;obtain⟨t,ht⟩:∃ t,t=spellW.getD k ⟨#[]⟩:=⟨_,rfl⟩;rw[<-ht] at hidx;have hkl:k < spellL.length:=hlt;have HT:Hid (spellL[k]=t.toList):=by
     unfold Hid;have:spellL[k]? = some t.toList:=by
      rw[<-spellW_L,ht];have hw:k < spellW.length:=hlt;simp[List.getD,hw]
     rw[List.getElem?_eq_getElem hkl] at this;exact Option.some.inj this
    clear ht
    cases hc:(s.toList == t.toList)
    ·go_wp2
     go_round
     case rel=>
      refine⟨k+1,by omega,by go_num,?_⟩;rw[List.take_succ_eq_append_getElem hkl];intro x hx;rcases List.mem_append.1 hx with h1|h1
      ·exact HN.out x h1
      ·have:x=spellL[k]:=by simpa using h1
       rw[this,HT.out];rw[beq_eq_false_iff_ne] at hc ⊢;exact fun e=>hc e.symm
     case measure=>simp[intOf];omega
    ·have HF:Hid (R=(k:Int)):=by
      unfold Hid;rw[HR2.out];unfold kindN;rw[find_snoc HN.out hkl (by rw[HT.out];rw[beq_iff_eq] at hc ⊢;exact hc.symm)];rfl
     go_wp2;go_ret;exact⟨by rw[HF.out];rfl,rfl⟩
   ·have HF:Hid (R=0):=by
     unfold Hid;rw[HR2.out];unfold kindN;have:spellL.findIdx? (· == s.toList)=none:=by
      rw[List.findIdx?_eq_none_iff];intro x hx;exact HN.out x (by rw[List.take_of_length_le (by show 34<=k;omega)];exact hx)
     rw[this];rfl
    go_wp2;go_ret;exact⟨by rw[HF.out];rfl,rfl⟩
 ·have HR2:Hid (R=1):=by have:=HR.out;rw[hn] at this;exact this
  go_wp2;go_ret;exact⟨by rw[HR2.out];rfl,rfl⟩
end
section
open Go.RowKit
variable {K:Nat->Prop}
def findI (defs:List Def) (t:Tok):Int:=match defs.findIdx? (fun d=>d.name == t) with
 | some k=>k
 | none=>-1
end
section
open Go.RowKit
variable {K:Nat->Prop}
theorem Kp.one (w:World) (b o:Nat) (v:Value):Kp w (w.setCell ⟨b,o,none⟩ v) (fun k=>k=b):=(Kp.refl w (fun k=>k=b)).set (a:=⟨b,o,none⟩) (fun _=>rfl) v
theorem Blk.drewN {w:World} {b:Nat} {t:TypeId} {c:Array Value} (h:Blk w b t c) (n:Nat):Blk (w.drewN n) b t c:=h
theorem Kp.drewN {w w':World} {S:Nat->Prop} (h:Kp w w' S) (n:Nat):Kp w (w'.drewN n) S:=⟨h.os,h.tape,h.output,h.size,h.block⟩
theorem row_slice {w:World} {e:TypeId} {z:Nat} {v:Value} {n:Nat} {xs:List Value} (h:w.ownsRow 0 e z v n xs):∃ ao cap,v=.slice ao n cap:=by
 rcases h.2 with⟨hv,h0⟩|⟨g,cap,_,hv,_⟩
 ·exact⟨none,0,by rw[hv,h0]⟩
 ·exact⟨some ⟨g,0,none⟩,cap,hv⟩
theorem row_cell {w:World} {e:TypeId} {z:Nat} {v:Value} {n:Nat} {xs:List Value} (h:w.ownsRow 0 e z v n xs) (hn:0 < n):∃ g cap,v=.slice (some ⟨g,0,none⟩) n cap/\∀ j u,xs[j]? = some u->w.cell? ⟨g,j,none⟩=some u:=by
 rcases h.2 with⟨hv,h0⟩|⟨g,cap,cur,hv,_,hgg,_,_,_,htk⟩
 ·omega
 ·refine⟨g,cap,hv,fun j u hj=>?_⟩;have hb':Blk w g e cur:=hgg;refine hb'.cell ?_;rw[<-htk,List.getElem?_take] at hj
  split at hj
  ·simpa using hj
  ·cases hj
end
section
open Go.RowKit
variable {K:Nat->Prop}
theorem isName_len {t:ByteArray} (h:t.size < 1\/(1<=t.size/\8 < t.size)):isName t.data.toList=false:=by
 have hl:t.data.toList.length=t.size:=rfl;unfold isName;rw[hl,decide_eq_false (by omega)];simp
theorem isName_bad {t:ByteArray} {k:Nat} (hk:k < t.size) (h:¬ (97<=t[k].toNat/\t[k].toNat<=122)):isName t.data.toList=false:=by
 unfold isName;have:(t.data.toList.all fun c=>decide (97<=c.toNat/\c.toNat<=122))=false:=by
  rw[List.all_eq_false];exact⟨t.data.toList[k]'hk,List.getElem_mem _,by show ¬ (decide (97<=t[k].toNat/\t[k].toNat<=122)=true);simpa using h⟩
 rw[this];simp
theorem isName_all {t:ByteArray} (h0:1<=t.size) (h1:t.size<=8) (ha:(t.data.toList.take t.size).all (fun c=>decide (97<=c.toNat/\c.toNat<=122))=true):isName t.data.toList=(!plainL.any (· == t.toList) && !keptL.any (· == t.toList)):=by
 have hl:t.data.toList.length=t.size:=rfl;rw[List.take_of_length_le (by omega)] at ha;unfold isName;rw[ha,hl,decide_eq_true ⟨h0,h1⟩,ByteArray.toList_eq];simp
end
section
open Go.RowKit
variable {K:Nat->Prop}
def consR {α β ε:Type} (done:List α):Except ε (List α × β)->Except ε (List α × β)
 | .ok (bs,r)=>.ok (done ++ bs,r)
 | .error e=>.error e
theorem consR_nil {α β ε:Type} (r:Except ε (List α × β)):consR [] r=r:=by rcases r with e|⟨bs,r⟩ <;> rfl
theorem consR_app {α β ε:Type} (d d':List α) (r:Except ε (List α × β)):consR d (consR d' r)=consR (d ++ d') r:=by rcases r with e|⟨bs,r⟩ <;> simp[consR]
def texts (ws:List ByteArray):List Tok:=ws.map fun t=>t.data.toList
end
section
open Go.RowKit
variable {K:Nat->Prop}
def knownD (defs:List Def) (t:Tok):Bool:=(defs.findIdx? (fun d=>d.name == t)).isSome
theorem knownD_neg {defs:List Def} {t:Tok} (h:findI defs t < 0):knownD defs t=false:=by
 unfold findI at h;unfold knownD
 cases hf:defs.findIdx? (fun d=>d.name == t) with
 | none=>rfl
 | some k=>rw[hf] at h;simp at h;omega
abbrev PRes:=Except Int (List It × Tok × List Tok)
theorem pB0 (known:Tok->Bool) (lo:Nat) (ends:List Tok) (r:List Tok):pRead known 0 ⟨false,lo,ends,[]⟩ r=none:=rfl
theorem pB_nil (known:Tok->Bool) (g lo:Nat) (ends:List Tok):pRead known (g+1) ⟨false,lo,ends,[]⟩ []=some (.error 4):=by rw[pRead];rfl
theorem pB_stop (known:Tok->Bool) (g lo:Nat) (ends:List Tok) (t:Tok) (r:List Tok) (h:ends.any (· == t)=true):pRead known (g+1) ⟨false,lo,ends,[]⟩ (t :: r)=some (.ok ([],t,r)):=by
 rw[pRead];simp[h]
theorem pB_go (known:Tok->Bool) (g lo:Nat) (ends:List Tok) (t:Tok) (r:List Tok) (h:ends.any (· == t)=false) (res:PRes) (hres:pRead known (g+1) ⟨false,lo,ends,[]⟩ (t :: r)=some res):
  (∃ e,pRead known g ⟨true,lo,[],t⟩ r=some (.error e)/\res=.error e) \/
  (∃ xs t1 r2 res',pRead known g ⟨true,lo,[],t⟩ r=some (.ok (xs,t1,r2))/\pRead known g ⟨false,lo,ends,[]⟩ r2=some res'/\res=consR xs res'):=by
 rw[pRead] at hres;simp only[h,Bool.false_eq_true,if_false,if_true] at hres
 split at hres
 ·cases hres
 ·rename_i e he;injection hres with hres;exact .inl ⟨e,he,hres.symm⟩
 ·rename_i xs t1 r2 he
  split at hres
  ·cases hres
  ·rename_i e he';injection hres with hres;exact .inr ⟨xs,t1,r2,.error e,he,he',hres.symm⟩
  ·rename_i ys t' r3 he';injection hres with hres;exact .inr ⟨xs,t1,r2,.ok (ys,t',r3),he,he',hres.symm⟩
def longT (t:Tok):Prop:=t=kIf\/t=kBegin\/t=kDo\/t=kOpen
theorem pI_one (known:Tok->Bool) (g lo:Nat) (t:Tok) (r:List Tok) (h:¬ longT t):pRead known (g+1) ⟨true,lo,[],t⟩ r=match pOne known lo t with
  | .error e=>some (.error e)
  | .ok x=>some (.ok ([x],[],r)):=by
 unfold longT at h;rw[pRead.eq_def];simp only[Bool.true_eq_false,if_false];rw[if_neg (fun e=>h (.inl e)),if_neg (fun e=>h (.inr (.inl e))),if_neg (fun e=>h (.inr (.inr (.inl e)))),if_neg (fun e=>h (.inr (.inr (.inr e))))];rfl
theorem not_long_num {t:Tok} {n:Int} (h:numP t=some n):¬ longT t:=by
 rintro (rfl|rfl|rfl|rfl)
 ·rw[show numP kIf=none by decide] at h;cases h
 ·rw[show numP kBegin=none by decide] at h;cases h
 ·rw[show numP kDo=none by decide] at h;cases h
 ·rw[show numP kOpen=none by decide] at h;cases h
theorem not_long_plain {t:Tok} (h:plainL.any (· == t)=true):¬ longT t:=by
 rintro (rfl|rfl|rfl|rfl) <;> revert h <;> decide
theorem pI_num {known:Tok->Bool} {g lo:Nat} {t:Tok} {r:List Tok} {n:Int} (h:numP t=some n):pRead known (g+1) ⟨true,lo,[],t⟩ r=some (.ok ([⟨110,n,[],[],[],[]⟩],[],r)):=by
 rw[pI_one _ _ _ _ _ (not_long_num h)];unfold pOne;rw[h]
theorem pI_plain {known:Tok->Bool} {g lo:Nat} {t:Tok} {r:List Tok} (h:numP t=none) (h':plainL.any (· == t)=true):pRead known (g+1) ⟨true,lo,[],t⟩ r=some (.ok ([⟨112,0,t,[],[],[]⟩],[],r)):=by
 rw[pI_one _ _ _ _ _ (not_long_plain h')];unfold pOne;rw[h];simp only[h',if_true]
theorem pI_i {known:Tok->Bool} {g lo:Nat} {r:List Tok} (h:0 < lo):pRead known (g+1) ⟨true,lo,[],kI⟩ r=some (.ok ([⟨105,0,[],[],[],[]⟩],[],r)):=by
 rw[pI_one _ _ _ _ _ (by unfold longT;decide)];have:pOne known lo kI=.ok ⟨105,0,[],[],[],[]⟩:=by
  unfold pOne;rw[show numP kI=none by decide];simp only;rw[if_neg (by decide),if_pos ⟨trivial,h⟩]
 rw[this]
theorem pI_i0 {known:Tok->Bool} {g:Nat} {r:List Tok}:pRead known (g+1) ⟨true,0,[],kI⟩ r=some (.error 4):=by
 rw[pI_one _ _ _ _ _ (by unfold longT;decide)];have:pOne known 0 kI=.error 4:=by
  unfold pOne;rw[show numP kI=none by decide];simp only;rw[if_neg (by decide),if_neg (by simp),if_neg (by decide),if_neg (by decide),if_pos (by decide)]
 rw[this]
theorem pI_rec {known:Tok->Bool} {g lo:Nat} {r:List Tok}:pRead known (g+1) ⟨true,lo,[],kRecurse⟩ r=some (.ok ([⟨114,0,[],[],[],[]⟩],[],r)):=by
 rw[pI_one _ _ _ _ _ (by unfold longT;decide)];have:pOne known lo kRecurse=.ok ⟨114,0,[],[],[],[]⟩:=by
  unfold pOne;rw[show numP kRecurse=none by decide];simp only;rw[if_neg (by decide),if_neg (fun h=>absurd h.1 (by decide)),if_pos trivial]
 rw[this]
theorem pI_exit {known:Tok->Bool} {g lo:Nat} {r:List Tok}:pRead known (g+1) ⟨true,lo,[],kExit⟩ r=some (.ok ([⟨120,0,[],[],[],[]⟩],[],r)):=by
 rw[pI_one _ _ _ _ _ (by unfold longT;decide)];have:pOne known lo kExit=.ok ⟨120,0,[],[],[],[]⟩:=by
  unfold pOne;rw[show numP kExit=none by decide];simp only;rw[if_neg (by decide),if_neg (fun h=>absurd h.1 (by decide)),if_neg (by decide),if_pos trivial]
 rw[this]
theorem pI_if {known:Tok->Bool} {g lo:Nat} {r:List Tok} {res:PRes} (h:pRead known (g+1) ⟨true,lo,[],kIf⟩ r=some res):
    (∃ e,pRead known g ⟨false,lo,[kElse,kThen],[]⟩ r=some (.error e)/\res=.error e) \/
    (∃ a t1 r1,pRead known g ⟨false,lo,[kElse,kThen],[]⟩ r=some (.ok (a,t1,r1)) /\
      ((t1=kElse/\((∃ e,pRead known g ⟨false,lo,[kThen],[]⟩ r1=some (.error e)/\res=.error e)\/(∃ b t2 r2,pRead known g ⟨false,lo,[kThen],[]⟩ r1=some (.ok (b,t2,r2))/\res=.ok ([⟨63,0,[],a,b,[]⟩],[],r2)))) \/
       (¬ t1=kElse/\res=.ok ([⟨63,0,[],a,[],[]⟩],[],r1)))):=by
  rw[pRead.eq_def] at h;simp only[Bool.true_eq_false,if_false,if_true] at h
  split at h
  · cases h
  · rename_i e he;injection h with h;exact .inl ⟨e,he,h.symm⟩
  · rename_i a t1 r1 he
    refine .inr ⟨a,t1,r1,he,?_⟩;by_cases h1:t1=kElse
    · rw[if_pos h1] at h
      refine .inl ⟨h1,?_⟩
      split at h
      · cases h
      · rename_i e he';injection h with h;exact .inl ⟨e,he',h.symm⟩
      · rename_i b t2 r2 he';injection h with h;exact .inr ⟨b,t2,r2,he',h.symm⟩
    · rw[if_neg h1] at h
      injection h with h;exact .inr ⟨h1,h.symm⟩
theorem pI_begin {known:Tok->Bool} {g lo:Nat} {r:List Tok} {res:PRes} (h:pRead known (g+1) ⟨true,lo,[],kBegin⟩ r=some res):
    (∃ e,pRead known g ⟨false,lo,[kUntil,kWhile],[]⟩ r=some (.error e)/\res=.error e) \/
    (∃ a t1 r1,pRead known g ⟨false,lo,[kUntil,kWhile],[]⟩ r=some (.ok (a,t1,r1)) /\
      ((t1=kWhile/\((∃ e,pRead known g ⟨false,lo,[kRepeat],[]⟩ r1=some (.error e)/\res=.error e)\/(∃ b t2 r2,pRead known g ⟨false,lo,[kRepeat],[]⟩ r1=some (.ok (b,t2,r2))/\res=.ok ([⟨119,0,[],a,b,[]⟩],[],r2)))) \/
       (¬ t1=kWhile/\res=.ok ([⟨117,0,[],a,[],[]⟩],[],r1)))):=by
  rw[pRead.eq_def] at h;simp only[Bool.true_eq_false,if_false] at h;rw[if_neg (by decide),if_pos trivial] at h
  split at h
  · cases h
  · rename_i e he;injection h with h;exact .inl ⟨e,he,h.symm⟩
  · rename_i a t1 r1 he
    refine .inr ⟨a,t1,r1,he,?_⟩;by_cases h1:t1=kWhile
    · rw[if_pos h1] at h
      refine .inl ⟨h1,?_⟩
      split at h
      · cases h
      · rename_i e he';injection h with h;exact .inl ⟨e,he',h.symm⟩
      · rename_i b t2 r2 he';injection h with h;exact .inr ⟨b,t2,r2,he',h.symm⟩
    · rw[if_neg h1] at h
      injection h with h;exact .inr ⟨h1,h.symm⟩
theorem pI_do {known:Tok->Bool} {g lo:Nat} {r:List Tok} {res:PRes} (h:pRead known (g+1) ⟨true,lo,[],kDo⟩ r=some res):
  (∃ e,pRead known g ⟨false,lo+1,[kLoop],[]⟩ r=some (.error e)/\res=.error e) \/
  (∃ a t1 r1,pRead known g ⟨false,lo+1,[kLoop],[]⟩ r=some (.ok (a,t1,r1))/\res=.ok ([⟨100,0,[],a,[],[]⟩],[],r1)):=by
 rw[pRead.eq_def] at h;simp only[Bool.true_eq_false,if_false] at h;rw[if_neg (by decide),if_neg (by decide),if_pos trivial] at h
 split at h
 ·cases h
 ·rename_i e he;injection h with h;exact .inl ⟨e,he,h.symm⟩
 ·rename_i a t1 r1 he;injection h with h;exact .inr ⟨a,t1,r1,he,h.symm⟩
theorem pI_open {known:Tok->Bool} {g lo:Nat} {r:List Tok}:pRead known (g+1) ⟨true,lo,[],kOpen⟩ r=match pBraces r with
  | .error e=>some (.error e)
  | .ok (ts,r1)=>some (.ok ([⟨123,0,[],[],[],ts⟩],[],r1)):=by
 rw[pRead.eq_def];simp only[Bool.true_eq_false,if_false];rw[if_neg (by decide),if_neg (by decide),if_neg (by decide),if_pos trivial];rcases pBraces r with e|⟨a,b⟩ <;> rfl
end
section
open Go.RowKit
variable {K:Nat->Prop}
abbrev New (w:World):Nat->Prop:=fun b=>w.heap.size<=b
theorem addr_add (g j:Nat):(⟨g,0,none⟩:Addr).add j=⟨g,j,none⟩:=by unfold Addr.add;split <;> simp_all
theorem new_cells (w:World) (o:Obj) (c:Array Value) (t:TypeId):∀ (j:Nat) (u:Value),c.toList[j]? = some u->((w.alloc o).alloc (.cells c t)).cell? ((⟨w.heap.size+1,0,none⟩:Addr).add j)=some u:=by
 intro j u hj;have hb:=Blk.new (w.alloc o) c t;rw[show (w.alloc o).heap.size=w.heap.size+1 by simp] at hb;rw[addr_add];exact hb.cell (by simpa using hj)
theorem grown_keep {w2 w3:World} {o1 o2:Obj} {v:Value} (hg:((w2.alloc o1).alloc o2).grownBy w3 v.ownBlock) {b:Nat} {t:TypeId} {c:Array Value} (hb:Blk w2 b t c) (hn:¬ own v b):Blk w3 b t c:=
 ((hb.alloc o1).alloc o2).same (hg.block b (by have:=hb.lt;simp;omega) (fun e=>hn e.symm))
end
section
open Go.RowKit
variable {K:Nat->Prop}
theorem in0:In 0:=⟨by decide,by decide⟩
end
section
open Go.RowKit
variable {K:Nat->Prop}
abbrev DRes:=Except Int (Tok × List It × List Tok)
def pDefD (g:Nat) (defs:List Def):List Tok->Option DRes
 | []=>some (.error 4)
 | t :: r=>if isName t=false then some (.error 4) else if knownD defs t=false/\30<=defs.length then some (.error 5) else
  match pRead (knownD defs) g ⟨false,0,[kSemi],[]⟩ r with
  | none=>none
  | some (.error e)=>some (.error e)
  | some (.ok (b,_,r1))=>some (.ok (t,b,r1))
theorem pDef_eq (g:Nat) (s:St) (l:List Tok):pDef g s l=pDefD g s.defs l:=by
 cases l <;> rfl
theorem Kp.newer {w w1 w2:World} {b:Nat} (h:Kp w w1 (fun _=>False)) (hk:Kp w1 w2 (fun k=>k=b)) (hb:w.heap.size<=b):Kp w w2 (fun _=>False):=
 ⟨hk.os.trans h.os,hk.tape.trans h.tape,hk.output.trans h.output,Nat.le_trans h.size hk.size,fun k hlt hn=>(hk.block k (Nat.lt_of_lt_of_le hlt h.size) (by omega)).trans (h.block k hlt hn)⟩
end
end Go.Proofs.YteainaiebcphlaaGreatDoor
