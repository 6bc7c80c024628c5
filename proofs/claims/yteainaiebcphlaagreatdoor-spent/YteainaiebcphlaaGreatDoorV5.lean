import Derived.Test.YteainaiebcphlaaGreatDoorV4
import Derived.Lib.Fields
namespace Go.Proofs.YteainaiebcphlaaGreatDoor
set_option maxRecDepth 1000000
set_option maxHeartbeats 4000000
set_option linter.all false
section
open Go.RowKit
theorem numberR_empty (s:ByteArray) (w:World) (h0:s.size=0) (HB':Hid (numV s.toList=.tuple #[.int .i64 0,.bool false])):
  Calls Tryz.prog 81 #[.string s] w fun e w'=>e=.returned (numV s.toList)/\w'=w:=by
 go_enter Tryz.func81,Tryz.ntmps81;go_wp2;go_ret2;exact⟨by rw[HB'.out];rfl,rfl⟩
theorem numberR_long (s:ByteArray) (w:World) (h0:0 < s.size) (hc:((s[0].toNat:Int) == 45)=false) (h18:18 < s.size) (HB':Hid (numV s.toList=.tuple #[.int .i64 0,.bool false])):
  Calls Tryz.prog 81 #[.string s] w fun e w'=>e=.returned (numV s.toList)/\w'=w:=by
 go_enter Tryz.func81,Tryz.ntmps81;go_wp2;go_ret2;exact⟨by rw[HB'.out];rfl,rfl⟩
theorem numberR_minus_no (s t:ByteArray) (w:World) (h0:0 < s.size) (hc:((s[0].toNat:Int) == 45)=true) (ht:s.extract 1 s.size=t) (h18:t.size < 1\/(1<=t.size/\18 < t.size)) (HB':Hid (numV s.toList=.tuple #[.int .i64 0,.bool false])):
  Calls Tryz.prog 81 #[.string s] w fun e w'=>e=.returned (numV s.toList)/\w'=w:=by
 rcases h18 with h|⟨h,h'⟩
 all_goals
  go_enter Tryz.func81,Tryz.ntmps81;go_wp2;go_ret2;exact⟨by rw[HB'.out];rfl,rfl⟩
theorem numberR (s:ByteArray) (w:World):
  Calls Tryz.prog 81 #[.string s] w fun e w'=>e=.returned (numV s.toList)/\w'=w:=by
 by_cases h0:0 < s.size
 ·have hl:=toList_of_size h0;by_cases h45:s[0]=45
  ·have hsz:(s.extract 1 s.size).toList.length=(s.extract 1 s.size).size:=by rw[ByteArray.toList_eq];rfl
   by_cases ht:1<=(s.extract 1 s.size).size/\(s.extract 1 s.size).size<=18
   ·exact numberR_minus s _ w h0 h45 rfl ht.1 ht.2
   ·refine numberR_minus_no s _ w h0 (by rw[h45];rfl) rfl (by omega) (numV_none ?_);rw[hl,h45,numP_minus,if_neg];unfold digitsB;rw[hsz,decide_eq_false (by omega)];simp
  ·have hc:((s[0].toNat:Int) == 45)=false:=by
    simp only[beq_eq_false_iff_ne,ne_eq];intro h;exact h45 (by apply UInt8.toNat_inj.1;simpa using (by omega:s[0].toNat=45))
   by_cases h18:s.size<=18
   ·exact numberR_plain s w h0 h45 h18
   ·refine numberR_long s w h0 hc (by omega) (numV_none ?_);have hsz:s.toList.length=s.size:=by rw[ByteArray.toList_eq];rfl
    have hp:numP s.toList=if digitsB s.toList=true then some (valD s.toList:Int) else none:=by rw[hl];exact numP_other _ _ h45
    rw[hp,if_neg];unfold digitsB;rw[hsz,decide_eq_false (by omega)];simp
 ·refine numberR_empty s w (by omega) (numV_none ?_);have:s.toList=[]:=by
   rw[ByteArray.toList_eq];apply List.eq_nil_of_length_eq_zero;show s.data.size=0;have:s.data.size=s.size:=rfl;omega
  rw[this];rfl
end
section
open Go.RowKit
def okB (c:UInt8):Bool:=decide (32<=c.toNat/\c.toNat<=126)
def validB (l:List UInt8):Bool:=decide (l.length<=400) && l.all okB
theorem isSp_ok {c:UInt8} (h:32<=c.toNat/\c.toNat<=126):Lib.isSp c=decide (c.toNat=32):=by
 have key:∀ i:Fin 256,32<=i.val->i.val<=126->Lib.isSp (UInt8.ofNat i.val)=decide (i.val=32):=by decide +kernel
 have:=key ⟨c.toNat,c.toNat_lt⟩ h.1 h.2
 simpa using this
theorem drop_cons (s:ByteArray) (k:Nat) (h:k < s.size):s.data.toList.drop k=s[k] :: s.data.toList.drop (k+1):=by
 rw[List.drop_eq_getElem_cons (by simpa using h)];rfl
theorem Tryz.info9:(Tryz.prog.info? 9).map (fun i=>(i.zero,i.size,i.bytes))=some (some (.string ByteArray.empty),1,16):=by kernel_rfl
structure TkInv (w wr:World) (s:ByteArray) (k:Nat) (v:Value) (wd:ByteArray) (ts:List ByteArray):Prop where
 row:wr.ownsRow w.heap.size 9 1 v ts.length (ts.map Value.string)
 all:(s.data.toList.take k).all okB=true
 flds:Lib.fields s.data.toList=ts.map (fun t=>t.data.toList) ++ Lib.fieldsGo wd.data.toList (s.data.toList.drop k)
 kp:Kp w wr (fun _=>False)
 wl:wd.size<=k
 tl:ts.length<=k
theorem all_snoc {s:ByteArray} {k:Nat} (hlt:k < s.size) (h:(s.data.toList.take k).all okB=true) (ho:32<=s[k].toNat/\s[k].toNat<=126):(s.data.toList.take (k+1)).all okB=true:=by
 rw[take_snoc s k hlt,List.all_append,h];simp[okB,ho]
theorem data_one (s:ByteArray) (k:Nat) (hlt:k < s.size) (wd:ByteArray):(wd ++ s.extract k (k+1)).data.toList=wd.data.toList ++ [s[k]]:=by
 rw[ByteArray.data_append,Array.toList_append,Lib.extract_data,drop_cons s k hlt];simp
theorem size_one (s:ByteArray) (k:Nat) (hlt:k < s.size) (wd:ByteArray):(wd ++ s.extract k (k+1)).size=wd.size+1:=by
 have:=congrArg List.length (data_one s k hlt wd);simp only[List.length_append,List.length_cons,List.length_nil] at this;exact this
theorem empty_toList {wd:ByteArray} (h:wd.toList.isEmpty=true):wd.data.toList=[]:=by
 rw[ByteArray.toList_eq] at h;exact List.isEmpty_iff.1 h
theorem full_toList {wd:ByteArray} (h:wd.toList.isEmpty=false):wd.data.toList ≠ []:=by
 rw[ByteArray.toList_eq] at h;intro h';rw[h'] at h;cases h
theorem TkInv.more {w wr:World} {s:ByteArray} {k:Nat} {v:Value} {wd:ByteArray} {ts:List ByteArray} (H:TkInv w wr s k v wd ts) (hlt:k < s.size) (ho:32<=s[k].toNat/\s[k].toNat<=126) (h32:¬ s[k].toNat=32):
  TkInv w wr s (k+1) v (wd ++ s.extract k (k+1)) ts:=by
 refine⟨H.row,all_snoc hlt H.all ho,?_,H.kp,by rw[size_one s k hlt];have:=H.wl;omega,by have:=H.tl;omega⟩;rw[H.flds,drop_cons s k hlt,Lib.fieldsGo_more _ _ _ (by rw[isSp_ok ho];exact decide_eq_false h32),data_one s k hlt]
theorem TkInv.skip {w wr:World} {s:ByteArray} {k:Nat} {v:Value} {wd:ByteArray} {ts:List ByteArray} (H:TkInv w wr s k v wd ts) (hlt:k < s.size) (h32:s[k].toNat=32) (hw:wd.toList.isEmpty=true):
  TkInv w wr s (k+1) v ⟨#[]⟩ ts:=by
 have ho:32<=s[k].toNat/\s[k].toNat<=126:=by omega
 refine⟨H.row,all_snoc hlt H.all ho,?_,H.kp,Nat.zero_le _,by have:=H.tl;omega⟩;rw[H.flds,drop_cons s k hlt,empty_toList hw,Lib.fieldsGo_sp _ _ (by rw[isSp_ok ho];exact decide_eq_true h32)]
theorem TkInv.cut {w wr w1:World} {s:ByteArray} {k:Nat} {v v':Value} {wd:ByteArray} {ts:List ByteArray} {o:Obj} (H:TkInv w wr s k v wd ts) (hlt:k < s.size) (h32:s[k].toNat=32) (hw:wd.toList.isEmpty=false)
  (hown:w1.ownsRow w.heap.size 9 1 v' (ts.length+1) (List.map Value.string ts ++ [Value.string wd])) (hg:(wr.alloc o).grownBy w1 v.ownBlock):TkInv w w1 s (k+1) v' ⟨#[]⟩ (ts ++ [wd]):=by
 have ho:32<=s[k].toNat/\s[k].toNat<=126:=by omega
 refine⟨by simpa using hown,all_snoc hlt H.all ho,?_,(H.kp.alloc o).grown hg (fun b hb e=>?_),Nat.zero_le _,by have:=H.tl;simp;omega⟩
 ·rw[H.flds,drop_cons s k hlt,Lib.fieldsGo_end _ _ _ (by rw[isSp_ok ho];exact decide_eq_true h32) (full_toList hw)];simp
 ·have:=(H.row.lt b e).1;omega
theorem validB_of {s:ByteArray} (hs:s.size<=400) (h:(s.data.toList.take s.size).all okB=true):validB s.data.toList=true:=by
 have hl:s.data.toList.length=s.size:=rfl;rw[List.take_of_length_le (by omega)] at h;unfold validB;rw[h,hl];simpa using hs
theorem validB_bad {s:ByteArray} {k:Nat} (hlt:k < s.size) (h:¬ (32<=s[k].toNat/\s[k].toNat<=126)):validB s.data.toList=false:=by
 unfold validB;rw[Bool.and_eq_false_iff];right;rw[List.all_eq_false];refine⟨s[k],?_,by simp[okB];omega⟩;have:s.data.toList[k]'hlt=s[k]:=rfl;rw[<-this];exact List.getElem_mem _
theorem tokensR_try (s:ByteArray) (w:World) (hs:s.size<=400):
    Calls Tryz.prog 62 #[.string s] w fun e w'=>∃ v,Kp w w' (fun _=>False) /\ 
      ((validB s.data.toList=true/\e=.returned (.tuple #[v,.bool true])/\∃ ts:List ByteArray,w'.ownsRow w.heap.size 9 1 v ts.length (ts.map Value.string)/\ts.map (fun t=>t.data.toList)=Lib.fields s.data.toList) \/
       (validB s.data.toList=false/\e=.returned (.tuple #[v,.bool false]))):=by
  obtain⟨i0,hi,hz0,hz1,hz2⟩:=info_parts Tryz.info9;go_enter Tryz.func62,Tryz.ntmps62;go_wp2
  go_loopw [4,5,6] (fun v x i wr=>∃ (k:Nat) (wd:ByteArray) (ts:List ByteArray),k<=s.size/\i=.int .i64 k/\x=.string wd/\TkInv w wr s k v wd ts) (fun _ _ i _=>s.size - (intOf i).toNat)
  case atStart=>exact⟨0,⟨#[]⟩,[],Nat.zero_le _,rfl,rfl,⟨World.ownsRow_nil _ _ _ _,rfl,rfl,Kp.refl _ _,Nat.le_refl _,Nat.le_refl _⟩⟩
  case round=>
    obtain⟨k,wd,ts,hk,rfl,rfl,H⟩:=hrel;have hwl:=H.wl;have htl:=H.tl;have hown:=H.row;have hbw:=H.kp.size;by_cases hlt:k < s.size
    · by_cases hok:32<=s[k].toNat/\s[k].toNat<=126
      · obtain⟨ho1,ho2⟩:=hok
        by_cases h32:s[k].toNat=32
        · cases hwe:wd.toList.isEmpty
          · go_wp2_with (first
              | (at_builtin;refine wpList_append_own _ rfl _ _ 47 rfl w.heap.size 9 i0 (.string ByteArray.empty) 1 16 Tryz.underlying47 hi hz0 hz1 hz2 rfl (by decide) _ _ _ rfl (hown.alloc _) ⟨wr.heap.size,0,none⟩ 1 1 [.string wd] rfl rfl ?c1 ?c2 ?c3 ?c4 ?c5 ?_)
              | go_in)
            case c1=>intro j u hj;match j,hj with|0,hj=>simp at hj;subst hj;simp[Addr.add]
            case c2=>intro u hu;simp at hu;subst hu;rfl
            case c3=>unfold maxLen;omega
            case c4=>omega
            case c5=>simp;omega
            intro v' w1 hown' hgrow _;have H2:=H.cut hlt h32 hwe hown' hgrow;clear hown' hgrow hown H;go_wp2
            go_roundw
            case rel=>exact⟨k+1,_,_,by omega,by go_num,rfl,H2⟩
            case measure=>simp[intOf];omega
          · go_wp2
            go_roundw
            case rel=>exact⟨k+1,_,_,by omega,by go_num,rfl,H.skip hlt h32 hwe⟩
            case measure=>simp[intOf];omega
        · go_wp2
          go_roundw
          case rel=>exact⟨k+1,_,_,by omega,by go_num,rfl,H.more hlt ⟨ho1,ho2⟩ h32⟩
          case measure=>simp[intOf];omega
      · have hbad:=validB_bad hlt hok
        have HB:Hid (validB s.data.toList=false):=hbad;clear hbad;rcases (show s[k].toNat < 32\/(32<=s[k].toNat/\126 < s[k].toNat) by omega) with h1|⟨h1,h2⟩
        all_goals
          clear hok;go_wp2;go_ret2
          first|exact⟨_,H.kp,.inr ⟨HB.out,rfl⟩⟩|exact⟨H.kp,_,.inr ⟨HB.out,rfl⟩⟩
    · have hks:k=s.size:=by omega
      have HV:Hid (validB s.data.toList=true):=by have:=H.all;rw[hks] at this;exact validB_of hs this
      have HF:Hid (Lib.fields s.data.toList=ts.map (fun t=>t.data.toList) ++ Lib.fieldsGo wd.data.toList []):=by
        have:=H.flds;rw[List.drop_of_length_le (by show s.data.size<=k;exact Nat.le_of_eq hks.symm)] at this;exact this
      clear hks
      cases hwe:wd.toList.isEmpty
      · go_wp2_with (first
          | (at_builtin;refine wpList_append_own _ rfl _ _ 47 rfl w.heap.size 9 i0 (.string ByteArray.empty) 1 16 Tryz.underlying47 hi hz0 hz1 hz2 rfl (by decide) _ _ _ rfl (hown.alloc _) ⟨wr.heap.size,0,none⟩ 1 1 [.string wd] rfl rfl ?d1 ?d2 ?d3 ?d4 ?d5 ?_)
          | go_in)
        case d1=>intro j u hj;match j,hj with|0,hj=>simp at hj;subst hj;simp[Addr.add]
        case d2=>intro u hu;simp at hu;subst hu;rfl
        case d3=>unfold maxLen;omega
        case d4=>omega
        case d5=>simp;omega
        intro v' w1 hown' hgrow _;have hne:=full_toList hwe;have hk1:Kp w w1 (fun _=>False):=(H.kp.alloc _).grown hgrow (fun b hb e=>by have:=(H.row.lt b e).1;omega);have HO:Hid (w1.ownsRow w.heap.size 9 1 v' (ts.length+1) (List.map Value.string ts ++ [Value.string wd])):=hown';have HF2:Hid (Lib.fields s.data.toList=(ts ++ [wd]).map (fun t=>t.data.toList)):=by
          have:=HF.out;unfold Hid;rw[this];unfold Lib.fieldsGo;rw[if_neg (by simpa using hne)];simp
        clear hown' hgrow hne hown;go_wp2;go_ret2;exact⟨_,hk1,.inl ⟨HV.out,rfl,ts ++ [wd],by simpa using HO.out,HF2.out.symm⟩⟩
      · have HF2:Hid (Lib.fields s.data.toList=ts.map (fun t=>t.data.toList)):=by
          have:=HF.out;unfold Hid;rw[this,empty_toList hwe];simp[Lib.fieldsGo]
        go_wp2;go_ret2;exact⟨_,H.kp,.inl ⟨HV.out,rfl,ts,H.row,HF2.out.symm⟩⟩
theorem tokensR_long (s:ByteArray) (w:World) (hs:400 < s.size):
  Calls Tryz.prog 62 #[.string s] w fun e w'=>e=.returned (.tuple #[.slice none 0 0,.bool false])/\w'=w:=by
 go_enter Tryz.func62,Tryz.ntmps62;go_wp2;go_ret2;exact⟨rfl,rfl⟩
theorem tokensR_valid (s:ByteArray) (w:World) (hv:validB s.data.toList=true):
  Calls Tryz.prog 62 #[.string s] w fun e w'=>∃ v,Kp w w' (fun _=>False)/\e=.returned (.tuple #[v,.bool true])/\∃ ts:List ByteArray,w'.ownsRow w.heap.size 9 1 v ts.length (ts.map Value.string)/\ts.map (fun t=>t.data.toList)=Lib.fields s.data.toList:=by
 have hs:s.size<=400:=by
  unfold validB at hv;rw[Bool.and_eq_true] at hv;exact of_decide_eq_true hv.1
 refine (tokensR_try s w hs).mono ?_;rintro e w' ⟨v,hk,⟨_,he,h⟩|⟨h,_⟩⟩
 ·exact⟨v,hk,he,h⟩
 ·rw[hv] at h;cases h
theorem tokensR_bad (s:ByteArray) (w:World) (hv:validB s.data.toList=false):
  Calls Tryz.prog 62 #[.string s] w fun e w'=>∃ v,Kp w w' (fun _=>False)/\e=.returned (.tuple #[v,.bool false]):=by
 by_cases hs:s.size<=400
 ·refine (tokensR_try s w hs).mono ?_;rintro e w' ⟨v,hk,⟨h,_⟩|⟨_,he⟩⟩
  ·rw[hv] at h;cases h
  ·exact⟨v,hk,he⟩
 ·refine (tokensR_long s w (by omega)).mono ?_;rintro e w' ⟨he,rfl⟩;exact⟨_,Kp.refl _ _,he⟩
end
section
open Go.RowKit
def prtP (mem:Nat->Int) (out:ByteArray) (r:List Int) (t:ByteArray):Res:=if 300 < out.size+t.size then ⟨11,[],mem,out⟩ else ⟨0,r,mem,out ++ t⟩
def under (mem:Nat->Int) (out:ByteArray):Res:=⟨6,[],mem,out⟩
def p_add (mem:Nat->Int) (out:ByteArray):List Int->Res
 | b :: a :: r=>⟨0,wrap64 (a+b) :: r,mem,out⟩
 | _=>under mem out
def p_sub (mem:Nat->Int) (out:ByteArray):List Int->Res
 | b :: a :: r=>⟨0,wrap64 (a - b) :: r,mem,out⟩
 | _=>under mem out
def p_mul (mem:Nat->Int) (out:ByteArray):List Int->Res
 | b :: a :: r=>⟨0,wrap64 (a * b) :: r,mem,out⟩
 | _=>under mem out
def p_quo (mem:Nat->Int) (out:ByteArray):List Int->Res
 | b :: a :: r=>if b=0 then ⟨9,[],mem,out⟩ else ⟨0,fdiv a b :: r,mem,out⟩
 | _=>under mem out
def p_mod (mem:Nat->Int) (out:ByteArray):List Int->Res
 | b :: a :: r=>if b=0 then ⟨9,[],mem,out⟩ else ⟨0,wrap64 (a - wrap64 (b * fdiv a b)) :: r,mem,out⟩
 | _=>under mem out
def p_eq (mem:Nat->Int) (out:ByteArray):List Int->Res
 | b :: a :: r=>⟨0,sonum (a == b) :: r,mem,out⟩
 | _=>under mem out
def p_lt (mem:Nat->Int) (out:ByteArray):List Int->Res
 | b :: a :: r=>⟨0,sonum (decide (a < b)) :: r,mem,out⟩
 | _=>under mem out
def p_dup (mem:Nat->Int) (out:ByteArray):List Int->Res
 | a :: r=>if r.length < 31 then ⟨0,a :: a :: r,mem,out⟩ else ⟨7,[],mem,out⟩
 | _=>under mem out
def p_drop (mem:Nat->Int) (out:ByteArray):List Int->Res
 | _ :: r=>⟨0,r,mem,out⟩
 | _=>under mem out
def p_swap (mem:Nat->Int) (out:ByteArray):List Int->Res
 | b :: a :: r=>⟨0,a :: b :: r,mem,out⟩
 | _=>under mem out
def p_over (mem:Nat->Int) (out:ByteArray):List Int->Res
 | b :: a :: r=>if r.length < 30 then ⟨0,a :: b :: a :: r,mem,out⟩ else ⟨7,[],mem,out⟩
 | _=>under mem out
def p_rot (mem:Nat->Int) (out:ByteArray):List Int->Res
 | c :: b :: a :: r=>⟨0,a :: c :: b :: r,mem,out⟩
 | _=>under mem out
def p_dot (mem:Nat->Int) (out:ByteArray):List Int->Res
 | a :: r=>prtP mem out r (dot a)
 | _=>under mem out
def p_emit (mem:Nat->Int) (out:ByteArray):List Int->Res
 | a :: r=>prtP mem out r (chR a)
 | _=>under mem out
def p_fetch (mem:Nat->Int) (out:ByteArray):List Int->Res
 | a :: r=>if 0<=a/\a < 16 then ⟨0,mem a.toNat :: r,mem,out⟩ else ⟨10,[],mem,out⟩
 | _=>under mem out
def p_store (mem:Nat->Int) (out:ByteArray):List Int->Res
 | b :: a :: r=>if 0<=b/\b < 16 then ⟨0,r,fun j=>if j=b.toNat then a else mem j,out⟩ else ⟨10,[],mem,out⟩
 | _=>under mem out
def plainP (k:Nat) (rs:List Int) (mem:Nat->Int) (out:ByteArray):Res:=
 match k with
 | 0=>p_add mem out rs
 | 1=>p_sub mem out rs
 | 2=>p_mul mem out rs
 | 3=>p_quo mem out rs
 | 4=>p_mod mem out rs
 | 5=>p_eq mem out rs
 | 6=>p_lt mem out rs
 | 7=>p_dup mem out rs
 | 8=>p_drop mem out rs
 | 9=>p_swap mem out rs
 | 10=>p_over mem out rs
 | 11=>p_rot mem out rs
 | 12=>p_dot mem out rs
 | 13=>p_emit mem out rs
 | 14=>p_fetch mem out rs
 | _=>p_store mem out rs
def In (a:Int):Prop:=-9223372036854775808<=a/\a<=9223372036854775807
theorem plA_add (w:World) (yb:Nat) (s:RS) (rs:List Int) (h:RInv w yb s rs.reverse) (he:s.e=0) (_ho:s.out.size<=300) (hin:∀ a∈rs,In a):
  Calls Tryz.prog 88 #[.pointer (some ⟨yb,0,none⟩),.string { data:=#[43] }] w fun e w'=>e=.returned (.tuple #[])/\RPost w w' yb s (p_add s.mem s.out rs):=by
 match rs,h,hin with
 | [],h,_=>exact plR_add_under w yb s _ h (by simp)
 | [_],h,_=>exact plR_add_under w yb s _ h (by simp)
 | b :: a :: r,h,_=>exact plR_add w yb s b a r h he
theorem plA_sub (w:World) (yb:Nat) (s:RS) (rs:List Int) (h:RInv w yb s rs.reverse) (he:s.e=0) (_ho:s.out.size<=300) (hin:∀ a∈rs,In a):
  Calls Tryz.prog 88 #[.pointer (some ⟨yb,0,none⟩),.string { data:=#[45] }] w fun e w'=>e=.returned (.tuple #[])/\RPost w w' yb s (p_sub s.mem s.out rs):=by
 match rs,h,hin with
 | [],h,_=>exact plR_sub_under w yb s _ h (by simp)
 | [_],h,_=>exact plR_sub_under w yb s _ h (by simp)
 | b :: a :: r,h,_=>exact plR_sub w yb s b a r h he
theorem plA_mul (w:World) (yb:Nat) (s:RS) (rs:List Int) (h:RInv w yb s rs.reverse) (he:s.e=0) (_ho:s.out.size<=300) (hin:∀ a∈rs,In a):
  Calls Tryz.prog 88 #[.pointer (some ⟨yb,0,none⟩),.string { data:=#[42] }] w fun e w'=>e=.returned (.tuple #[])/\RPost w w' yb s (p_mul s.mem s.out rs):=by
 match rs,h,hin with
 | [],h,_=>exact plR_mul_under w yb s _ h (by simp)
 | [_],h,_=>exact plR_mul_under w yb s _ h (by simp)
 | b :: a :: r,h,_=>exact plR_mul w yb s b a r h he
theorem plA_quo (w:World) (yb:Nat) (s:RS) (rs:List Int) (h:RInv w yb s rs.reverse) (he:s.e=0) (_ho:s.out.size<=300) (hin:∀ a∈rs,In a):
  Calls Tryz.prog 88 #[.pointer (some ⟨yb,0,none⟩),.string { data:=#[47] }] w fun e w'=>e=.returned (.tuple #[])/\RPost w w' yb s (p_quo s.mem s.out rs):=by
 match rs,h,hin with
 | [],h,_=>exact plR_quo_under w yb s _ h (by simp)
 | [_],h,_=>exact plR_quo_under w yb s _ h (by simp)
 | b :: a :: r,h,_ => 
  simp only[p_quo];by_cases hb:b=0
  ·subst hb;rw[if_pos rfl];exact plR_quo_zero w yb s a r h he
  ·rw[if_neg hb];exact plR_quo w yb s b a r h he hb
theorem plA_mod (w:World) (yb:Nat) (s:RS) (rs:List Int) (h:RInv w yb s rs.reverse) (he:s.e=0) (_ho:s.out.size<=300) (hin:∀ a∈rs,In a):
  Calls Tryz.prog 88 #[.pointer (some ⟨yb,0,none⟩),.string { data:=#[109,111,100] }] w fun e w'=>e=.returned (.tuple #[])/\RPost w w' yb s (p_mod s.mem s.out rs):=by
 match rs,h,hin with
 | [],h,_=>exact plR_mod_under w yb s _ h (by simp)
 | [_],h,_=>exact plR_mod_under w yb s _ h (by simp)
 | b :: a :: r,h,_ => 
  simp only[p_mod];by_cases hb:b=0
  ·subst hb;rw[if_pos rfl];exact plR_mod_zero w yb s a r h he
  ·rw[if_neg hb];exact plR_mod w yb s b a r h he hb
theorem plA_eq (w:World) (yb:Nat) (s:RS) (rs:List Int) (h:RInv w yb s rs.reverse) (he:s.e=0) (_ho:s.out.size<=300) (hin:∀ a∈rs,In a):
  Calls Tryz.prog 88 #[.pointer (some ⟨yb,0,none⟩),.string { data:=#[61] }] w fun e w'=>e=.returned (.tuple #[])/\RPost w w' yb s (p_eq s.mem s.out rs):=by
 match rs,h,hin with
 | [],h,_=>exact plR_eq_under w yb s _ h (by simp)
 | [_],h,_=>exact plR_eq_under w yb s _ h (by simp)
 | b :: a :: r,h,_=>exact plR_eq w yb s b a r h he
theorem plA_lt (w:World) (yb:Nat) (s:RS) (rs:List Int) (h:RInv w yb s rs.reverse) (he:s.e=0) (_ho:s.out.size<=300) (hin:∀ a∈rs,In a):
  Calls Tryz.prog 88 #[.pointer (some ⟨yb,0,none⟩),.string { data:=#[60] }] w fun e w'=>e=.returned (.tuple #[])/\RPost w w' yb s (p_lt s.mem s.out rs):=by
 match rs,h,hin with
 | [],h,_=>exact plR_lt_under w yb s _ h (by simp)
 | [_],h,_=>exact plR_lt_under w yb s _ h (by simp)
 | b :: a :: r,h,_=>exact plR_lt w yb s b a r h he
theorem plA_dup (w:World) (yb:Nat) (s:RS) (rs:List Int) (h:RInv w yb s rs.reverse) (he:s.e=0) (_ho:s.out.size<=300) (hin:∀ a∈rs,In a):
  Calls Tryz.prog 88 #[.pointer (some ⟨yb,0,none⟩),.string { data:=#[100,117,112] }] w fun e w'=>e=.returned (.tuple #[])/\RPost w w' yb s (p_dup s.mem s.out rs):=by
 match rs,h,hin with
 | [],h,_=>exact plR_dup_under w yb s _ h (by simp)
 | a :: r,h,_ => 
  simp only[p_dup];have hl:=h.len;simp only[List.length_reverse,List.length_cons] at hl;by_cases hr:r.length < 31
  ·rw[if_pos hr];exact plR_dup w yb s a r h he hr
  ·rw[if_neg hr];exact plR_dup_full w yb s a r h he (by omega)
theorem plA_drop (w:World) (yb:Nat) (s:RS) (rs:List Int) (h:RInv w yb s rs.reverse) (he:s.e=0) (_ho:s.out.size<=300) (hin:∀ a∈rs,In a):
  Calls Tryz.prog 88 #[.pointer (some ⟨yb,0,none⟩),.string { data:=#[100,114,111,112] }] w fun e w'=>e=.returned (.tuple #[])/\RPost w w' yb s (p_drop s.mem s.out rs):=by
 match rs,h,hin with
 | [],h,_=>exact plR_drop_under w yb s _ h (by simp)
 | a :: r,h,_=>exact plR_drop w yb s a r h he
theorem plA_swap (w:World) (yb:Nat) (s:RS) (rs:List Int) (h:RInv w yb s rs.reverse) (he:s.e=0) (_ho:s.out.size<=300) (hin:∀ a∈rs,In a):
  Calls Tryz.prog 88 #[.pointer (some ⟨yb,0,none⟩),.string { data:=#[115,119,97,112] }] w fun e w'=>e=.returned (.tuple #[])/\RPost w w' yb s (p_swap s.mem s.out rs):=by
 match rs,h,hin with
 | [],h,_=>exact plR_swap_under w yb s _ h (by simp)
 | [_],h,_=>exact plR_swap_under w yb s _ h (by simp)
 | b :: a :: r,h,_=>exact plR_swap w yb s b a r h he
theorem plA_over (w:World) (yb:Nat) (s:RS) (rs:List Int) (h:RInv w yb s rs.reverse) (he:s.e=0) (_ho:s.out.size<=300) (hin:∀ a∈rs,In a):
  Calls Tryz.prog 88 #[.pointer (some ⟨yb,0,none⟩),.string { data:=#[111,118,101,114] }] w fun e w'=>e=.returned (.tuple #[])/\RPost w w' yb s (p_over s.mem s.out rs):=by
 match rs,h,hin with
 | [],h,_=>exact plR_over_under w yb s _ h (by simp)
 | [_],h,_=>exact plR_over_under w yb s _ h (by simp)
 | b :: a :: r,h,_ => 
  simp only[p_over];have hl:=h.len;simp only[List.length_reverse,List.length_cons] at hl;by_cases hr:r.length < 30
  ·rw[if_pos hr];exact plR_over w yb s b a r h he hr
  ·rw[if_neg hr];exact plR_over_full w yb s b a r h he (by omega)
theorem plA_rot (w:World) (yb:Nat) (s:RS) (rs:List Int) (h:RInv w yb s rs.reverse) (he:s.e=0) (_ho:s.out.size<=300) (hin:∀ a∈rs,In a):
  Calls Tryz.prog 88 #[.pointer (some ⟨yb,0,none⟩),.string { data:=#[114,111,116] }] w fun e w'=>e=.returned (.tuple #[])/\RPost w w' yb s (p_rot s.mem s.out rs):=by
 match rs,h,hin with
 | [],h,_=>exact plR_rot_under w yb s _ h (by simp)
 | [_],h,_=>exact plR_rot_under w yb s _ h (by simp)
 | [_,_],h,_=>exact plR_rot_under w yb s _ h (by simp)
 | c :: b :: a :: r,h,_=>exact plR_rot w yb s c b a r h he
theorem plA_dot (w:World) (yb:Nat) (s:RS) (rs:List Int) (h:RInv w yb s rs.reverse) (he:s.e=0) (ho:s.out.size<=300) (hin:∀ a∈rs,In a):
  Calls Tryz.prog 88 #[.pointer (some ⟨yb,0,none⟩),.string { data:=#[46] }] w fun e w'=>e=.returned (.tuple #[])/\RPost w w' yb s (p_dot s.mem s.out rs):=by
 match rs,h,hin with
 | [],h,_=>exact plR_dot_under w yb s _ h (by simp)
 | a :: r,h,hin => 
  have ha:=hin a (by simp);exact plR_dot w yb s a r h he ho ha.1 ha.2
theorem plA_emit (w:World) (yb:Nat) (s:RS) (rs:List Int) (h:RInv w yb s rs.reverse) (he:s.e=0) (ho:s.out.size<=300) (hin:∀ a∈rs,In a):
  Calls Tryz.prog 88 #[.pointer (some ⟨yb,0,none⟩),.string { data:=#[101,109,105,116] }] w fun e w'=>e=.returned (.tuple #[])/\RPost w w' yb s (p_emit s.mem s.out rs):=by
 match rs,h,hin with
 | [],h,_=>exact plR_emit_under w yb s _ h (by simp)
 | a :: r,h,_=>exact plR_emit w yb s a r h he ho
theorem plA_fetch (w:World) (yb:Nat) (s:RS) (rs:List Int) (h:RInv w yb s rs.reverse) (he:s.e=0) (_ho:s.out.size<=300) (hin:∀ a∈rs,In a):
  Calls Tryz.prog 88 #[.pointer (some ⟨yb,0,none⟩),.string { data:=#[64] }] w fun e w'=>e=.returned (.tuple #[])/\RPost w w' yb s (p_fetch s.mem s.out rs):=by
 match rs,h,hin with
 | [],h,_=>exact plR_fetch_under w yb s _ h (by simp)
 | a :: r,h,_ => 
  simp only[p_fetch];by_cases hr:0<=a/\a < 16
  ·rw[if_pos hr];exact plR_fetch w yb s a r h he hr.1 hr.2
  ·rw[if_neg hr];exact plR_fetch_no w yb s a r h he hr
theorem plA_store (w:World) (yb:Nat) (s:RS) (rs:List Int) (h:RInv w yb s rs.reverse) (he:s.e=0) (_ho:s.out.size<=300) (hin:∀ a∈rs,In a):
  Calls Tryz.prog 88 #[.pointer (some ⟨yb,0,none⟩),.string { data:=#[33] }] w fun e w'=>e=.returned (.tuple #[])/\RPost w w' yb s (p_store s.mem s.out rs):=by
 match rs,h,hin with
 | [],h,_=>exact plR_store_under w yb s _ h (by simp)
 | [_],h,_=>exact plR_store_under w yb s _ h (by simp)
 | b :: a :: r,h,_ => 
  simp only[p_store];by_cases hr:0<=b/\b < 16
  ·rw[if_pos hr];exact plR_store w yb s b a r h he hr.1 hr.2
  ·rw[if_neg hr];rcases (show b < 0\/(0<=b/\16<=b) by omega) with h1|⟨h1,h2⟩
   ·exact plR_store_noa w yb s b a r h he h1
   ·exact plR_store_nob w yb s b a r h he h1 h2
theorem of_toList {t:ByteArray} {l:List UInt8} (h:t.toList=l):t=⟨l.toArray⟩:=by
 rw[ByteArray.toList_eq] at h;subst h
 apply ByteArray.ext;simp
theorem plainR_all (k:Nat) (t:ByteArray) (hk:plainL[k]? = some t.toList) (w:World) (yb:Nat) (s:RS) (rs:List Int) (h:RInv w yb s rs.reverse) (he:s.e=0) (ho:s.out.size<=300) (hin:∀ a∈rs,In a):
  Calls Tryz.prog 88 #[.pointer (some ⟨yb,0,none⟩),.string t] w fun e w'=>e=.returned (.tuple #[])/\RPost w w' yb s (plainP k rs s.mem s.out):=by
 have hlt:k < 16:=by
  rcases Nat.lt_or_ge k 16 with h' | h'
  ·exact h'
  ·rw[List.getElem?_eq_none (by simpa [plainL] using h')] at hk;cases hk
 have:k=0\/k=1\/k=2\/k=3\/k=4\/k=5\/k=6\/k=7\/k=8\/k=9\/k=10\/k=11\/k=12\/k=13\/k=14\/k=15:=by omega
 rcases this with rfl|rfl|rfl|rfl|rfl|rfl|rfl|rfl|rfl|rfl|rfl|rfl|rfl|rfl|rfl|rfl
 ·have ht:=of_toList (Option.some.inj hk).symm;rw[ht];exact plA_add w yb s rs h he ho hin
 ·have ht:=of_toList (Option.some.inj hk).symm;rw[ht];exact plA_sub w yb s rs h he ho hin
 ·have ht:=of_toList (Option.some.inj hk).symm;rw[ht];exact plA_mul w yb s rs h he ho hin
 ·have ht:=of_toList (Option.some.inj hk).symm;rw[ht];exact plA_quo w yb s rs h he ho hin
 ·have ht:=of_toList (Option.some.inj hk).symm;rw[ht];exact plA_mod w yb s rs h he ho hin
 ·have ht:=of_toList (Option.some.inj hk).symm;rw[ht];exact plA_eq w yb s rs h he ho hin
 ·have ht:=of_toList (Option.some.inj hk).symm;rw[ht];exact plA_lt w yb s rs h he ho hin
 ·have ht:=of_toList (Option.some.inj hk).symm;rw[ht];exact plA_dup w yb s rs h he ho hin
 ·have ht:=of_toList (Option.some.inj hk).symm;rw[ht];exact plA_drop w yb s rs h he ho hin
 ·have ht:=of_toList (Option.some.inj hk).symm;rw[ht];exact plA_swap w yb s rs h he ho hin
 ·have ht:=of_toList (Option.some.inj hk).symm;rw[ht];exact plA_over w yb s rs h he ho hin
 ·have ht:=of_toList (Option.some.inj hk).symm;rw[ht];exact plA_rot w yb s rs h he ho hin
 ·have ht:=of_toList (Option.some.inj hk).symm;rw[ht];exact plA_dot w yb s rs h he ho hin
 ·have ht:=of_toList (Option.some.inj hk).symm;rw[ht];exact plA_emit w yb s rs h he ho hin
 ·have ht:=of_toList (Option.some.inj hk).symm;rw[ht];exact plA_fetch w yb s rs h he ho hin
 ·have ht:=of_toList (Option.some.inj hk).symm;rw[ht];exact plA_store w yb s rs h he ho hin
theorem In_wrap (x:Int):In (wrap64 x):=by unfold In wrap64;omega
theorem In_so (b:Bool):In (sonum b):=by cases b <;> simp[sonum,In]
theorem In_fdiv (a b:Int):In (fdiv a b):=by unfold fdiv;split <;> exact In_wrap _
structure Good (rs:List Int) (mem:Nat->Int) (out:ByteArray):Prop where
 ins:∀ a∈rs,In a
 mems:∀ i,In (mem i)
 len:rs.length<=32
 osz:out.size<=300
def Fine (R:Res):Prop:=Good R.rs R.mem R.out
theorem Fine.err {rs:List Int} {mem:Nat->Int} {out:ByteArray} (h:Good rs mem out) (e:Int):Fine ⟨e,[],mem,out⟩:=⟨by simp,h.mems,by simp,h.osz⟩
theorem Fine.prt {rs:List Int} {mem:Nat->Int} {out:ByteArray} (h:Good rs mem out) (r:List Int) (t:ByteArray) (hr:∀ a∈r,In a) (hl:r.length<=32):Fine (prtP mem out r t):=by
 unfold prtP
 split
 ·exact Fine.err h 11
 ·exact⟨hr,h.mems,hl,by show (out ++ t).size<=300;rw[ByteArray.size_append];omega⟩
theorem plain_fine (k:Nat) {rs:List Int} {mem:Nat->Int} {out:ByteArray} (h:Good rs mem out):Fine (plainP k rs mem out):=by
 have hu:Fine (under mem out):=Fine.err h 6;have hw:=In_wrap;have hs:=In_so;have hf:=In_fdiv;have hm:=h.mems;unfold plainP
 split
 ·unfold p_add
  split
  ·have hi:=h.ins;have hl:=h.len;simp only[List.mem_cons,forall_eq_or_imp,List.length_cons] at hi hl
   skip
   refine⟨?_,hm,by simp only[List.length_cons];omega,h.osz⟩;simp only[List.mem_cons,forall_eq_or_imp];exact⟨hw _,hi.2.2⟩
  ·exact hu
 ·unfold p_sub
  split
  ·have hi:=h.ins;have hl:=h.len;simp only[List.mem_cons,forall_eq_or_imp,List.length_cons] at hi hl
   skip
   refine⟨?_,hm,by simp only[List.length_cons];omega,h.osz⟩;simp only[List.mem_cons,forall_eq_or_imp];exact⟨hw _,hi.2.2⟩
  ·exact hu
 ·unfold p_mul
  split
  ·have hi:=h.ins;have hl:=h.len;simp only[List.mem_cons,forall_eq_or_imp,List.length_cons] at hi hl
   skip
   refine⟨?_,hm,by simp only[List.length_cons];omega,h.osz⟩;simp only[List.mem_cons,forall_eq_or_imp];exact⟨hw _,hi.2.2⟩
  ·exact hu
 ·unfold p_quo
  split
  ·have hi:=h.ins;have hl:=h.len;simp only[List.mem_cons,forall_eq_or_imp,List.length_cons] at hi hl
   split <;> first|exact Fine.err h _|skip
   refine⟨?_,hm,by simp only[List.length_cons];omega,h.osz⟩;simp only[List.mem_cons,forall_eq_or_imp];exact⟨hf _ _,hi.2.2⟩
  ·exact hu
 ·unfold p_mod
  split
  ·have hi:=h.ins;have hl:=h.len;simp only[List.mem_cons,forall_eq_or_imp,List.length_cons] at hi hl
   split <;> first|exact Fine.err h _|skip
   refine⟨?_,hm,by simp only[List.length_cons];omega,h.osz⟩;simp only[List.mem_cons,forall_eq_or_imp];exact⟨hw _,hi.2.2⟩
  ·exact hu
 ·unfold p_eq
  split
  ·have hi:=h.ins;have hl:=h.len;simp only[List.mem_cons,forall_eq_or_imp,List.length_cons] at hi hl
   skip
   refine⟨?_,hm,by simp only[List.length_cons];omega,h.osz⟩;simp only[List.mem_cons,forall_eq_or_imp];exact⟨hs _,hi.2.2⟩
  ·exact hu
 ·unfold p_lt
  split
  ·have hi:=h.ins;have hl:=h.len;simp only[List.mem_cons,forall_eq_or_imp,List.length_cons] at hi hl
   skip
   refine⟨?_,hm,by simp only[List.length_cons];omega,h.osz⟩;simp only[List.mem_cons,forall_eq_or_imp];exact⟨hs _,hi.2.2⟩
  ·exact hu
 ·unfold p_dup
  split
  ·have hi:=h.ins;have hl:=h.len;simp only[List.mem_cons,forall_eq_or_imp,List.length_cons] at hi hl
   split <;> first|exact Fine.err h _|skip
   refine⟨?_,hm,by simp only[List.length_cons];omega,h.osz⟩;simp only[List.mem_cons,forall_eq_or_imp];exact⟨hi.1,hi.1,hi.2⟩
  ·exact hu
 ·unfold p_drop
  split
  ·have hi:=h.ins;have hl:=h.len;simp only[List.mem_cons,forall_eq_or_imp,List.length_cons] at hi hl
   skip
   exact⟨hi.2,hm,by dsimp only;omega,h.osz⟩
  ·exact hu
 ·unfold p_swap
  split
  ·have hi:=h.ins;have hl:=h.len;simp only[List.mem_cons,forall_eq_or_imp,List.length_cons] at hi hl
   skip
   refine⟨?_,hm,by simp only[List.length_cons];omega,h.osz⟩;simp only[List.mem_cons,forall_eq_or_imp];exact⟨hi.2.1,hi.1,hi.2.2⟩
  ·exact hu
 ·unfold p_over
  split
  ·have hi:=h.ins;have hl:=h.len;simp only[List.mem_cons,forall_eq_or_imp,List.length_cons] at hi hl
   split <;> first|exact Fine.err h _|skip
   refine⟨?_,hm,by simp only[List.length_cons];omega,h.osz⟩;simp only[List.mem_cons,forall_eq_or_imp];exact⟨hi.2.1,hi.1,hi.2.1,hi.2.2⟩
  ·exact hu
 ·unfold p_rot
  split
  ·have hi:=h.ins;have hl:=h.len;simp only[List.mem_cons,forall_eq_or_imp,List.length_cons] at hi hl
   skip
   refine⟨?_,hm,by simp only[List.length_cons];omega,h.osz⟩;simp only[List.mem_cons,forall_eq_or_imp];exact⟨hi.2.2.1,hi.1,hi.2.1,hi.2.2.2⟩
  ·exact hu
 ·unfold p_dot
  split
  ·have hi:=h.ins;have hl:=h.len;simp only[List.mem_cons,forall_eq_or_imp,List.length_cons] at hi hl
   skip
   exact Fine.prt h _ _ hi.2 (by omega)
  ·exact hu
 ·unfold p_emit
  split
  ·have hi:=h.ins;have hl:=h.len;simp only[List.mem_cons,forall_eq_or_imp,List.length_cons] at hi hl
   skip
   exact Fine.prt h _ _ hi.2 (by omega)
  ·exact hu
 ·unfold p_fetch
  split
  ·have hi:=h.ins;have hl:=h.len;simp only[List.mem_cons,forall_eq_or_imp,List.length_cons] at hi hl
   split <;> first|exact Fine.err h _|skip
   refine⟨?_,hm,by simp only[List.length_cons];omega,h.osz⟩;simp only[List.mem_cons,forall_eq_or_imp];exact⟨hm _,hi.2⟩
  ·exact hu
 ·unfold p_store
  split
  ·have hi:=h.ins;have hl:=h.len;simp only[List.mem_cons,forall_eq_or_imp,List.length_cons] at hi hl
   split <;> first|exact Fine.err h _|skip
   refine⟨hi.2.2,?_,by dsimp only;omega,h.osz⟩;intro i;show In (if _ then _ else _);split
   ·exact hi.2.1
   ·exact hm i
  ·exact hu
end
end Go.Proofs.YteainaiebcphlaaGreatDoor
