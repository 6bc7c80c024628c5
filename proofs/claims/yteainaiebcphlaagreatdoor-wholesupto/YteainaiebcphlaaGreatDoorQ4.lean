import Derived.WalkKit
import Derived.Lib.ItoaNum
import Derived.Test.YteainaiebcphlaaGreatDoorQ3
import Derived.Lib.IndexBytes
import Derived.Lib.Fields
namespace Go.Proofs.YteainaiebcphlaaGreatDoor
set_option maxRecDepth 1000000
set_option maxHeartbeats 4000000
set_option linter.all false
open Go.Proofs.Tryz
open Go.RowKit
def aN:List (List UInt8):=[[43],[45],[42],[47],[109,111,100],[61],[60],[100,117,112],[100,114,111,112],[115,119,97,112],[111,118,101,114],[114,111,116],[46],[101,109,105,116],[64],[33]]
def eB:List (List UInt8):=[[105,102],[101,108,115,101],[116,104,101,110],[98,101,103,105,110],[117,110,116,105,108],[119,104,105,108,101],[114,101,112,101,97,116],[100,111],[108,111,111,112],[105],[114,101,99,117,114,115,101],[101,120,105,116]]
def qX (c:UInt8):Bool:=decide (48<=c.toNat/\c.toNat<=57)
def jq (l:List UInt8):Nat:=l.foldl (λn c=>10*n+(c.toNat-48)) 0
def cE (r:List UInt8):Bool:=decide (1<=r.length/\r.length<=18)&&r.all qX
def bA:List UInt8->Option Int
 | []=>none
 | c::r=>if c=45 then(if cE r=true then some (-(jq r:Int)) else none) else(if cE (c::r)=true then some (jq (c::r):Int) else none)
theorem qY (l:List UInt8)(c:UInt8):jq (l++[c])=10*jq l+(c.toNat-48):=by simp[jq,List.foldl_append]
theorem qf:∀(l:List UInt8),l.all qX=true->jq l<10 ^ l.length:=by
 intro l;generalize hn:l.length=n
 induction n generalizing l with
 | zero=>intro _;have:l=[]:=List.eq_nil_of_length_eq_zero hn;subst this;decide
 | succ n ih=>
  intro h;rcases List.eq_nil_or_concat l with rfl|⟨l',c,hlc⟩
  ·simp at hn
  ·rw[List.concat_eq_append] at hlc;subst hlc;simp only[List.length_append,aq,List.length_nil] at hn;simp only[List.all_append,List.all_cons,List.all_nil,Bool.and_true,Bool.and_eq_true] at h;have h1:=ih l' (by omega) h.1;have h2:=of_decide_eq_true h.2;rw[qY,Nat.pow_succ];omega
theorem qg {k:Nat}(h:k<=18):(10:Nat) ^ k<=1000000000000000000:=by
 have:=Nat.pow_le_pow_right (show 0<10 by decide) h
 simpa using this
theorem AZ {k:Nat}(h:k<=17):(10:Nat) ^ k<=100000000000000000:=by
 have:=Nat.pow_le_pow_right (show 0<10 by decide) h
 simpa using this
theorem ie (s:ByteArray)(k:Nat)(h:k<s.size):s.data.toList.take (k+1)=s.data.toList.take k++[s[k]]:=by
 rw[List.take_succ_eq_append_getElem (by simpa using h)];rfl
theorem iJ {l:List UInt8}{n:Int}(h:bA l=some n):-9223372036854775808<=n/\n<=9223372036854775807:=by
 have key:∀r,cE r=true->(jq r:Int)<1000000000000000000:=by
  intro r hr;simp only[cE,Bool.and_eq_true,decide_eq_true_eq] at hr;have h1:=qf r hr.2;have h2:=qg hr.1.2;omega
 cases l with
 | nil=>simp[bA] at h
 | cons c r=>
  simp only[bA] at h
  split at h
  ·split at h
   ·rename_i hd;injection h with h;have:=key _ hd;omega
   ·cases h
  ·split at h
   ·rename_i hd;injection h with h;have:=key _ hd;omega
   ·cases h
theorem CK (s:ByteArray)(g:Nat)(ws:List ByteArray)(w:World)(hb:aC w g 9 (ws.map Value.string).toArray)(hl:ws.length<=100):
  Calls prog 134 #[.string s,.slice (some ⟨g,0,none⟩) ws.length ws.length] w λe w'=>e=.returned (.bool (ws.any λt=>t.toList==s.toList))/\w'=w:=by
 go_enter func134,ntmps134;go_wp2
 go_loop [5] (λi=>∃k:Nat,k<=ws.length/\i=.int .i64 k/\(ws.take k).any (λt=>t.toList==s.toList)=false) (λi=>ws.length-(intOf i).toNat)
 case atStart=>exact⟨0,Nat.zero_le _,rfl,rfl⟩
 case round=>
  obtain⟨k,hk,rfl,hno⟩:=hrel;have HN:Hid ((ws.take k).any (λt=>t.toList==s.toList)=false):=hno;clear hno;by_cases hlt:k<ws.length
  ·have c:w.cell? ⟨g,k,none⟩=some (.string ws[k]):=hb.cell (by simp[hlt]);go_wp2
   ·have hx:(ws[k].toList==s.toList)=true:=by assumption
    go_ret;refine⟨?_,rfl⟩;have:(ws.any λt=>t.toList==s.toList)=true:=List.any_eq_true.2 ⟨ws[k],List.getElem_mem hlt,hx⟩;rw[this];rfl
   ·have hx:(ws[k].toList==s.toList)=false:=by assumption
    go_round
    case rel=>
     refine⟨k+1,by omega,by go_num,?_⟩;rw[List.take_succ_eq_append_getElem hlt,List.any_append,HN.out];simp[hx]
    case measure=>simp[intOf];omega
  ·go_wp2;go_ret;refine⟨?_,rfl⟩;have:=HN.out;rw[List.take_of_length_le (by omega)] at this;rw[this];rfl
def yX:List ByteArray:=[⟨#[43]⟩,⟨#[45]⟩,⟨#[42]⟩,⟨#[47]⟩,⟨#[109,111,100]⟩,⟨#[61]⟩,⟨#[60]⟩,⟨#[100,117,112]⟩,⟨#[100,114,111,112]⟩,⟨#[115,119,97,112]⟩,⟨#[111,118,101,114]⟩,⟨#[114,111,116]⟩,⟨#[46]⟩,⟨#[101,109,105,116]⟩,⟨#[64]⟩,⟨#[33]⟩]
def CM:List ByteArray:=[⟨#[105,102]⟩,⟨#[101,108,115,101]⟩,⟨#[116,104,101,110]⟩,⟨#[98,101,103,105,110]⟩,⟨#[117,110,116,105,108]⟩,⟨#[119,104,105,108,101]⟩,⟨#[114,101,112,101,97,116]⟩,⟨#[100,111]⟩,⟨#[108,111,111,112]⟩,⟨#[105]⟩,⟨#[114,101,99,117,114,115,101]⟩,⟨#[101,120,105,116]⟩]
theorem A0 (l:List UInt8):(yX.any λt=>t.toList==l)=aN.any (· == l):=by simp[yX,aN,ByteArray.toList_eq]
theorem CN (l:List UInt8):(CM.any λt=>t.toList==l)=eB.any (· == l):=by simp[CM,eB,ByteArray.toList_eq]
theorem cS (s:ByteArray)(w:World):
  Calls prog 82 #[.string s] w λe w'=>e=.returned (.bool (aN.any (· == s.toList)))/\Kp w w' (λ_=>False):=by
 go_enter func82,ntmps82
 go_wp2_with fail
 refine(CK s _ yX _ (aC.new w _ _) (by decide)).mono ?_;rintro e w' ⟨rfl,hw⟩;rw[hw];clear hw;rw[A0];go_wp2;go_ret;exact⟨rfl,(Kp.refl _ _).alloc _⟩
theorem dQ (s:ByteArray)(w:World):
  Calls prog 83 #[.string s] w λe w'=>e=.returned (.bool (eB.any (· == s.toList)))/\Kp w w' (λ_=>False):=by
 go_enter func83,ntmps83
 go_wp2_with fail
 refine(CK s _ CM _ (aC.new w _ _) (by decide)).mono ?_;rintro e w' ⟨rfl,hw⟩;rw[hw];clear hw;rw[CN];go_wp2;go_ret;exact⟨rfl,(Kp.refl _ _).alloc _⟩
theorem jV {s:ByteArray}(h:0<s.size):s.toList=s[0]::(s.extract 1 s.size).toList:=by
 rw[ByteArray.toList_eq,ByteArray.toList_eq,Lib.extract_to_end];obtain⟨⟨l⟩⟩:=s
 cases l with
 | nil=>exact ax h (by decide)
 | cons c r=>rfl
def mU (l:List UInt8):Value:=.tuple #[.int .i64 ((bA l).getD 0),.bool (bA l).isSome]
theorem bR {l:List UInt8}(h:bA l=none):mU l=.tuple #[.int .i64 0,.bool false]:=by unfold mU;rw[h];rfl
theorem nL {l:List UInt8}{n:Int}(h:bA l=some n):mU l=.tuple #[.int .i64 n,.bool true]:=by unfold mU;rw[h];rfl
theorem vM (r:List UInt8):bA (45::r)=if cE r=true then some (-(jq r:Int)) else none:=by simp[bA]
theorem vN (c:UInt8)(r:List UInt8)(h:¬c=45):bA (c::r)=if cE (c::r)=true then some (jq (c::r):Int) else none:=by simp[bA,h]
theorem mV {l:List UInt8}{k:Nat}(hk:k<l.length)(hb:qX l[k]=false):cE l=false:=by
 simp only[cE,Bool.and_eq_false_iff]
 right
 rw[List.all_eq_false];exact⟨l[k],List.getElem_mem hk,by rw[hb];decide⟩
theorem wY (s:ByteArray)(w:World)(h0:0<s.size)(h45:¬s[0]=45)(Om:s.size<=18):
  Calls prog 81 #[.string s] w λe w'=>e=.returned (mU s.toList)/\w'=w:=by
 have hc:((s[0].toNat:Int)==45)=false:=by
  simp only[beq_eq_false_iff_ne,ne_eq];intro h;exact h45 (by apply UInt8.toNat_inj.1;simpa using (by omega:s[0].toNat=45))
 have HN:Hid (bA s.toList=if cE s.toList=true then some (jq s.toList:Int) else none):=by
  have:=jV h0;unfold Hid;rw[this];exact vN _ _ h45
 have H45:Hid (¬s[0]=45):=h45;clear h45;go_enter func81,ntmps81;go_wp2
 go_loop [5,6] (λn i=>∃k:Nat,k<=s.size/\i=.int .i64 k/\n=.int .i64 (jq (s.data.toList.take k))/\(s.data.toList.take k).all qX=true) (λ_ i=>s.size-(intOf i).toNat)
 case atStart=>exact⟨0,Nat.zero_le _,rfl,rfl,rfl⟩
 case round=>
  obtain⟨k,hk,rfl,rfl,hall⟩:=hrel;have HA:Hid ((s.data.toList.take k).all qX=true):=hall;clear hall;by_cases hlt:k<s.size
  ·obtain⟨v,hv⟩:∃v:Nat,v=jq (s.data.toList.take k):=⟨_,rfl⟩;rw[<-hv];have hvb:v<=99999999999999999:=by
    have h1:=qf _ HA.out;have h2:(s.data.toList.take k).length<=17:=by have:=List.length_take_le k s.data.toList;omega
    have h3:=AZ h2;omega
   have HV:Hid (v=jq (s.data.toList.take k)):=hv;clear hv;by_cases hd:48<=s[k].toNat/\s[k].toNat<=57
   ·obtain⟨hd1,hd2⟩:=hd;go_wp2
    go_round
    case rel=>
     refine⟨k+1,by omega,by go_num,?_,?_⟩
     ·rw[ie s k hlt,qY,<-HV.out];go_num
     ·rw[ie s k hlt,List.all_append,HA.out];simp[qX,hd1,hd2]
    case measure=>simp[intOf];omega
   ·have hbad:bA s.toList=none:=by
     rw[HN.out,af];rw[mV (l:=s.toList) (k:=k) (by rw[ByteArray.toList_eq];exact hlt) (by simp only[ByteArray.toList_eq];exact decide_eq_false hd)];decide
    have HB:=bR hbad;clear hbad;have Ns:Hid (mU s.toList=.tuple #[.int .i64 0,.bool false]):=HB;clear HB;rcases (show s[k].toNat<48\/(48<=s[k].toNat/\57<s[k].toNat) by omega) with h1|⟨h1,h2⟩
    all_goals
     go_wp2;go_ret2;exact⟨by rw[Ns.out];rfl,rfl⟩
  ·have hfull:s.data.toList.take k=s.toList:=by rw[ByteArray.toList_eq];exact List.take_of_length_le (by show s.data.size<=k;simpa using hlt)
   have hok:bA s.toList=some (jq (s.data.toList.take k):Int):=by
    rw[HN.out,ag,hfull];unfold cE;rw[<-hfull,HA.out];simp;omega
   have HB:Hid (mU s.toList=.tuple #[.int .i64 (jq (s.data.toList.take k)),.bool true]):=nL hok;clear hok hfull;go_wp2;go_ret2;exact⟨by rw[HB.out];rfl,rfl⟩
theorem wZ (s t:ByteArray)(w:World)(h0:0<s.size)(h45:s[0]=45)(ht:s.extract 1 s.size=t)(h1:1<=t.size)(Om:t.size<=18):
  Calls prog 81 #[.string s] w λe w'=>e=.returned (mU s.toList)/\w'=w:=by
 have hc:((s[0].toNat:Int)==45)=true:=by rw[h45];rfl
 have HN:Hid (bA s.toList=if cE t.toList=true then some (-(jq t.toList:Int)) else none):=by
  have:=jV h0;unfold Hid;rw[this,h45,ht];exact vM _
 have hsz:t.size<s.size:=by rw[<-ht];simp;omega
 have H45:Hid (s[0]=45):=h45;clear h45;go_enter func81,ntmps81;go_wp2
 go_loop [5,6] (λn i=>∃k:Nat,k<=t.size/\i=.int .i64 k/\n=.int .i64 (jq (t.data.toList.take k))/\(t.data.toList.take k).all qX=true) (λ_ i=>t.size-(intOf i).toNat)
 case atStart=>exact⟨0,Nat.zero_le _,rfl,rfl,rfl⟩
 case round=>
  obtain⟨k,hk,rfl,rfl,hall⟩:=hrel;have HA:Hid ((t.data.toList.take k).all qX=true):=hall;clear hall;by_cases hlt:k<t.size
  ·obtain⟨v,hv⟩:∃v:Nat,v=jq (t.data.toList.take k):=⟨_,rfl⟩;rw[<-hv];have hvb:v<=99999999999999999:=by
    have h1:=qf _ HA.out;have h2:(t.data.toList.take k).length<=17:=by have:=List.length_take_le k t.data.toList;omega
    have h3:=AZ h2;omega
   have HV:Hid (v=jq (t.data.toList.take k)):=hv;clear hv;by_cases hd:48<=t[k].toNat/\t[k].toNat<=57
   ·obtain⟨hd1,hd2⟩:=hd;go_wp2
    go_round
    case rel=>
     refine⟨k+1,by omega,by go_num,?_,?_⟩
     ·rw[ie t k hlt,qY,<-HV.out];go_num
     ·rw[ie t k hlt,List.all_append,HA.out];simp[qX,hd1,hd2]
    case measure=>simp[intOf];omega
   ·have hbad:bA s.toList=none:=by
     rw[HN.out,af];rw[mV (l:=t.toList) (k:=k) (by rw[ByteArray.toList_eq];exact hlt) (by simp only[ByteArray.toList_eq];exact decide_eq_false hd)];decide
    have HB:=bR hbad;clear hbad;have Ns:Hid (mU s.toList=.tuple #[.int .i64 0,.bool false]):=HB;clear HB;rcases (show t[k].toNat<48\/(48<=t[k].toNat/\57<t[k].toNat) by omega) with h1|⟨h1,h2⟩
    all_goals
     go_wp2;go_ret2;exact⟨by rw[Ns.out];rfl,rfl⟩
  ·have hfull:t.data.toList.take k=t.toList:=by rw[ByteArray.toList_eq];exact List.take_of_length_le (by show t.data.size<=k;simpa using hlt)
   have hvb:jq (t.data.toList.take k)<=999999999999999999:=by
    have h1:=qf _ HA.out;have h2:(t.data.toList.take k).length<=18:=by have:=List.length_take_le k t.data.toList;omega
    have h3:=qg h2;omega
   have hok:bA s.toList=some (-(jq (t.data.toList.take k):Int)):=by
    rw[HN.out,ag,hfull];unfold cE;rw[<-hfull,HA.out];simp;omega
   have HB:Hid (mU s.toList=.tuple #[.int .i64 (-(jq (t.data.toList.take k):Int)),.bool true]):=nL hok;clear hok hfull;go_wp2;go_ret2;exact⟨by rw[HB.out];rfl,rfl⟩
theorem xd (s:ByteArray)(w:World)(h0:s.size=0)(Ns:Hid (mU s.toList=.tuple #[.int .i64 0,.bool false])):
  Calls prog 81 #[.string s] w λe w'=>e=.returned (mU s.toList)/\w'=w:=by
 go_enter func81,ntmps81;go_wp2;go_ret2;exact⟨by rw[Ns.out];rfl,rfl⟩
theorem yY (s:ByteArray)(w:World)(h0:0<s.size)(hc:((s[0].toNat:Int)==45)=false)(Om:18<s.size)(Ns:Hid (mU s.toList=.tuple #[.int .i64 0,.bool false])):
  Calls prog 81 #[.string s] w λe w'=>e=.returned (mU s.toList)/\w'=w:=by
 go_enter func81,ntmps81;go_wp2;go_ret2;exact⟨by rw[Ns.out];rfl,rfl⟩
theorem qZ (s t:ByteArray)(w:World)(h0:0<s.size)(hc:((s[0].toNat:Int)==45)=true)(ht:s.extract 1 s.size=t)(Om:t.size<1\/(1<=t.size/\18<t.size))(Ns:Hid (mU s.toList=.tuple #[.int .i64 0,.bool false])):
  Calls prog 81 #[.string s] w λe w'=>e=.returned (mU s.toList)/\w'=w:=by
 rcases Om with h|⟨h,h'⟩
 all_goals
  go_enter func81,ntmps81;go_wp2;go_ret2;exact⟨by rw[Ns.out];rfl,rfl⟩
theorem dZ (s:ByteArray)(w:World):
  Calls prog 81 #[.string s] w λe w'=>e=.returned (mU s.toList)/\w'=w:=by
 by_cases h0:0<s.size
 ·have hl:=jV h0;by_cases h45:s[0]=45
  ·have hsz:(s.extract 1 s.size).toList.length=(s.extract 1 s.size).size:=by rw[ByteArray.toList_eq];rfl
   by_cases ht:1<=(s.extract 1 s.size).size/\(s.extract 1 s.size).size<=18
   ·exact wZ s _ w h0 h45 rfl ht.1 ht.2
   ·refine qZ s _ w h0 (by rw[h45];rfl) rfl (by omega) (bR ?_);rw[hl,h45,vM,af];unfold cE;rw[hsz,decide_eq_false (by omega)];simp
  ·have hc:((s[0].toNat:Int)==45)=false:=by
    simp only[beq_eq_false_iff_ne,ne_eq];intro h;exact h45 (by apply UInt8.toNat_inj.1;simpa using (by omega:s[0].toNat=45))
   by_cases Om:s.size<=18
   ·exact wY s w h0 h45 Om
   ·refine yY s w h0 hc (by omega) (bR ?_);have hsz:s.toList.length=s.size:=by rw[ByteArray.toList_eq];rfl
    have hp:bA s.toList=if cE s.toList=true then some (jq s.toList:Int) else none:=by rw[hl];exact vN _ _ h45
    rw[hp,af];unfold cE;rw[hsz,decide_eq_false (by omega)];simp
 ·refine xd s w (by omega) (bR ?_);have:s.toList=[]:=by
   rw[ByteArray.toList_eq];apply List.eq_nil_of_length_eq_zero;show s.data.size=0;have:s.data.size=s.size:=rfl;omega
  rw[this];rfl
def okB (c:UInt8):Bool:=decide (32<=c.toNat/\c.toNat<=126)
def cz (l:List UInt8):Bool:=decide (l.length<=400)&&l.all okB
theorem yZ {c:UInt8}(h:32<=c.toNat/\c.toNat<=126):Lib.isSp c=decide (c.toNat=32):=by
 have key:∀i:Fin 256,32<=i.val->i.val<=126->Lib.isSp (UInt8.ofNat i.val)=decide (i.val=32):=by decide +kernel
 have:=key ⟨c.toNat,c.toNat_lt⟩ h.1 h.2
 simpa using this
theorem nV (s:ByteArray)(k:Nat)(h:k<s.size):s.data.toList.drop k=s[k]::s.data.toList.drop (k+1):=by
 rw[List.drop_eq_getElem_cons (by simpa using h)];rfl
theorem Tryz.pL:(prog.info? 9).map (λi=>(i.zero,i.size,i.bytes))=some (some (.string ByteArray.empty),1,16):=by kernel_rfl
structure oJ (w wr:World)(s:ByteArray)(k:Nat)(v:Value)(wd:ByteArray)(ts:List ByteArray):Prop where
 row:wr.ownsRow w.heap.size 9 1 v ts.length (ts.map Value.string)
 all:(s.data.toList.take k).all okB=true
 Nt:Lib.fields s.data.toList=ts.map (λt=>t.data.toList)++Lib.fieldsGo wd.data.toList (s.data.toList.drop k)
 kp:Kp w wr (λ_=>False)
 wl:wd.size<=k
 tl:ts.length<=k
theorem qd {s:ByteArray}{k:Nat}(hlt:k<s.size)(h:(s.data.toList.take k).all okB=true)(ho:32<=s[k].toNat/\s[k].toNat<=126):(s.data.toList.take (k+1)).all okB=true:=by
 rw[ie s k hlt,List.all_append,h];simp[okB,ho]
theorem A1 (s:ByteArray)(k:Nat)(hlt:k<s.size)(wd:ByteArray):(wd++s.extract k (k+1)).data.toList=wd.data.toList++[s[k]]:=by
 rw[ByteArray.data_append,Array.toList_append,Lib.extract_data,nV s k hlt];simp
theorem JZ (s:ByteArray)(k:Nat)(hlt:k<s.size)(wd:ByteArray):(wd++s.extract k (k+1)).size=wd.size+1:=by
 have:=congrArg List.length (A1 s k hlt wd);simp only[List.length_append,aq,List.length_nil] at this;exact this
theorem qh {wd:ByteArray}(h:wd.toList.isEmpty=true):wd.data.toList=[]:=by
 rw[ByteArray.toList_eq] at h;exact List.isEmpty_iff.1 h
theorem sH {wd:ByteArray}(h:wd.toList.isEmpty=false):wd.data.toList≠[]:=by
 rw[ByteArray.toList_eq] at h;intro h';rw[h'] at h;cases h
theorem oJ.more {w wr:World}{s:ByteArray}{k:Nat}{v:Value}{wd:ByteArray}{ts:List ByteArray}(H:oJ w wr s k v wd ts)(hlt:k<s.size)(ho:32<=s[k].toNat/\s[k].toNat<=126)(Nu:¬s[k].toNat=32):
  oJ w wr s (k+1) v (wd++s.extract k (k+1)) ts:=by
 refine⟨H.row,qd hlt H.all ho,?_,H.kp,by rw[JZ s k hlt];have:=H.wl;omega,by have:=H.tl;omega⟩;rw[H.Nt,nV s k hlt,Lib.fieldsGo_more _ _ _ (by rw[yZ ho];exact decide_eq_false Nu),A1 s k hlt]
theorem oJ.skip {w wr:World}{s:ByteArray}{k:Nat}{v:Value}{wd:ByteArray}{ts:List ByteArray}(H:oJ w wr s k v wd ts)(hlt:k<s.size)(Nu:s[k].toNat=32)(hw:wd.toList.isEmpty=true):
  oJ w wr s (k+1) v ⟨#[]⟩ ts:=by
 have ho:32<=s[k].toNat/\s[k].toNat<=126:=by omega
 refine⟨H.row,qd hlt H.all ho,?_,H.kp,Nat.zero_le _,by have:=H.tl;omega⟩;rw[H.Nt,nV s k hlt,qh hw,Lib.fieldsGo_sp _ _ (by rw[yZ ho];exact decide_eq_true Nu)]
theorem oJ.cut {w wr w1:World}{s:ByteArray}{k:Nat}{v v':Value}{wd:ByteArray}{ts:List ByteArray}{o:Obj}(H:oJ w wr s k v wd ts)(hlt:k<s.size)(Nu:s[k].toNat=32)(hw:wd.toList.isEmpty=false)
  (hown:w1.ownsRow w.heap.size 9 1 v' (ts.length+1) (List.map Value.string ts++[Value.string wd])) (hg:(wr.alloc o).grownBy w1 v.ownBlock):oJ w w1 s (k+1) v' ⟨#[]⟩ (ts++[wd]):=by
 have ho:32<=s[k].toNat/\s[k].toNat<=126:=by omega
 refine⟨by simpa using hown,qd hlt H.all ho,?_,(H.kp.alloc o).grown hg (λb hb e=>?_),Nat.zero_le _,by have:=H.tl;simp;omega⟩
 ·rw[H.Nt,nV s k hlt,Lib.fieldsGo_end _ _ _ (by rw[yZ ho];exact decide_eq_true Nu) (sH hw)];simp
 ·have:=(H.row.lt b e).1;omega
theorem xX {s:ByteArray}(hs:s.size<=400)(h:(s.data.toList.take s.size).all okB=true):cz s.data.toList=true:=by
 have hl:s.data.toList.length=s.size:=rfl;rw[List.take_of_length_le (by omega)] at h;unfold cz;rw[h,hl];simpa using hs
theorem vJ {s:ByteArray}{k:Nat}(hlt:k<s.size)(h:¬(32<=s[k].toNat/\s[k].toNat<=126)):cz s.data.toList=false:=by
 unfold cz;rw[Bool.and_eq_false_iff];right;rw[List.all_eq_false];refine⟨s[k],?_,by simp[okB];omega⟩;have:s.data.toList[k]'hlt=s[k]:=rfl;rw[<-this];exact List.getElem_mem _
theorem sI (s:ByteArray)(w:World)(hs:s.size<=400):
    Calls prog 62 #[.string s] w λe w'=>∃v,Kp w w' (λ_=>False) /\ 
      ((cz s.data.toList=true/\e=.returned (.tuple #[v,.bool true])/\∃ts:List ByteArray,w'.ownsRow w.heap.size 9 1 v ts.length (ts.map Value.string)/\ts.map (λt=>t.data.toList)=Lib.fields s.data.toList) \/
       (cz s.data.toList=false/\e=.returned (.tuple #[v,.bool false]))):=by
  obtain⟨i0,hi,hz0,hz1,hz2⟩:=info_parts Tryz.pL;go_enter func62,ntmps62;go_wp2
  go_loopw [4,5,6] (λv x i wr=>∃(k:Nat) (wd:ByteArray) (ts:List ByteArray),k<=s.size/\i=.int .i64 k/\x=.string wd/\oJ w wr s k v wd ts) (λ_ _ i _=>s.size-(intOf i).toNat)
  case atStart=>exact⟨0,⟨#[]⟩,[],Nat.zero_le _,rfl,rfl,⟨World.ownsRow_nil _ _ _ _,rfl,rfl,Kp.refl _ _,ah _,ah _⟩⟩
  case round=>
    obtain⟨k,wd,ts,hk,rfl,rfl,H⟩:=hrel;have vX:=H.wl;have htl:=H.tl;have hown:=H.row;have yj:=H.kp.size;by_cases hlt:k<s.size
    · by_cases hok:32<=s[k].toNat/\s[k].toNat<=126
      · obtain⟨Ge,og⟩:=hok
        by_cases Nu:s[k].toNat=32
        · cases WW:wd.toList.isEmpty
          · go_wp2_with (first
              | (at_builtin;refine wpList_append_own _ rfl _ _ 47 rfl w.heap.size 9 i0 (.string ByteArray.empty) 1 16 underlying47 hi hz0 hz1 hz2 rfl (by decide) _ _ _ rfl (hown.alloc _) ⟨wr.heap.size,0,none⟩ 1 1 [.string wd] rfl rfl ?c1 ?c2 ?c3 ?c4 ?c5 ?_)
              | go_in)
            case c1=>intro j u hj;match j,hj with|0,hj=>simp at hj;subst hj;simp[Addr.add]
            case c2=>intro u hu;simp at hu;subst hu;rfl
            case c3=>unfold maxLen;omega
            case c4=>omega
            case c5=>simp;omega
            intro v' w1 hown' hgrow _;have H2:=H.cut hlt Nu WW hown' hgrow;clear hown' hgrow hown H;go_wp2
            go_roundw
            case rel=>exact⟨k+1,_,_,by omega,by go_num,rfl,H2⟩
            case measure=>simp[intOf];omega
          · go_wp2
            go_roundw
            case rel=>exact⟨k+1,_,_,by omega,by go_num,rfl,H.skip hlt Nu WW⟩
            case measure=>simp[intOf];omega
        · go_wp2
          go_roundw
          case rel=>exact⟨k+1,_,_,by omega,by go_num,rfl,H.more hlt ⟨Ge,og⟩ Nu⟩
          case measure=>simp[intOf];omega
      · have hbad:=vJ hlt hok
        have HB:Hid (cz s.data.toList=false):=hbad;clear hbad;rcases (show s[k].toNat<32\/(32<=s[k].toNat/\126<s[k].toNat) by omega) with h1|⟨h1,h2⟩
        all_goals
          clear hok;go_wp2;go_ret2
          first|exact⟨_,H.kp,.inr ⟨HB.out,rfl⟩⟩|exact⟨H.kp,_,.inr ⟨HB.out,rfl⟩⟩
    · have hks:k=s.size:=by omega
      have HV:Hid (cz s.data.toList=true):=by have:=H.all;rw[hks] at this;exact xX hs this
      have HF:Hid (Lib.fields s.data.toList=ts.map (λt=>t.data.toList)++Lib.fieldsGo wd.data.toList []):=by
        have:=H.Nt;rw[List.drop_of_length_le (by show s.data.size<=k;exact Nat.le_of_eq hks.symm)] at this;exact this
      clear hks
      cases WW:wd.toList.isEmpty
      · go_wp2_with (first
          | (at_builtin;refine wpList_append_own _ rfl _ _ 47 rfl w.heap.size 9 i0 (.string ByteArray.empty) 1 16 underlying47 hi hz0 hz1 hz2 rfl (by decide) _ _ _ rfl (hown.alloc _) ⟨wr.heap.size,0,none⟩ 1 1 [.string wd] rfl rfl ?d1 ?d2 ?d3 ?d4 ?d5 ?_)
          | go_in)
        case d1=>intro j u hj;match j,hj with|0,hj=>simp at hj;subst hj;simp[Addr.add]
        case d2=>intro u hu;simp at hu;subst hu;rfl
        case d3=>unfold maxLen;omega
        case d4=>omega
        case d5=>simp;omega
        intro v' w1 hown' hgrow _;have hne:=sH WW;have hk1:Kp w w1 (λ_=>False):=(H.kp.alloc _).grown hgrow (λb hb e=>by have:=(H.row.lt b e).1;omega);have HO:Hid (w1.ownsRow w.heap.size 9 1 v' (ts.length+1) (List.map Value.string ts++[Value.string wd])):=hown';have sZ:Hid (Lib.fields s.data.toList=(ts++[wd]).map (λt=>t.data.toList)):=by
          have:=HF.out;unfold Hid;rw[this];unfold Lib.fieldsGo;rw[af (by simpa using hne)];simp
        clear hown' hgrow hne hown;go_wp2;go_ret2;exact⟨_,hk1,.inl ⟨HV.out,rfl,ts++[wd],by simpa using HO.out,sZ.out.symm⟩⟩
      · have sZ:Hid (Lib.fields s.data.toList=ts.map (λt=>t.data.toList)):=by
          have:=HF.out;unfold Hid;rw[this,qh WW];simp[Lib.fieldsGo]
        go_wp2;go_ret2;exact⟨_,H.kp,.inl ⟨HV.out,rfl,ts,H.row,sZ.out.symm⟩⟩
theorem y7 (s:ByteArray)(w:World)(hs:400<s.size):
  Calls prog 62 #[.string s] w λe w'=>e=.returned (.tuple #[.slice none 0 0,.bool false])/\w'=w:=by
 go_enter func62,ntmps62;go_wp2;go_ret2;exact⟨rfl,rfl⟩
theorem wK (s:ByteArray)(w:World)(hv:cz s.data.toList=true):
  Calls prog 62 #[.string s] w λe w'=>∃v,Kp w w' (λ_=>False)/\e=.returned (.tuple #[v,.bool true])/\∃ts:List ByteArray,w'.ownsRow w.heap.size 9 1 v ts.length (ts.map Value.string)/\ts.map (λt=>t.data.toList)=Lib.fields s.data.toList:=by
 have hs:s.size<=400:=by
  unfold cz at hv;rw[Bool.and_eq_true] at hv;exact of_decide_eq_true hv.1
 refine(sI s w hs).mono ?_;rintro e w' ⟨v,hk,⟨_,he,h⟩|⟨h,_⟩⟩
 ·exact⟨v,hk,he,h⟩
 ·rw[hv] at h;cases h
theorem z7 (s:ByteArray)(w:World)(hv:cz s.data.toList=false):
  Calls prog 62 #[.string s] w λe w'=>∃v,Kp w w' (λ_=>False)/\e=.returned (.tuple #[v,.bool false]):=by
 by_cases hs:s.size<=400
 ·refine(sI s w hs).mono ?_;rintro e w' ⟨v,hk,⟨h,_⟩|⟨_,he⟩⟩
  ·rw[hv] at h;cases h
  ·exact⟨v,hk,he⟩
 ·refine(y7 s w (by omega)).mono ?_;rintro e w' ⟨he,rfl⟩;exact⟨_,Kp.refl _ _,he⟩
def s9 (mem:Nat->Int)(out:ByteArray)(r:List Int)(t:ByteArray):sN:=if 300<out.size+t.size then ⟨11,[],mem,out⟩ else ⟨0,r,mem,out++t⟩
def jb (mem:Nat->Int)(out:ByteArray):sN:=⟨6,[],mem,out⟩
def A2 (mem:Nat->Int)(out:ByteArray):List Int->sN
 | b::a::r=>⟨0,wrap64 (a+b)::r,mem,out⟩
 | _=>jb mem out
def A3 (mem:Nat->Int)(out:ByteArray):List Int->sN
 | b::a::r=>⟨0,wrap64 (a-b)::r,mem,out⟩
 | _=>jb mem out
def A4 (mem:Nat->Int)(out:ByteArray):List Int->sN
 | b::a::r=>⟨0,wrap64 (a*b)::r,mem,out⟩
 | _=>jb mem out
def vO (mem:Nat->Int)(out:ByteArray):List Int->sN
 | b::a::r=>if b=0 then ⟨9,[],mem,out⟩ else ⟨0,jZ a b::r,mem,out⟩
 | _=>jb mem out
def vP (mem:Nat->Int)(out:ByteArray):List Int->sN
 | b::a::r=>if b=0 then ⟨9,[],mem,out⟩ else ⟨0,wrap64 (a-wrap64 (b*jZ a b))::r,mem,out⟩
 | _=>jb mem out
def J0 (mem:Nat->Int)(out:ByteArray):List Int->sN
 | b::a::r=>⟨0,jr (a==b)::r,mem,out⟩
 | _=>jb mem out
def J1 (mem:Nat->Int)(out:ByteArray):List Int->sN
 | b::a::r=>⟨0,jr (decide (a<b))::r,mem,out⟩
 | _=>jb mem out
def vQ (mem:Nat->Int)(out:ByteArray):List Int->sN
 | a::r=>if r.length<31 then ⟨0,a::a::r,mem,out⟩ else ⟨7,[],mem,out⟩
 | _=>jb mem out
def rq (mem:Nat->Int)(out:ByteArray):List Int->sN
 | _::r=>⟨0,r,mem,out⟩
 | _=>jb mem out
def ru (mem:Nat->Int)(out:ByteArray):List Int->sN
 | b::a::r=>⟨0,a::b::r,mem,out⟩
 | _=>jb mem out
def pE (mem:Nat->Int)(out:ByteArray):List Int->sN
 | b::a::r=>if r.length<30 then ⟨0,a::b::a::r,mem,out⟩ else ⟨7,[],mem,out⟩
 | _=>jb mem out
def x7 (mem:Nat->Int)(out:ByteArray):List Int->sN
 | c::b::a::r=>⟨0,a::c::b::r,mem,out⟩
 | _=>jb mem out
def A5 (mem:Nat->Int)(out:ByteArray):List Int->sN
 | a::r=>s9 mem out r (dot a)
 | _=>jb mem out
def vR (mem:Nat->Int)(out:ByteArray):List Int->sN
 | a::r=>s9 mem out r (BV a)
 | _=>jb mem out
def lN (mem:Nat->Int)(out:ByteArray):List Int->sN
 | a::r=>if 0<=a/\a<16 then ⟨0,mem a.toNat::r,mem,out⟩ else ⟨10,[],mem,out⟩
 | _=>jb mem out
def lQ (mem:Nat->Int)(out:ByteArray):List Int->sN
 | b::a::r=>if 0<=b/\b<16 then ⟨0,r,λj=>if j=b.toNat then a else mem j,out⟩ else ⟨10,[],mem,out⟩
 | _=>jb mem out
def jI (k:Nat)(rs:List Int)(mem:Nat->Int)(out:ByteArray):sN:=
 match k with
 | 0=>A2 mem out rs
 | 1=>A3 mem out rs
 | 2=>A4 mem out rs
 | 3=>vO mem out rs
 | 4=>vP mem out rs
 | 5=>J0 mem out rs
 | 6=>J1 mem out rs
 | 7=>vQ mem out rs
 | 8=>rq mem out rs
 | 9=>ru mem out rs
 | 10=>pE mem out rs
 | 11=>x7 mem out rs
 | 12=>A5 mem out rs
 | 13=>vR mem out rs
 | 14=>lN mem out rs
 | _=>lQ mem out rs
def In (a:Int):Prop:=-9223372036854775808<=a/\a<=9223372036854775807
theorem Nv (w:World)(yb:Nat)(s:RS)(rs:List Int)(h:aR w yb s rs.reverse)(he:s.e=0)(ry:s.out.size<=300)(hin:∀a∈rs,In a):
  Calls prog 88 #[.pointer (some ⟨yb,0,none⟩),.string {data:=#[43]}] w λe w'=>e=.returned (.tuple #[])/\aS w w' yb s (A2 s.mem s.out rs):=by
 match rs,h,hin with
 | [],h,_=>exact oD w yb s _ h (by simp)
 | [_],h,_=>exact oD w yb s _ h (by simp)
 | b::a::r,h,_=>exact MR w yb s b a r h he
theorem Nw (w:World)(yb:Nat)(s:RS)(rs:List Int)(h:aR w yb s rs.reverse)(he:s.e=0)(ry:s.out.size<=300)(hin:∀a∈rs,In a):
  Calls prog 88 #[.pointer (some ⟨yb,0,none⟩),.string {data:=#[45]}] w λe w'=>e=.returned (.tuple #[])/\aS w w' yb s (A3 s.mem s.out rs):=by
 match rs,h,hin with
 | [],h,_=>exact oF w yb s _ h (by simp)
 | [_],h,_=>exact oF w yb s _ h (by simp)
 | b::a::r,h,_=>exact MT w yb s b a r h he
theorem Ny (w:World)(yb:Nat)(s:RS)(rs:List Int)(h:aR w yb s rs.reverse)(he:s.e=0)(ry:s.out.size<=300)(hin:∀a∈rs,In a):
  Calls prog 88 #[.pointer (some ⟨yb,0,none⟩),.string {data:=#[42]}] w λe w'=>e=.returned (.tuple #[])/\aS w w' yb s (A4 s.mem s.out rs):=by
 match rs,h,hin with
 | [],h,_=>exact oG w yb s _ h (by simp)
 | [_],h,_=>exact oG w yb s _ h (by simp)
 | b::a::r,h,_=>exact MU w yb s b a r h he
theorem Nz (w:World)(yb:Nat)(s:RS)(rs:List Int)(h:aR w yb s rs.reverse)(he:s.e=0)(ry:s.out.size<=300)(hin:∀a∈rs,In a):
  Calls prog 88 #[.pointer (some ⟨yb,0,none⟩),.string {data:=#[47]}] w λe w'=>e=.returned (.tuple #[])/\aS w w' yb s (vO s.mem s.out rs):=by
 match rs,h,hin with
 | [],h,_=>exact oH w yb s _ h (by simp)
 | [_],h,_=>exact oH w yb s _ h (by simp)
 | b::a::r,h,_ => 
  simp only[vO];by_cases hb:b=0
  ·subst hb;rw[ag rfl];exact yP w yb s a r h he
  ·rw[af hb];exact MV w yb s b a r h he hb
theorem ND (w:World)(yb:Nat)(s:RS)(rs:List Int)(h:aR w yb s rs.reverse)(he:s.e=0)(ry:s.out.size<=300)(hin:∀a∈rs,In a):
  Calls prog 88 #[.pointer (some ⟨yb,0,none⟩),.string {data:=#[109,111,100]}] w λe w'=>e=.returned (.tuple #[])/\aS w w' yb s (vP s.mem s.out rs):=by
 match rs,h,hin with
 | [],h,_=>exact oI w yb s _ h (by simp)
 | [_],h,_=>exact oI w yb s _ h (by simp)
 | b::a::r,h,_ => 
  simp only[vP];by_cases hb:b=0
  ·subst hb;rw[ag rfl];exact yQ w yb s a r h he
  ·rw[af hb];exact MW w yb s b a r h he hb
theorem R6 (w:World)(yb:Nat)(s:RS)(rs:List Int)(h:aR w yb s rs.reverse)(he:s.e=0)(ry:s.out.size<=300)(hin:∀a∈rs,In a):
  Calls prog 88 #[.pointer (some ⟨yb,0,none⟩),.string {data:=#[61]}] w λe w'=>e=.returned (.tuple #[])/\aS w w' yb s (J0 s.mem s.out rs):=by
 match rs,h,hin with
 | [],h,_=>exact qa w yb s _ h (by simp)
 | [_],h,_=>exact qa w yb s _ h (by simp)
 | b::a::r,h,_=>exact Rw w yb s b a r h he
theorem R7 (w:World)(yb:Nat)(s:RS)(rs:List Int)(h:aR w yb s rs.reverse)(he:s.e=0)(ry:s.out.size<=300)(hin:∀a∈rs,In a):
  Calls prog 88 #[.pointer (some ⟨yb,0,none⟩),.string {data:=#[60]}] w λe w'=>e=.returned (.tuple #[])/\aS w w' yb s (J1 s.mem s.out rs):=by
 match rs,h,hin with
 | [],h,_=>exact qb w yb s _ h (by simp)
 | [_],h,_=>exact qb w yb s _ h (by simp)
 | b::a::r,h,_=>exact Rx w yb s b a r h he
theorem NF (w:World)(yb:Nat)(s:RS)(rs:List Int)(h:aR w yb s rs.reverse)(he:s.e=0)(ry:s.out.size<=300)(hin:∀a∈rs,In a):
  Calls prog 88 #[.pointer (some ⟨yb,0,none⟩),.string {data:=#[100,117,112]}] w λe w'=>e=.returned (.tuple #[])/\aS w w' yb s (vQ s.mem s.out rs):=by
 match rs,h,hin with
 | [],h,_=>exact wU w yb s _ h (by simp)
 | a::r,h,_ => 
  simp only[vQ];have hl:=h.len;simp only[au,aq] at hl;by_cases hr:r.length<31
  ·rw[ag hr];exact MZ w yb s a r h he hr
  ·rw[af hr];exact yR w yb s a r h he (by omega)
theorem J2 (w:World)(yb:Nat)(s:RS)(rs:List Int)(h:aR w yb s rs.reverse)(he:s.e=0)(ry:s.out.size<=300)(hin:∀a∈rs,In a):
  Calls prog 88 #[.pointer (some ⟨yb,0,none⟩),.string {data:=#[100,114,111,112]}] w λe w'=>e=.returned (.tuple #[])/\aS w w' yb s (rq s.mem s.out rs):=by
 match rs,h,hin with
 | [],h,_=>exact vC w yb s _ h (by simp)
 | a::r,h,_=>exact JF w yb s a r h he
theorem J3 (w:World)(yb:Nat)(s:RS)(rs:List Int)(h:aR w yb s rs.reverse)(he:s.e=0)(ry:s.out.size<=300)(hin:∀a∈rs,In a):
  Calls prog 88 #[.pointer (some ⟨yb,0,none⟩),.string {data:=#[115,119,97,112]}] w λe w'=>e=.returned (.tuple #[])/\aS w w' yb s (ru s.mem s.out rs):=by
 match rs,h,hin with
 | [],h,_=>exact mP w yb s _ h (by simp)
 | [_],h,_=>exact mP w yb s _ h (by simp)
 | b::a::r,h,_=>exact JD w yb s b a r h he
theorem J4 (w:World)(yb:Nat)(s:RS)(rs:List Int)(h:aR w yb s rs.reverse)(he:s.e=0)(ry:s.out.size<=300)(hin:∀a∈rs,In a):
  Calls prog 88 #[.pointer (some ⟨yb,0,none⟩),.string {data:=#[111,118,101,114]}] w λe w'=>e=.returned (.tuple #[])/\aS w w' yb s (pE s.mem s.out rs):=by
 match rs,h,hin with
 | [],h,_=>exact mQ w yb s _ h (by simp)
 | [_],h,_=>exact mQ w yb s _ h (by simp)
 | b::a::r,h,_ => 
  simp only[pE];have hl:=h.len;simp only[au,aq] at hl;by_cases hr:r.length<30
  ·rw[ag hr];exact JE w yb s b a r h he hr
  ·rw[af hr];exact wR w yb s b a r h he (by omega)
theorem NG (w:World)(yb:Nat)(s:RS)(rs:List Int)(h:aR w yb s rs.reverse)(he:s.e=0)(ry:s.out.size<=300)(hin:∀a∈rs,In a):
  Calls prog 88 #[.pointer (some ⟨yb,0,none⟩),.string {data:=#[114,111,116]}] w λe w'=>e=.returned (.tuple #[])/\aS w w' yb s (x7 s.mem s.out rs):=by
 match rs,h,hin with
 | [],h,_=>exact kE w yb s _ h (by simp)
 | [_],h,_=>exact kE w yb s _ h (by simp)
 | [_,_],h,_=>exact kE w yb s _ h (by simp)
 | c::b::a::r,h,_=>exact MX w yb s c b a r h he
theorem NH (w:World)(yb:Nat)(s:RS)(rs:List Int)(h:aR w yb s rs.reverse)(he:s.e=0)(ho:s.out.size<=300)(hin:∀a∈rs,In a):
  Calls prog 88 #[.pointer (some ⟨yb,0,none⟩),.string {data:=#[46]}] w λe w'=>e=.returned (.tuple #[])/\aS w w' yb s (A5 s.mem s.out rs):=by
 match rs,h,hin with
 | [],h,_=>exact wV w yb s _ h (by simp)
 | a::r,h,hin => 
  have ha:=hin a (by simp);exact M0 w yb s a r h he ho ha.1 ha.2
theorem J5 (w:World)(yb:Nat)(s:RS)(rs:List Int)(h:aR w yb s rs.reverse)(he:s.e=0)(ho:s.out.size<=300)(hin:∀a∈rs,In a):
  Calls prog 88 #[.pointer (some ⟨yb,0,none⟩),.string {data:=#[101,109,105,116]}] w λe w'=>e=.returned (.tuple #[])/\aS w w' yb s (vR s.mem s.out rs):=by
 match rs,h,hin with
 | [],h,_=>exact vD w yb s _ h (by simp)
 | a::r,h,_=>exact JG w yb s a r h he ho
theorem FD (w:World)(yb:Nat)(s:RS)(rs:List Int)(h:aR w yb s rs.reverse)(he:s.e=0)(ry:s.out.size<=300)(hin:∀a∈rs,In a):
  Calls prog 88 #[.pointer (some ⟨yb,0,none⟩),.string {data:=#[64]}] w λe w'=>e=.returned (.tuple #[])/\aS w w' yb s (lN s.mem s.out rs):=by
 match rs,h,hin with
 | [],h,_=>exact s8 w yb s _ h (by simp)
 | a::r,h,_ => 
  simp only[lN];by_cases hr:0<=a/\a<16
  ·rw[ag hr];exact Fp w yb s a r h he hr.1 hr.2
  ·rw[af hr];exact yS w yb s a r h he hr
theorem FE (w:World)(yb:Nat)(s:RS)(rs:List Int)(h:aR w yb s rs.reverse)(he:s.e=0)(ry:s.out.size<=300)(hin:∀a∈rs,In a):
  Calls prog 88 #[.pointer (some ⟨yb,0,none⟩),.string {data:=#[33]}] w λe w'=>e=.returned (.tuple #[])/\aS w w' yb s (lQ s.mem s.out rs):=by
 match rs,h,hin with
 | [],h,_=>exact lZ w yb s _ h (by simp)
 | [_],h,_=>exact lZ w yb s _ h (by simp)
 | b::a::r,h,_ => 
  simp only[lQ];by_cases hr:0<=b/\b<16
  ·rw[ag hr];exact Fm w yb s b a r h he hr.1 hr.2
  ·rw[af hr];rcases (show b<0\/(0<=b/\16<=b) by omega) with h1|⟨h1,h2⟩
   ·exact wS w yb s b a r h he h1
   ·exact wT w yb s b a r h he h1 h2
theorem dD {t:ByteArray}{l:List UInt8}(h:t.toList=l):t=⟨l.toArray⟩:=by
 rw[ByteArray.toList_eq] at h;subst h
 apply ByteArray.ext;simp
theorem Bp (k:Nat)(t:ByteArray)(hk:aN[k]? = some t.toList)(w:World)(yb:Nat)(s:RS)(rs:List Int)(h:aR w yb s rs.reverse)(he:s.e=0)(ho:s.out.size<=300)(hin:∀a∈rs,In a):
  Calls prog 88 #[.pointer (some ⟨yb,0,none⟩),.string t] w λe w'=>e=.returned (.tuple #[])/\aS w w' yb s (jI k rs s.mem s.out):=by
 have hlt:k<16:=by
  rcases Nat.lt_or_ge k 16 with h' | h'
  ·exact h'
  ·rw[List.getElem?_eq_none (by simpa [aN] using h')] at hk;cases hk
 have:k=0\/k=1\/k=2\/k=3\/k=4\/k=5\/k=6\/k=7\/k=8\/k=9\/k=10\/k=11\/k=12\/k=13\/k=14\/k=15:=by omega
 rcases this with rfl|rfl|rfl|rfl|rfl|rfl|rfl|rfl|rfl|rfl|rfl|rfl|rfl|rfl|rfl|rfl
 ·have ht:=dD (Option.some.inj hk).symm;rw[ht];exact Nv w yb s rs h he ho hin
 ·have ht:=dD (Option.some.inj hk).symm;rw[ht];exact Nw w yb s rs h he ho hin
 ·have ht:=dD (Option.some.inj hk).symm;rw[ht];exact Ny w yb s rs h he ho hin
 ·have ht:=dD (Option.some.inj hk).symm;rw[ht];exact Nz w yb s rs h he ho hin
 ·have ht:=dD (Option.some.inj hk).symm;rw[ht];exact ND w yb s rs h he ho hin
 ·have ht:=dD (Option.some.inj hk).symm;rw[ht];exact R6 w yb s rs h he ho hin
 ·have ht:=dD (Option.some.inj hk).symm;rw[ht];exact R7 w yb s rs h he ho hin
 ·have ht:=dD (Option.some.inj hk).symm;rw[ht];exact NF w yb s rs h he ho hin
 ·have ht:=dD (Option.some.inj hk).symm;rw[ht];exact J2 w yb s rs h he ho hin
 ·have ht:=dD (Option.some.inj hk).symm;rw[ht];exact J3 w yb s rs h he ho hin
 ·have ht:=dD (Option.some.inj hk).symm;rw[ht];exact J4 w yb s rs h he ho hin
 ·have ht:=dD (Option.some.inj hk).symm;rw[ht];exact NG w yb s rs h he ho hin
 ·have ht:=dD (Option.some.inj hk).symm;rw[ht];exact NH w yb s rs h he ho hin
 ·have ht:=dD (Option.some.inj hk).symm;rw[ht];exact J5 w yb s rs h he ho hin
 ·have ht:=dD (Option.some.inj hk).symm;rw[ht];exact FD w yb s rs h he ho hin
 ·have ht:=dD (Option.some.inj hk).symm;rw[ht];exact FE w yb s rs h he ho hin
theorem DG (x:Int):In (wrap64 x):=by unfold In wrap64;omega
theorem WX (b:Bool):In (jr b):=by cases b <;> simp[jr,In]
theorem NI (a b:Int):In (jZ a b):=by unfold jZ;split <;> exact DG _
structure Ky (rs:List Int)(mem:Nat->Int)(out:ByteArray):Prop where
 ins:∀a∈rs,In a
 sP:∀i,In (mem i)
 len:rs.length<=32
 tQ:out.size<=300
def l9 (R:sN):Prop:=Ky R.rs R.mem R.out
theorem l9.err {rs:List Int}{mem:Nat->Int}{out:ByteArray}(h:Ky rs mem out)(e:Int):l9 ⟨e,[],mem,out⟩:=⟨by simp,h.sP,by simp,h.tQ⟩
theorem l9.prt {rs:List Int}{mem:Nat->Int}{out:ByteArray}(h:Ky rs mem out)(r:List Int)(t:ByteArray)(hr:∀a∈r,In a)(hl:r.length<=32):l9 (s9 mem out r t):=by
 unfold s9
 split
 ·exact l9.err h 11
 ·exact⟨hr,h.sP,hl,by show(out++t).size<=300;rw[ByteArray.size_append];omega⟩
theorem tR (k:Nat){rs:List Int}{mem:Nat->Int}{out:ByteArray}(h:Ky rs mem out):l9 (jI k rs mem out):=by
 have hu:l9 (jb mem out):=l9.err h 6;have hw:=DG;have hs:=WX;have hf:=NI;have hm:=h.sP;unfold jI
 split
 ·unfold A2
  split
  ·have hi:=h.ins;have hl:=h.len;simp only[List.mem_cons,forall_eq_or_imp,aq] at hi hl
   skip
   refine⟨?_,hm,by simp only[aq];omega,h.tQ⟩;simp only[List.mem_cons,forall_eq_or_imp];exact⟨hw _,hi.2.2⟩
  ·exact hu
 ·unfold A3
  split
  ·have hi:=h.ins;have hl:=h.len;simp only[List.mem_cons,forall_eq_or_imp,aq] at hi hl
   skip
   refine⟨?_,hm,by simp only[aq];omega,h.tQ⟩;simp only[List.mem_cons,forall_eq_or_imp];exact⟨hw _,hi.2.2⟩
  ·exact hu
 ·unfold A4
  split
  ·have hi:=h.ins;have hl:=h.len;simp only[List.mem_cons,forall_eq_or_imp,aq] at hi hl
   skip
   refine⟨?_,hm,by simp only[aq];omega,h.tQ⟩;simp only[List.mem_cons,forall_eq_or_imp];exact⟨hw _,hi.2.2⟩
  ·exact hu
 ·unfold vO
  split
  ·have hi:=h.ins;have hl:=h.len;simp only[List.mem_cons,forall_eq_or_imp,aq] at hi hl
   split <;> first|exact l9.err h _|skip
   refine⟨?_,hm,by simp only[aq];omega,h.tQ⟩;simp only[List.mem_cons,forall_eq_or_imp];exact⟨hf _ _,hi.2.2⟩
  ·exact hu
 ·unfold vP
  split
  ·have hi:=h.ins;have hl:=h.len;simp only[List.mem_cons,forall_eq_or_imp,aq] at hi hl
   split <;> first|exact l9.err h _|skip
   refine⟨?_,hm,by simp only[aq];omega,h.tQ⟩;simp only[List.mem_cons,forall_eq_or_imp];exact⟨hw _,hi.2.2⟩
  ·exact hu
 ·unfold J0
  split
  ·have hi:=h.ins;have hl:=h.len;simp only[List.mem_cons,forall_eq_or_imp,aq] at hi hl
   skip
   refine⟨?_,hm,by simp only[aq];omega,h.tQ⟩;simp only[List.mem_cons,forall_eq_or_imp];exact⟨hs _,hi.2.2⟩
  ·exact hu
 ·unfold J1
  split
  ·have hi:=h.ins;have hl:=h.len;simp only[List.mem_cons,forall_eq_or_imp,aq] at hi hl
   skip
   refine⟨?_,hm,by simp only[aq];omega,h.tQ⟩;simp only[List.mem_cons,forall_eq_or_imp];exact⟨hs _,hi.2.2⟩
  ·exact hu
 ·unfold vQ
  split
  ·have hi:=h.ins;have hl:=h.len;simp only[List.mem_cons,forall_eq_or_imp,aq] at hi hl
   split <;> first|exact l9.err h _|skip
   refine⟨?_,hm,by simp only[aq];omega,h.tQ⟩;simp only[List.mem_cons,forall_eq_or_imp];exact⟨hi.1,hi.1,hi.2⟩
  ·exact hu
 ·unfold rq
  split
  ·have hi:=h.ins;have hl:=h.len;simp only[List.mem_cons,forall_eq_or_imp,aq] at hi hl
   skip
   exact⟨hi.2,hm,by dsimp only;omega,h.tQ⟩
  ·exact hu
 ·unfold ru
  split
  ·have hi:=h.ins;have hl:=h.len;simp only[List.mem_cons,forall_eq_or_imp,aq] at hi hl
   skip
   refine⟨?_,hm,by simp only[aq];omega,h.tQ⟩;simp only[List.mem_cons,forall_eq_or_imp];exact⟨hi.2.1,hi.1,hi.2.2⟩
  ·exact hu
 ·unfold pE
  split
  ·have hi:=h.ins;have hl:=h.len;simp only[List.mem_cons,forall_eq_or_imp,aq] at hi hl
   split <;> first|exact l9.err h _|skip
   refine⟨?_,hm,by simp only[aq];omega,h.tQ⟩;simp only[List.mem_cons,forall_eq_or_imp];exact⟨hi.2.1,hi.1,hi.2.1,hi.2.2⟩
  ·exact hu
 ·unfold x7
  split
  ·have hi:=h.ins;have hl:=h.len;simp only[List.mem_cons,forall_eq_or_imp,aq] at hi hl
   skip
   refine⟨?_,hm,by simp only[aq];omega,h.tQ⟩;simp only[List.mem_cons,forall_eq_or_imp];exact⟨hi.2.2.1,hi.1,hi.2.1,hi.2.2.2⟩
  ·exact hu
 ·unfold A5
  split
  ·have hi:=h.ins;have hl:=h.len;simp only[List.mem_cons,forall_eq_or_imp,aq] at hi hl
   skip
   exact l9.prt h _ _ hi.2 (by omega)
  ·exact hu
 ·unfold vR
  split
  ·have hi:=h.ins;have hl:=h.len;simp only[List.mem_cons,forall_eq_or_imp,aq] at hi hl
   skip
   exact l9.prt h _ _ hi.2 (by omega)
  ·exact hu
 ·unfold lN
  split
  ·have hi:=h.ins;have hl:=h.len;simp only[List.mem_cons,forall_eq_or_imp,aq] at hi hl
   split <;> first|exact l9.err h _|skip
   refine⟨?_,hm,by simp only[aq];omega,h.tQ⟩;simp only[List.mem_cons,forall_eq_or_imp];exact⟨hm _,hi.2⟩
  ·exact hu
 ·unfold lQ
  split
  ·have hi:=h.ins;have hl:=h.len;simp only[List.mem_cons,forall_eq_or_imp,aq] at hi hl
   split <;> first|exact l9.err h _|skip
   refine⟨hi.2.2,?_,by dsimp only;omega,h.tQ⟩;intro i;show In (if _ then _ else _);split
   ·exact hi.2.1
   ·exact hm i
  ·exact hu
end Go.Proofs.YteainaiebcphlaaGreatDoor
