import Derived.Test.YteainaiebcphlaaGreatDoorQ1
import Derived.Lib.ItoaNum
import Derived.Laws.BytesArg
namespace Go.Proofs.YteainaiebcphlaaGreatDoor
set_option maxRecDepth 1000000
set_option maxHeartbeats 4000000
set_option linter.all false
open Go.Proofs.Tryz
open Go.RowKit
theorem jO:∀(k u:Nat),u<10 ^ (k+1)->Lib.nDigits u<=k+1
 | 0,u,h=>by rw[Lib.nDigits_small (by simpa using h)];omega
 | k+1,u,h=>by
  by_cases hu:u<10
  ·rw[Lib.nDigits_small hu];omega
  ·rw[Lib.nDigits_big hu];have:=jO k (u / 10) (by rw[Nat.pow_succ] at h;omega);omega
theorem OA (w:World)(x:Int):(convert 85 9 (.slice (some ⟨w.heap.size,0,none⟩) 1 1)).run prog (w.alloc (.cells #[.int .u8 x] 5))=.ok (.string ⟨#[UInt8.ofNat x.toNat]⟩) (w.alloc (.cells #[.int .u8 x] 5)):=by
 refine run_convert_bytes_arg _ 85 5 underlying85 underlying5 w.heap.size 0 1 1 [x] rfl ?_ 9 underlying9;intro i hi;have:i=0:=by omega
 subst this;simp
def laid (m:Nat):List UInt8:=if m<10 then [] else Lib.decDigits (m / 10)
theorem uH (m:Nat):Lib.decDigits m=laid m++[UInt8.ofNat (48+m % 10)]:=by
 unfold laid;by_cases h:m<10
 ·rw[ag h,Lib.decDigits_one h,Nat.mod_eq_of_lt h];rfl
 ·rw[af h];rw[Lib.decDigits];rw[dif_neg h]
theorem EK (m:Nat)(h:10<=m):laid m=laid (m / 10)++[UInt8.ofNat (48+m / 10 % 10)]:=by
 rw[<-uH];unfold laid;rw[af (by omega)]
theorem BS (a b:Array UInt8):(⟨a⟩++⟨b⟩:ByteArray)=⟨a++b⟩:=by
 apply ByteArray.ext;rw[ByteArray.data_append]
theorem BU:Lib.itoa (-9223372036854775808)=[45,57,50,50,51,51,55,50,48,51,54,56,53,52,55,55,53,56,48,56]:=by
 unfold Lib.itoa;rw[ag (by decide)];have:(-9223372036854775808:Int).natAbs=9223372036854775808:=by decide
 rw[this];simp[Lib.decDigits]
theorem EL (n:Int)(h0:-9223372036854775808<=n)(hn:n<0)(h:(n==wrap64 (-n))=true):n = -9223372036854775808:=by
 have h':n=wrap64 (-n):=by simpa using h
 unfold wrap64 at h';omega
theorem EM (n:Int)(h0:-9223372036854775808<=n)(hn:n<0)(h:(n==wrap64 (-n))=false):wrap64 (-n)=(n.natAbs:Int)/\n.natAbs<=9223372036854775807:=by
 have h':¬n=wrap64 (-n):=by simpa using h
 unfold wrap64 at h' ⊢;omega
theorem Ku (n:Int)(hn:n<0):Lib.itoa n=45::Lib.decDigits n.natAbs:=by unfold Lib.itoa;rw[ag hn]
theorem Df (k:Nat):UInt8.ofNat (48+k)=48+UInt8.ofNat k:=by rw[UInt8.ofNat_add];rfl
theorem zZ (n:Nat)(w:World)(hn:n<=9223372036854775807):
  Calls prog 172 #[.int .i64 n] w λe w'=>e=.returned (.string ⟨(Lib.decDigits n).toArray⟩)/\Kp w w' (λ_=>False):=by
 have hcv:=OA;have hd:(Lib.decDigits n).length<=20:=by rw[Lib.decDigits_length];exact jO 19 n (by omega)
 go_enter func172,ntmps172;go_wp2
 go_loopw [0,3] (λi s wr=>∃(m:Nat) (l:List UInt8),m<=n/\i=.int .i64 m/\s=.string ⟨l.toArray⟩/\Lib.decDigits n=laid m++l/\Kp w wr (λ_=>False))
  (λi _ _=>(intOf i).toNat)
 case atStart=>
  refine⟨n,[UInt8.ofNat (48+n % 10)],ah _,rfl,?_,uH n,(Kp.refl _ _).alloc _⟩;rw[Df]
 case round=>
  obtain⟨m,l,hm,rfl,rfl,hl,hkp⟩:=hrel;have hll:l.length<=20:=by rw[hl] at hd;simp at hd;omega
  have HL:Hid (Lib.decDigits n=laid m++l):=hl;clear hl;have hsz:(ByteArray.mk l.toArray).size=l.length:=rfl;by_cases h10:10<=m
  ·go_wp2
   go_roundw
   case rel=>
    refine⟨m / 10,UInt8.ofNat (48+m / 10 % 10)::l,by omega,by go_num,?_,?_,?_⟩
    ·rw[Df,BS];simp
    ·rw[HL.out,EK m h10];simp
    ·exact hkp.alloc _
   case measure=>simp[intOf];omega
  ·go_wp2;go_ret;refine⟨?_,hkp⟩;rw[HL.out];unfold laid;rw[ag (by omega)];rfl
theorem Zv (n:Int)(w:World)(h0:-9223372036854775808<=n)(h1:n<=9223372036854775807):
  Calls prog 172 #[.int .i64 n] w λe w'=>e=.returned (.string ⟨(Lib.itoa n).toArray⟩)/\Kp w w' (λ_=>False):=by
 by_cases hp:0<=n
 ·obtain⟨m,rfl⟩:∃m:Nat,n=m:=⟨n.toNat,by omega⟩;have:Lib.itoa (m:Int)=Lib.decDigits m:=by unfold Lib.itoa;rw[af (by omega)];simp
  rw[this];exact zZ m w (by omega)
 ·have hn:n<0:=by omega
  have H0:Hid (-9223372036854775808<=n):=h0;clear hp h0 h1;go_enter func172,ntmps172
  go_wp2_with fail
  ·have hl:n = -9223372036854775808:=EL n H0.out hn (by assumption);have hit:Lib.itoa n=[45,57,50,50,51,51,55,50,48,51,54,56,53,52,55,55,53,56,48,56]:=by rw[hl,BU]
   clear hl;go_ret;refine⟨?_,Kp.refl _ _⟩;rw[hit];rfl
  ·have hl:=EM n H0.out hn (by assumption);rw[hl.1];refine(zZ _ _ hl.2).mono ?_;rintro e w' ⟨rfl,hk⟩;have hsz:(ByteArray.mk (Lib.decDigits n.natAbs).toArray).size=(Lib.decDigits n.natAbs).length:=rfl;have hll:(Lib.decDigits n.natAbs).length<=20:=by rw[Lib.decDigits_length];exact jO 19 _ (by have:=hl.2;omega)
   clear hl;go_wp2;go_ret;refine⟨?_,hk⟩;rw[BS,Ku n hn];simp
theorem LQ (w:World)(yb:Nat)(s:RS)(a:Int)(r:List Int)(h:aR w yb s r.reverse)(he:s.e=0)(hl:r.length<31):
  Calls prog 142 #[.pointer (some ⟨yb,0,none⟩),.string {data:=#[100,117,112]},.int .i64 a] w λe w'=>e=.returned (.tuple #[])/\aS w w' yb s ⟨0,a::a::r,s.mem,s.out⟩:=by
 go_enter func142,ntmps142
 go_wp2_with fail
 refine(gz _ _ _ _ _ h he (by omega)).mono ?_;rintro e w1 ⟨rfl,v1,hi1,ht1⟩
 go_wp2_with fail
 refine(gz _ _ _ _ _ hi1 he (by simp;omega)).mono ?_;rintro e w2 ⟨rfl,v2,hi2,ht2⟩;go_wp2
 go_end0
 exact⟨rfl,⟨_,_,hi2,ht1.trans ht2,he,rfl,rfl,rfl,λ_=>rfl⟩⟩
theorem yB (w:World)(yb:Nat)(s:RS)(a:Int)(r:List Int)(h:aR w yb s r.reverse)(he:s.e=0)(hl:r.length=31):
  Calls prog 142 #[.pointer (some ⟨yb,0,none⟩),.string {data:=#[100,117,112]},.int .i64 a] w λe w'=>e=.returned (.tuple #[])/\aS w w' yb s ⟨7,[],s.mem,s.out⟩:=by
 go_enter func142,ntmps142
 go_wp2_with fail
 refine(gz _ _ _ _ _ h he (by omega)).mono ?_;rintro e w1 ⟨rfl,v1,hi1,ht1⟩
 go_wp2_with fail
 refine(qu _ _ _ _ _ hi1 he (by simp;omega)).mono ?_;rintro e w2 ⟨rfl,hi2,ht2⟩;go_wp2
 go_end0
 exact⟨rfl,⟨_,_,hi2,ht1.trans ht2,rfl,rfl,rfl,rfl,λh=>by cases h⟩⟩
theorem Hz (w:World)(yb:Nat)(s:RS)(a:Int)(r:List Int)(h:aR w yb s r.reverse)(he:s.e=0):
  Calls prog 142 #[.pointer (some ⟨yb,0,none⟩),.string {data:=#[100,114,111,112]},.int .i64 a] w λe w'=>e=.returned (.tuple #[])/\aS w w' yb s ⟨0,r,s.mem,s.out⟩:=by
 go_enter func142,ntmps142;go_wp2
 go_end0
 exact⟨rfl,⟨_,_,h,To.refl _ _ _,he,rfl,rfl,rfl,λ_=>rfl⟩⟩
theorem aS.LR {w w1 w2:World}{yb:Nat}{s s1:RS}{R:sN}(ht:lS yb w w1 s s1)(hs:(s1.st,s1.d)=(s.st,s.d))(h:aS w1 w2 yb s1 R):aS w w2 yb s R:=by
 obtain⟨s',ns,h1,h2,h3,h4,h5,h6,h7⟩:=h.ex;exact⟨s',ns,h1,ht.trans h2,h3,h4,h5,h6.trans hs,h7⟩
theorem aR.kp {w w':World}{yb:Nat}{s:RS}{ns:List Int}(h:aR w yb s ns)(hk:Kp w w' (λ_=>False)):aR w' yb s ns:=
 ⟨hk.blk h.blk (by simp),hk.row h.row (by simp),h.len⟩
theorem lS.kp {w w':World}{yb:Nat}{s:RS}(hk:Kp w w' (λ_=>False)):lS yb w w' s s:=⟨hk.mono (λ_ _ h=>h.elim),λ_ h=>.inl h⟩
def dot (a:Int):ByteArray:=⟨(Lib.itoa a++[32]).toArray⟩
theorem pS (a:Int)(h0:-9223372036854775808<=a)(h1:a<=9223372036854775807):(Lib.itoa a).length<=21:=by
 unfold Lib.itoa
 split
 ·simp only[aq];rw[Lib.decDigits_length];have:=jO 19 a.natAbs (by omega);omega
 ·rw[Lib.decDigits_length];have:=jO 19 a.toNat (by omega);omega
def prt (s:RS)(r:List Int)(t:ByteArray):sN:=if 300<s.out.size+t.size then ⟨11,[],s.mem,s.out⟩ else ⟨0,r,s.mem,s.out++t⟩
theorem H9 (w:World)(yb:Nat)(s:RS)(r:List Int)(t:ByteArray)(h:aR w yb s r.reverse)(he:s.e=0)(ho:s.out.size<=300)(ht:t.size<=1000):
  Calls prog 171 #[.pointer (some ⟨yb,0,none⟩),.string t] w λe w'=>e=.returned (.tuple #[])/\aS w w' yb s (prt s r t):=by
 unfold prt;by_cases hl:300<s.out.size+t.size
 ·rw[ag hl];refine(zl w yb s _ t h ho ht hl).mono ?_;rintro e w' ⟨rfl,hi,hto⟩;exact⟨rfl,⟨_,_,hi,hto,rfl,rfl,rfl,rfl,λh=>by cases h⟩⟩
 ·rw[af hl];refine(DN w yb s _ t h ho ht (by omega)).mono ?_;rintro e w' ⟨rfl,hi,hto⟩;exact⟨rfl,⟨_,_,hi,hto,he,rfl,rfl,rfl,λ_=>rfl⟩⟩
theorem Qc (a:Int):(⟨(Lib.itoa a).toArray⟩++⟨#[32]⟩:ByteArray)=dot a:=by rw[BS];simp[dot]
theorem Ia (a:Int)(h0:-9223372036854775808<=a)(h1:a<=9223372036854775807):(dot a).size<=1000:=by
 have:=pS a h0 h1;show(dot a).data.size<=1000;simp[dot];omega
theorem LS (w:World)(yb:Nat)(s:RS)(a:Int)(r:List Int)(h:aR w yb s r.reverse)(he:s.e=0)(ho:s.out.size<=300)(h0:-9223372036854775808<=a)(h1:a<=9223372036854775807):
  Calls prog 142 #[.pointer (some ⟨yb,0,none⟩),.string {data:=#[46]},.int .i64 a] w λe w'=>e=.returned (.tuple #[])/\aS w w' yb s (prt s r (dot a)):=by
 have H:=Zv a w h0 h1;have hd:=Ia a h0 h1;have hll:=pS a h0 h1;clear h0 h1;go_enter func142,ntmps142
 go_wp2_with fail
 refine H.mono ?_;clear H;rintro e w1 ⟨rfl,hk⟩;have hsz:(ByteArray.mk (Lib.itoa a).toArray).size=(Lib.itoa a).length:=rfl
 go_wp2_with fail
 rw[Qc];refine(H9 _ _ _ _ _ (h.kp hk) he ho hd).mono ?_;rintro e w2 ⟨rfl,hp⟩;go_wp2
 go_end0
 exact⟨rfl,aS.LR (lS.kp hk) rfl hp⟩
def BV (a:Int):ByteArray:=⟨#[UInt8.ofNat (wrap64 (wrap64 (32+a)-wrap64 (95*jZ a 95)) % 256).toNat]⟩
theorem Ib (w:World)(yb:Nat)(s:RS)(a:Int)(r:List Int)(h:aR w yb s r.reverse)(he:s.e=0)(ho:s.out.size<=300):
  Calls prog 142 #[.pointer (some ⟨yb,0,none⟩),.string {data:=#[101,109,105,116]},.int .i64 a] w λe w'=>e=.returned (.tuple #[])/\aS w w' yb s (prt s r (BV a)):=by
 have hcv:=OA;go_enter func142,ntmps142
 go_wp2_with fail
 refine(Gj _ _ _ (by decide)).mono ?_;rintro e w' ⟨rfl,hw⟩;rw[hw];clear hw
 go_wp2_with fail
 refine(H9 _ _ _ _ _ (h.alloc _) he ho (by show(1:Nat)<=1000;omega)).mono ?_;rintro e w2 ⟨rfl,hp⟩;go_wp2
 go_end0
 exact⟨rfl,aS.LR (lS.kp ((Kp.refl _ _).alloc _)) rfl hp⟩
theorem EN (w:World)(yb:Nat)(s:RS)(a:Int)(r:List Int)(h:aR w yb s r.reverse)(he:s.e=0)(hl:r.length<32)(ha:0<=a)(hb:a<16):
  Calls prog 142 #[.pointer (some ⟨yb,0,none⟩),.string {data:=#[64]},.int .i64 a] w λe w'=>e=.returned (.tuple #[])/\aS w w' yb s ⟨0,s.mem a.toNat::r,s.mem,s.out⟩:=by
 have c1:w.cell? ⟨yb,1+a.toNat,none⟩=some (.int .i64 (s.mem a.toNat)):=h.blk.cell (RS.at s _ (by omega));go_enter func142,ntmps142
 go_wp2_with fail
 refine(gz _ _ _ _ _ h he (by omega)).mono ?_;rintro e w1 ⟨rfl,v1,hi1,ht1⟩;go_wp2
 go_end0
 exact⟨rfl,⟨_,_,hi1,ht1,he,rfl,rfl,rfl,λ_=>rfl⟩⟩
theorem yC (w:World)(yb:Nat)(s:RS)(a:Int)(r:List Int)(h:aR w yb s r.reverse)(he:s.e=0)(ha:¬(0<=a/\a<16)):
  Calls prog 142 #[.pointer (some ⟨yb,0,none⟩),.string {data:=#[64]},.int .i64 a] w λe w'=>e=.returned (.tuple #[])/\aS w w' yb s ⟨10,[],s.mem,s.out⟩:=by
 have c1:w.cell? ⟨yb,21,none⟩=some (.int .i64 s.e):=h.blk.cell rfl;have f1:=h.blk.free 21;rcases (show a<0\/(0<=a/\16<=a) by omega) with h1|⟨h1,h2⟩
 all_goals
  clear ha;go_enter func142,ntmps142;go_wp2;refine bodyPost_ret (results_none rfl _ _ _) rfl ?_;exact⟨rfl,⟨_,_,h.ya _,lS.set rfl _ _,rfl,rfl,rfl,rfl,λh=>by cases h⟩⟩
end Go.Proofs.YteainaiebcphlaaGreatDoor
