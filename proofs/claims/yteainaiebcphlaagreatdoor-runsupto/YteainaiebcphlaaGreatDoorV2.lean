import Derived.Test.YteainaiebcphlaaGreatDoorV1
import Derived.Lib.ItoaNum
import Derived.Laws.BytesArg
namespace Go.Proofs.YteainaiebcphlaaGreatDoor
set_option maxRecDepth 1000000
set_option maxHeartbeats 4000000
set_option linter.all false
section
open Go.RowKit
theorem tk_rev (rs:List Int) (n j:Nat) (h:j < n) (h':j < rs.length):tk rs.reverse n j=rs.getD j 0:=by
 unfold tk;rw[if_pos h];simp only[List.length_reverse,List.getD_eq_getElem?_getD];rw[List.getElem?_reverse (by omega)]
 congr 2;omega
theorem take_rev (xs r:List Int):((xs ++ r).reverse).take ((xs ++ r).reverse.length - xs.length)=r.reverse:=by
 simp[List.reverse_append]
theorem takeR_under (w:World) (yb:Nat) (s:RS) (ns:List Int) (n:Int) (h:RInv w yb s ns) (hlt:(ns.length:Int) < n):
  Calls Tryz.prog 139 #[.pointer (some ⟨yb,0,none⟩),.int .i64 n] w fun e w'=>∃ v,e=.returned (.tuple #[v,.bool false])/\RInv w' yb { s with e:=6 } ns/\RTo yb w w' s { s with e:=6 }:=by
 have c0:w.cell? ⟨yb,0,none⟩=some s.nv:=h.blk.cell rfl;obtain⟨ao,cap,hv⟩:∃ ao cap,s.nv=.slice ao ns.length cap:=by
  rcases h.row.2 with⟨hv,h0⟩|⟨g,cap,_,hv,_⟩
  ·exact⟨none,0,by rw[hv,h0]⟩
  ·exact⟨some ⟨g,0,none⟩,cap,hv⟩
 rw[hv] at c0;have HV:Hid (s.nv=.slice ao ns.length cap):=hv;clear hv;have c1:w.cell? ⟨yb,21,none⟩=some (.int .i64 s.e):=h.blk.cell rfl;have f1:=h.blk.free 21;have hylt:=h.blk.lt;have hmk:∀ w,(Instr.makeSlice 34 (.int .i64 3) (.int .i64 3)).run Tryz.prog w=.ok (.slice (some ⟨w.heap.size,0,none⟩) 3 3) (w.alloc (.cells #[.int .i64 0,.int .i64 0,.int .i64 0] 3)):=fun _=>by kernel_rfl
 go_enter Tryz.func139,Tryz.ntmps139;go_wp2;go_ret2;refine⟨_,rfl,(h.setE _).alloc _,⟨((Kp.refl _ _).set (fun _=>.inl rfl) _).alloc _,fun k hk=>.inl hk⟩⟩
structure Took (w w':World) (yb:Nat) (s:RS) (x0 x1 x2:Int) (r:List Int) (g:Nat) (v':Value):Prop where
 blk:Blk w' g 3 #[.int .i64 x0,.int .i64 x1,.int .i64 x2]
 new:w.heap.size<=g
 inv:RInv w' yb { s with nv:=v' } r.reverse
 to:RTo yb w w' s { s with nv:=v' }
 apart:¬ own v' g
theorem takeR1 (w:World) (yb:Nat) (s:RS) (a:Int) (r:List Int) (h:RInv w yb s (a :: r).reverse):
  Calls Tryz.prog 139 #[.pointer (some ⟨yb,0,none⟩),.int .i64 1] w fun e w'=>∃ g v',e=.returned (.tuple #[.slice (some ⟨g,0,none⟩) 3 3,.bool true])/\Took w w' yb s a 0 0 r g v':=by
 refine (takeR w yb s _ 1 h (by omega) (by omega) (by simp)).mono ?_;rintro e w' ⟨g,v',rfl,hb,hn,hi,ht,ha⟩;refine⟨g,v',rfl,?_,hn,?_,ht,ha⟩
 ·have:=hb;unfold tkArr at this;rw[tk_rev _ _ _ (by omega) (by simp)] at this;exact this
 ·have:=take_rev [a] r;simp only[List.cons_append,List.nil_append,List.length_cons,List.length_nil] at this;rw[this] at hi;exact hi
theorem takeR2 (w:World) (yb:Nat) (s:RS) (b a:Int) (r:List Int) (h:RInv w yb s (b :: a :: r).reverse):
  Calls Tryz.prog 139 #[.pointer (some ⟨yb,0,none⟩),.int .i64 2] w fun e w'=>∃ g v',e=.returned (.tuple #[.slice (some ⟨g,0,none⟩) 3 3,.bool true])/\Took w w' yb s b a 0 r g v':=by
 refine (takeR w yb s _ 2 h (by omega) (by omega) (by simp)).mono ?_;rintro e w' ⟨g,v',rfl,hb,hn,hi,ht,ha⟩;refine⟨g,v',rfl,?_,hn,?_,ht,ha⟩
 ·have:=hb;unfold tkArr at this;rw[tk_rev _ _ _ (by omega) (by simp),tk_rev _ _ _ (by omega) (by simp)] at this;exact this
 ·have:=take_rev [b,a] r;simp only[List.cons_append,List.nil_append,List.length_cons,List.length_nil] at this;rw[this] at hi;exact hi
theorem takeR3 (w:World) (yb:Nat) (s:RS) (c b a:Int) (r:List Int) (h:RInv w yb s (c :: b :: a :: r).reverse):
  Calls Tryz.prog 139 #[.pointer (some ⟨yb,0,none⟩),.int .i64 3] w fun e w'=>∃ g v',e=.returned (.tuple #[.slice (some ⟨g,0,none⟩) 3 3,.bool true])/\Took w w' yb s c b a r g v':=by
 refine (takeR w yb s _ 3 h (by omega) (by omega) (by simp)).mono ?_;rintro e w' ⟨g,v',rfl,hb,hn,hi,ht,ha⟩;refine⟨g,v',rfl,?_,hn,?_,ht,ha⟩
 ·have:=hb;unfold tkArr at this;rw[tk_rev _ _ _ (by omega) (by simp),tk_rev _ _ _ (by omega) (by simp),tk_rev _ _ _ (by omega) (by simp)] at this;exact this
 ·have:=take_rev [c,b,a] r;simp only[List.cons_append,List.nil_append,List.length_cons,List.length_nil] at this;rw[this] at hi;exact hi
theorem layR1 (w:World) (yb:Nat) (s:RS) (r:List Int) (n:Int) (h:RInv w yb s r.reverse) (he:s.e=0) (hl:r.length < 32):
  Calls Tryz.prog 87 #[.pointer (some ⟨yb,0,none⟩),.int .i64 n] w fun e w'=>e=.returned (.tuple #[])/\∃ v',RInv w' yb { s with nv:=v' } (n :: r).reverse/\RTo yb w w' s { s with nv:=v' }:=by
 refine (layR_ok w yb s _ n h he (by simpa using hl)).mono ?_;rintro e w' ⟨rfl,v',hi,ht⟩;exact⟨rfl,v',by rw[List.reverse_cons];exact hi,ht⟩
structure Res where
 e:Int
 rs:List Int
 mem:Nat->Int
 out:ByteArray
structure RPost (w w':World) (yb:Nat) (s:RS) (R:Res):Prop where
 ex:∃ s' ns,RInv w' yb s' ns/\RTo yb w w' s s'/\s'.e=R.e/\s'.mem=R.mem/\s'.out=R.out/\(s'.st,s'.d)=(s.st,s.d)/\(R.e=0->ns=R.rs.reverse)
end
section
open Go.RowKit
theorem nDigits_le:∀ (k u:Nat),u < 10 ^ (k+1)->Lib.nDigits u<=k+1
 | 0,u,h=>by rw[Lib.nDigits_small (by simpa using h)];omega
 | k+1,u,h=>by
  by_cases hu:u < 10
  ·rw[Lib.nDigits_small hu];omega
  ·rw[Lib.nDigits_big hu];have:=nDigits_le k (u / 10) (by rw[Nat.pow_succ] at h;omega);omega
theorem conv1 (w:World) (x:Int):(convert 85 9 (.slice (some ⟨w.heap.size,0,none⟩) 1 1)).run Tryz.prog (w.alloc (.cells #[.int .u8 x] 5))=.ok (.string ⟨#[UInt8.ofNat x.toNat]⟩) (w.alloc (.cells #[.int .u8 x] 5)):=by
 refine run_convert_bytes_arg _ 85 5 Tryz.underlying85 Tryz.underlying5 w.heap.size 0 1 1 [x] rfl ?_ 9 Tryz.underlying9;intro i hi;have:i=0:=by omega
 subst this;simp
def laid (m:Nat):List UInt8:=if m < 10 then [] else Lib.decDigits (m / 10)
theorem laid_start (m:Nat):Lib.decDigits m=laid m ++ [UInt8.ofNat (48+m % 10)]:=by
 unfold laid;by_cases h:m < 10
 ·rw[if_pos h,Lib.decDigits_one h,Nat.mod_eq_of_lt h];rfl
 ·rw[if_neg h];rw[Lib.decDigits];rw[dif_neg h]
theorem laid_step (m:Nat) (h:10<=m):laid m=laid (m / 10) ++ [UInt8.ofNat (48+m / 10 % 10)]:=by
 rw[<-laid_start];unfold laid;rw[if_neg (by omega)]
theorem ba_app (a b:Array UInt8):(⟨a⟩ ++ ⟨b⟩:ByteArray)=⟨a ++ b⟩:=by
 apply ByteArray.ext;rw[ByteArray.data_append]
theorem itoa_least:Lib.itoa (-9223372036854775808)=[45,57,50,50,51,51,55,50,48,51,54,56,53,52,55,55,53,56,48,56]:=by
 unfold Lib.itoa;rw[if_pos (by decide)];have:(-9223372036854775808:Int).natAbs=9223372036854775808:=by decide
 rw[this];simp[Lib.decDigits]
theorem neg_least (n:Int) (h0:-9223372036854775808<=n) (hn:n < 0) (h:(n == wrap64 (-n))=true):n = -9223372036854775808:=by
 have h':n=wrap64 (-n):=by simpa using h
 unfold wrap64 at h';omega
theorem neg_other (n:Int) (h0:-9223372036854775808<=n) (hn:n < 0) (h:(n == wrap64 (-n))=false):wrap64 (-n)=(n.natAbs:Int)/\n.natAbs<=9223372036854775807:=by
 have h':¬ n=wrap64 (-n):=by simpa using h
 unfold wrap64 at h' ⊢;omega
theorem itoa_neg (n:Int) (hn:n < 0):Lib.itoa n=45 :: Lib.decDigits n.natAbs:=by unfold Lib.itoa;rw[if_pos hn]
theorem ofNat48 (k:Nat):UInt8.ofNat (48+k)=48+UInt8.ofNat k:=by rw[UInt8.ofNat_add];rfl
theorem digR_pos (n:Nat) (w:World) (hn:n<=9223372036854775807):
  Calls Tryz.prog 172 #[.int .i64 n] w fun e w'=>e=.returned (.string ⟨(Lib.decDigits n).toArray⟩)/\Kp w w' (fun _=>False):=by
 have hcv:=conv1;have hd:(Lib.decDigits n).length<=20:=by rw[Lib.decDigits_length];exact nDigits_le 19 n (by omega)
 go_enter Tryz.func172,Tryz.ntmps172;go_wp2
 go_loopw [0,3] (fun i s wr=>∃ (m:Nat) (l:List UInt8),m<=n/\i=.int .i64 m/\s=.string ⟨l.toArray⟩/\Lib.decDigits n=laid m ++ l/\Kp w wr (fun _=>False))
  (fun i _ _=>(intOf i).toNat)
 case atStart=>
  refine⟨n,[UInt8.ofNat (48+n % 10)],Nat.le_refl _,rfl,?_,laid_start n,(Kp.refl _ _).alloc _⟩;rw[ofNat48]
 case round=>
  obtain⟨m,l,hm,rfl,rfl,hl,hkp⟩:=hrel;have hll:l.length<=20:=by rw[hl] at hd;simp at hd;omega
  have HL:Hid (Lib.decDigits n=laid m ++ l):=hl;clear hl;have hsz:(ByteArray.mk l.toArray).size=l.length:=rfl;by_cases h10:10<=m
  ·go_wp2
   go_roundw
   case rel=>
    refine⟨m / 10,UInt8.ofNat (48+m / 10 % 10) :: l,by omega,by go_num,?_,?_,?_⟩
    ·rw[ofNat48,ba_app];simp
    ·rw[HL.out,laid_step m h10];simp
    ·exact hkp.alloc _
   case measure=>simp[intOf];omega
  ·go_wp2;go_ret;refine⟨?_,hkp⟩;rw[HL.out];unfold laid;rw[if_pos (by omega)];rfl
theorem digR (n:Int) (w:World) (h0:-9223372036854775808<=n) (h1:n<=9223372036854775807):
  Calls Tryz.prog 172 #[.int .i64 n] w fun e w'=>e=.returned (.string ⟨(Lib.itoa n).toArray⟩)/\Kp w w' (fun _=>False):=by
 by_cases hp:0<=n
 ·obtain⟨m,rfl⟩:∃ m:Nat,n=m:=⟨n.toNat,by omega⟩;have:Lib.itoa (m:Int)=Lib.decDigits m:=by unfold Lib.itoa;rw[if_neg (by omega)];simp
  rw[this];exact digR_pos m w (by omega)
 ·have hn:n < 0:=by omega
  have H0:Hid (-9223372036854775808<=n):=h0;clear hp h0 h1;go_enter Tryz.func172,Tryz.ntmps172
  go_wp2_with fail
  ·have hl:n = -9223372036854775808:=neg_least n H0.out hn (by assumption);have hit:Lib.itoa n=[45,57,50,50,51,51,55,50,48,51,54,56,53,52,55,55,53,56,48,56]:=by rw[hl,itoa_least]
   clear hl;go_ret;refine⟨?_,Kp.refl _ _⟩;rw[hit];rfl
  ·have hl:=neg_other n H0.out hn (by assumption);rw[hl.1];refine (digR_pos _ _ hl.2).mono ?_;rintro e w' ⟨rfl,hk⟩;have hsz:(ByteArray.mk (Lib.decDigits n.natAbs).toArray).size=(Lib.decDigits n.natAbs).length:=rfl;have hll:(Lib.decDigits n.natAbs).length<=20:=by rw[Lib.decDigits_length];exact nDigits_le 19 _ (by have:=hl.2;omega)
   clear hl;go_wp2;go_ret;refine⟨?_,hk⟩;rw[ba_app,itoa_neg n hn];simp
end
section
open Go.RowKit
theorem siR_dup (w:World) (yb:Nat) (s:RS) (a:Int) (r:List Int) (h:RInv w yb s r.reverse) (he:s.e=0) (hl:r.length < 31):
  Calls Tryz.prog 142 #[.pointer (some ⟨yb,0,none⟩),.string { data:=#[100,117,112] },.int .i64 a] w fun e w'=>e=.returned (.tuple #[])/\RPost w w' yb s ⟨0,a :: a :: r,s.mem,s.out⟩:=by
 go_enter Tryz.func142,Tryz.ntmps142
 go_wp2_with fail
 refine (layR1 _ _ _ _ _ h he (by omega)).mono ?_;rintro e w1 ⟨rfl,v1,hi1,ht1⟩
 go_wp2_with fail
 refine (layR1 _ _ _ _ _ hi1 he (by simp;omega)).mono ?_;rintro e w2 ⟨rfl,v2,hi2,ht2⟩;go_wp2
 go_end0
 exact⟨rfl,⟨_,_,hi2,ht1.trans ht2,he,rfl,rfl,rfl,fun _=>rfl⟩⟩
theorem siR_dup_over (w:World) (yb:Nat) (s:RS) (a:Int) (r:List Int) (h:RInv w yb s r.reverse) (he:s.e=0) (hl:r.length=31):
  Calls Tryz.prog 142 #[.pointer (some ⟨yb,0,none⟩),.string { data:=#[100,117,112] },.int .i64 a] w fun e w'=>e=.returned (.tuple #[])/\RPost w w' yb s ⟨7,[],s.mem,s.out⟩:=by
 go_enter Tryz.func142,Tryz.ntmps142
 go_wp2_with fail
 refine (layR1 _ _ _ _ _ h he (by omega)).mono ?_;rintro e w1 ⟨rfl,v1,hi1,ht1⟩
 go_wp2_with fail
 refine (layR_full _ _ _ _ _ hi1 he (by simp;omega)).mono ?_;rintro e w2 ⟨rfl,hi2,ht2⟩;go_wp2
 go_end0
 exact⟨rfl,⟨_,_,hi2,ht1.trans ht2,rfl,rfl,rfl,rfl,fun h=>by cases h⟩⟩
theorem siR_drop (w:World) (yb:Nat) (s:RS) (a:Int) (r:List Int) (h:RInv w yb s r.reverse) (he:s.e=0):
  Calls Tryz.prog 142 #[.pointer (some ⟨yb,0,none⟩),.string { data:=#[100,114,111,112] },.int .i64 a] w fun e w'=>e=.returned (.tuple #[])/\RPost w w' yb s ⟨0,r,s.mem,s.out⟩:=by
 go_enter Tryz.func142,Tryz.ntmps142;go_wp2
 go_end0
 exact⟨rfl,⟨_,_,h,To.refl _ _ _,he,rfl,rfl,rfl,fun _=>rfl⟩⟩
theorem RPost.ofR {w w1 w2:World} {yb:Nat} {s s1:RS} {R:Res} (ht:RTo yb w w1 s s1) (hs:(s1.st,s1.d)=(s.st,s.d)) (h:RPost w1 w2 yb s1 R):RPost w w2 yb s R:=by
 obtain⟨s',ns,h1,h2,h3,h4,h5,h6,h7⟩:=h.ex;exact⟨s',ns,h1,ht.trans h2,h3,h4,h5,h6.trans hs,h7⟩
theorem RInv.kp {w w':World} {yb:Nat} {s:RS} {ns:List Int} (h:RInv w yb s ns) (hk:Kp w w' (fun _=>False)):RInv w' yb s ns:=
 ⟨hk.blk h.blk (by simp),hk.row h.row (by simp),h.len⟩
theorem RTo.kp {w w':World} {yb:Nat} {s:RS} (hk:Kp w w' (fun _=>False)):RTo yb w w' s s:=⟨hk.mono (fun _ _ h=>h.elim),fun _ h=>.inl h⟩
def dot (a:Int):ByteArray:=⟨(Lib.itoa a ++ [32]).toArray⟩
theorem itoa_len (a:Int) (h0:-9223372036854775808<=a) (h1:a<=9223372036854775807):(Lib.itoa a).length<=21:=by
 unfold Lib.itoa
 split
 ·simp only[List.length_cons];rw[Lib.decDigits_length];have:=nDigits_le 19 a.natAbs (by omega);omega
 ·rw[Lib.decDigits_length];have:=nDigits_le 19 a.toNat (by omega);omega
def prt (s:RS) (r:List Int) (t:ByteArray):Res:=if 300 < s.out.size+t.size then ⟨11,[],s.mem,s.out⟩ else ⟨0,r,s.mem,s.out ++ t⟩
theorem printR (w:World) (yb:Nat) (s:RS) (r:List Int) (t:ByteArray) (h:RInv w yb s r.reverse) (he:s.e=0) (ho:s.out.size<=300) (ht:t.size<=1000):
  Calls Tryz.prog 171 #[.pointer (some ⟨yb,0,none⟩),.string t] w fun e w'=>e=.returned (.tuple #[])/\RPost w w' yb s (prt s r t):=by
 unfold prt;by_cases hl:300 < s.out.size+t.size
 ·rw[if_pos hl];refine (printR_full w yb s _ t h ho ht hl).mono ?_;rintro e w' ⟨rfl,hi,hto⟩;exact⟨rfl,⟨_,_,hi,hto,rfl,rfl,rfl,rfl,fun h=>by cases h⟩⟩
 ·rw[if_neg hl];refine (printR_ok w yb s _ t h ho ht (by omega)).mono ?_;rintro e w' ⟨rfl,hi,hto⟩;exact⟨rfl,⟨_,_,hi,hto,he,rfl,rfl,rfl,fun _=>rfl⟩⟩
theorem dot_eq (a:Int):(⟨(Lib.itoa a).toArray⟩ ++ ⟨#[32]⟩:ByteArray)=dot a:=by rw[ba_app];simp[dot]
theorem dot_size (a:Int) (h0:-9223372036854775808<=a) (h1:a<=9223372036854775807):(dot a).size<=1000:=by
 have:=itoa_len a h0 h1;show (dot a).data.size<=1000;simp[dot];omega
theorem siR_dot (w:World) (yb:Nat) (s:RS) (a:Int) (r:List Int) (h:RInv w yb s r.reverse) (he:s.e=0) (ho:s.out.size<=300) (h0:-9223372036854775808<=a) (h1:a<=9223372036854775807):
  Calls Tryz.prog 142 #[.pointer (some ⟨yb,0,none⟩),.string { data:=#[46] },.int .i64 a] w fun e w'=>e=.returned (.tuple #[])/\RPost w w' yb s (prt s r (dot a)):=by
 have H:=digR a w h0 h1;have hd:=dot_size a h0 h1;have hll:=itoa_len a h0 h1;clear h0 h1;go_enter Tryz.func142,Tryz.ntmps142
 go_wp2_with fail
 refine H.mono ?_;clear H;rintro e w1 ⟨rfl,hk⟩;have hsz:(ByteArray.mk (Lib.itoa a).toArray).size=(Lib.itoa a).length:=rfl
 go_wp2_with fail
 rw[dot_eq];refine (printR _ _ _ _ _ (h.kp hk) he ho hd).mono ?_;rintro e w2 ⟨rfl,hp⟩;go_wp2
 go_end0
 exact⟨rfl,RPost.ofR (RTo.kp hk) rfl hp⟩
def chR (a:Int):ByteArray:=⟨#[UInt8.ofNat (wrap64 (wrap64 (32+a) - wrap64 (95 * fdiv a 95)) % 256).toNat]⟩
theorem siR_emit (w:World) (yb:Nat) (s:RS) (a:Int) (r:List Int) (h:RInv w yb s r.reverse) (he:s.e=0) (ho:s.out.size<=300):
  Calls Tryz.prog 142 #[.pointer (some ⟨yb,0,none⟩),.string { data:=#[101,109,105,116] },.int .i64 a] w fun e w'=>e=.returned (.tuple #[])/\RPost w w' yb s (prt s r (chR a)):=by
 have hcv:=conv1;go_enter Tryz.func142,Tryz.ntmps142
 go_wp2_with fail
 refine (quotR _ _ _ (by decide)).mono ?_;rintro e w' ⟨rfl,hw⟩;rw[hw];clear hw
 go_wp2_with fail
 refine (printR _ _ _ _ _ (h.alloc _) he ho (by show (1:Nat)<=1000;omega)).mono ?_;rintro e w2 ⟨rfl,hp⟩;go_wp2
 go_end0
 exact⟨rfl,RPost.ofR (RTo.kp ((Kp.refl _ _).alloc _)) rfl hp⟩
theorem siR_fetch (w:World) (yb:Nat) (s:RS) (a:Int) (r:List Int) (h:RInv w yb s r.reverse) (he:s.e=0) (hl:r.length < 32) (ha:0<=a) (hb:a < 16):
  Calls Tryz.prog 142 #[.pointer (some ⟨yb,0,none⟩),.string { data:=#[64] },.int .i64 a] w fun e w'=>e=.returned (.tuple #[])/\RPost w w' yb s ⟨0,s.mem a.toNat :: r,s.mem,s.out⟩:=by
 have c1:w.cell? ⟨yb,1+a.toNat,none⟩=some (.int .i64 (s.mem a.toNat)):=h.blk.cell (RS.at s _ (by omega));go_enter Tryz.func142,Tryz.ntmps142
 go_wp2_with fail
 refine (layR1 _ _ _ _ _ h he (by omega)).mono ?_;rintro e w1 ⟨rfl,v1,hi1,ht1⟩;go_wp2
 go_end0
 exact⟨rfl,⟨_,_,hi1,ht1,he,rfl,rfl,rfl,fun _=>rfl⟩⟩
theorem siR_fetch_no (w:World) (yb:Nat) (s:RS) (a:Int) (r:List Int) (h:RInv w yb s r.reverse) (he:s.e=0) (ha:¬ (0<=a/\a < 16)):
  Calls Tryz.prog 142 #[.pointer (some ⟨yb,0,none⟩),.string { data:=#[64] },.int .i64 a] w fun e w'=>e=.returned (.tuple #[])/\RPost w w' yb s ⟨10,[],s.mem,s.out⟩:=by
 have c1:w.cell? ⟨yb,21,none⟩=some (.int .i64 s.e):=h.blk.cell rfl;have f1:=h.blk.free 21;rcases (show a < 0\/(0<=a/\16<=a) by omega) with h1|⟨h1,h2⟩
 all_goals
  clear ha;go_enter Tryz.func142,Tryz.ntmps142;go_wp2;refine bodyPost_ret (results_none rfl _ _ _) rfl ?_;exact⟨rfl,⟨_,_,h.setE _,RTo.set rfl _ _,rfl,rfl,rfl,rfl,fun h=>by cases h⟩⟩
end
end Go.Proofs.YteainaiebcphlaaGreatDoor
