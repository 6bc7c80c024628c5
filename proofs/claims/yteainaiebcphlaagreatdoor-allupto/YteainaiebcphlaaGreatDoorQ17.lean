import Derived.Test.YteainaiebcphlaaGreatDoorQ16
import Derived.Test.YteainaiebcphlaaGreatDoorQ13
import Derived.Deep.RegionHeld3
import Derived.Carry
namespace Go.Proofs.YteainaiebcphlaaGreatDoor
set_option maxRecDepth 1000000
set_option maxHeartbeats 4000000
set_option linter.all false
open Go.Proofs.Tryz
section
open Go.RowKit
def XU:Nat->Tok->List It->Prop
 | 0,_,_=>False
 | _+1,_,[]=>False
 | g+1,t,x::l=>(x.kind=99/\x.name=t)\/((x.kind=63\/x.kind=117\/x.kind=119\/x.kind=100)/\XU g t x.a)\/((x.kind=63\/x.kind=119)/\XU g t x.b)\/XU g t l
def kA (t:Tok)(l:List It):Prop:=∃g,XU g t l
theorem kA.nil (t:Tok):¬kA t []:=by
 rintro⟨g,h⟩
 cases g with
 | zero=>exact h
 | succ g=>exact h
theorem kA.cons {t:Tok}{x:It}{l:List It}:kA t (x::l)<->(x.kind=99/\x.name=t)\/((x.kind=63\/x.kind=117\/x.kind=119\/x.kind=100)/\kA t x.a)\/((x.kind=63\/x.kind=119)/\kA t x.b)\/kA t l:=by
 constructor
 ·rintro⟨g,h⟩
  cases g with
  | zero=>exact h.elim
  | succ g=>
   rcases h with h|⟨k,h⟩|⟨k,h⟩|h
   ·exact .inl h
   ·exact .inr (.inl ⟨k,g,h⟩)
   ·exact .inr (.inr (.inl ⟨k,g,h⟩))
   ·exact .inr (.inr (.inr ⟨g,h⟩))
 ·rintro (h|⟨k,g,h⟩|⟨k,g,h⟩|⟨g,h⟩)
  ·exact⟨1,.inl h⟩
  ·exact⟨g+1,.inr (.inl ⟨k,h⟩)⟩
  ·exact⟨g+1,.inr (.inr (.inl ⟨k,h⟩))⟩
  ·exact⟨g+1,.inr (.inr (.inr h))⟩
def Bc (bo:Tok->Option (List It)):Nat->Tok->Tok->Prop
 | 0,_,_=>False
 | n+1,name,t=>t=name\/∃b,bo name=some b/\∃nm,kA nm b/\Bc bo n nm t
def Bd (bo:Tok->Option (List It))(n:Nat)(l:List It)(t:Tok):Prop:=∃nm,kA nm l/\Bc bo n nm t
theorem Bd.zero (bo:Tok->Option (List It))(l:List It)(t:Tok):¬Bd bo 0 l t:=λ⟨_,_,h⟩=>h
theorem Bd.app {bo:Tok->Option (List It)}{n:Nat}{x:It}{l:List It}{t:Tok}:Bd bo n (x::l) t<->Bd bo n [x] t\/Bd bo n l t:=by
 constructor
 ·rintro⟨nm,h,hb⟩;rcases kA.cons.1 h with h|h|h|h
  ·exact .inl ⟨nm,kA.cons.2 (.inl h),hb⟩
  ·exact .inl ⟨nm,kA.cons.2 (.inr (.inl h)),hb⟩
  ·exact .inl ⟨nm,kA.cons.2 (.inr (.inr (.inl h))),hb⟩
  ·exact .inr ⟨nm,h,hb⟩
 ·rintro (⟨nm,h,hb⟩|⟨nm,h,hb⟩)
  ·rcases kA.cons.1 h with h|h|h|h
   ·exact⟨nm,kA.cons.2 (.inl h),hb⟩
   ·exact⟨nm,kA.cons.2 (.inr (.inl h)),hb⟩
   ·exact⟨nm,kA.cons.2 (.inr (.inr (.inl h))),hb⟩
   ·exact ax h (kA.nil _)
  ·exact⟨nm,kA.cons.2 (.inr (.inr (.inr h))),hb⟩
theorem Bd.snoc {bo:Tok->Option (List It)}{n:Nat}{x:It}{t:Tok}:∀{l:List It},Bd bo n (l++[x]) t<->Bd bo n l t\/Bd bo n [x] t
 | []=>by
  constructor
  ·exact .inr
  ·rintro (⟨_,h,_⟩|h)
   ·exact ax h (kA.nil _)
   ·exact h
 | y::l=>by
  rw[List.cons_append,Bd.app,Bd.app (l:=l),Bd.snoc (l:=l)]
  constructor
  ·rintro (h|h|h)
   ·exact .inl (.inl h)
   ·exact .inl (.inr h)
   ·exact .inr h
  ·rintro ((h|h)|h)
   ·exact .inl h
   ·exact .inr (.inl h)
   ·exact .inr (.inr h)
theorem Bd.none {bo:Tok->Option (List It)}{n:Nat}{x:It}(h1:¬x.kind=99)(h2:¬(x.kind=63\/x.kind=117\/x.kind=119\/x.kind=100))(t:Tok):¬Bd bo n [x] t:=by
 rintro⟨nm,h,_⟩;rcases kA.cons.1 h with h|h|h|h
 ·exact h1 h.1
 ·exact h2 h.1
 ·exact h2 (by rcases h.1 with h|h;exact .inl h;exact .inr (.inr (.inl h)))
 ·exact kA.nil _ h
theorem Bd.call {bo:Tok->Option (List It)}{n:Nat}{x:It}(h1:x.kind=99)(t:Tok):Bd bo n [x] t<->Bc bo n x.name t:=by
 constructor
 ·rintro⟨nm,h,hb⟩;rcases kA.cons.1 h with h|h|h|h
  ·rw[h.2];exact hb
  ·exfalso;omega
  ·exfalso;omega
  ·exact ax h (kA.nil _)
 ·intro hb;exact⟨_,kA.cons.2 (.inl ⟨h1,rfl⟩),hb⟩
theorem Bd.one {bo:Tok->Option (List It)}{n:Nat}{x:It}(h1:x.kind=117\/x.kind=100)(t:Tok):Bd bo n [x] t<->Bd bo n x.a t:=by
 constructor
 ·rintro⟨nm,h,hb⟩;rcases kA.cons.1 h with h|h|h|h
  ·exfalso;omega
  ·exact⟨nm,h.2,hb⟩
  ·exfalso;omega
  ·exact ax h (kA.nil _)
 ·rintro⟨nm,h,hb⟩;exact⟨nm,kA.cons.2 (.inr (.inl ⟨by omega,h⟩)),hb⟩
theorem Bd.two {bo:Tok->Option (List It)}{n:Nat}{x:It}(h1:x.kind=63\/x.kind=119)(t:Tok):Bd bo n [x] t<->Bd bo n x.a t\/Bd bo n x.b t:=by
 constructor
 ·rintro⟨nm,h,hb⟩;rcases kA.cons.1 h with h|h|h|h
  ·exfalso;omega
  ·exact .inl ⟨nm,h.2,hb⟩
  ·exact .inr ⟨nm,h.2,hb⟩
  ·exact ax h (kA.nil _)
 ·rintro (⟨nm,h,hb⟩|⟨nm,h,hb⟩)
  ·exact⟨nm,kA.cons.2 (.inr (.inl ⟨by omega,h⟩)),hb⟩
  ·exact⟨nm,kA.cons.2 (.inr (.inr (.inl ⟨h1,h⟩))),hb⟩
def Ft (mk pk:Option Nat)(k:Nat):Prop:=mk=some k\/pk=some k
theorem jM {M:Mem}{R:Nat->Fr->Prop}{bk:Nat}{P:Nat->Value->List It->Prop}{name:Tok}{c:Value}(h:kM M R bk P name c):∃n f cp,c=.func (.func n) f cp:=by
 rcases h with⟨ab,db,bb,nb,nm,rfl,_⟩|⟨pb,cb,bb,ab,o2,f,va,cv,rfl,_⟩
 ·exact⟨_,_,_,rfl⟩
 ·exact⟨_,_,_,rfl⟩
structure JC (R:Nat->Fr->Prop)(kn:Tok->Prop)(bo:Tok->Option (List It))(bk lf:Nat)(mk pk:Option Nat)(J:(Nat->Prop)->(Tok->Prop)->World->Prop):Prop where
 fr:∀E E' S w w' T,J E S w->Kp w w' T->(∀k,T k->k<w.heap.size->∃c,aC w k 243 c)->(∀k,k<w.heap.size->E k->E' k/\¬T k)->J E' S w'
 mp:∀E S w,J E S w->∀k t c,Ft mk pk k->¬aC w k t c
 call:∀E S w ob (nm:ByteArray),J E S w->Up E w->kn nm.data.toList->nm.size<=1000->Calls prog 200 #[.agg #[pt bk,pt ob,.int .i64 (lf:Int),.map mk,.map pk],.string nm] w λe w'=>∃c,e=.returned c/\Kp w w' (Ft mk pk)/\kM (BD E w') R bk (cQ (BD E w') R bk) nm.data.toList c/\J E (λt=>S t\/Bc bo lf nm.data.toList t) w'
section
variable {R:Nat->Fr->Prop}{kn:Tok->Prop}{bo:Tok->Option (List It)}{bk lf:Nat}{mk pk:Option Nat}{J:(Nat->Prop)->(Tok->Prop)->World->Prop}
theorem JC.kp (hC:JC R kn bo bk lf mk pk J){E:Nat->Prop}{S:Tok->Prop}{w w':World}(h:J E S w)(hk:Kp w w' (λ_=>False)):J E S w':=hC.fr E E S w w' _ h hk (λ_ e=>e.elim) (λ_ _ e=>⟨e,λe=>e⟩)
theorem JC.keep (hC:JC R kn bo bk lf mk pk J){E:Nat->Prop}{S:Tok->Prop}{w w':World}(h:J E S w)(hk:Kp w w' (Ft mk pk)):∀b t c,BD E w b t c->BD E w' b t c:=
 λb t c hb=>⟨hb.1,hk.blk hb.2 (λe=>hC.mp E S w h b t c e hb.2)⟩
theorem JC.blk (hC:JC R kn bo bk lf mk pk J){E:Nat->Prop}{S:Tok->Prop}{w w':World}(h:J E S w)(hk:Kp w w' (Ft mk pk)){b:Nat}{t:TypeId}{c:Array Value}(hb:aC w b t c):aC w' b t c:=hk.blk hb (λe=>hC.mp E S w h b t c e hb)
theorem Kp.ft {w w':World}(h:Kp w w' (λ_=>False))(mk pk:Option Nat):Kp w w' (Ft mk pk):=h.mono (λ_ _ e=>e.elim)
end
def ou (R:Nat->Fr->Prop)(kn:Tok->Prop)(bo:Tok->Option (List It))(bk lf:Nat)(mk pk:Option Nat)(J:(Nat->Prop)->(Tok->Prop)->World->Prop)(g:Nat):Prop:=∀(E:Nat->Prop) (S:Tok->Prop) (w:World) (ob:Nat) (v:Value) (l:List It),J E S w->Up E w->eG (BD E w) g v l->(∃G lo,wb kn G lo l) ->
 Calls prog 156 #[.agg #[pt bk,pt ob,.int .i64 (lf:Int),.map mk,.map pk],v] w λe w'=>∃ao cap,e=.returned (.slice ao l.length cap)/\Kp w w' (Ft mk pk)/\cQ (BD E w') R bk ob (.slice ao l.length cap) l/\J E (λt=>S t\/Bd bo lf l t) w'
theorem EB (w:World)(b1 b2:Option Addr)(n1 n2 c1 c2:Nat):Calls prog 201 #[.slice b1 n1 c1,.slice b2 n2 c2] w λe w'=>e=.returned (.func (.func 222) #[] #[pt w.heap.size,pt (w.heap.size+1)])/\w'=(w.alloc (.cells #[.slice b1 n1 c1] 109)).alloc (.cells #[.slice b2 n2 c2] 109):=by
 have lI:=bV;go_enter func201,ntmps201;go_wp2;go_ret;exact⟨rfl,rfl⟩
theorem G5 (w:World)(b1 b2:Option Addr)(n1 n2 c1 c2:Nat):Calls prog 203 #[.slice b1 n1 c1,.slice b2 n2 c2] w λe w'=>e=.returned (.func (.func 225) #[] #[pt w.heap.size,pt (w.heap.size+1)])/\w'=(w.alloc (.cells #[.slice b1 n1 c1] 109)).alloc (.cells #[.slice b2 n2 c2] 109):=by
 have lI:=bV;go_enter func203,ntmps203;go_wp2;go_ret;exact⟨rfl,rfl⟩
section
variable {R:Nat->Fr->Prop}{kn:Tok->Prop}{bo:Tok->Option (List It)}{bk lf:Nat}{mk pk:Option Nat}{J:(Nat->Prop)->(Tok->Prop)->World->Prop}
theorem ou.at {g:Nat}(hC:JC R kn bo bk lf mk pk J)(hF:ou R kn bo bk lf mk pk J g){E:Nat->Prop}{S:Tok->Prop}{w W:World}{v:Value}{l:List It}(ob:Nat)(hJ:J E S w)(hU:Up E w)(h:eG (BD E w) g v l)(hl:∃G lo,wb kn G lo l)(hk:Kp w W (λ_=>False)):∀w0,Kp W w0 (λ_=>False) ->
  Calls prog 156 #[.agg #[pt bk,pt ob,.int .i64 (lf:Int),.map mk,.map pk],v] w0 λe w'=>∃ao cap,e=.returned (.slice ao l.length cap)/\Kp W w' (Ft mk pk)/\cQ (BD E w') R bk ob (.slice ao l.length cap) l/\J E (λt=>S t\/Bd bo lf l t) w':=by
 intro w0 h0;have hkk:=hk.trans h0;refine(hF E S w0 ob v l (hC.kp hJ hkk) (hU.kp hkk) (eT (bU hkk (λb _ hb=>⟨hb,by simp⟩)) g v l h) hl).mono ?_;rintro e w' ⟨ao,cap,rfl,h1,h2,h3⟩;exact⟨ao,cap,rfl,(h0.ft mk pk).trans h1,h2,h3⟩
theorem Ls (hC:JC R kn bo bk lf mk pk J)(E:Nat->Prop)(S:Tok->Prop)(w:World)(hJ:J E S w)(hU:Up E w)(ob:Nat)(x:It)(hx:x.kind=99)(hkn:kn x.name)(n pl:Int)(nm:ByteArray)(hnm:nm.data.toList=x.name)(hs:nm.size<=1000)(a1 a2 a3:Option Addr)(m1 m2 m3 p1 p2 p3:Nat):
  Calls prog 183 #[.agg #[pt bk,pt ob,.int .i64 (lf:Int),.map mk,.map pk],CV 2 n pl nm (.slice a1 m1 p1) (.slice a2 m2 p2) (.slice a3 m3 p3)] w λe w'=>∃c,e=.returned c/\Kp w w' (Ft mk pk)/\gN (BD E w') R bk ob (cQ (BD E w') R bk) x c/\J E (λt=>S t\/Bd bo lf [x] t) w':=by
 have bC:=((Kp.refl w (λ_=>False)).alloc (.cells #[pt bk,pt ob,.int .i64 (lf:Int),.map mk,.map pk] 206)).alloc (.cells #[.int .i64 2,.int .i64 n,.int .i64 pl,.string nm,.slice a1 m1 p1,.slice a2 m2 p2,.slice a3 m3 p3] 241);have HC:=az (hC.call E S _ ob nm (hC.kp hJ bC) (hU.kp bC) (by rw[hnm];exact hkn) hs);have HK:=az (bC.ft mk pk);have hS:(λt=>S t\/Bc bo lf nm.data.toList t)=(λt=>S t\/Bd bo lf [x] t):=by funext t;rw[hnm];exact propext (or_congr_right (Bd.call hx t).symm)
 have HS:=az hS;clear bC hJ hC hS hkn;go_enter func183,ntmps183
 go_wp2_with fail
 refine HC.out.mono ?_;rintro e w1 ⟨c,rfl,hk1,hA,pP⟩;obtain⟨fn,ff,fc,rfl⟩:=jM hA;have H1:=az (HK.out.trans hk1);have HA:=az hA;have HJ:=az pP;clear hA hk1 pP HC HK;go_wp2;go_ret;refine⟨_,rfl,H1.out,.inr (.inr (.inl ⟨hx,?_⟩)),?_⟩
 ·rw[<-hnm];exact HA.out
 ·rw[<-HS.out];exact HJ.out
theorem G6 (g:Nat)(hC:JC R kn bo bk lf mk pk J)(hF:ou R kn bo bk lf mk pk J g)(E:Nat->Prop)(S:Tok->Prop)(w:World)(hJ:J E S w)(hU:Up E w)(ob:Nat)(x:It)(hx:x.kind=117)(n pl:Int)(nm:ByteArray)(a1 a2 a3:Option Addr)(m1 m2 m3 p1 p2 p3:Nat)(ha:eG (BD E w) g (.slice a2 m2 p2) x.a)(hl:∃G lo,wb kn G lo x.a):
  Calls prog 183 #[.agg #[pt bk,pt ob,.int .i64 (lf:Int),.map mk,.map pk],CV 4 n pl nm (.slice a1 m1 p1) (.slice a2 m2 p2) (.slice a3 m3 p3)] w λe w'=>∃c,e=.returned c/\Kp w w' (Ft mk pk)/\gN (BD E w') R bk ob (cQ (BD E w') R bk) x c/\J E (λt=>S t\/Bd bo lf [x] t) w':=by
 have lI:=bV;have bC:=((Kp.refl w (λ_=>False)).alloc (.cells #[pt bk,pt ob,.int .i64 (lf:Int),.map mk,.map pk] 206)).alloc (.cells #[.int .i64 4,.int .i64 n,.int .i64 pl,.string nm,.slice a1 m1 p1,.slice a2 m2 p2,.slice a3 m3 p3] 241);have HC:=az (hF.at hC ob hJ hU ha hl bC _ (Kp.refl _ _));have HK:=az (bC.ft mk pk);have HU:=az hU;have G7:=az hC;have hS:(λt=>S t\/Bd bo lf x.a t)=(λt=>S t\/Bd bo lf [x] t):=by funext t;exact propext (or_congr_right (Bd.one (by omega) t).symm)
 have HS:=az hS;clear hF ha bC hJ hC hS hU;go_enter func183,ntmps183
 go_wp2_with fail
 refine HC.out.mono ?_;rintro e w1 ⟨ao,cap,rfl,hk1,hA,pP⟩;have hkp:=HK.out.trans hk1;have hsz:=hkp.size;have HA:=az hA;have HJ:=az pP;have mj:=az hkp;clear hA hk1 HC pP hkp;go_wp2;go_ret;refine⟨_,rfl,mj.out.alloc _,?_,?_⟩
 ·exact .inr (.inr (.inr (.inr (.inl ⟨hx,_,_,rfl,⟨HU.out _ hsz,aC.new w1 _ _⟩,HA.out.mono (λb t c h=>⟨h.1,h.2.alloc _⟩) (λ_ _ h=>h)⟩))))
 ·rw[<-HS.out];exact G7.out.kp HJ.out ((Kp.refl _ _).alloc _)
theorem T7 (g:Nat)(hC:JC R kn bo bk lf mk pk J)(hF:ou R kn bo bk lf mk pk J g)(E:Nat->Prop)(S:Tok->Prop)(w:World)(hJ:J E S w)(hU:Up E w)(ob:Nat)(x:It)(hx:x.kind=100)(n pl:Int)(nm:ByteArray)(a1 a2 a3:Option Addr)(m1 m2 m3 p1 p2 p3:Nat)(ha:eG (BD E w) g (.slice a2 m2 p2) x.a)(hl:∃G lo,wb kn G lo x.a):
  Calls prog 183 #[.agg #[pt bk,pt ob,.int .i64 (lf:Int),.map mk,.map pk],CV 6 n pl nm (.slice a1 m1 p1) (.slice a2 m2 p2) (.slice a3 m3 p3)] w λe w'=>∃c,e=.returned c/\Kp w w' (Ft mk pk)/\gN (BD E w') R bk ob (cQ (BD E w') R bk) x c/\J E (λt=>S t\/Bd bo lf [x] t) w':=by
 have lI:=bV;have bC:=((Kp.refl w (λ_=>False)).alloc (.cells #[pt bk,pt ob,.int .i64 (lf:Int),.map mk,.map pk] 206)).alloc (.cells #[.int .i64 6,.int .i64 n,.int .i64 pl,.string nm,.slice a1 m1 p1,.slice a2 m2 p2,.slice a3 m3 p3] 241);have HC:=az (hF.at hC ob hJ hU ha hl bC _ (Kp.refl _ _));have HK:=az (bC.ft mk pk);have HU:=az hU;have G7:=az hC;have hS:(λt=>S t\/Bd bo lf x.a t)=(λt=>S t\/Bd bo lf [x] t):=by funext t;exact propext (or_congr_right (Bd.one (by omega) t).symm)
 have HS:=az hS;clear hF ha bC hJ hC hS hU;go_enter func183,ntmps183
 go_wp2_with fail
 refine HC.out.mono ?_;rintro e w1 ⟨ao,cap,rfl,hk1,hA,pP⟩;have hkp:=HK.out.trans hk1;have hsz:=hkp.size;have HA:=az hA;have HJ:=az pP;have mj:=az hkp;clear hA hk1 HC pP hkp;go_wp2;go_ret;refine⟨_,rfl,mj.out.alloc _,?_,?_⟩
 ·exact .inr (.inr (.inr (.inr (.inr (.inr (.inl ⟨hx,_,_,rfl,⟨HU.out _ hsz,aC.new w1 _ _⟩,HA.out.mono (λb t c h=>⟨h.1,h.2.alloc _⟩) (λ_ _ h=>h)⟩))))))
 ·rw[<-HS.out];exact G7.out.kp HJ.out ((Kp.refl _ _).alloc _)
theorem T8 (g:Nat)(hC:JC R kn bo bk lf mk pk J)(hF:ou R kn bo bk lf mk pk J g)(E:Nat->Prop)(S:Tok->Prop)(w:World)(hJ:J E S w)(hU:Up E w)(ob:Nat)(x:It)(hx:x.kind=63)(n pl:Int)(nm:ByteArray)(a1 a2 a3:Option Addr)(m1 m2 m3 p1 p2 p3:Nat)(ha:eG (BD E w) g (.slice a2 m2 p2) x.a)(hla:∃G lo,wb kn G lo x.a)(hb:eG (BD E w) g (.slice a3 m3 p3) x.b)(hlb:∃G lo,wb kn G lo x.b):
  Calls prog 183 #[.agg #[pt bk,pt ob,.int .i64 (lf:Int),.map mk,.map pk],CV 3 n pl nm (.slice a1 m1 p1) (.slice a2 m2 p2) (.slice a3 m3 p3)] w λe w'=>∃c,e=.returned c/\Kp w w' (Ft mk pk)/\gN (BD E w') R bk ob (cQ (BD E w') R bk) x c/\J E (λt=>S t\/Bd bo lf [x] t) w':=by
 have lI:=bV;obtain⟨W0,hW0⟩:∃W0,W0=(w.alloc (.cells #[pt bk,pt ob,.int .i64 (lf:Int),.map mk,.map pk] 206)).alloc (.cells #[.int .i64 3,.int .i64 n,.int .i64 pl,.string nm,.slice a1 m1 p1,.slice a2 m2 p2,.slice a3 m3 p3] 241):=⟨_,rfl⟩;have hW:Kp w W0 (λ_=>False):=by rw[hW0];exact((Kp.refl w (λ_=>False)).alloc _).alloc _
 have hb0:aC W0 w.heap.size 206 #[pt bk,pt ob,.int .i64 (lf:Int),.map mk,.map pk]:=by rw[hW0];exact(aC.new w _ _).alloc _
 have hb1:aC W0 (w.heap.size+1) 241 #[.int .i64 3,.int .i64 n,.int .i64 pl,.string nm,.slice a1 m1 p1,.slice a2 m2 p2,.slice a3 m3 p3]:=by rw[hW0];exact aC.new1 w _ _ _
 have KD:=hC.kp hJ hW;have Y2:=az (hF.at hC ob hJ hU ha hla hW);have SN:Hid (∀w1,Kp W0 w1 (Ft mk pk)->J E (λt=>S t\/Bd bo lf x.a t) w1->∀w0,Kp w1 w0 (λ_=>False)->Calls prog 156 #[.agg #[pt bk,pt ob,.int .i64 (lf:Int),.map mk,.map pk],.slice a3 m3 p3] w0 λe w'=>∃ao cap,e=.returned (.slice ao x.b.length cap)/\Kp w1 w' (Ft mk pk)/\cQ (BD E w') R bk ob (.slice ao x.b.length cap) x.b/\J E (λt=>(S t\/Bd bo lf x.a t)\/Bd bo lf x.b t) w'):=λw1 hk1 pP=>by
  have kz:=(hW.ft mk pk).trans hk1;exact hF.at hC ob pP (hU.kp kz) (eT (hC.keep hJ kz) _ _ _ hb) hlb (Kp.refl _ _)
 have HK:=az (hW.ft mk pk);have PW:Hid (∀w1,Kp W0 w1 (Ft mk pk)->aC w1 w.heap.size 206 #[pt bk,pt ob,.int .i64 (lf:Int),.map mk,.map pk]/\aC w1 (w.heap.size+1) 241 #[.int .i64 3,.int .i64 n,.int .i64 pl,.string nm,.slice a1 m1 p1,.slice a2 m2 p2,.slice a3 m3 p3]):=λw1 hk1=>⟨hC.blk KD hk1 hb0,hC.blk KD hk1 hb1⟩;have HU:=az hU;have G7:=az hC;have hS:(λt=>(S t\/Bd bo lf x.a t)\/Bd bo lf x.b t)=(λt=>S t\/Bd bo lf [x] t):=by funext t;rw[or_assoc];exact propext (or_congr_right (Bd.two (by omega) t).symm)
 have HS:=az hS;clear hF ha hb hW hb0 hb1 hJ KD hC hS hU;go_enter func183,ntmps183;go_wp2
 go_region_held3 (λw'=>w'.cell? ⟨w.heap.size,0,none⟩=some (pt bk)/\w'.cell? ⟨w.heap.size,1,none⟩=some (pt ob)/\w'.cell? ⟨w.heap.size,2,none⟩=some (.int .i64 (lf:Int))/\w'.cell? ⟨w.heap.size,3,none⟩=some (.map mk)/\w'.cell? ⟨w.heap.size,4,none⟩=some (.map pk)/\w'.cell? ⟨w.heap.size+1,5,none⟩=some (.slice a2 m2 p2)/\w'.cell? ⟨w.heap.size+1,6,none⟩=some (.slice a3 m3 p3)) (go_keep) (first
  | (go_at_call_of 156 (Value.slice a2 m2 p2);refine(Y2.out _ ?_).mono ?_;(rw[hW0];exact(Kp.refl _ _).drew);rintro e w1 ⟨Kz,jd,rfl,hk1,Oq,pP⟩;have Lt:=az Oq;have oV:=az hk1;have KE:=az pP;obtain⟨hb0,hb1⟩:=PW.out w1 hk1;have u0:w1.cell? ⟨w.heap.size,0,none⟩=some (pt bk):=hb0.cell rfl;have u1:w1.cell? ⟨w.heap.size,1,none⟩=some (pt ob):=hb0.cell rfl;have u2:w1.cell? ⟨w.heap.size,2,none⟩=some (.int .i64 (lf:Int)):=hb0.cell rfl;have u3:w1.cell? ⟨w.heap.size,3,none⟩=some (.map mk):=hb0.cell rfl;have u4:w1.cell? ⟨w.heap.size,4,none⟩=some (.map pk):=hb0.cell rfl;have u5:w1.cell? ⟨w.heap.size+1,5,none⟩=some (.slice a2 m2 p2):=hb1.cell rfl;have u6:w1.cell? ⟨w.heap.size+1,6,none⟩=some (.slice a3 m3 p3):=hb1.cell rfl;clear Oq hk1 hb0 hb1 pP)
  | (go_at_call_of 156 (Value.slice a3 m3 p3);refine(SN.out w1 oV.out KE.out _ ?_).mono ?_;exact(Kp.refl _ _);rintro e w2 ⟨wE,cap2,rfl,hk2,T9,hJ2⟩;have EC:=az T9;have yl:=az hk2;have Y3:=az hJ2;obtain⟨hb0,hb1⟩:=PW.out w2 (oV.out.trans hk2);have u0:w2.cell? ⟨w.heap.size,0,none⟩=some (pt bk):=hb0.cell rfl;have u1:w2.cell? ⟨w.heap.size,1,none⟩=some (pt ob):=hb0.cell rfl;have u2:w2.cell? ⟨w.heap.size,2,none⟩=some (.int .i64 (lf:Int)):=hb0.cell rfl;have u3:w2.cell? ⟨w.heap.size,3,none⟩=some (.map mk):=hb0.cell rfl;have u4:w2.cell? ⟨w.heap.size,4,none⟩=some (.map pk):=hb0.cell rfl;have u5:w2.cell? ⟨w.heap.size+1,5,none⟩=some (.slice a2 m2 p2):=hb1.cell rfl;have u6:w2.cell? ⟨w.heap.size+1,6,none⟩=some (.slice a3 m3 p3):=hb1.cell rfl;have hlt3:=hb1.lt;clear T9 hk2 hb0 hb1 hJ2)
  | (go_at_call 201;refine(EB _ _ _ _ _ _ _).mono ?_;rintro e w3 ⟨rfl,rfl⟩))
 go_wp2;go_ret;have hkp:=HK.out.trans (oV.out.trans yl.out);have hsz:=hkp.size;have hka:=G7.out.keep KE.out yl.out;refine⟨_,rfl,(hkp.alloc _).alloc _,?_,?_⟩
 ·exact .inr (.inr (.inr (.inl ⟨hx,_,_,_,_,rfl,⟨HU.out _ hsz,(aC.new w2 _ _).alloc _⟩,⟨HU.out _ (Nat.le_succ_of_le hsz),aC.new1 w2 _ _ _⟩,(Lt.out.mono hka (λ_ _ h=>h)).mono (λb t c h=>⟨h.1,(h.2.alloc _).alloc _⟩) (λ_ _ h=>h),EC.out.mono (λb t c h=>⟨h.1,(h.2.alloc _).alloc _⟩) (λ_ _ h=>h)⟩)))
 ·rw[<-HS.out];exact G7.out.kp Y3.out (((Kp.refl _ _).alloc _).alloc _)
theorem G8 (g:Nat)(hC:JC R kn bo bk lf mk pk J)(hF:ou R kn bo bk lf mk pk J g)(E:Nat->Prop)(S:Tok->Prop)(w:World)(hJ:J E S w)(hU:Up E w)(ob:Nat)(x:It)(hx:x.kind=119)(n pl:Int)(nm:ByteArray)(a1 a2 a3:Option Addr)(m1 m2 m3 p1 p2 p3:Nat)(ha:eG (BD E w) g (.slice a2 m2 p2) x.a)(hla:∃G lo,wb kn G lo x.a)(hb:eG (BD E w) g (.slice a3 m3 p3) x.b)(hlb:∃G lo,wb kn G lo x.b):
  Calls prog 183 #[.agg #[pt bk,pt ob,.int .i64 (lf:Int),.map mk,.map pk],CV 5 n pl nm (.slice a1 m1 p1) (.slice a2 m2 p2) (.slice a3 m3 p3)] w λe w'=>∃c,e=.returned c/\Kp w w' (Ft mk pk)/\gN (BD E w') R bk ob (cQ (BD E w') R bk) x c/\J E (λt=>S t\/Bd bo lf [x] t) w':=by
 have lI:=bV;obtain⟨W0,hW0⟩:∃W0,W0=(w.alloc (.cells #[pt bk,pt ob,.int .i64 (lf:Int),.map mk,.map pk] 206)).alloc (.cells #[.int .i64 5,.int .i64 n,.int .i64 pl,.string nm,.slice a1 m1 p1,.slice a2 m2 p2,.slice a3 m3 p3] 241):=⟨_,rfl⟩;have hW:Kp w W0 (λ_=>False):=by rw[hW0];exact((Kp.refl w (λ_=>False)).alloc _).alloc _
 have hb0:aC W0 w.heap.size 206 #[pt bk,pt ob,.int .i64 (lf:Int),.map mk,.map pk]:=by rw[hW0];exact(aC.new w _ _).alloc _
 have hb1:aC W0 (w.heap.size+1) 241 #[.int .i64 5,.int .i64 n,.int .i64 pl,.string nm,.slice a1 m1 p1,.slice a2 m2 p2,.slice a3 m3 p3]:=by rw[hW0];exact aC.new1 w _ _ _
 have KD:=hC.kp hJ hW;have Y2:=az (hF.at hC ob hJ hU ha hla hW);have SN:Hid (∀w1,Kp W0 w1 (Ft mk pk)->J E (λt=>S t\/Bd bo lf x.a t) w1->∀w0,Kp w1 w0 (λ_=>False)->Calls prog 156 #[.agg #[pt bk,pt ob,.int .i64 (lf:Int),.map mk,.map pk],.slice a3 m3 p3] w0 λe w'=>∃ao cap,e=.returned (.slice ao x.b.length cap)/\Kp w1 w' (Ft mk pk)/\cQ (BD E w') R bk ob (.slice ao x.b.length cap) x.b/\J E (λt=>(S t\/Bd bo lf x.a t)\/Bd bo lf x.b t) w'):=λw1 hk1 pP=>by
  have kz:=(hW.ft mk pk).trans hk1;exact hF.at hC ob pP (hU.kp kz) (eT (hC.keep hJ kz) _ _ _ hb) hlb (Kp.refl _ _)
 have HK:=az (hW.ft mk pk);have PW:Hid (∀w1,Kp W0 w1 (Ft mk pk)->aC w1 w.heap.size 206 #[pt bk,pt ob,.int .i64 (lf:Int),.map mk,.map pk]/\aC w1 (w.heap.size+1) 241 #[.int .i64 5,.int .i64 n,.int .i64 pl,.string nm,.slice a1 m1 p1,.slice a2 m2 p2,.slice a3 m3 p3]):=λw1 hk1=>⟨hC.blk KD hk1 hb0,hC.blk KD hk1 hb1⟩;have HU:=az hU;have G7:=az hC;have hS:(λt=>(S t\/Bd bo lf x.a t)\/Bd bo lf x.b t)=(λt=>S t\/Bd bo lf [x] t):=by funext t;rw[or_assoc];exact propext (or_congr_right (Bd.two (by omega) t).symm)
 have HS:=az hS;clear hF ha hb hW hb0 hb1 hJ KD hC hS hU;go_enter func183,ntmps183;go_wp2
 go_region_held3 (λw'=>w'.cell? ⟨w.heap.size,0,none⟩=some (pt bk)/\w'.cell? ⟨w.heap.size,1,none⟩=some (pt ob)/\w'.cell? ⟨w.heap.size,2,none⟩=some (.int .i64 (lf:Int))/\w'.cell? ⟨w.heap.size,3,none⟩=some (.map mk)/\w'.cell? ⟨w.heap.size,4,none⟩=some (.map pk)/\w'.cell? ⟨w.heap.size+1,5,none⟩=some (.slice a2 m2 p2)/\w'.cell? ⟨w.heap.size+1,6,none⟩=some (.slice a3 m3 p3)) (go_keep) (first
  | (go_at_call_of 156 (Value.slice a2 m2 p2);refine(Y2.out _ ?_).mono ?_;(rw[hW0];exact(Kp.refl _ _).drew);rintro e w1 ⟨Kz,jd,rfl,hk1,Oq,pP⟩;have Lt:=az Oq;have oV:=az hk1;have KE:=az pP;obtain⟨hb0,hb1⟩:=PW.out w1 hk1;have u0:w1.cell? ⟨w.heap.size,0,none⟩=some (pt bk):=hb0.cell rfl;have u1:w1.cell? ⟨w.heap.size,1,none⟩=some (pt ob):=hb0.cell rfl;have u2:w1.cell? ⟨w.heap.size,2,none⟩=some (.int .i64 (lf:Int)):=hb0.cell rfl;have u3:w1.cell? ⟨w.heap.size,3,none⟩=some (.map mk):=hb0.cell rfl;have u4:w1.cell? ⟨w.heap.size,4,none⟩=some (.map pk):=hb0.cell rfl;have u5:w1.cell? ⟨w.heap.size+1,5,none⟩=some (.slice a2 m2 p2):=hb1.cell rfl;have u6:w1.cell? ⟨w.heap.size+1,6,none⟩=some (.slice a3 m3 p3):=hb1.cell rfl;clear Oq hk1 hb0 hb1 pP)
  | (go_at_call_of 156 (Value.slice a3 m3 p3);refine(SN.out w1 oV.out KE.out _ ?_).mono ?_;exact(Kp.refl _ _);rintro e w2 ⟨wE,cap2,rfl,hk2,T9,hJ2⟩;have EC:=az T9;have yl:=az hk2;have Y3:=az hJ2;obtain⟨hb0,hb1⟩:=PW.out w2 (oV.out.trans hk2);have u0:w2.cell? ⟨w.heap.size,0,none⟩=some (pt bk):=hb0.cell rfl;have u1:w2.cell? ⟨w.heap.size,1,none⟩=some (pt ob):=hb0.cell rfl;have u2:w2.cell? ⟨w.heap.size,2,none⟩=some (.int .i64 (lf:Int)):=hb0.cell rfl;have u3:w2.cell? ⟨w.heap.size,3,none⟩=some (.map mk):=hb0.cell rfl;have u4:w2.cell? ⟨w.heap.size,4,none⟩=some (.map pk):=hb0.cell rfl;have u5:w2.cell? ⟨w.heap.size+1,5,none⟩=some (.slice a2 m2 p2):=hb1.cell rfl;have u6:w2.cell? ⟨w.heap.size+1,6,none⟩=some (.slice a3 m3 p3):=hb1.cell rfl;have hlt3:=hb1.lt;clear T9 hk2 hb0 hb1 hJ2)
  | (go_at_call 203;refine(G5 _ _ _ _ _ _ _).mono ?_;rintro e w3 ⟨rfl,rfl⟩))
 go_wp2;go_ret;have hkp:=HK.out.trans (oV.out.trans yl.out);have hsz:=hkp.size;have hka:=G7.out.keep KE.out yl.out;refine⟨_,rfl,(hkp.alloc _).alloc _,?_,?_⟩
 ·exact .inr (.inr (.inr (.inr (.inr (.inl ⟨hx,_,_,_,_,rfl,⟨HU.out _ hsz,(aC.new w2 _ _).alloc _⟩,⟨HU.out _ (Nat.le_succ_of_le hsz),aC.new1 w2 _ _ _⟩,(Lt.out.mono hka (λ_ _ h=>h)).mono (λb t c h=>⟨h.1,(h.2.alloc _).alloc _⟩) (λ_ _ h=>h),EC.out.mono (λb t c h=>⟨h.1,(h.2.alloc _).alloc _⟩) (λ_ _ h=>h)⟩)))))
 ·rw[<-HS.out];exact G7.out.kp Y3.out (((Kp.refl _ _).alloc _).alloc _)
end
theorem seven (a0 a1 a2 a3 a4 a5 a6:Value)(rest:List Value)(i j:Nat):(a0::a1::a2::a3::a4::a5::a6::rest)[(i+1)*7+j]? = rest[i*7+j]?:=by
 rw[show(i+1)*7+j=i*7+j+1+1+1+1+1+1+1 by omega];rfl
theorem xM {M:Mem}{P:Value->List It->Prop}:∀(l:List It) (xs:List Value),iI M P l xs->∀i (h:i<l.length),∃n pl nm tv va vb,wo M P l[i] n pl nm tv va vb /\
  xs[i*7]? = some (.int .i64 (dw l[i].kind))/\xs[i*7+1]? = some (.int .i64 n)/\xs[i*7+2]? = some (.int .i64 pl)/\xs[i*7+3]? = some (.string nm)/\xs[i*7+4]? = some tv/\xs[i*7+5]? = some va/\xs[i*7+6]? = some vb
 | [],_,_,i,h=>ax h (by simp)
 | x::l,xs,⟨n,pl,nm,tv,va,vb,rest,h1,h2,h3⟩,0,h=>by
  subst h1;exact⟨n,pl,nm,tv,va,vb,h2,by simp,by simp,by simp,by simp,by simp,by simp,by simp⟩
 | x::l,xs,⟨n,pl,nm,tv,va,vb,rest,h1,h2,h3⟩,i+1,h=>by
  subst h1;obtain⟨n',pl',sV,tv',Y4,Ek,k0,k1⟩:=xM l rest h3 i (by simpa using h);refine⟨n',pl',sV,tv',Y4,Ek,k0,?_⟩;have e0:=seven (.int .i64 (dw x.kind)) (.int .i64 n) (.int .i64 pl) (.string nm) tv va vb rest i 0;simp only[Nat.add_zero] at e0;rw[e0,seven,seven,seven,seven,seven,seven];exact k1
theorem ED {M:Mem}{R:Nat->Fr->Prop}{bk ob:Nat}{P:Nat->Value->List It->Prop}{x:It}{c:Value}(h:gN M R bk ob P x c):∃n f cp,c=.func (.func n) f cp:=by
 unfold gN at h;rcases h with⟨_,_,ab,nb,rfl,_⟩|⟨_,ab,act,j,rfl,_⟩|⟨_,h⟩|⟨_,b1,b2,va,vb,rfl,_⟩|⟨_,b1,va,rfl,_⟩|⟨_,b1,b2,va,vb,rfl,_⟩|⟨_,b1,va,rfl,_⟩|⟨_,rfl⟩|⟨_,ab,db,bb,wb,rfl,_⟩|⟨_,rfl⟩|⟨_,ab,db,sb,tb,tv,ws,rfl,_⟩
 ·exact⟨_,_,_,rfl⟩
 ·exact⟨_,_,_,rfl⟩
 ·exact jM h
 all_goals exact⟨_,_,_,rfl⟩
def okI (kn:Tok->Prop)(x:It):Prop:=(x.kind=99->kn x.name)/\((x.kind=63\/x.kind=117\/x.kind=119\/x.kind=100)->∃G lo,wb kn G lo x.a)/\((x.kind=63\/x.kind=119)->∃G lo,wb kn G lo x.b)
theorem PX {kn:Tok->Prop}{l:List It}(h:∃G lo,wb kn G lo l){x:It}(hx:x∈l):okI kn x:=by
 obtain⟨G,lo,h⟩:=h
 cases G with
 | zero=>have h:l=[]:=h;subst h;cases hx
 | succ G=>
  rcases h x hx with⟨q,_⟩|⟨q,q1,q2⟩|⟨q,q1,_⟩
  ·refine⟨λk=>?_,λk=>?_,λk=>?_⟩
   ·rcases q with q|q|q|q|q|q|q
    all_goals first
     | exact q.2
     | (exfalso;omega)
   ·exfalso;omega
   ·exfalso;omega
  ·exact⟨λk=>by exfalso;omega,λ_=>⟨G,lo,q1⟩,λ_=>⟨G,lo,q2⟩⟩
  ·exact⟨λk=>by exfalso;omega,λ_=>⟨G,true,q1⟩,λk=>by exfalso;omega⟩
section
variable {R:Nat->Fr->Prop}{kn:Tok->Prop}{bo:Tok->Option (List It)}{bk lf:Nat}{mk pk:Option Nat}{J:(Nat->Prop)->(Tok->Prop)->World->Prop}
theorem Y5 (g:Nat)(hC:JC R kn bo bk lf mk pk J)(hF:ou R kn bo bk lf mk pk J g)(E:Nat->Prop)(S:Tok->Prop)(w:World)(hJ:J E S w)(hU:Up E w)(ob:Nat)(x:It)(n pl:Int)(nm:ByteArray)(a1 a2 a3:Option Addr)(m1 m2 m3 p1 p2 p3:Nat)(h:wo (BD E w) (eG (BD E w) g) x n pl nm (.slice a1 m1 p1) (.slice a2 m2 p2) (.slice a3 m3 p3))(ho:okI kn x):
  Calls prog 183 #[.agg #[pt bk,pt ob,.int .i64 (lf:Int),.map mk,.map pk],CV (dw x.kind) n pl nm (.slice a1 m1 p1) (.slice a2 m2 p2) (.slice a3 m3 p3)] w λe w'=>∃c,e=.returned c/\Kp w w' (Ft mk pk)/\gN (BD E w') R bk ob (cQ (BD E w') R bk) x c/\J E (λt=>S t\/Bd bo lf [x] t) w':=by
 have lift:¬x.kind=99->¬(x.kind=63\/x.kind=117\/x.kind=119\/x.kind=100)->∀(e:Ending) (w':World),(∃c,e=.returned c/\Kp w w' (λ_=>False)/\gN (BD E w') R bk ob (λ_ _ _=>False) x c)->∃c,e=.returned c/\Kp w w' (Ft mk pk)/\gN (BD E w') R bk ob (cQ (BD E w') R bk) x c/\J E (λt=>S t\/Bd bo lf [x] t) w':=by
  rintro k1 k2 e w' ⟨c,h1,h2,h3⟩;refine⟨c,h1,h2.ft mk pk,fP (λ_ _ _ h=>h) (λ_ _ h=>h) (λ_ _ _ h=>h.elim) h3,?_⟩;rw[show(λt=>S t\/Bd bo lf [x] t)=S by funext t;exact propext ⟨λq=>q.elim id (λq=>ax q (Bd.none k1 k2 t)),.inl⟩];exact hC.kp hJ h2
 rcases h.kd with hk|hk|hk|hk|hk|hk|hk|hk|hk|hk|hk
 ·obtain⟨rfl,hn⟩:=h.num hk;have lift:=lift (by omega) (by omega);rw[hk];exact(PU w hU bk ob x hk hn pl nm a1 a2 a3 m1 m2 m3 p1 p2 p3 _).mono lift
 ·obtain⟨j,hj,hp⟩:=h.Yx hk;have lift:=lift (by omega) (by omega);rw[hk];exact(G0 w hU bk ob x hk j hj n pl hp nm a1 a2 a3 m1 m2 m3 p1 p2 p3 _).mono lift
 ·obtain⟨hn,hs⟩:=h.name hk;rw[hk];exact Ls hC E S w hJ hU ob x hk (ho.1 hk) n pl nm hn hs a1 a2 a3 m1 m2 m3 p1 p2 p3
 ·rw[hk];exact T8 g hC hF E S w hJ hU ob x hk n pl nm a1 a2 a3 m1 m2 m3 p1 p2 p3 h.a (ho.2.1 (by omega)) h.b (ho.2.2 (by omega))
 ·rw[hk];exact G6 g hC hF E S w hJ hU ob x hk n pl nm a1 a2 a3 m1 m2 m3 p1 p2 p3 h.a (ho.2.1 (by omega))
 ·rw[hk];exact G8 g hC hF E S w hJ hU ob x hk n pl nm a1 a2 a3 m1 m2 m3 p1 p2 p3 h.a (ho.2.1 (by omega)) h.b (ho.2.2 (by omega))
 ·rw[hk];exact T7 g hC hF E S w hJ hU ob x hk n pl nm a1 a2 a3 m1 m2 m3 p1 p2 p3 h.a (ho.2.1 (by omega))
 ·have lift:=lift (by omega) (by omega);rw[hk];exact(Y1 w hU bk ob x hk n pl nm a1 a2 a3 m1 m2 m3 p1 p2 p3 _).mono lift
 ·have lift:=lift (by omega) (by omega);rw[hk];exact(PV w hU bk ob x hk n pl nm a1 a2 a3 m1 m2 m3 p1 p2 p3 _).mono lift
 ·have lift:=lift (by omega) (by omega);rw[hk];exact(Lr w hU bk ob x hk n pl nm a1 a2 a3 m1 m2 m3 p1 p2 p3 _).mono lift
 ·obtain⟨ws,h1,h2⟩:=h.toks;obtain⟨h3,h4,h5⟩:=h2 hk;have lift:=lift (by omega) (by omega);rw[hk];exact(EA w hU bk ob x hk n pl nm a1 a2 a3 m1 m2 m3 p1 p2 p3 ws h1 h3 h4 h5 (λ_ _ _=>False)).mono lift
def FL (R:Nat->Fr->Prop)(bo:Tok->Option (List It))(bk lf:Nat)(mk pk:Option Nat)(J:(Nat->Prop)->(Tok->Prop)->World->Prop)(E:Nat->Prop)(S:Tok->Prop)(w:World)(ob:Nat)(l:List It)(v:Value)(k:Nat)(wr:World):Prop:=
 ∃cs,Kp w wr (Ft mk pk)/\aC wr w.heap.size 206 #[pt bk,pt ob,.int .i64 (lf:Int),.map mk,.map pk]/\wr.ownsRow 0 243 1 v cs.length cs/\(∀b,own v b->w.heap.size+1<=b) /\
  jG (gN (BD (λb=>E b/\¬own v b) wr) R bk ob (cQ (BD (λb=>E b/\¬own v b) wr) R bk)) (l.take k) cs/\J (λb=>E b/\¬own v b) (λt=>S t\/Bd bo lf (l.take k) t) wr
theorem Tryz.Lu:(prog.info? 243).map (λi=>(i.zero,i.size,i.bytes))=some (some .nilFunc,1,8):=by kernel_rfl
theorem Ua (g:Nat)(hC:JC R kn bo bk lf mk pk J)(hF:ou R kn bo bk lf mk pk J g):ou R kn bo bk lf mk pk J (g+1):=by
 intro E S w ob v l hJ hU hI hl;obtain⟨xs,aJ,hits,hll⟩:=hI;obtain⟨ao,cap,rfl⟩:=aJ.form;obtain⟨i0,hi,hz0,hz1,hz2⟩:=info_parts Tryz.Lu;have lI:=bV;have H0:FL R bo bk lf mk pk J E S w ob l (.slice none 0 0) 0 (w.alloc (.cells #[pt bk,pt ob,.int .i64 (lf:Int),.map mk,.map pk] 206)):=by
  refine⟨[],((Kp.refl _ _).alloc _).ft mk pk,aC.new w _ _,World.ownsRow_nil _ _ _ _,λb hb=>by simp[own,Value.ownBlock] at hb,rfl,?_⟩;rw[show(λt=>S t\/Bd bo lf (l.take 0) t)=S by funext t;exact propext ⟨λq=>q.elim id (λ⟨_,q,_⟩=>ax q (kA.nil _)),.inl⟩];exact hC.fr E _ S w _ _ hJ ((Kp.refl w (λ_=>False)).alloc _) (λ_ e=>e.elim) (λb _ hb=>⟨⟨hb,by simp[own,Value.ownBlock]⟩,by simp⟩)
 have HF:=az hF;have HI:=az hits;have HR:=az aJ;have HC:=az hC;have HJ:=az hJ;have HU:=az hU;have HL:=az hl;have HH:=az H0;clear hF hits aJ hC hJ hU hl H0;go_enter func156,ntmps156;go_wp2
 go_loopw [5,10] (λv i wr=>∃k:Nat,k<=l.length/\i=.int .i64 k/\FL R bo bk lf mk pk J E S w ob l v k wr) (λ_ i _=>l.length-(intOf i).toNat)
 case atStart=>exact⟨0,Nat.zero_le _,rfl,HH.out⟩
 case round=>
  obtain⟨k,hk,rfl,cs,hkp,hB,aJ,hnew,hA,SP⟩:=hrel;have hcl:cs.length=k:=by rw[kN _ _ hA];simp;omega
  obtain⟨wE,cap2,hv2⟩:=aB aJ;rw[hcl] at hv2 aJ;subst hv2;have HCL:=az hcl;clear hcl;have PY:∀b,own (.slice wE k cap2) b->b<wr.heap.size:=λb hb=>bw aJ hb;by_cases hlt:k<l.length
  ·have hki:∀b t c,BD E w b t c->BD (λb=>E b/\¬own (.slice wE k cap2) b) wr b t c:=λb t c hb=>⟨⟨hb.1,λe=>by have:=hnew b e;have:=hb.2.lt;omega⟩,HC.out.blk HJ.out hkp hb.2⟩;have hrw:wr.ownsRow 0 241 7 (.slice ao l.length cap) l.length xs:=(xj (λb c h=>hki b _ c h) HR.out).row;obtain⟨gd,cap',hv,hcell⟩:=bE hrw (by omega);injection hv with hv h2 h3;subst hv h3;clear h2;obtain⟨n7,fO,XP,tv,va,vb,hit,x0,x1,x2,x3,x4,x5,x6⟩:=xM _ _ HI.out k hlt;have d0:=hcell _ _ x0;have d1:=hcell _ _ x1;have d2:=hcell _ _ x2;have d3:=hcell _ _ x3;have d4:=hcell _ _ x4;have d5:=hcell _ _ x5;have d6:=hcell _ _ x6;obtain⟨gF,js,-⟩:=hit.toks;have SJ:=hit.a;have hrb:=hit.b;obtain⟨a5,p5,rI⟩:=js.form;rw[List.length_map] at rI;subst rI;have KF:∃a m p,va=.slice a m p:=by
    cases g with
    | zero=>exact SJ.elim
    | succ g=>obtain⟨_,hq,_⟩:=SJ;obtain⟨a,p,hv⟩:=hq.form;exact⟨a,_,p,hv⟩
   have Y6:∃a m p,vb=.slice a m p:=by
    cases g with
    | zero=>exact hrb.elim
    | succ g=>obtain⟨_,hq,_⟩:=hrb;obtain⟨a,p,hv⟩:=hq.form;exact⟨a,_,p,hv⟩
   obtain⟨a6,m6,p6,rfl⟩:=KF;obtain⟨a7,m7,p7,rfl⟩:=Y6;have s0:wr.cell? ⟨w.heap.size,0,none⟩=some (pt bk):=hB.cell rfl;have s1:wr.cell? ⟨w.heap.size,1,none⟩=some (pt ob):=hB.cell rfl;have s2:wr.cell? ⟨w.heap.size,2,none⟩=some (.int .i64 (lf:Int)):=hB.cell rfl;have s3:wr.cell? ⟨w.heap.size,3,none⟩=some (.map mk):=hB.cell rfl;have s4:wr.cell? ⟨w.heap.size,4,none⟩=some (.map pk):=hB.cell rfl;have hbl:=hB.lt;have HIT:=az (hit.mono hki (λv l h=>eT hki g v l h));clear hcell x0 x1 x2 x3 x4 x5 x6 hit js SJ hrb hrw hki;have XW:=(Kp.refl wr (λ_=>False)).alloc (.cells #[.int .i64 (dw l[k].kind),.int .i64 n7,.int .i64 fO,.string XP,.slice a5 gF.length p5,.slice a6 m6 p6,.slice a7 m7 p7] 241);have PZ:=bU XW (D:=λb=>E b/\¬own (.slice wE k cap2) b) (D':=λb=>E b/\¬own (.slice wE k cap2) b) (λb _ hb=>⟨hb,by simp⟩);have hU7:Up (λb=>E b/\¬own (.slice wE k cap2) b) (wr.alloc (.cells #[.int .i64 (dw l[k].kind),.int .i64 n7,.int .i64 fO,.string XP,.slice a5 gF.length p5,.slice a6 m6 p6,.slice a7 m7 p7] 241)):=λb hb=>by
    have h8:=XW.size;have h9:=hkp.size;exact⟨HU.out b (by omega),λe=>by have:=PY b e;omega⟩
   have Ub:=az (Y5 g HC.out HF.out _ _ _ (HC.out.kp SP XW) hU7 ob l[k] n7 fO XP a5 a6 a7 gF.length m6 m7 p5 p6 p7 (HIT.out.mono PZ (λv l h=>eT PZ g v l h)) (PX HL.out (List.getElem_mem hlt)));have XX:=az SP;clear PZ hU7 XW SP
   go_wp2_with fail
   refine Ub.out.mono ?_;rintro e w1 ⟨c,rfl,hk1,hR,pP⟩;obtain⟨fn,ff,fc,rfl⟩:=ED hR;have HRr:=az hR;have hsA:wr.heap.size+1<=w1.heap.size:=by have:=hk1.size;simpa using this
   have hkr:Kp wr w1 (Ft mk pk):=(((Kp.refl wr (λ_=>False)).alloc _).ft mk pk).trans hk1;have hnF:∀b,own (.slice wE k cap2) b->¬Ft mk pk b:=λb hb e=>by obtain⟨c,hc⟩:=aV aJ hb;exact HC.out.mp _ _ _ XX.out b _ c e hc
   have aZ:=hkr.row aJ hnF;have cX:=HC.out.blk XX.out hkr hB;have Lv:=hkp.trans hkr;have adY:=hkp.size;have Lt:Hid (jG (gN (BD (λb=>E b/\¬own (.slice wE k cap2) b) w1) R bk ob (cQ (BD (λb=>E b/\¬own (.slice wE k cap2) b) w1) R bk)) (l.take k) cs):=by
    have hq:=HC.out.keep XX.out hkr;exact gU (λ_ _ h=>fP hq (λ_ _ h=>h) (λ_ _ _ h=>h.mono hq (λ_ _ h=>h)) h) _ _ hA
   have KE:=az pP;clear hR Ub hA d0 d1 d2 d3 d4 d5 d6 s0 s1 s2 s3 s4 aJ hB HIT pP hnF XX
   go_wp2_with (first
    | (at_builtin;refine aP _ rfl _ _ 109 rfl 243 i0 .nilFunc 1 8 underlying109 hi hz0 hz1 hz2 rfl (by decide) _ _ _ rfl (aZ.alloc _) ⟨w1.heap.size,0,none⟩ 1 1 [.func (.func fn) ff fc] rfl rfl ?c1 ?c2 ?c3 ?c4 ?_)
    | go_in)
   case c1=>intro j u hj;match j,hj with|0,hj=>simp at hj;subst hj;simp[Addr.add]
   case c2=>intro u hu;simp at hu;subst hu;rfl
   case c3=>unfold maxLen;omega
   case c4=>omega
   intro v' w3 hown' hgrow hnx;have hnx:∀b,own v' b->own (.slice wE k cap2) b\/w1.heap.size+1<=b:=λb hb=>by
    rcases hnx b hb with h1|h1
    ·exact .inl h1
    ·right;have:(w1.alloc (.cells #[.func (.func fn) ff fc] 243)).heap.size=w1.heap.size+1:=by simp
     omega
   have hkg:Kp w1 w3 (λb=>own (.slice wE k cap2) b):=((Kp.refl w1 (λb=>own (.slice wE k cap2) b)).alloc _).grown hgrow (λb _ e=>e);have hn0:∀b,b<=w.heap.size->¬own (.slice wE k cap2) b:=λb hb e=>by have:=hnew b e;omega
   have Uc:Kp w w3 (Ft mk pk):=by
    have:=((Lv.mono (T:=λb=>Ft mk pk b\/own (.slice wE k cap2) b) (λ_ _ e=>.inl e)).trans (hkg.mono (λ_ _ e=>.inr e)));exact this.mono (λb hb e=>e.elim id (λe=>ax e (hn0 b (by omega))))
   have je:=hkg.blk cX (hn0 _ (ah _));have rJ:∀b,own v' b->w.heap.size+1<=b:=λb hb=>by
    rcases hnx b hb with h1|h1
    ·exact hnew b h1
    ·omega
   have FZ:∀b,b<w1.heap.size->(E b/\¬own (.slice wE k cap2) b)->(E b/\¬own v' b)/\¬own (.slice wE k cap2) b:=λb hb h=>⟨⟨h.1,λe=>by
    rcases hnx b e with h1|h1
    ·exact h.2 h1
    ·omega⟩,h.2⟩
   have hka:=bU (D:=λb=>E b/\¬own (.slice wE k cap2) b) (D':=λb=>E b/\¬own v' b) hkg FZ;have SQ:l.take (k+1)=l.take k++[l[k]]:=by rw[List.take_succ_eq_append_getElem hlt]
   have HN:FL R bo bk lf mk pk J E S w ob l v' (k+1) w3:=by
    refine⟨cs++[.func (.func fn) ff fc],Uc,je,by simp only[List.length_append,List.length_singleton];rw[HCL.out];exact hown',rJ,?_,?_⟩
    ·rw[SQ];exact xq _ _ _ _ (gU (λ_ _ h=>fP hka (λ_ _ h=>h) (λ_ _ _ h=>h.mono hka (λ_ _ h=>h)) h) _ _ Lt.out) ⟨_,[],rfl,fP hka (λ_ _ h=>h) (λ_ _ _ h=>h.mono hka (λ_ _ h=>h)) HRr.out,rfl⟩
    ·rw[show(λt=>S t\/Bd bo lf (l.take (k+1)) t)=(λt=>(S t\/Bd bo lf (l.take k) t)\/Bd bo lf [l[k]] t) by funext t;rw[SQ,or_assoc];exact propext (or_congr_right Bd.snoc)];exact HC.out.fr _ _ _ w1 w3 _ KE.out hkg (λb hb _=>aV aZ hb) FZ
   have G9:=az HN;clear SQ HN hka je Uc hn0 hkg hnx hgrow hown' Lt HRr aZ cX Lv hk1 hkr rJ hnew FZ KE;go_wp2
   go_roundw
   case rel=>exact⟨k+1,by omega,by go_num,G9.out⟩
   case measure=>simp[intOf];omega
  ·have hkl:k=l.length:=by omega
   subst hkl;have SQ:l.take l.length=l:=List.take_length;rw[SQ] at hA SP;have HAa:=az hA;have HJr:=az SP;clear hA SQ SP;go_wp2;go_ret;have hsub:=mC (w:=wr) (D:=λb=>E b/\¬own (.slice wE l.length cap2) b) (D':=E) (λb _ h=>h.1);have hr2:wr.ownsRow 0 243 1 (.slice wE l.length cap2) cs.length cs:=by rw[HCL.out];exact aJ
   exact⟨wE,cap2,rfl,hkp,cQ.of (lg.of hr2 (λb hb=>HU.out b (by have:=hnew b hb;omega))) (gU (λ_ _ h=>fP hsub (λ_ _ h=>h) (λ_ _ _ h=>h.mono hsub (λ_ _ h=>h)) h) _ _ HAa.out),HC.out.fr _ _ _ wr wr (λ_=>False) HJr.out (Kp.refl _ _) (λ_ e=>e.elim) (λb _ h=>⟨h.1,λe=>e⟩)⟩
theorem yt (hC:JC R kn bo bk lf mk pk J):∀g,ou R kn bo bk lf mk pk J g
 | 0=>λ_ _ _ _ _ _ _ _ h=>h.elim
 | g+1=>Ua g hC (yt hC g)
end
theorem Ud (w:World)(E:Nat->Prop)(hU:Up E w)(bk ob:Nat)(mk pk:Option Nat)(nm:ByteArray)(hs:nm.size<=1000):
  Calls prog 200 #[.agg #[pt bk,pt ob,.int .i64 ((0:Nat):Int),.map mk,.map pk],.string nm] w λe w'=>∃c,e=.returned c/\Kp w w' (λ_=>False)/\xp (BD E w') bk nm.data.toList c:=by
 have lI:=bV;go_enter func200,ntmps200;go_wp2;go_ret;refine⟨_,rfl,?_,?_⟩
 ·exact(((((Kp.refl _ _).alloc _).alloc _).alloc _).alloc _).alloc _
 ·exact⟨_,_,_,_,nm,rfl,⟨hU.at 4,aC.PT w _ _ _ _ _ _⟩,⟨hU.at 3,(aC.Lq w _ _ _ _ _).alloc _⟩,⟨hU.at 1,(((aC.new1 w _ _ _).alloc _).alloc _).alloc _⟩,⟨hU.at 2,((aC.new2 w _ _ _ _).alloc _).alloc _⟩,rfl,hs⟩
theorem JC0 (R:Nat->Fr->Prop)(kn:Tok->Prop)(bo:Tok->Option (List It))(bk:Nat):JC R kn bo bk 0 none none (λ_ _ _=>True) where
 fr:=λ_ _ _ _ _ _ _ _ _ _=>trivial
 mp:=λ_ _ _ _ k _ _ h=>by rcases h with h|h <;> cases h
 call:=λE _ w ob nm _ hU _ hs=>(Ud w E hU bk ob none none nm hs).mono (by
  rintro e w' ⟨c,h1,h2,h3⟩;exact⟨c,h1,h2.ft _ _,.inl h3,trivial⟩)
theorem Kp.Y7 {w w':World}(h:Kp w w' (Ft none none)):Kp w w' (λ_=>False):=h.mono (λ_ _ e=>by rcases e with e|e <;> cases e)
theorem kR {aA:Tok->Bool}{g g':Nat}(hg:g<=g'){j:PJ}{r:List Tok}{res:fh}(h:aK aA g j r=some res):aK aA g' j r=some res:=by
 induction hg with
 | refl=>exact h
 | step _ ih=>exact uh _ _ _ _ _ ih
def EE (aA:Tok->Bool)(j:PJ)(r:List Tok):Prop:=∃g res,aK aA g j r=some res
theorem rY (aA:Tok->Bool)(n:Nat)(hb:∀(r:List Tok),r.length<=n->∀lo ends t,EE aA ⟨false,lo,ends,t⟩ r)(r:List Tok)(hr:r.length<=n)(lo:Nat)(ends:List Tok)(t:Tok):EE aA ⟨true,lo,ends,t⟩ r:=by
 by_cases k1:t=FW
 ·obtain⟨g1,gP,h1⟩:=hb r hr lo [eY,dF] []
  cases gP with
  | error e=>
   refine⟨g1+1,.error e,?_⟩;unfold aK;rw[af (by simp)];dsimp only;rw[ag k1,h1]
  | ok q=>
   obtain⟨a,t1,r1⟩:=q;obtain⟨_,_,_,ld⟩:=eW _ _ _ _ _ _ _ h1;by_cases k2:t1=eY
   ·obtain⟨g2,gm,h2⟩:=hb r1 (by omega) lo [dF] [];have h1':=kR (g':=g1+g2) (by omega) h1;have h2':=kR (g':=g1+g2) (by omega) h2
    cases gm with
    | error e=>
     refine⟨g1+g2+1,.error e,?_⟩;unfold aK;rw[af (by simp)];dsimp only;rw[ag k1,h1'];dsimp only;rw[ag k2,h2']
    | ok q2=>
     obtain⟨b,t2,r2⟩:=q2;refine⟨g1+g2+1,.ok ([⟨63,0,[],a,b,[]⟩],[],r2),?_⟩;unfold aK;rw[af (by simp)];dsimp only;rw[ag k1,h1'];dsimp only;rw[ag k2,h2']
   ·refine⟨g1+1,.ok ([⟨63,0,[],a,[],[]⟩],[],r1),?_⟩;unfold aK;rw[af (by simp)];dsimp only;rw[ag k1,h1];dsimp only;rw[af k2]
 by_cases k3:t=jf
 ·obtain⟨g1,gP,h1⟩:=hb r hr lo [fL,di] []
  cases gP with
  | error e=>
   refine⟨g1+1,.error e,?_⟩;unfold aK;rw[af (by simp)];dsimp only;rw[af k1,ag k3,h1]
  | ok q=>
   obtain⟨a,t1,r1⟩:=q;obtain⟨_,_,_,ld⟩:=eW _ _ _ _ _ _ _ h1;by_cases k2:t1=di
   ·obtain⟨g2,gm,h2⟩:=hb r1 (by omega) lo [gj] [];have h1':=kR (g':=g1+g2) (by omega) h1;have h2':=kR (g':=g1+g2) (by omega) h2
    cases gm with
    | error e=>
     refine⟨g1+g2+1,.error e,?_⟩;unfold aK;rw[af (by simp)];dsimp only;rw[af k1,ag k3,h1'];dsimp only;rw[ag k2,h2']
    | ok q2=>
     obtain⟨b,t2,r2⟩:=q2;refine⟨g1+g2+1,.ok ([⟨119,0,[],a,b,[]⟩],[],r2),?_⟩;unfold aK;rw[af (by simp)];dsimp only;rw[af k1,ag k3,h1'];dsimp only;rw[ag k2,h2']
   ·refine⟨g1+1,.ok ([⟨117,0,[],a,[],[]⟩],[],r1),?_⟩;unfold aK;rw[af (by simp)];dsimp only;rw[af k1,ag k3,h1];dsimp only;rw[af k2]
 by_cases k4:t=Gr
 ·obtain⟨g1,gP,h1⟩:=hb r hr (lo+1) [mA] []
  cases gP with
  | error e=>
   refine⟨g1+1,.error e,?_⟩;unfold aK;rw[af (by simp)];dsimp only;rw[af k1,af k3,ag k4,h1]
  | ok q=>
   obtain⟨a,t1,r1⟩:=q;refine⟨g1+1,.ok ([⟨100,0,[],a,[],[]⟩],[],r1),?_⟩;unfold aK;rw[af (by simp)];dsimp only;rw[af k1,af k3,ag k4,h1]
 ·refine⟨1,?_⟩;unfold aK;rw[af (by simp)];dsimp only;rw[af k1,af k3,af k4]
  repeat' split
  all_goals exact⟨_,rfl⟩
theorem zP (aA:Tok->Bool):∀n,(∀(r:List Tok),r.length<=n->∀lo ends t,EE aA ⟨false,lo,ends,t⟩ r)/\(∀(r:List Tok),r.length<=n->∀lo ends t,EE aA ⟨true,lo,ends,t⟩ r):=by
 intro n
 induction n with
 | zero=>
  have hb:∀(r:List Tok),r.length<=0->∀lo ends t,EE aA ⟨false,lo,ends,t⟩ r:=by
   intro r hr lo ends t;have:r=[]:=List.eq_nil_of_length_eq_zero (by omega);subst this;refine⟨1,.error 4,?_⟩;unfold aK;rfl
  exact⟨hb,λr hr lo ends t=>rY aA 0 hb r hr lo ends t⟩
 | succ n ih=>
  have hb:∀(r:List Tok),r.length<=n+1->∀lo ends t,EE aA ⟨false,lo,ends,t⟩ r:=by
   intro r hr lo ends t
   cases r with
   | nil=>refine⟨1,.error 4,?_⟩;unfold aK;rfl
   | cons t1 r1=>
    have hr1:r1.length<=n:=by simp at hr;omega
    by_cases he:ends.any (· == t1)=true
    ·refine⟨1,.ok ([],t1,r1),?_⟩;unfold aK;rw[ag rfl];dsimp only;rw[ag he]
    ·obtain⟨g1,gP,h1⟩:=ih.2 r1 hr1 lo [] t1
     cases gP with
     | error e=>
      refine⟨g1+1,.error e,?_⟩;unfold aK;rw[ag rfl];dsimp only;rw[af he,h1]
     | ok q=>
      obtain⟨xs,t2,r2⟩:=q;obtain⟨_,_,_,hl2⟩:=eW _ _ _ _ _ _ _ h1;obtain⟨g2,gm,h2⟩:=ih.1 r2 (by omega) lo ends t;have h1':=kR (g':=g1+g2) (by omega) h1;have h2':=kR (g':=g1+g2) (by omega) h2
      cases gm with
      | error e=>
       refine⟨g1+g2+1,.error e,?_⟩;unfold aK;rw[ag rfl];dsimp only;rw[af he,h1'];dsimp only;rw[h2']
      | ok q2=>
       obtain⟨ys,t3,r3⟩:=q2;refine⟨g1+g2+1,.ok (xs++ys,t3,r3),?_⟩;unfold aK;rw[ag rfl];dsimp only;rw[af he,h1'];dsimp only;rw[h2']
  refine⟨hb,λr hr lo ends t=>?_⟩;exact rY aA (n+1) hb r hr lo ends t
theorem BM (s:St)(r:List Tok):∃g res,jY g s r=some res:=by
 cases r with
 | nil=>exact⟨0,_,rfl⟩
 | cons t r=>
  obtain⟨g,res,h⟩:=(zP s.aA r.length).1 r (ah _) 0 [eH] [];refine⟨g,?_⟩;unfold jY;dsimp only
  split
  ·exact⟨_,rfl⟩
  split
  ·exact⟨_,rfl⟩
  rw[h]
  cases res with
  | error e=>exact⟨_,rfl⟩
  | ok q=>exact⟨_,rfl⟩
def kn (aA:Tok->Bool)(t:Tok):Prop:=aA t=true
theorem Lx {aA:Tok->Bool}{lo:Nat}{t:Tok}{x:It}(h:jg aA lo t=.ok x)(sub:Bool->List It->Prop):ym (kn aA) sub (decide (0<lo)) x:=by
 unfold jg at h
 split at h
 ·rename_i n hn
  injection h with h;subst h;exact .inl ⟨.inl ⟨rfl,iJ hn⟩,rfl,rfl⟩
 split at h
 ·rename_i hp
  injection h with h;subst h;refine .inl ⟨.inr (.inr (.inr (.inr (.inl ⟨rfl,?_⟩)))),rfl,rfl⟩;rw[List.findIdx?_isSome];exact hp
 split at h
 ·rename_i hp
  injection h with h;subst h;exact .inl ⟨.inr (.inr (.inr (.inr (.inr (.inr ⟨rfl,decide_eq_true hp.2⟩))))),rfl,rfl⟩
 split at h
 ·injection h with h;subst h;exact .inl ⟨.inr (.inl rfl),rfl,rfl⟩
 split at h
 ·injection h with h;subst h;exact .inl ⟨.inr (.inr (.inl rfl)),rfl,rfl⟩
 split at h
 ·cases h
 split at h
 ·rename_i hp
  injection h with h;subst h;exact .inl ⟨.inr (.inr (.inr (.inr (.inr (.inl ⟨rfl,hp⟩))))),rfl,rfl⟩
 ·cases h
theorem oW {aA:Tok->Prop}{lo:Bool}{x:It}{g:Nat}(h:ym aA (wb aA g) lo x):wb aA (g+1) lo [x]:=by
 intro y hy;simp at hy;rw[hy];exact h
theorem rZ:∀(r:List Tok) (ts r':List Tok),bh r=.ok (ts,r')->ts.length<=r.length
 | [],_,_,h=>by cases h
 | t::r,ts,r',h=>by
  unfold bh at h
  split at h
  ·cases h
  split at h
  ·injection h with h;injection h with h1 h2;subst h1;simp
  split at h
  ·cases h
  ·rename_i ts1 r1 h1
   injection h with h;injection h with h2 h3;subst h2;have:=rZ r _ _ h1;simp;omega
theorem He (aA:Tok->Bool):∀(g:Nat) (j:PJ) (r:List Tok) (xs:List It) (t:Tok) (r':List Tok),r.length<=1000->aK aA g j r=some (.ok (xs,t,r'))->∃G,wb (kn aA) G (decide (0<j.loops)) xs:=by
 intro g
 induction g with
 | zero=>intro j r xs t r' _ h;cases h
 | succ g ih=>
  intro j r xs t r' hlen h;unfold aK at h
  cases hj:j.item with
  | false=>
   rw[ag hj] at h
   split at h
   ·cases h
   ·simp at hlen
    split at h
    ·injection h with h;injection h with h;injection h with h1 h2;subst h1;exact⟨0,rfl⟩
    ·split at h
     ·cases h
     ·cases h
     ·rename_i Ph t2 r2 h1
      obtain⟨_,_,_,ld⟩:=eW _ _ _ _ _ _ _ h1;obtain⟨G1,k1⟩:=ih _ _ _ _ _ (by omega) h1
      split at h
      ·cases h
      ·cases h
      ·rename_i ys t3 r3 h2
       obtain⟨G2,k2⟩:=ih _ _ _ _ _ (by omega) h2;injection h with h;injection h with h;injection h with e1 e2;subst e1;exact⟨_,PD k1 k2⟩
  | true=>
   rw[af (by rw[hj];decide)] at h
   split at h
   ·split at h
    ·cases h
    ·cases h
    ·rename_i a t1 r1 h1
     obtain⟨_,_,_,ld⟩:=eW _ _ _ _ _ _ _ h1;obtain⟨G1,k1⟩:=ih _ _ _ _ _ hlen h1
     split at h
     ·split at h
      ·cases h
      ·cases h
      ·rename_i b t2 r2 h2
       obtain⟨G2,k2⟩:=ih _ _ _ _ _ (by omega) h2;injection h with h;injection h with h;injection h with e1 e2;subst e1;exact⟨G1+G2+1,oW (.inr (.inl ⟨.inl rfl,xH (by omega) k1,xH (by omega) k2⟩))⟩
     ·injection h with h;injection h with h;injection h with e1 e2;subst e1;exact⟨G1+1,oW (.inr (.inl ⟨.inl rfl,k1,mG _ _ _⟩))⟩
   ·split at h
    ·split at h
     ·cases h
     ·cases h
     ·rename_i a t1 r1 h1
      obtain⟨_,_,_,ld⟩:=eW _ _ _ _ _ _ _ h1;obtain⟨G1,k1⟩:=ih _ _ _ _ _ hlen h1
      split at h
      ·split at h
       ·cases h
       ·cases h
       ·rename_i b t2 r2 h2
        obtain⟨G2,k2⟩:=ih _ _ _ _ _ (by omega) h2;injection h with h;injection h with h;injection h with e1 e2;subst e1;exact⟨G1+G2+1,oW (.inr (.inl ⟨.inr (.inr rfl),xH (by omega) k1,xH (by omega) k2⟩))⟩
      ·injection h with h;injection h with h;injection h with e1 e2;subst e1;exact⟨G1+1,oW (.inr (.inl ⟨.inr (.inl rfl),k1,mG _ _ _⟩))⟩
    ·split at h
     ·split at h
      ·cases h
      ·cases h
      ·rename_i a t1 r1 h1
       obtain⟨_,_,_,ld⟩:=eW _ _ _ _ _ _ _ h1;obtain⟨G1,k1⟩:=ih _ _ _ _ _ hlen h1;injection h with h;injection h with h;injection h with e1 e2;subst e1;have k1':wb (kn aA) G1 true a:=by simpa using k1
       exact⟨G1+1,oW (.inr (.inr ⟨rfl,k1',rfl⟩))⟩
     ·split at h
      ·split at h
       ·cases h
       ·rename_i ts r1 hbr
        have:=rZ _ _ _ hbr;injection h with h;injection h with h;injection h with e1 e2;subst e1;exact⟨1,oW (.inl ⟨.inr (.inr (.inr (.inl ⟨rfl,by show ts.length<=1000;omega⟩))),rfl,rfl⟩)⟩
      ·split at h
       ·cases h
       ·rename_i x h1
        injection h with h;injection h with h;injection h with e1 e2;subst e1;exact⟨1,oW (Lx h1 _)⟩
theorem C9 {g:Nat}{s:St}{r:List Tok}{nm:Tok}{b:List It}{r1:List Tok}(hl:r.length<=1000)(h:jY g s r=some (.ok (nm,b,r1))):∃G,wb (bq s) G false b:=by
 cases r with
 | nil=>cases h
 | cons t r=>
  unfold jY at h;dsimp only at h
  split at h
  ·cases h
  split at h
  ·cases h
  split at h
  ·cases h
  ·cases h
  ·rename_i b' t' r' hr
   injection h with h;injection h with h;injection h with e1 e2;injection e2 with e2 e3;subst e2;exact He _ _ _ _ _ _ _ (by simp at hl;omega) hr
end
end Go.Proofs.YteainaiebcphlaaGreatDoor
