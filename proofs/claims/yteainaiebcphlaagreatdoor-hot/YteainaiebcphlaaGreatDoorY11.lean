import Derived.Test.YteainaiebcphlaaGreatDoorY10
import Derived.Test.YteainaiebcphlaaGreatDoorY7
import Derived.Deep.RegionHeld3
import Derived.Carry
namespace Go.Proofs.YteainaiebcphlaaGreatDoor
set_option maxRecDepth 1000000
set_option maxHeartbeats 4000000
set_option linter.all false
section
open Go.RowKit
def inC:Nat->Tok->List It->Prop
 | 0,_,_=>False
 | _+1,_,[]=>False
 | g+1,t,x :: l=>(x.kind=99/\x.name=t)\/((x.kind=63\/x.kind=117\/x.kind=119\/x.kind=100)/\inC g t x.a)\/((x.kind=63\/x.kind=119)/\inC g t x.b)\/inC g t l
def InC (t:Tok) (l:List It):Prop:=∃ g,inC g t l
theorem InC.nil (t:Tok):¬ InC t []:=by
 rintro⟨g,h⟩
 cases g with
 | zero=>exact h
 | succ g=>exact h
theorem InC.cons {t:Tok} {x:It} {l:List It}:InC t (x :: l)<->(x.kind=99/\x.name=t)\/((x.kind=63\/x.kind=117\/x.kind=119\/x.kind=100)/\InC t x.a)\/((x.kind=63\/x.kind=119)/\InC t x.b)\/InC t l:=by
 constructor
 ·rintro⟨g,h⟩
  cases g with
  | zero=>exact h.elim
  | succ g=>
   rcases h with h|⟨k,h⟩|⟨k,h⟩|h
   ·exact .inl h
   ·exact .inr (.inl ⟨k,g,h⟩)
   ·exact .inr (.inr (.inl ⟨k,g,h⟩))
   ·exact .inr (.inr (.inr ⟨g,h⟩))
 ·rintro (h|⟨k,g,h⟩|⟨k,g,h⟩|⟨g,h⟩)
  ·exact⟨1,.inl h⟩
  ·exact⟨g+1,.inr (.inl ⟨k,h⟩)⟩
  ·exact⟨g+1,.inr (.inr (.inl ⟨k,h⟩))⟩
  ·exact⟨g+1,.inr (.inr (.inr h))⟩
def Bc (bo:Tok->Option (List It)):Nat->Tok->Tok->Prop
 | 0,_,_=>False
 | n+1,name,t=>t=name\/∃ b,bo name=some b/\∃ nm,InC nm b/\Bc bo n nm t
def Bd (bo:Tok->Option (List It)) (n:Nat) (l:List It) (t:Tok):Prop:=∃ nm,InC nm l/\Bc bo n nm t
theorem Bd.zero (bo:Tok->Option (List It)) (l:List It) (t:Tok):¬ Bd bo 0 l t:=fun ⟨_,_,h⟩=>h
theorem Bd.app {bo:Tok->Option (List It)} {n:Nat} {x:It} {l:List It} {t:Tok}:Bd bo n (x :: l) t<->Bd bo n [x] t\/Bd bo n l t:=by
 constructor
 ·rintro⟨nm,h,hb⟩;rcases InC.cons.1 h with h|h|h|h
  ·exact .inl ⟨nm,InC.cons.2 (.inl h),hb⟩
  ·exact .inl ⟨nm,InC.cons.2 (.inr (.inl h)),hb⟩
  ·exact .inl ⟨nm,InC.cons.2 (.inr (.inr (.inl h))),hb⟩
  ·exact .inr ⟨nm,h,hb⟩
 ·rintro (⟨nm,h,hb⟩|⟨nm,h,hb⟩)
  ·rcases InC.cons.1 h with h|h|h|h
   ·exact⟨nm,InC.cons.2 (.inl h),hb⟩
   ·exact⟨nm,InC.cons.2 (.inr (.inl h)),hb⟩
   ·exact⟨nm,InC.cons.2 (.inr (.inr (.inl h))),hb⟩
   ·exact absurd h (InC.nil _)
  ·exact⟨nm,InC.cons.2 (.inr (.inr (.inr h))),hb⟩
theorem Bd.snoc {bo:Tok->Option (List It)} {n:Nat} {x:It} {t:Tok}:∀ {l:List It},Bd bo n (l ++ [x]) t<->Bd bo n l t\/Bd bo n [x] t
 | []=>by
  constructor
  ·exact .inr
  ·rintro (⟨_,h,_⟩|h)
   ·exact absurd h (InC.nil _)
   ·exact h
 | y :: l=>by
  rw[List.cons_append,Bd.app,Bd.app (l:=l),Bd.snoc (l:=l)]
  constructor
  ·rintro (h|h|h)
   ·exact .inl (.inl h)
   ·exact .inl (.inr h)
   ·exact .inr h
  ·rintro ((h|h)|h)
   ·exact .inl h
   ·exact .inr (.inl h)
   ·exact .inr (.inr h)
theorem Bd.none {bo:Tok->Option (List It)} {n:Nat} {x:It} (h1:¬ x.kind=99) (h2:¬ (x.kind=63\/x.kind=117\/x.kind=119\/x.kind=100)) (t:Tok):¬ Bd bo n [x] t:=by
 rintro⟨nm,h,_⟩;rcases InC.cons.1 h with h|h|h|h
 ·exact h1 h.1
 ·exact h2 h.1
 ·exact h2 (by rcases h.1 with h|h;exact .inl h;exact .inr (.inr (.inl h)))
 ·exact InC.nil _ h
theorem Bd.call {bo:Tok->Option (List It)} {n:Nat} {x:It} (h1:x.kind=99) (t:Tok):Bd bo n [x] t<->Bc bo n x.name t:=by
 constructor
 ·rintro⟨nm,h,hb⟩;rcases InC.cons.1 h with h|h|h|h
  ·rw[h.2];exact hb
  ·exfalso;omega
  ·exfalso;omega
  ·exact absurd h (InC.nil _)
 ·intro hb;exact⟨_,InC.cons.2 (.inl ⟨h1,rfl⟩),hb⟩
theorem Bd.one {bo:Tok->Option (List It)} {n:Nat} {x:It} (h1:x.kind=117\/x.kind=100) (t:Tok):Bd bo n [x] t<->Bd bo n x.a t:=by
 constructor
 ·rintro⟨nm,h,hb⟩;rcases InC.cons.1 h with h|h|h|h
  ·exfalso;omega
  ·exact⟨nm,h.2,hb⟩
  ·exfalso;omega
  ·exact absurd h (InC.nil _)
 ·rintro⟨nm,h,hb⟩;exact⟨nm,InC.cons.2 (.inr (.inl ⟨by omega,h⟩)),hb⟩
theorem Bd.two {bo:Tok->Option (List It)} {n:Nat} {x:It} (h1:x.kind=63\/x.kind=119) (t:Tok):Bd bo n [x] t<->Bd bo n x.a t\/Bd bo n x.b t:=by
 constructor
 ·rintro⟨nm,h,hb⟩;rcases InC.cons.1 h with h|h|h|h
  ·exfalso;omega
  ·exact .inl ⟨nm,h.2,hb⟩
  ·exact .inr ⟨nm,h.2,hb⟩
  ·exact absurd h (InC.nil _)
 ·rintro (⟨nm,h,hb⟩|⟨nm,h,hb⟩)
  ·exact⟨nm,InC.cons.2 (.inr (.inl ⟨by omega,h⟩)),hb⟩
  ·exact⟨nm,InC.cons.2 (.inr (.inr (.inl ⟨h1,h⟩))),hb⟩
def Ft (mk pk:Option Nat) (k:Nat):Prop:=mk=some k\/pk=some k
theorem callR_form {M:Mem} {R:Nat->Fr->Prop} {bk:Nat} {P:Nat->Value->List It->Prop} {name:Tok} {c:Value} (h:callR M R bk P name c):∃ n f cp,c=.func (.func n) f cp:=by
 rcases h with⟨ab,db,bb,nb,nm,rfl,_⟩|⟨pb,cb,bb,ab,o2,f,va,cv,rfl,_⟩
 ·exact⟨_,_,_,rfl⟩
 ·exact⟨_,_,_,rfl⟩
structure JC (R:Nat->Fr->Prop) (kn:Tok->Prop) (bo:Tok->Option (List It)) (bk lf:Nat) (mk pk:Option Nat) (J:(Nat->Prop)->(Tok->Prop)->World->Prop):Prop where
 fr:∀ E E' S w w' T,J E S w->Kp w w' T->(∀ k,T k->k < w.heap.size->∃ c,Blk w k 243 c)->(∀ k,k < w.heap.size->E k->E' k/\¬ T k)->J E' S w'
 mp:∀ E S w,J E S w->∀ k t c,Ft mk pk k->¬ Blk w k t c
 call:∀ E S w ob (nm:ByteArray),J E S w->Up E w->kn nm.data.toList->nm.size<=1000->Calls Tryz.prog 200 #[.agg #[pt bk,pt ob,.int .i64 (lf:Int),.map mk,.map pk],.string nm] w fun e w'=>∃ c,e=.returned c/\Kp w w' (Ft mk pk)/\callR (BD E w') R bk (Acts (BD E w') R bk) nm.data.toList c/\J E (fun t=>S t\/Bc bo lf nm.data.toList t) w'
section
variable {R:Nat->Fr->Prop} {kn:Tok->Prop} {bo:Tok->Option (List It)} {bk lf:Nat} {mk pk:Option Nat} {J:(Nat->Prop)->(Tok->Prop)->World->Prop}
theorem JC.kp (hC:JC R kn bo bk lf mk pk J) {E:Nat->Prop} {S:Tok->Prop} {w w':World} (h:J E S w) (hk:Kp w w' (fun _=>False)):J E S w':=hC.fr E E S w w' _ h hk (fun _ e=>e.elim) (fun _ _ e=>⟨e,fun e=>e⟩)
theorem JC.keep (hC:JC R kn bo bk lf mk pk J) {E:Nat->Prop} {S:Tok->Prop} {w w':World} (h:J E S w) (hk:Kp w w' (Ft mk pk)):∀ b t c,BD E w b t c->BD E w' b t c:=
 fun b t c hb=>⟨hb.1,hk.blk hb.2 (fun e=>hC.mp E S w h b t c e hb.2)⟩
theorem JC.blk (hC:JC R kn bo bk lf mk pk J) {E:Nat->Prop} {S:Tok->Prop} {w w':World} (h:J E S w) (hk:Kp w w' (Ft mk pk)) {b:Nat} {t:TypeId} {c:Array Value} (hb:Blk w b t c):Blk w' b t c:=hk.blk hb (fun e=>hC.mp E S w h b t c e hb)
theorem Kp.ft {w w':World} (h:Kp w w' (fun _=>False)) (mk pk:Option Nat):Kp w w' (Ft mk pk):=h.mono (fun _ _ e=>e.elim)
end
def FActs (R:Nat->Fr->Prop) (kn:Tok->Prop) (bo:Tok->Option (List It)) (bk lf:Nat) (mk pk:Option Nat) (J:(Nat->Prop)->(Tok->Prop)->World->Prop) (g:Nat):Prop:=∀ (E:Nat->Prop) (S:Tok->Prop) (w:World) (ob:Nat) (v:Value) (l:List It),J E S w->Up E w->itemsIn (BD E w) g v l->(∃ G lo,wb kn G lo l) ->
 Calls Tryz.prog 156 #[.agg #[pt bk,pt ob,.int .i64 (lf:Int),.map mk,.map pk],v] w fun e w'=>∃ ao cap,e=.returned (.slice ao l.length cap)/\Kp w w' (Ft mk pk)/\Acts (BD E w') R bk ob (.slice ao l.length cap) l/\J E (fun t=>S t\/Bd bo lf l t) w'
theorem mk_choose (w:World) (b1 b2:Option Addr) (n1 n2 c1 c2:Nat):Calls Tryz.prog 201 #[.slice b1 n1 c1,.slice b2 n2 c2] w fun e w'=>e=.returned (.func (.func 222) #[] #[pt w.heap.size,pt (w.heap.size+1)])/\w'=(w.alloc (.cells #[.slice b1 n1 c1] 109)).alloc (.cells #[.slice b2 n2 c2] 109):=by
 have hmf:=mkFunc;go_enter Tryz.func201,Tryz.ntmps201;go_wp2;go_ret;exact⟨rfl,rfl⟩
theorem mk_while (w:World) (b1 b2:Option Addr) (n1 n2 c1 c2:Nat):Calls Tryz.prog 203 #[.slice b1 n1 c1,.slice b2 n2 c2] w fun e w'=>e=.returned (.func (.func 225) #[] #[pt w.heap.size,pt (w.heap.size+1)])/\w'=(w.alloc (.cells #[.slice b1 n1 c1] 109)).alloc (.cells #[.slice b2 n2 c2] 109):=by
 have hmf:=mkFunc;go_enter Tryz.func203,Tryz.ntmps203;go_wp2;go_ret;exact⟨rfl,rfl⟩
section
variable {R:Nat->Fr->Prop} {kn:Tok->Prop} {bo:Tok->Option (List It)} {bk lf:Nat} {mk pk:Option Nat} {J:(Nat->Prop)->(Tok->Prop)->World->Prop}
theorem FActs.at {g:Nat} (hC:JC R kn bo bk lf mk pk J) (hF:FActs R kn bo bk lf mk pk J g) {E:Nat->Prop} {S:Tok->Prop} {w W:World} {v:Value} {l:List It} (ob:Nat) (hJ:J E S w) (hU:Up E w) (h:itemsIn (BD E w) g v l) (hl:∃ G lo,wb kn G lo l) (hk:Kp w W (fun _=>False)):∀ w0,Kp W w0 (fun _=>False) ->
  Calls Tryz.prog 156 #[.agg #[pt bk,pt ob,.int .i64 (lf:Int),.map mk,.map pk],v] w0 fun e w'=>∃ ao cap,e=.returned (.slice ao l.length cap)/\Kp W w' (Ft mk pk)/\Acts (BD E w') R bk ob (.slice ao l.length cap) l/\J E (fun t=>S t\/Bd bo lf l t) w':=by
 intro w0 h0;have hkk:=hk.trans h0;refine (hF E S w0 ob v l (hC.kp hJ hkk) (hU.kp hkk) (itemsIn_mono (BD_keep hkk (fun b _ hb=>⟨hb,by simp⟩)) g v l h) hl).mono ?_;rintro e w' ⟨ao,cap,rfl,h1,h2,h3⟩;exact⟨ao,cap,rfl,(h0.ft mk pk).trans h1,h2,h3⟩
theorem fa_call (hC:JC R kn bo bk lf mk pk J) (E:Nat->Prop) (S:Tok->Prop) (w:World) (hJ:J E S w) (hU:Up E w) (ob:Nat) (x:It) (hx:x.kind=99) (hkn:kn x.name) (n pl:Int) (nm:ByteArray) (hnm:nm.data.toList=x.name) (hs:nm.size<=1000) (a1 a2 a3:Option Addr) (m1 m2 m3 p1 p2 p3:Nat):
  Calls Tryz.prog 183 #[.agg #[pt bk,pt ob,.int .i64 (lf:Int),.map mk,.map pk],it7 2 n pl nm (.slice a1 m1 p1) (.slice a2 m2 p2) (.slice a3 m3 p3)] w fun e w'=>∃ c,e=.returned c/\Kp w w' (Ft mk pk)/\actR (BD E w') R bk ob (Acts (BD E w') R bk) x c/\J E (fun t=>S t\/Bd bo lf [x] t) w':=by
 have hk0:=((Kp.refl w (fun _=>False)).alloc (.cells #[pt bk,pt ob,.int .i64 (lf:Int),.map mk,.map pk] 206)).alloc (.cells #[.int .i64 2,.int .i64 n,.int .i64 pl,.string nm,.slice a1 m1 p1,.slice a2 m2 p2,.slice a3 m3 p3] 241);have HC:=hide (hC.call E S _ ob nm (hC.kp hJ hk0) (hU.kp hk0) (by rw[hnm];exact hkn) hs);have HK:=hide (hk0.ft mk pk);have hS:(fun t=>S t\/Bc bo lf nm.data.toList t)=(fun t=>S t\/Bd bo lf [x] t):=by funext t;rw[hnm];exact propext (or_congr_right (Bd.call hx t).symm)
 have HS:=hide hS;clear hk0 hJ hC hS hkn;go_enter Tryz.func183,Tryz.ntmps183
 go_wp2_with fail
 refine HC.out.mono ?_;rintro e w1 ⟨c,rfl,hk1,hA,hJ1⟩;obtain⟨fn,ff,fc,rfl⟩:=callR_form hA;have H1:=hide (HK.out.trans hk1);have HA:=hide hA;have HJ:=hide hJ1;clear hA hk1 hJ1 HC HK;go_wp2;go_ret;refine⟨_,rfl,H1.out,.inr (.inr (.inl ⟨hx,?_⟩)),?_⟩
 ·rw[<-hnm];exact HA.out
 ·rw[<-HS.out];exact HJ.out
theorem fa_until (g:Nat) (hC:JC R kn bo bk lf mk pk J) (hF:FActs R kn bo bk lf mk pk J g) (E:Nat->Prop) (S:Tok->Prop) (w:World) (hJ:J E S w) (hU:Up E w) (ob:Nat) (x:It) (hx:x.kind=117) (n pl:Int) (nm:ByteArray) (a1 a2 a3:Option Addr) (m1 m2 m3 p1 p2 p3:Nat) (ha:itemsIn (BD E w) g (.slice a2 m2 p2) x.a) (hl:∃ G lo,wb kn G lo x.a):
  Calls Tryz.prog 183 #[.agg #[pt bk,pt ob,.int .i64 (lf:Int),.map mk,.map pk],it7 4 n pl nm (.slice a1 m1 p1) (.slice a2 m2 p2) (.slice a3 m3 p3)] w fun e w'=>∃ c,e=.returned c/\Kp w w' (Ft mk pk)/\actR (BD E w') R bk ob (Acts (BD E w') R bk) x c/\J E (fun t=>S t\/Bd bo lf [x] t) w':=by
 have hmf:=mkFunc;have hk0:=((Kp.refl w (fun _=>False)).alloc (.cells #[pt bk,pt ob,.int .i64 (lf:Int),.map mk,.map pk] 206)).alloc (.cells #[.int .i64 4,.int .i64 n,.int .i64 pl,.string nm,.slice a1 m1 p1,.slice a2 m2 p2,.slice a3 m3 p3] 241);have HC:=hide (hF.at hC ob hJ hU ha hl hk0 _ (Kp.refl _ _));have HK:=hide (hk0.ft mk pk);have HU:=hide hU;have HCC:=hide hC;have hS:(fun t=>S t\/Bd bo lf x.a t)=(fun t=>S t\/Bd bo lf [x] t):=by funext t;exact propext (or_congr_right (Bd.one (by omega) t).symm)
 have HS:=hide hS;clear hF ha hk0 hJ hC hS hU;go_enter Tryz.func183,Tryz.ntmps183
 go_wp2_with fail
 refine HC.out.mono ?_;rintro e w1 ⟨ao,cap,rfl,hk1,hA,hJ1⟩;have hkp:=HK.out.trans hk1;have hsz:=hkp.size;have HA:=hide hA;have HJ:=hide hJ1;have HKP:=hide hkp;clear hA hk1 HC hJ1 hkp;go_wp2;go_ret;refine⟨_,rfl,HKP.out.alloc _,?_,?_⟩
 ·exact .inr (.inr (.inr (.inr (.inl ⟨hx,_,_,rfl,⟨HU.out _ hsz,Blk.new w1 _ _⟩,HA.out.mono (fun b t c h=>⟨h.1,h.2.alloc _⟩) (fun _ _ h=>h)⟩))))
 ·rw[<-HS.out];exact HCC.out.kp HJ.out ((Kp.refl _ _).alloc _)
theorem fa_do (g:Nat) (hC:JC R kn bo bk lf mk pk J) (hF:FActs R kn bo bk lf mk pk J g) (E:Nat->Prop) (S:Tok->Prop) (w:World) (hJ:J E S w) (hU:Up E w) (ob:Nat) (x:It) (hx:x.kind=100) (n pl:Int) (nm:ByteArray) (a1 a2 a3:Option Addr) (m1 m2 m3 p1 p2 p3:Nat) (ha:itemsIn (BD E w) g (.slice a2 m2 p2) x.a) (hl:∃ G lo,wb kn G lo x.a):
  Calls Tryz.prog 183 #[.agg #[pt bk,pt ob,.int .i64 (lf:Int),.map mk,.map pk],it7 6 n pl nm (.slice a1 m1 p1) (.slice a2 m2 p2) (.slice a3 m3 p3)] w fun e w'=>∃ c,e=.returned c/\Kp w w' (Ft mk pk)/\actR (BD E w') R bk ob (Acts (BD E w') R bk) x c/\J E (fun t=>S t\/Bd bo lf [x] t) w':=by
 have hmf:=mkFunc;have hk0:=((Kp.refl w (fun _=>False)).alloc (.cells #[pt bk,pt ob,.int .i64 (lf:Int),.map mk,.map pk] 206)).alloc (.cells #[.int .i64 6,.int .i64 n,.int .i64 pl,.string nm,.slice a1 m1 p1,.slice a2 m2 p2,.slice a3 m3 p3] 241);have HC:=hide (hF.at hC ob hJ hU ha hl hk0 _ (Kp.refl _ _));have HK:=hide (hk0.ft mk pk);have HU:=hide hU;have HCC:=hide hC;have hS:(fun t=>S t\/Bd bo lf x.a t)=(fun t=>S t\/Bd bo lf [x] t):=by funext t;exact propext (or_congr_right (Bd.one (by omega) t).symm)
 have HS:=hide hS;clear hF ha hk0 hJ hC hS hU;go_enter Tryz.func183,Tryz.ntmps183
 go_wp2_with fail
 refine HC.out.mono ?_;rintro e w1 ⟨ao,cap,rfl,hk1,hA,hJ1⟩;have hkp:=HK.out.trans hk1;have hsz:=hkp.size;have HA:=hide hA;have HJ:=hide hJ1;have HKP:=hide hkp;clear hA hk1 HC hJ1 hkp;go_wp2;go_ret;refine⟨_,rfl,HKP.out.alloc _,?_,?_⟩
 ·exact .inr (.inr (.inr (.inr (.inr (.inr (.inl ⟨hx,_,_,rfl,⟨HU.out _ hsz,Blk.new w1 _ _⟩,HA.out.mono (fun b t c h=>⟨h.1,h.2.alloc _⟩) (fun _ _ h=>h)⟩))))))
 ·rw[<-HS.out];exact HCC.out.kp HJ.out ((Kp.refl _ _).alloc _)
theorem fa_if (g:Nat) (hC:JC R kn bo bk lf mk pk J) (hF:FActs R kn bo bk lf mk pk J g) (E:Nat->Prop) (S:Tok->Prop) (w:World) (hJ:J E S w) (hU:Up E w) (ob:Nat) (x:It) (hx:x.kind=63) (n pl:Int) (nm:ByteArray) (a1 a2 a3:Option Addr) (m1 m2 m3 p1 p2 p3:Nat) (ha:itemsIn (BD E w) g (.slice a2 m2 p2) x.a) (hla:∃ G lo,wb kn G lo x.a) (hb:itemsIn (BD E w) g (.slice a3 m3 p3) x.b) (hlb:∃ G lo,wb kn G lo x.b):
  Calls Tryz.prog 183 #[.agg #[pt bk,pt ob,.int .i64 (lf:Int),.map mk,.map pk],it7 3 n pl nm (.slice a1 m1 p1) (.slice a2 m2 p2) (.slice a3 m3 p3)] w fun e w'=>∃ c,e=.returned c/\Kp w w' (Ft mk pk)/\actR (BD E w') R bk ob (Acts (BD E w') R bk) x c/\J E (fun t=>S t\/Bd bo lf [x] t) w':=by
 have hmf:=mkFunc;obtain⟨W0,hW0⟩:∃ W0,W0=(w.alloc (.cells #[pt bk,pt ob,.int .i64 (lf:Int),.map mk,.map pk] 206)).alloc (.cells #[.int .i64 3,.int .i64 n,.int .i64 pl,.string nm,.slice a1 m1 p1,.slice a2 m2 p2,.slice a3 m3 p3] 241):=⟨_,rfl⟩;have hW:Kp w W0 (fun _=>False):=by rw[hW0];exact ((Kp.refl w (fun _=>False)).alloc _).alloc _
 have hb0:Blk W0 w.heap.size 206 #[pt bk,pt ob,.int .i64 (lf:Int),.map mk,.map pk]:=by rw[hW0];exact (Blk.new w _ _).alloc _
 have hb1:Blk W0 (w.heap.size+1) 241 #[.int .i64 3,.int .i64 n,.int .i64 pl,.string nm,.slice a1 m1 p1,.slice a2 m2 p2,.slice a3 m3 p3]:=by rw[hW0];exact Blk.new1 w _ _ _
 have hJ0:=hC.kp hJ hW;have HC1:=hide (hF.at hC ob hJ hU ha hla hW);have HC2:Hid (∀ w1,Kp W0 w1 (Ft mk pk)->J E (fun t=>S t\/Bd bo lf x.a t) w1->∀ w0,Kp w1 w0 (fun _=>False)->Calls Tryz.prog 156 #[.agg #[pt bk,pt ob,.int .i64 (lf:Int),.map mk,.map pk],.slice a3 m3 p3] w0 fun e w'=>∃ ao cap,e=.returned (.slice ao x.b.length cap)/\Kp w1 w' (Ft mk pk)/\Acts (BD E w') R bk ob (.slice ao x.b.length cap) x.b/\J E (fun t=>(S t\/Bd bo lf x.a t)\/Bd bo lf x.b t) w'):=fun w1 hk1 hJ1=>by
  have hkw:=(hW.ft mk pk).trans hk1;exact hF.at hC ob hJ1 (hU.kp hkw) (itemsIn_mono (hC.keep hJ hkw) _ _ _ hb) hlb (Kp.refl _ _)
 have HK:=hide (hW.ft mk pk);have HBK:Hid (∀ w1,Kp W0 w1 (Ft mk pk)->Blk w1 w.heap.size 206 #[pt bk,pt ob,.int .i64 (lf:Int),.map mk,.map pk]/\Blk w1 (w.heap.size+1) 241 #[.int .i64 3,.int .i64 n,.int .i64 pl,.string nm,.slice a1 m1 p1,.slice a2 m2 p2,.slice a3 m3 p3]):=fun w1 hk1=>⟨hC.blk hJ0 hk1 hb0,hC.blk hJ0 hk1 hb1⟩;have HU:=hide hU;have HCC:=hide hC;have hS:(fun t=>(S t\/Bd bo lf x.a t)\/Bd bo lf x.b t)=(fun t=>S t\/Bd bo lf [x] t):=by funext t;rw[or_assoc];exact propext (or_congr_right (Bd.two (by omega) t).symm)
 have HS:=hide hS;clear hF ha hb hW hb0 hb1 hJ hJ0 hC hS hU;go_enter Tryz.func183,Tryz.ntmps183;go_wp2
 go_region_held3 (fun w'=>w'.cell? ⟨w.heap.size,0,none⟩=some (pt bk)/\w'.cell? ⟨w.heap.size,1,none⟩=some (pt ob)/\w'.cell? ⟨w.heap.size,2,none⟩=some (.int .i64 (lf:Int))/\w'.cell? ⟨w.heap.size,3,none⟩=some (.map mk)/\w'.cell? ⟨w.heap.size,4,none⟩=some (.map pk)/\w'.cell? ⟨w.heap.size+1,5,none⟩=some (.slice a2 m2 p2)/\w'.cell? ⟨w.heap.size+1,6,none⟩=some (.slice a3 m3 p3)) (go_keep) (first
  | (go_at_call_of 156 (Value.slice a2 m2 p2);refine (HC1.out _ ?_).mono ?_;(rw[hW0];exact (Kp.refl _ _).drew);rintro e w1 ⟨ao1,cap1,rfl,hk1,hA1,hJ1⟩;have HA1:=hide hA1;have HK1:=hide hk1;have HJ1:=hide hJ1;obtain⟨hb0,hb1⟩:=HBK.out w1 hk1;have u0:w1.cell? ⟨w.heap.size,0,none⟩=some (pt bk):=hb0.cell rfl;have u1:w1.cell? ⟨w.heap.size,1,none⟩=some (pt ob):=hb0.cell rfl;have u2:w1.cell? ⟨w.heap.size,2,none⟩=some (.int .i64 (lf:Int)):=hb0.cell rfl;have u3:w1.cell? ⟨w.heap.size,3,none⟩=some (.map mk):=hb0.cell rfl;have u4:w1.cell? ⟨w.heap.size,4,none⟩=some (.map pk):=hb0.cell rfl;have u5:w1.cell? ⟨w.heap.size+1,5,none⟩=some (.slice a2 m2 p2):=hb1.cell rfl;have u6:w1.cell? ⟨w.heap.size+1,6,none⟩=some (.slice a3 m3 p3):=hb1.cell rfl;clear hA1 hk1 hb0 hb1 hJ1)
  | (go_at_call_of 156 (Value.slice a3 m3 p3);refine (HC2.out w1 HK1.out HJ1.out _ ?_).mono ?_;exact (Kp.refl _ _);rintro e w2 ⟨ao2,cap2,rfl,hk2,hA2,hJ2⟩;have HA2:=hide hA2;have HK2:=hide hk2;have HJ2:=hide hJ2;obtain⟨hb0,hb1⟩:=HBK.out w2 (HK1.out.trans hk2);have u0:w2.cell? ⟨w.heap.size,0,none⟩=some (pt bk):=hb0.cell rfl;have u1:w2.cell? ⟨w.heap.size,1,none⟩=some (pt ob):=hb0.cell rfl;have u2:w2.cell? ⟨w.heap.size,2,none⟩=some (.int .i64 (lf:Int)):=hb0.cell rfl;have u3:w2.cell? ⟨w.heap.size,3,none⟩=some (.map mk):=hb0.cell rfl;have u4:w2.cell? ⟨w.heap.size,4,none⟩=some (.map pk):=hb0.cell rfl;have u5:w2.cell? ⟨w.heap.size+1,5,none⟩=some (.slice a2 m2 p2):=hb1.cell rfl;have u6:w2.cell? ⟨w.heap.size+1,6,none⟩=some (.slice a3 m3 p3):=hb1.cell rfl;have hlt3:=hb1.lt;clear hA2 hk2 hb0 hb1 hJ2)
  | (go_at_call 201;refine (mk_choose _ _ _ _ _ _ _).mono ?_;rintro e w3 ⟨rfl,rfl⟩))
 go_wp2;go_ret;have hkp:=HK.out.trans (HK1.out.trans HK2.out);have hsz:=hkp.size;have hka:=HCC.out.keep HJ1.out HK2.out;refine⟨_,rfl,(hkp.alloc _).alloc _,?_,?_⟩
 ·exact .inr (.inr (.inr (.inl ⟨hx,_,_,_,_,rfl,⟨HU.out _ hsz,(Blk.new w2 _ _).alloc _⟩,⟨HU.out _ (Nat.le_succ_of_le hsz),Blk.new1 w2 _ _ _⟩,(HA1.out.mono hka (fun _ _ h=>h)).mono (fun b t c h=>⟨h.1,(h.2.alloc _).alloc _⟩) (fun _ _ h=>h),HA2.out.mono (fun b t c h=>⟨h.1,(h.2.alloc _).alloc _⟩) (fun _ _ h=>h)⟩)))
 ·rw[<-HS.out];exact HCC.out.kp HJ2.out (((Kp.refl _ _).alloc _).alloc _)
theorem fa_while (g:Nat) (hC:JC R kn bo bk lf mk pk J) (hF:FActs R kn bo bk lf mk pk J g) (E:Nat->Prop) (S:Tok->Prop) (w:World) (hJ:J E S w) (hU:Up E w) (ob:Nat) (x:It) (hx:x.kind=119) (n pl:Int) (nm:ByteArray) (a1 a2 a3:Option Addr) (m1 m2 m3 p1 p2 p3:Nat) (ha:itemsIn (BD E w) g (.slice a2 m2 p2) x.a) (hla:∃ G lo,wb kn G lo x.a) (hb:itemsIn (BD E w) g (.slice a3 m3 p3) x.b) (hlb:∃ G lo,wb kn G lo x.b):
  Calls Tryz.prog 183 #[.agg #[pt bk,pt ob,.int .i64 (lf:Int),.map mk,.map pk],it7 5 n pl nm (.slice a1 m1 p1) (.slice a2 m2 p2) (.slice a3 m3 p3)] w fun e w'=>∃ c,e=.returned c/\Kp w w' (Ft mk pk)/\actR (BD E w') R bk ob (Acts (BD E w') R bk) x c/\J E (fun t=>S t\/Bd bo lf [x] t) w':=by
 have hmf:=mkFunc;obtain⟨W0,hW0⟩:∃ W0,W0=(w.alloc (.cells #[pt bk,pt ob,.int .i64 (lf:Int),.map mk,.map pk] 206)).alloc (.cells #[.int .i64 5,.int .i64 n,.int .i64 pl,.string nm,.slice a1 m1 p1,.slice a2 m2 p2,.slice a3 m3 p3] 241):=⟨_,rfl⟩;have hW:Kp w W0 (fun _=>False):=by rw[hW0];exact ((Kp.refl w (fun _=>False)).alloc _).alloc _
 have hb0:Blk W0 w.heap.size 206 #[pt bk,pt ob,.int .i64 (lf:Int),.map mk,.map pk]:=by rw[hW0];exact (Blk.new w _ _).alloc _
 have hb1:Blk W0 (w.heap.size+1) 241 #[.int .i64 5,.int .i64 n,.int .i64 pl,.string nm,.slice a1 m1 p1,.slice a2 m2 p2,.slice a3 m3 p3]:=by rw[hW0];exact Blk.new1 w _ _ _
 have hJ0:=hC.kp hJ hW;have HC1:=hide (hF.at hC ob hJ hU ha hla hW);have HC2:Hid (∀ w1,Kp W0 w1 (Ft mk pk)->J E (fun t=>S t\/Bd bo lf x.a t) w1->∀ w0,Kp w1 w0 (fun _=>False)->Calls Tryz.prog 156 #[.agg #[pt bk,pt ob,.int .i64 (lf:Int),.map mk,.map pk],.slice a3 m3 p3] w0 fun e w'=>∃ ao cap,e=.returned (.slice ao x.b.length cap)/\Kp w1 w' (Ft mk pk)/\Acts (BD E w') R bk ob (.slice ao x.b.length cap) x.b/\J E (fun t=>(S t\/Bd bo lf x.a t)\/Bd bo lf x.b t) w'):=fun w1 hk1 hJ1=>by
  have hkw:=(hW.ft mk pk).trans hk1;exact hF.at hC ob hJ1 (hU.kp hkw) (itemsIn_mono (hC.keep hJ hkw) _ _ _ hb) hlb (Kp.refl _ _)
 have HK:=hide (hW.ft mk pk);have HBK:Hid (∀ w1,Kp W0 w1 (Ft mk pk)->Blk w1 w.heap.size 206 #[pt bk,pt ob,.int .i64 (lf:Int),.map mk,.map pk]/\Blk w1 (w.heap.size+1) 241 #[.int .i64 5,.int .i64 n,.int .i64 pl,.string nm,.slice a1 m1 p1,.slice a2 m2 p2,.slice a3 m3 p3]):=fun w1 hk1=>⟨hC.blk hJ0 hk1 hb0,hC.blk hJ0 hk1 hb1⟩;have HU:=hide hU;have HCC:=hide hC;have hS:(fun t=>(S t\/Bd bo lf x.a t)\/Bd bo lf x.b t)=(fun t=>S t\/Bd bo lf [x] t):=by funext t;rw[or_assoc];exact propext (or_congr_right (Bd.two (by omega) t).symm)
 have HS:=hide hS;clear hF ha hb hW hb0 hb1 hJ hJ0 hC hS hU;go_enter Tryz.func183,Tryz.ntmps183;go_wp2
 go_region_held3 (fun w'=>w'.cell? ⟨w.heap.size,0,none⟩=some (pt bk)/\w'.cell? ⟨w.heap.size,1,none⟩=some (pt ob)/\w'.cell? ⟨w.heap.size,2,none⟩=some (.int .i64 (lf:Int))/\w'.cell? ⟨w.heap.size,3,none⟩=some (.map mk)/\w'.cell? ⟨w.heap.size,4,none⟩=some (.map pk)/\w'.cell? ⟨w.heap.size+1,5,none⟩=some (.slice a2 m2 p2)/\w'.cell? ⟨w.heap.size+1,6,none⟩=some (.slice a3 m3 p3)) (go_keep) (first
  | (go_at_call_of 156 (Value.slice a2 m2 p2);refine (HC1.out _ ?_).mono ?_;(rw[hW0];exact (Kp.refl _ _).drew);rintro e w1 ⟨ao1,cap1,rfl,hk1,hA1,hJ1⟩;have HA1:=hide hA1;have HK1:=hide hk1;have HJ1:=hide hJ1;obtain⟨hb0,hb1⟩:=HBK.out w1 hk1;have u0:w1.cell? ⟨w.heap.size,0,none⟩=some (pt bk):=hb0.cell rfl;have u1:w1.cell? ⟨w.heap.size,1,none⟩=some (pt ob):=hb0.cell rfl;have u2:w1.cell? ⟨w.heap.size,2,none⟩=some (.int .i64 (lf:Int)):=hb0.cell rfl;have u3:w1.cell? ⟨w.heap.size,3,none⟩=some (.map mk):=hb0.cell rfl;have u4:w1.cell? ⟨w.heap.size,4,none⟩=some (.map pk):=hb0.cell rfl;have u5:w1.cell? ⟨w.heap.size+1,5,none⟩=some (.slice a2 m2 p2):=hb1.cell rfl;have u6:w1.cell? ⟨w.heap.size+1,6,none⟩=some (.slice a3 m3 p3):=hb1.cell rfl;clear hA1 hk1 hb0 hb1 hJ1)
  | (go_at_call_of 156 (Value.slice a3 m3 p3);refine (HC2.out w1 HK1.out HJ1.out _ ?_).mono ?_;exact (Kp.refl _ _);rintro e w2 ⟨ao2,cap2,rfl,hk2,hA2,hJ2⟩;have HA2:=hide hA2;have HK2:=hide hk2;have HJ2:=hide hJ2;obtain⟨hb0,hb1⟩:=HBK.out w2 (HK1.out.trans hk2);have u0:w2.cell? ⟨w.heap.size,0,none⟩=some (pt bk):=hb0.cell rfl;have u1:w2.cell? ⟨w.heap.size,1,none⟩=some (pt ob):=hb0.cell rfl;have u2:w2.cell? ⟨w.heap.size,2,none⟩=some (.int .i64 (lf:Int)):=hb0.cell rfl;have u3:w2.cell? ⟨w.heap.size,3,none⟩=some (.map mk):=hb0.cell rfl;have u4:w2.cell? ⟨w.heap.size,4,none⟩=some (.map pk):=hb0.cell rfl;have u5:w2.cell? ⟨w.heap.size+1,5,none⟩=some (.slice a2 m2 p2):=hb1.cell rfl;have u6:w2.cell? ⟨w.heap.size+1,6,none⟩=some (.slice a3 m3 p3):=hb1.cell rfl;have hlt3:=hb1.lt;clear hA2 hk2 hb0 hb1 hJ2)
  | (go_at_call 203;refine (mk_while _ _ _ _ _ _ _).mono ?_;rintro e w3 ⟨rfl,rfl⟩))
 go_wp2;go_ret;have hkp:=HK.out.trans (HK1.out.trans HK2.out);have hsz:=hkp.size;have hka:=HCC.out.keep HJ1.out HK2.out;refine⟨_,rfl,(hkp.alloc _).alloc _,?_,?_⟩
 ·exact .inr (.inr (.inr (.inr (.inr (.inl ⟨hx,_,_,_,_,rfl,⟨HU.out _ hsz,(Blk.new w2 _ _).alloc _⟩,⟨HU.out _ (Nat.le_succ_of_le hsz),Blk.new1 w2 _ _ _⟩,(HA1.out.mono hka (fun _ _ h=>h)).mono (fun b t c h=>⟨h.1,(h.2.alloc _).alloc _⟩) (fun _ _ h=>h),HA2.out.mono (fun b t c h=>⟨h.1,(h.2.alloc _).alloc _⟩) (fun _ _ h=>h)⟩)))))
 ·rw[<-HS.out];exact HCC.out.kp HJ2.out (((Kp.refl _ _).alloc _).alloc _)
end
end
section
open Go.RowKit
theorem seven (a0 a1 a2 a3 a4 a5 a6:Value) (rest:List Value) (i j:Nat):(a0 :: a1 :: a2 :: a3 :: a4 :: a5 :: a6 :: rest)[(i+1) * 7+j]? = rest[i * 7+j]?:=by
 rw[show (i+1) * 7+j=i * 7+j+1+1+1+1+1+1+1 by omega];rfl
theorem itemsL_at {M:Mem} {P:Value->List It->Prop}:∀ (l:List It) (xs:List Value),itemsL M P l xs->∀ i (h:i < l.length),∃ n pl nm tv va vb,PItm M P l[i] n pl nm tv va vb /\
  xs[i * 7]? = some (.int .i64 (kindP l[i].kind))/\xs[i * 7+1]? = some (.int .i64 n)/\xs[i * 7+2]? = some (.int .i64 pl)/\xs[i * 7+3]? = some (.string nm)/\xs[i * 7+4]? = some tv/\xs[i * 7+5]? = some va/\xs[i * 7+6]? = some vb
 | [],_,_,i,h=>absurd h (by simp)
 | x :: l,xs,⟨n,pl,nm,tv,va,vb,rest,h1,h2,h3⟩,0,h=>by
  subst h1;exact⟨n,pl,nm,tv,va,vb,h2,by simp,by simp,by simp,by simp,by simp,by simp,by simp⟩
 | x :: l,xs,⟨n,pl,nm,tv,va,vb,rest,h1,h2,h3⟩,i+1,h=>by
  subst h1;obtain⟨n',pl',nm',tv',va',vb',k0,k1⟩:=itemsL_at l rest h3 i (by simpa using h);refine⟨n',pl',nm',tv',va',vb',k0,?_⟩;have e0:=seven (.int .i64 (kindP x.kind)) (.int .i64 n) (.int .i64 pl) (.string nm) tv va vb rest i 0;simp only[Nat.add_zero] at e0;rw[e0,seven,seven,seven,seven,seven,seven];exact k1
theorem actR_form {M:Mem} {R:Nat->Fr->Prop} {bk ob:Nat} {P:Nat->Value->List It->Prop} {x:It} {c:Value} (h:actR M R bk ob P x c):∃ n f cp,c=.func (.func n) f cp:=by
 unfold actR at h;rcases h with⟨_,_,ab,nb,rfl,_⟩|⟨_,ab,act,j,rfl,_⟩|⟨_,h⟩|⟨_,b1,b2,va,vb,rfl,_⟩|⟨_,b1,va,rfl,_⟩|⟨_,b1,b2,va,vb,rfl,_⟩|⟨_,b1,va,rfl,_⟩|⟨_,rfl⟩|⟨_,ab,db,bb,wb,rfl,_⟩|⟨_,rfl⟩|⟨_,ab,db,sb,tb,tv,ws,rfl,_⟩
 ·exact⟨_,_,_,rfl⟩
 ·exact⟨_,_,_,rfl⟩
 ·exact callR_form h
 all_goals exact⟨_,_,_,rfl⟩
def okI (kn:Tok->Prop) (x:It):Prop:=(x.kind=99->kn x.name)/\((x.kind=63\/x.kind=117\/x.kind=119\/x.kind=100)->∃ G lo,wb kn G lo x.a)/\((x.kind=63\/x.kind=119)->∃ G lo,wb kn G lo x.b)
theorem okI_of {kn:Tok->Prop} {l:List It} (h:∃ G lo,wb kn G lo l) {x:It} (hx:x∈l):okI kn x:=by
 obtain⟨G,lo,h⟩:=h
 cases G with
 | zero=>have h:l=[]:=h;subst h;cases hx
 | succ G=>
  rcases h x hx with⟨q,_⟩|⟨q,q1,q2⟩|⟨q,q1,_⟩
  ·refine⟨fun k=>?_,fun k=>?_,fun k=>?_⟩
   ·rcases q with q|q|q|q|q|q|q
    all_goals first
     | exact q.2
     | (exfalso;omega)
   ·exfalso;omega
   ·exfalso;omega
  ·exact⟨fun k=>by exfalso;omega,fun _=>⟨G,lo,q1⟩,fun _=>⟨G,lo,q2⟩⟩
  ·exact⟨fun k=>by exfalso;omega,fun _=>⟨G,true,q1⟩,fun k=>by exfalso;omega⟩
section
variable {R:Nat->Fr->Prop} {kn:Tok->Prop} {bo:Tok->Option (List It)} {bk lf:Nat} {mk pk:Option Nat} {J:(Nat->Prop)->(Tok->Prop)->World->Prop}
theorem actF (g:Nat) (hC:JC R kn bo bk lf mk pk J) (hF:FActs R kn bo bk lf mk pk J g) (E:Nat->Prop) (S:Tok->Prop) (w:World) (hJ:J E S w) (hU:Up E w) (ob:Nat) (x:It) (n pl:Int) (nm:ByteArray) (a1 a2 a3:Option Addr) (m1 m2 m3 p1 p2 p3:Nat) (h:PItm (BD E w) (itemsIn (BD E w) g) x n pl nm (.slice a1 m1 p1) (.slice a2 m2 p2) (.slice a3 m3 p3)) (ho:okI kn x):
  Calls Tryz.prog 183 #[.agg #[pt bk,pt ob,.int .i64 (lf:Int),.map mk,.map pk],it7 (kindP x.kind) n pl nm (.slice a1 m1 p1) (.slice a2 m2 p2) (.slice a3 m3 p3)] w fun e w'=>∃ c,e=.returned c/\Kp w w' (Ft mk pk)/\actR (BD E w') R bk ob (Acts (BD E w') R bk) x c/\J E (fun t=>S t\/Bd bo lf [x] t) w':=by
 have lift:¬ x.kind=99->¬ (x.kind=63\/x.kind=117\/x.kind=119\/x.kind=100)->∀ (e:Ending) (w':World),(∃ c,e=.returned c/\Kp w w' (fun _=>False)/\actR (BD E w') R bk ob (fun _ _ _=>False) x c)->∃ c,e=.returned c/\Kp w w' (Ft mk pk)/\actR (BD E w') R bk ob (Acts (BD E w') R bk) x c/\J E (fun t=>S t\/Bd bo lf [x] t) w':=by
  rintro k1 k2 e w' ⟨c,h1,h2,h3⟩;refine⟨c,h1,h2.ft mk pk,actR_mono (fun _ _ _ h=>h) (fun _ _ h=>h) (fun _ _ _ h=>h.elim) h3,?_⟩;rw[show (fun t=>S t\/Bd bo lf [x] t)=S by funext t;exact propext ⟨fun q=>q.elim id (fun q=>absurd q (Bd.none k1 k2 t)),.inl⟩];exact hC.kp hJ h2
 rcases h.kd with hk|hk|hk|hk|hk|hk|hk|hk|hk|hk|hk
 ·obtain⟨rfl,hn⟩:=h.num hk;have lift:=lift (by omega) (by omega);rw[hk];exact (fa_num w hU bk ob x hk hn pl nm a1 a2 a3 m1 m2 m3 p1 p2 p3 _).mono lift
 ·obtain⟨j,hj,hp⟩:=h.pln hk;have lift:=lift (by omega) (by omega);rw[hk];exact (fa_plain w hU bk ob x hk j hj n pl hp nm a1 a2 a3 m1 m2 m3 p1 p2 p3 _).mono lift
 ·obtain⟨hn,hs⟩:=h.name hk;rw[hk];exact fa_call hC E S w hJ hU ob x hk (ho.1 hk) n pl nm hn hs a1 a2 a3 m1 m2 m3 p1 p2 p3
 ·rw[hk];exact fa_if g hC hF E S w hJ hU ob x hk n pl nm a1 a2 a3 m1 m2 m3 p1 p2 p3 h.a (ho.2.1 (by omega)) h.b (ho.2.2 (by omega))
 ·rw[hk];exact fa_until g hC hF E S w hJ hU ob x hk n pl nm a1 a2 a3 m1 m2 m3 p1 p2 p3 h.a (ho.2.1 (by omega))
 ·rw[hk];exact fa_while g hC hF E S w hJ hU ob x hk n pl nm a1 a2 a3 m1 m2 m3 p1 p2 p3 h.a (ho.2.1 (by omega)) h.b (ho.2.2 (by omega))
 ·rw[hk];exact fa_do g hC hF E S w hJ hU ob x hk n pl nm a1 a2 a3 m1 m2 m3 p1 p2 p3 h.a (ho.2.1 (by omega))
 ·have lift:=lift (by omega) (by omega);rw[hk];exact (fa_i w hU bk ob x hk n pl nm a1 a2 a3 m1 m2 m3 p1 p2 p3 _).mono lift
 ·have lift:=lift (by omega) (by omega);rw[hk];exact (fa_rec w hU bk ob x hk n pl nm a1 a2 a3 m1 m2 m3 p1 p2 p3 _).mono lift
 ·have lift:=lift (by omega) (by omega);rw[hk];exact (fa_exit w hU bk ob x hk n pl nm a1 a2 a3 m1 m2 m3 p1 p2 p3 _).mono lift
 ·obtain⟨ws,h1,h2⟩:=h.toks;obtain⟨h3,h4,h5⟩:=h2 hk;have lift:=lift (by omega) (by omega);rw[hk];exact (fa_braces w hU bk ob x hk n pl nm a1 a2 a3 m1 m2 m3 p1 p2 p3 ws h1 h3 h4 h5 (fun _ _ _=>False)).mono lift
def FL (R:Nat->Fr->Prop) (bo:Tok->Option (List It)) (bk lf:Nat) (mk pk:Option Nat) (J:(Nat->Prop)->(Tok->Prop)->World->Prop) (E:Nat->Prop) (S:Tok->Prop) (w:World) (ob:Nat) (l:List It) (v:Value) (k:Nat) (wr:World):Prop:=
 ∃ cs,Kp w wr (Ft mk pk)/\Blk wr w.heap.size 206 #[pt bk,pt ob,.int .i64 (lf:Int),.map mk,.map pk]/\wr.ownsRow 0 243 1 v cs.length cs/\(∀ b,own v b->w.heap.size+1<=b) /\
  actsL (actR (BD (fun b=>E b/\¬ own v b) wr) R bk ob (Acts (BD (fun b=>E b/\¬ own v b) wr) R bk)) (l.take k) cs/\J (fun b=>E b/\¬ own v b) (fun t=>S t\/Bd bo lf (l.take k) t) wr
theorem Tryz.infoAct:(Tryz.prog.info? 243).map (fun i=>(i.zero,i.size,i.bytes))=some (some .nilFunc,1,8):=by kernel_rfl
theorem actsF (g:Nat) (hC:JC R kn bo bk lf mk pk J) (hF:FActs R kn bo bk lf mk pk J g):FActs R kn bo bk lf mk pk J (g+1):=by
 intro E S w ob v l hJ hU hI hl;obtain⟨xs,hrow,hits,hll⟩:=hI;obtain⟨ao,cap,rfl⟩:=hrow.form;obtain⟨i0,hi,hz0,hz1,hz2⟩:=info_parts Tryz.infoAct;have hmf:=mkFunc;have H0:FL R bo bk lf mk pk J E S w ob l (.slice none 0 0) 0 (w.alloc (.cells #[pt bk,pt ob,.int .i64 (lf:Int),.map mk,.map pk] 206)):=by
  refine⟨[],((Kp.refl _ _).alloc _).ft mk pk,Blk.new w _ _,World.ownsRow_nil _ _ _ _,fun b hb=>by simp[own,Value.ownBlock] at hb,rfl,?_⟩;rw[show (fun t=>S t\/Bd bo lf (l.take 0) t)=S by funext t;exact propext ⟨fun q=>q.elim id (fun ⟨_,q,_⟩=>absurd q (InC.nil _)),.inl⟩];exact hC.fr E _ S w _ _ hJ ((Kp.refl w (fun _=>False)).alloc _) (fun _ e=>e.elim) (fun b _ hb=>⟨⟨hb,by simp[own,Value.ownBlock]⟩,by simp⟩)
 have HF:=hide hF;have HI:=hide hits;have HR:=hide hrow;have HC:=hide hC;have HJ:=hide hJ;have HU:=hide hU;have HL:=hide hl;have HH:=hide H0;clear hF hits hrow hC hJ hU hl H0;go_enter Tryz.func156,Tryz.ntmps156;go_wp2
 go_loopw [5,10] (fun v i wr=>∃ k:Nat,k<=l.length/\i=.int .i64 k/\FL R bo bk lf mk pk J E S w ob l v k wr) (fun _ i _=>l.length - (intOf i).toNat)
 case atStart=>exact⟨0,Nat.zero_le _,rfl,HH.out⟩
 case round=>
  obtain⟨k,hk,rfl,cs,hkp,hB,hrow,hnew,hA,hJr⟩:=hrel;have hcl:cs.length=k:=by rw[actsL_len _ _ hA];simp;omega
  obtain⟨ao2,cap2,hv2⟩:=row_slice hrow;rw[hcl] at hv2 hrow;subst hv2;have HCL:=hide hcl;clear hcl;have hownlt:∀ b,own (.slice ao2 k cap2) b->b < wr.heap.size:=fun b hb=>own_lt hrow hb;by_cases hlt:k < l.length
  ·have hki:∀ b t c,BD E w b t c->BD (fun b=>E b/\¬ own (.slice ao2 k cap2) b) wr b t c:=fun b t c hb=>⟨⟨hb.1,fun e=>by have:=hnew b e;have:=hb.2.lt;omega⟩,HC.out.blk HJ.out hkp hb.2⟩;have hrw:wr.ownsRow 0 241 7 (.slice ao l.length cap) l.length xs:=(rowZ_mono (fun b c h=>hki b _ c h) HR.out).row;obtain⟨gd,cap',hv,hcell⟩:=row_cell hrw (by omega);injection hv with hv h2 h3;subst hv;subst h3;clear h2;obtain⟨n7,pl7,nm7,tv,va,vb,hit,x0,x1,x2,x3,x4,x5,x6⟩:=itemsL_at _ _ HI.out k hlt;have d0:=hcell _ _ x0;have d1:=hcell _ _ x1;have d2:=hcell _ _ x2;have d3:=hcell _ _ x3;have d4:=hcell _ _ x4;have d5:=hcell _ _ x5;have d6:=hcell _ _ x6;obtain⟨ws5,hr5,-⟩:=hit.toks;have hra:=hit.a;have hrb:=hit.b;obtain⟨a5,p5,hv5⟩:=hr5.form;rw[List.length_map] at hv5;subst hv5;have hfa:∃ a m p,va=.slice a m p:=by
    cases g with
    | zero=>exact hra.elim
    | succ g=>obtain⟨_,hq,_⟩:=hra;obtain⟨a,p,hv⟩:=hq.form;exact⟨a,_,p,hv⟩
   have hfb:∃ a m p,vb=.slice a m p:=by
    cases g with
    | zero=>exact hrb.elim
    | succ g=>obtain⟨_,hq,_⟩:=hrb;obtain⟨a,p,hv⟩:=hq.form;exact⟨a,_,p,hv⟩
   obtain⟨a6,m6,p6,rfl⟩:=hfa;obtain⟨a7,m7,p7,rfl⟩:=hfb;have s0:wr.cell? ⟨w.heap.size,0,none⟩=some (pt bk):=hB.cell rfl;have s1:wr.cell? ⟨w.heap.size,1,none⟩=some (pt ob):=hB.cell rfl;have s2:wr.cell? ⟨w.heap.size,2,none⟩=some (.int .i64 (lf:Int)):=hB.cell rfl;have s3:wr.cell? ⟨w.heap.size,3,none⟩=some (.map mk):=hB.cell rfl;have s4:wr.cell? ⟨w.heap.size,4,none⟩=some (.map pk):=hB.cell rfl;have hbl:=hB.lt;have HIT:=hide (hit.mono hki (fun v l h=>itemsIn_mono hki g v l h));clear hcell x0 x1 x2 x3 x4 x5 x6 hit hr5 hra hrb hrw hki;have hk7:=(Kp.refl wr (fun _=>False)).alloc (.cells #[.int .i64 (kindP l[k].kind),.int .i64 n7,.int .i64 pl7,.string nm7,.slice a5 ws5.length p5,.slice a6 m6 p6,.slice a7 m7 p7] 241);have hka7:=BD_keep hk7 (D:=fun b=>E b/\¬ own (.slice ao2 k cap2) b) (D':=fun b=>E b/\¬ own (.slice ao2 k cap2) b) (fun b _ hb=>⟨hb,by simp⟩);have hU7:Up (fun b=>E b/\¬ own (.slice ao2 k cap2) b) (wr.alloc (.cells #[.int .i64 (kindP l[k].kind),.int .i64 n7,.int .i64 pl7,.string nm7,.slice a5 ws5.length p5,.slice a6 m6 p6,.slice a7 m7 p7] 241)):=fun b hb=>by
    have h8:=hk7.size;have h9:=hkp.size;exact⟨HU.out b (by omega),fun e=>by have:=hownlt b e;omega⟩
   have HA7:=hide (actF g HC.out HF.out _ _ _ (HC.out.kp hJr hk7) hU7 ob l[k] n7 pl7 nm7 a5 a6 a7 ws5.length m6 m7 p5 p6 p7 (HIT.out.mono hka7 (fun v l h=>itemsIn_mono hka7 g v l h)) (okI_of HL.out (List.getElem_mem hlt)));have HJR:=hide hJr;clear hka7 hU7 hk7 hJr
   go_wp2_with fail
   refine HA7.out.mono ?_;rintro e w1 ⟨c,rfl,hk1,hR,hJ1⟩;obtain⟨fn,ff,fc,rfl⟩:=actR_form hR;have HRr:=hide hR;have hsA:wr.heap.size+1<=w1.heap.size:=by have:=hk1.size;simpa using this
   have hkr:Kp wr w1 (Ft mk pk):=(((Kp.refl wr (fun _=>False)).alloc _).ft mk pk).trans hk1;have hnF:∀ b,own (.slice ao2 k cap2) b->¬ Ft mk pk b:=fun b hb e=>by obtain⟨c,hc⟩:=row_blk hrow hb;exact HC.out.mp _ _ _ HJR.out b _ c e hc
   have hrow1:=hkr.row hrow hnF;have hB1:=HC.out.blk HJR.out hkr hB;have hkw1:=hkp.trans hkr;have hszw:=hkp.size;have HA1:Hid (actsL (actR (BD (fun b=>E b/\¬ own (.slice ao2 k cap2) b) w1) R bk ob (Acts (BD (fun b=>E b/\¬ own (.slice ao2 k cap2) b) w1) R bk)) (l.take k) cs):=by
    have hq:=HC.out.keep HJR.out hkr;exact actsL_imp (fun _ _ h=>actR_mono hq (fun _ _ h=>h) (fun _ _ _ h=>h.mono hq (fun _ _ h=>h)) h) _ _ hA
   have HJ1:=hide hJ1;clear hR HA7 hA d0 d1 d2 d3 d4 d5 d6 s0 s1 s2 s3 s4 hrow hB HIT hJ1 hnF HJR
   go_wp2_with (first
    | (at_builtin;refine wpList_append_to _ rfl _ _ 109 rfl 243 i0 .nilFunc 1 8 Tryz.underlying109 hi hz0 hz1 hz2 rfl (by decide) _ _ _ rfl (hrow1.alloc _) ⟨w1.heap.size,0,none⟩ 1 1 [.func (.func fn) ff fc] rfl rfl ?c1 ?c2 ?c3 ?c4 ?_)
    | go_in)
   case c1=>intro j u hj;match j,hj with|0,hj=>simp at hj;subst hj;simp[Addr.add]
   case c2=>intro u hu;simp at hu;subst hu;rfl
   case c3=>unfold maxLen;omega
   case c4=>omega
   intro v' w3 hown' hgrow hnx;have hnx:∀ b,own v' b->own (.slice ao2 k cap2) b\/w1.heap.size+1<=b:=fun b hb=>by
    rcases hnx b hb with h1|h1
    ·exact .inl h1
    ·right;have:(w1.alloc (.cells #[.func (.func fn) ff fc] 243)).heap.size=w1.heap.size+1:=by simp
     omega
   have hkg:Kp w1 w3 (fun b=>own (.slice ao2 k cap2) b):=((Kp.refl w1 (fun b=>own (.slice ao2 k cap2) b)).alloc _).grown hgrow (fun b _ e=>e);have hn0:∀ b,b<=w.heap.size->¬ own (.slice ao2 k cap2) b:=fun b hb e=>by have:=hnew b e;omega
   have hkw3:Kp w w3 (Ft mk pk):=by
    have:=((hkw1.mono (T:=fun b=>Ft mk pk b\/own (.slice ao2 k cap2) b) (fun _ _ e=>.inl e)).trans (hkg.mono (fun _ _ e=>.inr e)));exact this.mono (fun b hb e=>e.elim id (fun e=>absurd e (hn0 b (by omega))))
   have hB3:=hkg.blk hB1 (hn0 _ (Nat.le_refl _));have hnew':∀ b,own v' b->w.heap.size+1<=b:=fun b hb=>by
    rcases hnx b hb with h1|h1
    ·exact hnew b h1
    ·omega
   have hEE:∀ b,b < w1.heap.size->(E b/\¬ own (.slice ao2 k cap2) b)->(E b/\¬ own v' b)/\¬ own (.slice ao2 k cap2) b:=fun b hb h=>⟨⟨h.1,fun e=>by
    rcases hnx b e with h1|h1
    ·exact h.2 h1
    ·omega⟩,h.2⟩
   have hka:=BD_keep (D:=fun b=>E b/\¬ own (.slice ao2 k cap2) b) (D':=fun b=>E b/\¬ own v' b) hkg hEE;have hTK:l.take (k+1)=l.take k ++ [l[k]]:=by rw[List.take_succ_eq_append_getElem hlt]
   have HN:FL R bo bk lf mk pk J E S w ob l v' (k+1) w3:=by
    refine⟨cs ++ [.func (.func fn) ff fc],hkw3,hB3,by simp only[List.length_append,List.length_singleton];rw[HCL.out];exact hown',hnew',?_,?_⟩
    ·rw[hTK];exact actsL_app _ _ _ _ (actsL_imp (fun _ _ h=>actR_mono hka (fun _ _ h=>h) (fun _ _ _ h=>h.mono hka (fun _ _ h=>h)) h) _ _ HA1.out) ⟨_,[],rfl,actR_mono hka (fun _ _ h=>h) (fun _ _ _ h=>h.mono hka (fun _ _ h=>h)) HRr.out,rfl⟩
    ·rw[show (fun t=>S t\/Bd bo lf (l.take (k+1)) t)=(fun t=>(S t\/Bd bo lf (l.take k) t)\/Bd bo lf [l[k]] t) by funext t;rw[hTK,or_assoc];exact propext (or_congr_right Bd.snoc)];exact HC.out.fr _ _ _ w1 w3 _ HJ1.out hkg (fun b hb _=>row_blk hrow1 hb) hEE
   have HNN:=hide HN;clear hTK HN hka hB3 hkw3 hn0 hkg hnx hgrow hown' HA1 HRr hrow1 hB1 hkw1 hk1 hkr hnew' hnew hEE HJ1;go_wp2
   go_roundw
   case rel=>exact⟨k+1,by omega,by go_num,HNN.out⟩
   case measure=>simp[intOf];omega
  ·have hkl:k=l.length:=by omega
   subst hkl;have hTK:l.take l.length=l:=List.take_length;rw[hTK] at hA hJr;have HAa:=hide hA;have HJr:=hide hJr;clear hA hTK hJr;go_wp2;go_ret;have hsub:=BD_sub (w:=wr) (D:=fun b=>E b/\¬ own (.slice ao2 l.length cap2) b) (D':=E) (fun b _ h=>h.1);have hr2:wr.ownsRow 0 243 1 (.slice ao2 l.length cap2) cs.length cs:=by rw[HCL.out];exact hrow
   exact⟨ao2,cap2,rfl,hkp,Acts.of (rowM.of hr2 (fun b hb=>HU.out b (by have:=hnew b hb;omega))) (actsL_imp (fun _ _ h=>actR_mono hsub (fun _ _ h=>h) (fun _ _ _ h=>h.mono hsub (fun _ _ h=>h)) h) _ _ HAa.out),HC.out.fr _ _ _ wr wr (fun _=>False) HJr.out (Kp.refl _ _) (fun _ e=>e.elim) (fun b _ h=>⟨h.1,fun e=>e⟩)⟩
theorem actsAll (hC:JC R kn bo bk lf mk pk J):∀ g,FActs R kn bo bk lf mk pk J g
 | 0=>fun _ _ _ _ _ _ _ _ h=>h.elim
 | g+1=>actsF g hC (actsAll hC g)
end
end
section
open Go.RowKit
theorem callZ (w:World) (E:Nat->Prop) (hU:Up E w) (bk ob:Nat) (mk pk:Option Nat) (nm:ByteArray) (hs:nm.size<=1000):
  Calls Tryz.prog 200 #[.agg #[pt bk,pt ob,.int .i64 ((0:Nat):Int),.map mk,.map pk],.string nm] w fun e w'=>∃ c,e=.returned c/\Kp w w' (fun _=>False)/\callS (BD E w') bk nm.data.toList c:=by
 have hmf:=mkFunc;go_enter Tryz.func200,Tryz.ntmps200;go_wp2;go_ret;refine⟨_,rfl,?_,?_⟩
 ·exact (((((Kp.refl _ _).alloc _).alloc _).alloc _).alloc _).alloc _
 ·exact⟨_,_,_,_,nm,rfl,⟨hU.at 4,Blk.new4 w _ _ _ _ _ _⟩,⟨hU.at 3,(Blk.new3 w _ _ _ _ _).alloc _⟩,⟨hU.at 1,(((Blk.new1 w _ _ _).alloc _).alloc _).alloc _⟩,⟨hU.at 2,((Blk.new2 w _ _ _ _).alloc _).alloc _⟩,rfl,hs⟩
theorem JC0 (R:Nat->Fr->Prop) (kn:Tok->Prop) (bo:Tok->Option (List It)) (bk:Nat):JC R kn bo bk 0 none none (fun _ _ _=>True) where
 fr:=fun _ _ _ _ _ _ _ _ _ _=>trivial
 mp:=fun _ _ _ _ k _ _ h=>by rcases h with h|h <;> cases h
 call:=fun E _ w ob nm _ hU _ hs=>(callZ w E hU bk ob none none nm hs).mono (by
  rintro e w' ⟨c,h1,h2,h3⟩;exact⟨c,h1,h2.ft _ _,.inl h3,trivial⟩)
theorem Kp.noFt {w w':World} (h:Kp w w' (Ft none none)):Kp w w' (fun _=>False):=h.mono (fun _ _ e=>by rcases e with e|e <;> cases e)
end
end Go.Proofs.YteainaiebcphlaaGreatDoor
