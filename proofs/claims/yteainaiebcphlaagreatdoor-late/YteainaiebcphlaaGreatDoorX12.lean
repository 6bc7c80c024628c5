import Derived.Test.YteainaiebcphlaaGreatDoorX11
import Derived.Laws.EntriesVeiled
import Derived.Test.YteainaiebcphlaaGreatDoorX7
import Derived.Test.YteainaiebcphlaaGreatDoorX8
import Derived.Deep.RegionHeld3
namespace Go.Proofs.YteainaiebcphlaaGreatDoor
set_option maxRecDepth 1000000
set_option maxHeartbeats 4000000
set_option linter.all false
section
open Go.RowKit
def QRd (w:World) (x:Ending) (w':World):PRes->Prop
 | .ok (l,_,r)=>∃ v a n p ws',x=.returned (.tuple #[v,.slice a n p,.int .i64 0])/\Items (BD (New w) w') v l/\TokAt (BD (fun b=>b < w.heap.size) w') (.slice a n p) ws'/\texts ws'=r/\(∀ t∈ws',okW t)/\ws'.length<=1000
 | .error e=>e ≠ 0/\x=.returned (.tuple #[.slice none 0 0,.slice none 0 0,.int .i64 e])
theorem readM (g:Nat) (w:World) (bk mb:Nat) (known:Tok->Bool) (v:Value) (ws:List ByteArray) (hb:BookK w bk mb known) (ht:TokAt (Blk w) v ws) (hl:ws.length<=1000) (ho:∀ t∈ws,okW t) (hs:SpAt w) (res:PRes) (hres:pRead known g ⟨false,0,[kSemi],[]⟩ (texts ws)=some res):
  Calls Tryz.prog 115 #[v,.func (.func 74) #[pt bk] #[]] w fun x w'=>Kp w w' (fun _=>False)/\QRd w x w' res:=by
 obtain⟨ao,cap,rfl⟩:=ht.form;have hka:=(Kp.refl w (fun _=>False)).alloc (.cells (rdArr (.slice ao ws.length cap) bk 0) 201);have hB0:=Blk.new w (rdArr (.slice ao ws.length cap) bk 0) 201;have h1w:=hs.lt;have hS0:RdInv (w.alloc (.cells (rdArr (.slice ao ws.length cap) bk 0) 201)) w.heap.size bk mb known ws 0:=
  ⟨⟨_,hB0,TokAt_mono (fun b c hc=>⟨hc.lt,hc.alloc _⟩) ht⟩,hb.kp hka (by simp) (by simp),hl,ho,hs.kp hka (by simp),by omega⟩
 have HU:=hide (upToQ g (readQ g).2 _ w.heap.size bk mb known ws 0 kSemi 19 (by decide) (by decide) res hres hS0);clear hS0 hb ht hres;go_enter Tryz.func115,Tryz.ntmps115
 go_wp2_with fail
 refine HU.out.mono ?_;rintro x w1 ⟨hk1,hq⟩;have hkp:Kp w w1 (fun _=>False):=Kp.newer hka hk1 (Nat.le_refl _);rcases res with er|⟨l,t,r⟩
 ·obtain⟨her,a,m,p,rv,rfl,hB1⟩:=hq;have he0:(er != 0)=true:=by simpa using her
  go_wp2;refine bodyPost_ret (results_tmp3 rfl _ _ _) rfl ?_;exact⟨hkp,her,rfl⟩
 ·obtain⟨v1,ws1,rfl,hI,htx,hS1⟩:=hq;obtain⟨xs9,hrow9,-⟩:=hI.out;obtain⟨a9,p9,rfl⟩:=hrow9.form;clear hrow9;obtain⟨rv,hB1,hT1⟩:=hS1.blk;obtain⟨ao1,cap1,rfl⟩:=hT1.form;have c0:w1.cell? ⟨w.heap.size,0,none⟩=some (.slice ao1 ws1.length cap1):=hB1.cell rfl;have HI:Hid (Items (BD (New w) w1) (.slice a9 l.length p9) l):=hI.mono (BD_sub (fun b _ hb=>by
   have:(w.alloc (.cells (rdArr (.slice ao ws.length cap) bk 0) 201)).heap.size<=b:=hb;rw[World.size_alloc] at this;show w.heap.size<=b;omega))
  have hl1:=hS1.len;have HO:=hide hS1.ok;have HT:=hide hT1;clear hI hT1 hB1 hS1 HU hk1;go_wp2
  go_quiet (fail)
  go_wp2;refine bodyPost_ret (results_tmp3 rfl _ _ _) rfl ?_;exact⟨hkp.drewN nq,_,ao1,_,cap1,ws1,rfl,HI.out.mono (fun b t c h=>h),TokAt_mono (fun b c h=>h) HT.out,htx,HO.out,by omega⟩
end
section
open Go.RowKit
theorem Blk.new3 (w:World) (o o1 o2:Obj) (c:Array Value) (t:TypeId):Blk ((((w.alloc o).alloc o1).alloc o2).alloc (.cells c t)) (w.heap.size+1+1+1) t c:=by
 have:=Blk.new (((w.alloc o).alloc o1).alloc o2) c t;rw[World.size_alloc,World.size_alloc,World.size_alloc] at this;exact this
theorem Blk.new4 (w:World) (o o1 o2 o3:Obj) (c:Array Value) (t:TypeId):Blk (((((w.alloc o).alloc o1).alloc o2).alloc o3).alloc (.cells c t)) (w.heap.size+1+1+1+1) t c:=by
 have:=Blk.new ((((w.alloc o).alloc o1).alloc o2).alloc o3) c t;rw[World.size_alloc,World.size_alloc,World.size_alloc,World.size_alloc] at this;exact this
theorem Blk.new5 (w:World) (o o1 o2 o3 o4:Obj) (c:Array Value) (t:TypeId):Blk ((((((w.alloc o).alloc o1).alloc o2).alloc o3).alloc o4).alloc (.cells c t)) (w.heap.size+1+1+1+1+1) t c:=by
 have:=Blk.new (((((w.alloc o).alloc o1).alloc o2).alloc o3).alloc o4) c t;rw[World.size_alloc,World.size_alloc,World.size_alloc,World.size_alloc,World.size_alloc] at this;exact this
theorem plainR_form {M:Mem} {j:Nat} {act:Value} (h:plainR M j act):∃ n f c,act=.func (.func n) f c:=by
 unfold plainR at h
 split at h
 all_goals first
  | (obtain⟨b,rfl,_⟩:=h;exact⟨_,_,_,rfl⟩)
  | (obtain⟨cb,b,pv,rfl,_⟩:=h;exact⟨_,_,_,rfl⟩)
  | (have h:act=_:=h;subst h;exact⟨_,_,_,rfl⟩)
  | exact h.elim
theorem nw (w:World) (k:Nat):New w (w.heap.size+k):=Nat.le_add_right _ _
def Up (E:Nat->Prop) (w:World):Prop:=∀ b,w.heap.size<=b->E b
theorem Up.kp {E:Nat->Prop} {w w':World} {S:Nat->Prop} (h:Up E w) (hk:Kp w w' S):Up E w':=fun b hb=>h b (Nat.le_trans hk.size hb)
theorem Up.at {E:Nat->Prop} {w:World} (h:Up E w) (k:Nat):E (w.heap.size+k):=h _ (Nat.le_add_right _ _)
section
variable {R:Nat->Fr->Prop} {E:Nat->Prop} {lf:Int} {mk pk:Option Nat}
theorem fa_num (w:World) (hU:Up E w) (bk ob:Nat) (x:It) (hx:x.kind=110) (hn:In x.n) (pl:Int) (nm:ByteArray) (a1 a2 a3:Option Addr) (m1 m2 m3 p1 p2 p3:Nat) (P:Nat->Value->List It->Prop):
  Calls Tryz.prog 183 #[.agg #[pt bk,pt ob,.int .i64 lf,.map mk,.map pk],it7 0 x.n pl nm (.slice a1 m1 p1) (.slice a2 m2 p2) (.slice a3 m3 p3)] w fun e w'=>∃ c,e=.returned c/\Kp w w' (fun _=>False)/\actR (BD E w') R bk ob P x c:=by
 have hmf:=mkFunc;go_enter Tryz.func183,Tryz.ntmps183;go_wp2;go_ret;refine⟨_,rfl,?_,?_⟩
 ·exact ((((Kp.refl _ _).alloc _).alloc _).alloc _).alloc _
 ·exact .inl ⟨hx,hn,_,_,rfl,⟨hU.at 3,Blk.new3 w _ _ _ _ _⟩,⟨hU.at 2,(Blk.new2 w _ _ _ _).alloc _⟩⟩
theorem fa_i (w:World) (hU:Up E w) (bk ob:Nat) (x:It) (hx:x.kind=105) (n pl:Int) (nm:ByteArray) (a1 a2 a3:Option Addr) (m1 m2 m3 p1 p2 p3:Nat) (P:Nat->Value->List It->Prop):
  Calls Tryz.prog 183 #[.agg #[pt bk,pt ob,.int .i64 lf,.map mk,.map pk],it7 7 n pl nm (.slice a1 m1 p1) (.slice a2 m2 p2) (.slice a3 m3 p3)] w fun e w'=>∃ c,e=.returned c/\Kp w w' (fun _=>False)/\actR (BD E w') R bk ob P x c:=by
 have hmf:=mkFunc;go_enter Tryz.func183,Tryz.ntmps183;go_wp2;go_ret;refine⟨_,rfl,?_,?_⟩
 ·exact ((Kp.refl _ _).alloc _).alloc _
 ·exact .inr (.inr (.inr (.inr (.inr (.inr (.inr (.inl ⟨hx,rfl⟩)))))))
theorem fa_exit (w:World) (hU:Up E w) (bk ob:Nat) (x:It) (hx:x.kind=120) (n pl:Int) (nm:ByteArray) (a1 a2 a3:Option Addr) (m1 m2 m3 p1 p2 p3:Nat) (P:Nat->Value->List It->Prop):
  Calls Tryz.prog 183 #[.agg #[pt bk,pt ob,.int .i64 lf,.map mk,.map pk],it7 9 n pl nm (.slice a1 m1 p1) (.slice a2 m2 p2) (.slice a3 m3 p3)] w fun e w'=>∃ c,e=.returned c/\Kp w w' (fun _=>False)/\actR (BD E w') R bk ob P x c:=by
 have hmf:=mkFunc;go_enter Tryz.func183,Tryz.ntmps183;go_wp2;go_ret;refine⟨_,rfl,?_,?_⟩
 ·exact ((Kp.refl _ _).alloc _).alloc _
 ·exact .inr (.inr (.inr (.inr (.inr (.inr (.inr (.inr (.inr (.inl ⟨hx,rfl⟩)))))))))
theorem fa_rec (w:World) (hU:Up E w) (bk ob:Nat) (x:It) (hx:x.kind=114) (n pl:Int) (nm:ByteArray) (a1 a2 a3:Option Addr) (m1 m2 m3 p1 p2 p3:Nat) (P:Nat->Value->List It->Prop):
  Calls Tryz.prog 183 #[.agg #[pt bk,pt ob,.int .i64 lf,.map mk,.map pk],it7 8 n pl nm (.slice a1 m1 p1) (.slice a2 m2 p2) (.slice a3 m3 p3)] w fun e w'=>∃ c,e=.returned c/\Kp w w' (fun _=>False)/\actR (BD E w') R bk ob P x c:=by
 have hmf:=mkFunc;go_enter Tryz.func183,Tryz.ntmps183;go_wp2;go_ret;refine⟨_,rfl,?_,?_⟩
 ·exact ((((((Kp.refl _ _).alloc _).alloc _).alloc _).alloc _).alloc _).alloc _
 ·exact .inr (.inr (.inr (.inr (.inr (.inr (.inr (.inr (.inl ⟨hx,_,_,_,_,rfl,⟨hU.at 5,Blk.new5 w _ _ _ _ _ _ _⟩,⟨hU.at 4,(Blk.new4 w _ _ _ _ _ _).alloc _⟩,⟨hU.at 2,(((Blk.new2 w _ _ _ _).alloc _).alloc _).alloc _⟩,⟨hU.at 3,((Blk.new3 w _ _ _ _ _).alloc _).alloc _⟩⟩))))))))
theorem fa_plain (w:World) (hU:Up E w) (bk ob:Nat) (x:It) (hx:x.kind=112) (j:Nat) (hj:plainL.findIdx? (· == x.name)=some j) (n K:Int) (hK:K=(j:Int)+2) (nm:ByteArray) (a1 a2 a3:Option Addr) (m1 m2 m3 p1 p2 p3:Nat) (P:Nat->Value->List It->Prop):
  Calls Tryz.prog 183 #[.agg #[pt bk,pt ob,.int .i64 lf,.map mk,.map pk],it7 1 n K nm (.slice a1 m1 p1) (.slice a2 m2 p2) (.slice a3 m3 p3)] w fun e w'=>∃ c,e=.returned c/\Kp w w' (fun _=>False)/\actR (BD E w') R bk ob P x c:=by
 have hmf:=mkFunc;have hj16:j < 16:=by obtain⟨h,_⟩:=List.findIdx?_eq_some_iff_getElem.1 hj;exact h
 have HP:Hid (∀ w,Calls Tryz.prog 72 #[.int .i64 K] w fun e w'=>∃ act,e=.returned act/\Kp w w' (fun _=>False)/\plainR (BD (fun k=>w.heap.size<=k) w') j act):=fun w=>mkPlain j hj16 K hK w;clear hK hj16;go_enter Tryz.func183,Tryz.ntmps183
 go_wp2_with fail
 refine (HP.out _).mono ?_;rintro e w1 ⟨act,rfl,hk1,hp⟩;obtain⟨fn,ff,fc,rfl⟩:=plainR_form hp;have hkp:Kp w w1 (fun _=>False):=(((Kp.refl w (fun _=>False)).alloc _).alloc _).trans hk1;have hsz:=hkp.size;have HPp:Hid (plainR (BD E w1) j (.func (.func fn) ff fc)):=plainR_mono (BD_sub (fun b _ h=>by
  have h:((w.alloc _).alloc _).heap.size<=b:=h;rw[World.size_alloc,World.size_alloc] at h;exact hU b (by omega))) hp
 clear hp hk1;go_wp2;go_ret;refine⟨_,rfl,hkp.alloc _,?_⟩;exact .inr (.inl ⟨hx,_,_,j,rfl,⟨hU _ hsz,Blk.new w1 _ _⟩,plainR_mono (fun b t c h=>⟨h.1,h.2.alloc _⟩) HPp.out,hj⟩)
theorem fa_braces (w:World) (hU:Up E w) (bk ob:Nat) (x:It) (hx:x.kind=123) (n pl:Int) (nm:ByteArray) (a1 a2 a3:Option Addr) (m1 m2 m3 p1 p2 p3:Nat) (ws:List ByteArray) (hr:rowM (BD E w) 9 (.slice a1 m1 p1) (ws.map Value.string)) (htx:texts ws=x.toks) (ho:∀ t∈ws,okW t) (hl:ws.length<=1000) (P:Nat->Value->List It->Prop):
  Calls Tryz.prog 183 #[.agg #[pt bk,pt ob,.int .i64 lf,.map mk,.map pk],it7 10 n pl nm (.slice a1 m1 p1) (.slice a2 m2 p2) (.slice a3 m3 p3)] w fun e w'=>∃ c,e=.returned c/\Kp w w' (fun _=>False)/\actR (BD E w') R bk ob P x c:=by
 have hmf:=mkFunc;have HR:=hide hr;clear hr;go_enter Tryz.func183,Tryz.ntmps183;go_wp2;go_ret;refine⟨_,rfl,((((((Kp.refl _ _).alloc _).alloc _).alloc _).alloc _).alloc _).alloc _,?_⟩;exact .inr (.inr (.inr (.inr (.inr (.inr (.inr (.inr (.inr (.inr (⟨hx,_,_,_,_,_,ws,rfl,⟨hU.at 5,Blk.new5 w _ _ _ _ _ _ _⟩,⟨hU.at 4,(Blk.new4 w _ _ _ _ _ _).alloc _⟩,⟨hU.at 2,(((Blk.new2 w _ _ _ _).alloc _).alloc _).alloc _⟩,⟨hU.at 3,((Blk.new3 w _ _ _ _ _).alloc _).alloc _⟩,rowM_mono (fun b t c h=>⟨h.1,(((((h.2.alloc _).alloc _).alloc _).alloc _).alloc _).alloc _⟩) HR.out,htx,ho,hl⟩))))))))))
end
end
section
open Go.RowKit
def inC:Nat->Tok->List It->Prop
 | 0,_,_=>False
 | _+1,_,[]=>False
 | g+1,t,x :: l=>(x.kind=99/\x.name=t)\/((x.kind=63\/x.kind=117\/x.kind=119\/x.kind=100)/\inC g t x.a)\/((x.kind=63\/x.kind=119)/\inC g t x.b)\/inC g t l
def InC (t:Tok) (l:List It):Prop:=∃ g,inC g t l
theorem InC.nil (t:Tok):¬ InC t []:=by
 rintro⟨g,h⟩
 cases g with
 | zero=>exact h
 | succ g=>exact h
theorem InC.cons {t:Tok} {x:It} {l:List It}:InC t (x :: l)<->(x.kind=99/\x.name=t)\/((x.kind=63\/x.kind=117\/x.kind=119\/x.kind=100)/\InC t x.a)\/((x.kind=63\/x.kind=119)/\InC t x.b)\/InC t l:=by
 constructor
 ·rintro⟨g,h⟩
  cases g with
  | zero=>exact h.elim
  | succ g=>
   rcases h with h|⟨k,h⟩|⟨k,h⟩|h
   ·exact .inl h
   ·exact .inr (.inl ⟨k,g,h⟩)
   ·exact .inr (.inr (.inl ⟨k,g,h⟩))
   ·exact .inr (.inr (.inr ⟨g,h⟩))
 ·rintro (h|⟨k,g,h⟩|⟨k,g,h⟩|⟨g,h⟩)
  ·exact⟨1,.inl h⟩
  ·exact⟨g+1,.inr (.inl ⟨k,h⟩)⟩
  ·exact⟨g+1,.inr (.inr (.inl ⟨k,h⟩))⟩
  ·exact⟨g+1,.inr (.inr (.inr h))⟩
def Bc (bo:Tok->Option (List It)):Nat->Tok->Tok->Prop
 | 0,_,_=>False
 | n+1,name,t=>t=name\/∃ b,bo name=some b/\∃ nm,InC nm b/\Bc bo n nm t
def Bd (bo:Tok->Option (List It)) (n:Nat) (l:List It) (t:Tok):Prop:=∃ nm,InC nm l/\Bc bo n nm t
theorem Bd.zero (bo:Tok->Option (List It)) (l:List It) (t:Tok):¬ Bd bo 0 l t:=fun ⟨_,_,h⟩=>h
theorem Bd.app {bo:Tok->Option (List It)} {n:Nat} {x:It} {l:List It} {t:Tok}:Bd bo n (x :: l) t<->Bd bo n [x] t\/Bd bo n l t:=by
 constructor
 ·rintro⟨nm,h,hb⟩;rcases InC.cons.1 h with h|h|h|h
  ·exact .inl ⟨nm,InC.cons.2 (.inl h),hb⟩
  ·exact .inl ⟨nm,InC.cons.2 (.inr (.inl h)),hb⟩
  ·exact .inl ⟨nm,InC.cons.2 (.inr (.inr (.inl h))),hb⟩
  ·exact .inr ⟨nm,h,hb⟩
 ·rintro (⟨nm,h,hb⟩|⟨nm,h,hb⟩)
  ·rcases InC.cons.1 h with h|h|h|h
   ·exact⟨nm,InC.cons.2 (.inl h),hb⟩
   ·exact⟨nm,InC.cons.2 (.inr (.inl h)),hb⟩
   ·exact⟨nm,InC.cons.2 (.inr (.inr (.inl h))),hb⟩
   ·exact absurd h (InC.nil _)
  ·exact⟨nm,InC.cons.2 (.inr (.inr (.inr h))),hb⟩
theorem Bd.snoc {bo:Tok->Option (List It)} {n:Nat} {x:It} {t:Tok}:∀ {l:List It},Bd bo n (l ++ [x]) t<->Bd bo n l t\/Bd bo n [x] t
 | []=>by
  constructor
  ·exact .inr
  ·rintro (⟨_,h,_⟩|h)
   ·exact absurd h (InC.nil _)
   ·exact h
 | y :: l=>by
  rw[List.cons_append,Bd.app,Bd.app (l:=l),Bd.snoc (l:=l)]
  constructor
  ·rintro (h|h|h)
   ·exact .inl (.inl h)
   ·exact .inl (.inr h)
   ·exact .inr h
  ·rintro ((h|h)|h)
   ·exact .inl h
   ·exact .inr (.inl h)
   ·exact .inr (.inr h)
theorem Bd.none {bo:Tok->Option (List It)} {n:Nat} {x:It} (h1:¬ x.kind=99) (h2:¬ (x.kind=63\/x.kind=117\/x.kind=119\/x.kind=100)) (t:Tok):¬ Bd bo n [x] t:=by
 rintro⟨nm,h,_⟩;rcases InC.cons.1 h with h|h|h|h
 ·exact h1 h.1
 ·exact h2 h.1
 ·exact h2 (by rcases h.1 with h|h;exact .inl h;exact .inr (.inr (.inl h)))
 ·exact InC.nil _ h
theorem Bd.call {bo:Tok->Option (List It)} {n:Nat} {x:It} (h1:x.kind=99) (t:Tok):Bd bo n [x] t<->Bc bo n x.name t:=by
 constructor
 ·rintro⟨nm,h,hb⟩;rcases InC.cons.1 h with h|h|h|h
  ·rw[h.2];exact hb
  ·exfalso;omega
  ·exfalso;omega
  ·exact absurd h (InC.nil _)
 ·intro hb;exact⟨_,InC.cons.2 (.inl ⟨h1,rfl⟩),hb⟩
theorem Bd.one {bo:Tok->Option (List It)} {n:Nat} {x:It} (h1:x.kind=117\/x.kind=100) (t:Tok):Bd bo n [x] t<->Bd bo n x.a t:=by
 constructor
 ·rintro⟨nm,h,hb⟩;rcases InC.cons.1 h with h|h|h|h
  ·exfalso;omega
  ·exact⟨nm,h.2,hb⟩
  ·exfalso;omega
  ·exact absurd h (InC.nil _)
 ·rintro⟨nm,h,hb⟩;exact⟨nm,InC.cons.2 (.inr (.inl ⟨by omega,h⟩)),hb⟩
theorem Bd.two {bo:Tok->Option (List It)} {n:Nat} {x:It} (h1:x.kind=63\/x.kind=119) (t:Tok):Bd bo n [x] t<->Bd bo n x.a t\/Bd bo n x.b t:=by
 constructor
 ·rintro⟨nm,h,hb⟩;rcases InC.cons.1 h with h|h|h|h
  ·exfalso;omega
  ·exact .inl ⟨nm,h.2,hb⟩
  ·exact .inr ⟨nm,h.2,hb⟩
  ·exact absurd h (InC.nil _)
 ·rintro (⟨nm,h,hb⟩|⟨nm,h,hb⟩)
  ·exact⟨nm,InC.cons.2 (.inr (.inl ⟨by omega,h⟩)),hb⟩
  ·exact⟨nm,InC.cons.2 (.inr (.inr (.inl ⟨h1,h⟩))),hb⟩
def Ft (mk pk:Option Nat) (k:Nat):Prop:=mk=some k\/pk=some k
theorem callR_form {M:Mem} {R:Nat->Fr->Prop} {bk:Nat} {P:Nat->Value->List It->Prop} {name:Tok} {c:Value} (h:callR M R bk P name c):∃ n f cp,c=.func (.func n) f cp:=by
 rcases h with⟨ab,db,bb,nb,nm,rfl,_⟩|⟨pb,cb,bb,ab,o2,f,va,cv,rfl,_⟩
 ·exact⟨_,_,_,rfl⟩
 ·exact⟨_,_,_,rfl⟩
structure JC (R:Nat->Fr->Prop) (kn:Tok->Prop) (bo:Tok->Option (List It)) (bk lf:Nat) (mk pk:Option Nat) (J:(Nat->Prop)->(Tok->Prop)->World->Prop):Prop where
 fr:∀ E E' S w w' T,J E S w->Kp w w' T->(∀ k,T k->k < w.heap.size->∃ c,Blk w k 243 c)->(∀ k,k < w.heap.size->E k->E' k/\¬ T k)->J E' S w'
 mp:∀ E S w,J E S w->∀ k t c,Ft mk pk k->¬ Blk w k t c
 call:∀ E S w ob (nm:ByteArray),J E S w->Up E w->kn nm.data.toList->nm.size<=1000->Calls Tryz.prog 200 #[.agg #[pt bk,pt ob,.int .i64 (lf:Int),.map mk,.map pk],.string nm] w fun e w'=>∃ c,e=.returned c/\Kp w w' (Ft mk pk)/\callR (BD E w') R bk (Acts (BD E w') R bk) nm.data.toList c/\J E (fun t=>S t\/Bc bo lf nm.data.toList t) w'
section
variable {R:Nat->Fr->Prop} {kn:Tok->Prop} {bo:Tok->Option (List It)} {bk lf:Nat} {mk pk:Option Nat} {J:(Nat->Prop)->(Tok->Prop)->World->Prop}
theorem JC.kp (hC:JC R kn bo bk lf mk pk J) {E:Nat->Prop} {S:Tok->Prop} {w w':World} (h:J E S w) (hk:Kp w w' (fun _=>False)):J E S w':=hC.fr E E S w w' _ h hk (fun _ e=>e.elim) (fun _ _ e=>⟨e,fun e=>e⟩)
theorem JC.keep (hC:JC R kn bo bk lf mk pk J) {E:Nat->Prop} {S:Tok->Prop} {w w':World} (h:J E S w) (hk:Kp w w' (Ft mk pk)):∀ b t c,BD E w b t c->BD E w' b t c:=
 fun b t c hb=>⟨hb.1,hk.blk hb.2 (fun e=>hC.mp E S w h b t c e hb.2)⟩
theorem JC.blk (hC:JC R kn bo bk lf mk pk J) {E:Nat->Prop} {S:Tok->Prop} {w w':World} (h:J E S w) (hk:Kp w w' (Ft mk pk)) {b:Nat} {t:TypeId} {c:Array Value} (hb:Blk w b t c):Blk w' b t c:=hk.blk hb (fun e=>hC.mp E S w h b t c e hb)
theorem Kp.ft {w w':World} (h:Kp w w' (fun _=>False)) (mk pk:Option Nat):Kp w w' (Ft mk pk):=h.mono (fun _ _ e=>e.elim)
end
def FActs (R:Nat->Fr->Prop) (kn:Tok->Prop) (bo:Tok->Option (List It)) (bk lf:Nat) (mk pk:Option Nat) (J:(Nat->Prop)->(Tok->Prop)->World->Prop) (g:Nat):Prop:=∀ (E:Nat->Prop) (S:Tok->Prop) (w:World) (ob:Nat) (v:Value) (l:List It),J E S w->Up E w->itemsIn (BD E w) g v l->(∃ G lo,wb kn G lo l) ->
 Calls Tryz.prog 156 #[.agg #[pt bk,pt ob,.int .i64 (lf:Int),.map mk,.map pk],v] w fun e w'=>∃ ao cap,e=.returned (.slice ao l.length cap)/\Kp w w' (Ft mk pk)/\Acts (BD E w') R bk ob (.slice ao l.length cap) l/\J E (fun t=>S t\/Bd bo lf l t) w'
theorem mk_choose (w:World) (b1 b2:Option Addr) (n1 n2 c1 c2:Nat):Calls Tryz.prog 201 #[.slice b1 n1 c1,.slice b2 n2 c2] w fun e w'=>e=.returned (.func (.func 222) #[] #[pt w.heap.size,pt (w.heap.size+1)])/\w'=(w.alloc (.cells #[.slice b1 n1 c1] 109)).alloc (.cells #[.slice b2 n2 c2] 109):=by
 have hmf:=mkFunc;go_enter Tryz.func201,Tryz.ntmps201;go_wp2;go_ret;exact⟨rfl,rfl⟩
theorem mk_while (w:World) (b1 b2:Option Addr) (n1 n2 c1 c2:Nat):Calls Tryz.prog 203 #[.slice b1 n1 c1,.slice b2 n2 c2] w fun e w'=>e=.returned (.func (.func 225) #[] #[pt w.heap.size,pt (w.heap.size+1)])/\w'=(w.alloc (.cells #[.slice b1 n1 c1] 109)).alloc (.cells #[.slice b2 n2 c2] 109):=by
 have hmf:=mkFunc;go_enter Tryz.func203,Tryz.ntmps203;go_wp2;go_ret;exact⟨rfl,rfl⟩
section
variable {R:Nat->Fr->Prop} {kn:Tok->Prop} {bo:Tok->Option (List It)} {bk lf:Nat} {mk pk:Option Nat} {J:(Nat->Prop)->(Tok->Prop)->World->Prop}
theorem FActs.at {g:Nat} (hC:JC R kn bo bk lf mk pk J) (hF:FActs R kn bo bk lf mk pk J g) {E:Nat->Prop} {S:Tok->Prop} {w W:World} {v:Value} {l:List It} (ob:Nat) (hJ:J E S w) (hU:Up E w) (h:itemsIn (BD E w) g v l) (hl:∃ G lo,wb kn G lo l) (hk:Kp w W (fun _=>False)):∀ w0,Kp W w0 (fun _=>False) ->
  Calls Tryz.prog 156 #[.agg #[pt bk,pt ob,.int .i64 (lf:Int),.map mk,.map pk],v] w0 fun e w'=>∃ ao cap,e=.returned (.slice ao l.length cap)/\Kp W w' (Ft mk pk)/\Acts (BD E w') R bk ob (.slice ao l.length cap) l/\J E (fun t=>S t\/Bd bo lf l t) w':=by
 intro w0 h0;have hkk:=hk.trans h0;refine (hF E S w0 ob v l (hC.kp hJ hkk) (hU.kp hkk) (itemsIn_mono (BD_keep hkk (fun b _ hb=>⟨hb,by simp⟩)) g v l h) hl).mono ?_;rintro e w' ⟨ao,cap,rfl,h1,h2,h3⟩;exact⟨ao,cap,rfl,(h0.ft mk pk).trans h1,h2,h3⟩
theorem fa_call (hC:JC R kn bo bk lf mk pk J) (E:Nat->Prop) (S:Tok->Prop) (w:World) (hJ:J E S w) (hU:Up E w) (ob:Nat) (x:It) (hx:x.kind=99) (hkn:kn x.name) (n pl:Int) (nm:ByteArray) (hnm:nm.data.toList=x.name) (hs:nm.size<=1000) (a1 a2 a3:Option Addr) (m1 m2 m3 p1 p2 p3:Nat):
  Calls Tryz.prog 183 #[.agg #[pt bk,pt ob,.int .i64 (lf:Int),.map mk,.map pk],it7 2 n pl nm (.slice a1 m1 p1) (.slice a2 m2 p2) (.slice a3 m3 p3)] w fun e w'=>∃ c,e=.returned c/\Kp w w' (Ft mk pk)/\actR (BD E w') R bk ob (Acts (BD E w') R bk) x c/\J E (fun t=>S t\/Bd bo lf [x] t) w':=by
 have hk0:=((Kp.refl w (fun _=>False)).alloc (.cells #[pt bk,pt ob,.int .i64 (lf:Int),.map mk,.map pk] 206)).alloc (.cells #[.int .i64 2,.int .i64 n,.int .i64 pl,.string nm,.slice a1 m1 p1,.slice a2 m2 p2,.slice a3 m3 p3] 241);have HC:=hide (hC.call E S _ ob nm (hC.kp hJ hk0) (hU.kp hk0) (by rw[hnm];exact hkn) hs);have HK:=hide (hk0.ft mk pk);have hS:(fun t=>S t\/Bc bo lf nm.data.toList t)=(fun t=>S t\/Bd bo lf [x] t):=by funext t;rw[hnm];exact propext (or_congr_right (Bd.call hx t).symm)
 have HS:=hide hS;clear hk0 hJ hC hS hkn;go_enter Tryz.func183,Tryz.ntmps183
 go_wp2_with fail
 refine HC.out.mono ?_;rintro e w1 ⟨c,rfl,hk1,hA,hJ1⟩;obtain⟨fn,ff,fc,rfl⟩:=callR_form hA;have H1:=hide (HK.out.trans hk1);have HA:=hide hA;have HJ:=hide hJ1;clear hA hk1 hJ1 HC HK;go_wp2;go_ret;refine⟨_,rfl,H1.out,.inr (.inr (.inl ⟨hx,?_⟩)),?_⟩
 ·rw[<-hnm];exact HA.out
 ·rw[<-HS.out];exact HJ.out
theorem fa_until (g:Nat) (hC:JC R kn bo bk lf mk pk J) (hF:FActs R kn bo bk lf mk pk J g) (E:Nat->Prop) (S:Tok->Prop) (w:World) (hJ:J E S w) (hU:Up E w) (ob:Nat) (x:It) (hx:x.kind=117) (n pl:Int) (nm:ByteArray) (a1 a2 a3:Option Addr) (m1 m2 m3 p1 p2 p3:Nat) (ha:itemsIn (BD E w) g (.slice a2 m2 p2) x.a) (hl:∃ G lo,wb kn G lo x.a):
  Calls Tryz.prog 183 #[.agg #[pt bk,pt ob,.int .i64 (lf:Int),.map mk,.map pk],it7 4 n pl nm (.slice a1 m1 p1) (.slice a2 m2 p2) (.slice a3 m3 p3)] w fun e w'=>∃ c,e=.returned c/\Kp w w' (Ft mk pk)/\actR (BD E w') R bk ob (Acts (BD E w') R bk) x c/\J E (fun t=>S t\/Bd bo lf [x] t) w':=by
 have hmf:=mkFunc;have hk0:=((Kp.refl w (fun _=>False)).alloc (.cells #[pt bk,pt ob,.int .i64 (lf:Int),.map mk,.map pk] 206)).alloc (.cells #[.int .i64 4,.int .i64 n,.int .i64 pl,.string nm,.slice a1 m1 p1,.slice a2 m2 p2,.slice a3 m3 p3] 241);have HC:=hide (hF.at hC ob hJ hU ha hl hk0 _ (Kp.refl _ _));have HK:=hide (hk0.ft mk pk);have HU:=hide hU;have HCC:=hide hC;have hS:(fun t=>S t\/Bd bo lf x.a t)=(fun t=>S t\/Bd bo lf [x] t):=by funext t;exact propext (or_congr_right (Bd.one (by omega) t).symm)
 have HS:=hide hS;clear hF ha hk0 hJ hC hS hU;go_enter Tryz.func183,Tryz.ntmps183
 go_wp2_with fail
 refine HC.out.mono ?_;rintro e w1 ⟨ao,cap,rfl,hk1,hA,hJ1⟩;have hkp:=HK.out.trans hk1;have hsz:=hkp.size;have HA:=hide hA;have HJ:=hide hJ1;have HKP:=hide hkp;clear hA hk1 HC hJ1 hkp;go_wp2;go_ret;refine⟨_,rfl,HKP.out.alloc _,?_,?_⟩
 ·exact .inr (.inr (.inr (.inr (.inl ⟨hx,_,_,rfl,⟨HU.out _ hsz,Blk.new w1 _ _⟩,HA.out.mono (fun b t c h=>⟨h.1,h.2.alloc _⟩) (fun _ _ h=>h)⟩))))
 ·rw[<-HS.out];exact HCC.out.kp HJ.out ((Kp.refl _ _).alloc _)
theorem fa_do (g:Nat) (hC:JC R kn bo bk lf mk pk J) (hF:FActs R kn bo bk lf mk pk J g) (E:Nat->Prop) (S:Tok->Prop) (w:World) (hJ:J E S w) (hU:Up E w) (ob:Nat) (x:It) (hx:x.kind=100) (n pl:Int) (nm:ByteArray) (a1 a2 a3:Option Addr) (m1 m2 m3 p1 p2 p3:Nat) (ha:itemsIn (BD E w) g (.slice a2 m2 p2) x.a) (hl:∃ G lo,wb kn G lo x.a):
  Calls Tryz.prog 183 #[.agg #[pt bk,pt ob,.int .i64 (lf:Int),.map mk,.map pk],it7 6 n pl nm (.slice a1 m1 p1) (.slice a2 m2 p2) (.slice a3 m3 p3)] w fun e w'=>∃ c,e=.returned c/\Kp w w' (Ft mk pk)/\actR (BD E w') R bk ob (Acts (BD E w') R bk) x c/\J E (fun t=>S t\/Bd bo lf [x] t) w':=by
 have hmf:=mkFunc;have hk0:=((Kp.refl w (fun _=>False)).alloc (.cells #[pt bk,pt ob,.int .i64 (lf:Int),.map mk,.map pk] 206)).alloc (.cells #[.int .i64 6,.int .i64 n,.int .i64 pl,.string nm,.slice a1 m1 p1,.slice a2 m2 p2,.slice a3 m3 p3] 241);have HC:=hide (hF.at hC ob hJ hU ha hl hk0 _ (Kp.refl _ _));have HK:=hide (hk0.ft mk pk);have HU:=hide hU;have HCC:=hide hC;have hS:(fun t=>S t\/Bd bo lf x.a t)=(fun t=>S t\/Bd bo lf [x] t):=by funext t;exact propext (or_congr_right (Bd.one (by omega) t).symm)
 have HS:=hide hS;clear hF ha hk0 hJ hC hS hU;go_enter Tryz.func183,Tryz.ntmps183
 go_wp2_with fail
 refine HC.out.mono ?_;rintro e w1 ⟨ao,cap,rfl,hk1,hA,hJ1⟩;have hkp:=HK.out.trans hk1;have hsz:=hkp.size;have HA:=hide hA;have HJ:=hide hJ1;have HKP:=hide hkp;clear hA hk1 HC hJ1 hkp;go_wp2;go_ret;refine⟨_,rfl,HKP.out.alloc _,?_,?_⟩
 ·exact .inr (.inr (.inr (.inr (.inr (.inr (.inl ⟨hx,_,_,rfl,⟨HU.out _ hsz,Blk.new w1 _ _⟩,HA.out.mono (fun b t c h=>⟨h.1,h.2.alloc _⟩) (fun _ _ h=>h)⟩))))))
 ·rw[<-HS.out];exact HCC.out.kp HJ.out ((Kp.refl _ _).alloc _)
theorem fa_if (g:Nat) (hC:JC R kn bo bk lf mk pk J) (hF:FActs R kn bo bk lf mk pk J g) (E:Nat->Prop) (S:Tok->Prop) (w:World) (hJ:J E S w) (hU:Up E w) (ob:Nat) (x:It) (hx:x.kind=63) (n pl:Int) (nm:ByteArray) (a1 a2 a3:Option Addr) (m1 m2 m3 p1 p2 p3:Nat) (ha:itemsIn (BD E w) g (.slice a2 m2 p2) x.a) (hla:∃ G lo,wb kn G lo x.a) (hb:itemsIn (BD E w) g (.slice a3 m3 p3) x.b) (hlb:∃ G lo,wb kn G lo x.b):
  Calls Tryz.prog 183 #[.agg #[pt bk,pt ob,.int .i64 (lf:Int),.map mk,.map pk],it7 3 n pl nm (.slice a1 m1 p1) (.slice a2 m2 p2) (.slice a3 m3 p3)] w fun e w'=>∃ c,e=.returned c/\Kp w w' (Ft mk pk)/\actR (BD E w') R bk ob (Acts (BD E w') R bk) x c/\J E (fun t=>S t\/Bd bo lf [x] t) w':=by
 have hmf:=mkFunc;obtain⟨W0,hW0⟩:∃ W0,W0=(w.alloc (.cells #[pt bk,pt ob,.int .i64 (lf:Int),.map mk,.map pk] 206)).alloc (.cells #[.int .i64 3,.int .i64 n,.int .i64 pl,.string nm,.slice a1 m1 p1,.slice a2 m2 p2,.slice a3 m3 p3] 241):=⟨_,rfl⟩;have hW:Kp w W0 (fun _=>False):=by rw[hW0];exact ((Kp.refl w (fun _=>False)).alloc _).alloc _
 have hb0:Blk W0 w.heap.size 206 #[pt bk,pt ob,.int .i64 (lf:Int),.map mk,.map pk]:=by rw[hW0];exact (Blk.new w _ _).alloc _
 have hb1:Blk W0 (w.heap.size+1) 241 #[.int .i64 3,.int .i64 n,.int .i64 pl,.string nm,.slice a1 m1 p1,.slice a2 m2 p2,.slice a3 m3 p3]:=by rw[hW0];exact Blk.new1 w _ _ _
 have hJ0:=hC.kp hJ hW;have HC1:=hide (hF.at hC ob hJ hU ha hla hW);have HC2:Hid (∀ w1,Kp W0 w1 (Ft mk pk)->J E (fun t=>S t\/Bd bo lf x.a t) w1->∀ w0,Kp w1 w0 (fun _=>False)->Calls Tryz.prog 156 #[.agg #[pt bk,pt ob,.int .i64 (lf:Int),.map mk,.map pk],.slice a3 m3 p3] w0 fun e w'=>∃ ao cap,e=.returned (.slice ao x.b.length cap)/\Kp w1 w' (Ft mk pk)/\Acts (BD E w') R bk ob (.slice ao x.b.length cap) x.b/\J E (fun t=>(S t\/Bd bo lf x.a t)\/Bd bo lf x.b t) w'):=fun w1 hk1 hJ1=>by
  have hkw:=(hW.ft mk pk).trans hk1;exact hF.at hC ob hJ1 (hU.kp hkw) (itemsIn_mono (hC.keep hJ hkw) _ _ _ hb) hlb (Kp.refl _ _)
 have HK:=hide (hW.ft mk pk);have HBK:Hid (∀ w1,Kp W0 w1 (Ft mk pk)->Blk w1 w.heap.size 206 #[pt bk,pt ob,.int .i64 (lf:Int),.map mk,.map pk]/\Blk w1 (w.heap.size+1) 241 #[.int .i64 3,.int .i64 n,.int .i64 pl,.string nm,.slice a1 m1 p1,.slice a2 m2 p2,.slice a3 m3 p3]):=fun w1 hk1=>⟨hC.blk hJ0 hk1 hb0,hC.blk hJ0 hk1 hb1⟩;have HU:=hide hU;have HCC:=hide hC;have hS:(fun t=>(S t\/Bd bo lf x.a t)\/Bd bo lf x.b t)=(fun t=>S t\/Bd bo lf [x] t):=by funext t;rw[or_assoc];exact propext (or_congr_right (Bd.two (by omega) t).symm)
 have HS:=hide hS;clear hF ha hb hW hb0 hb1 hJ hJ0 hC hS hU;go_enter Tryz.func183,Tryz.ntmps183;go_wp2
 go_region_held3 (fun w'=>w'.cell? ⟨w.heap.size,0,none⟩=some (pt bk)/\w'.cell? ⟨w.heap.size,1,none⟩=some (pt ob)/\w'.cell? ⟨w.heap.size,2,none⟩=some (.int .i64 (lf:Int))/\w'.cell? ⟨w.heap.size,3,none⟩=some (.map mk)/\w'.cell? ⟨w.heap.size,4,none⟩=some (.map pk)/\w'.cell? ⟨w.heap.size+1,5,none⟩=some (.slice a2 m2 p2)/\w'.cell? ⟨w.heap.size+1,6,none⟩=some (.slice a3 m3 p3)) (go_keep) (first
  | (go_at_call_of 156 (Value.slice a2 m2 p2);refine (HC1.out _ ?_).mono ?_;(rw[hW0];exact (Kp.refl _ _).drew);rintro e w1 ⟨ao1,cap1,rfl,hk1,hA1,hJ1⟩;have HA1:=hide hA1;have HK1:=hide hk1;have HJ1:=hide hJ1;obtain⟨hb0,hb1⟩:=HBK.out w1 hk1;have u0:w1.cell? ⟨w.heap.size,0,none⟩=some (pt bk):=hb0.cell rfl;have u1:w1.cell? ⟨w.heap.size,1,none⟩=some (pt ob):=hb0.cell rfl;have u2:w1.cell? ⟨w.heap.size,2,none⟩=some (.int .i64 (lf:Int)):=hb0.cell rfl;have u3:w1.cell? ⟨w.heap.size,3,none⟩=some (.map mk):=hb0.cell rfl;have u4:w1.cell? ⟨w.heap.size,4,none⟩=some (.map pk):=hb0.cell rfl;have u5:w1.cell? ⟨w.heap.size+1,5,none⟩=some (.slice a2 m2 p2):=hb1.cell rfl;have u6:w1.cell? ⟨w.heap.size+1,6,none⟩=some (.slice a3 m3 p3):=hb1.cell rfl;clear hA1 hk1 hb0 hb1 hJ1)
  | (go_at_call_of 156 (Value.slice a3 m3 p3);refine (HC2.out w1 HK1.out HJ1.out _ ?_).mono ?_;exact (Kp.refl _ _);rintro e w2 ⟨ao2,cap2,rfl,hk2,hA2,hJ2⟩;have HA2:=hide hA2;have HK2:=hide hk2;have HJ2:=hide hJ2;obtain⟨hb0,hb1⟩:=HBK.out w2 (HK1.out.trans hk2);have u0:w2.cell? ⟨w.heap.size,0,none⟩=some (pt bk):=hb0.cell rfl;have u1:w2.cell? ⟨w.heap.size,1,none⟩=some (pt ob):=hb0.cell rfl;have u2:w2.cell? ⟨w.heap.size,2,none⟩=some (.int .i64 (lf:Int)):=hb0.cell rfl;have u3:w2.cell? ⟨w.heap.size,3,none⟩=some (.map mk):=hb0.cell rfl;have u4:w2.cell? ⟨w.heap.size,4,none⟩=some (.map pk):=hb0.cell rfl;have u5:w2.cell? ⟨w.heap.size+1,5,none⟩=some (.slice a2 m2 p2):=hb1.cell rfl;have u6:w2.cell? ⟨w.heap.size+1,6,none⟩=some (.slice a3 m3 p3):=hb1.cell rfl;have hlt3:=hb1.lt;clear hA2 hk2 hb0 hb1 hJ2)
  | (go_at_call 201;refine (mk_choose _ _ _ _ _ _ _).mono ?_;rintro e w3 ⟨rfl,rfl⟩))
 go_wp2;go_ret;have hkp:=HK.out.trans (HK1.out.trans HK2.out);have hsz:=hkp.size;have hka:=HCC.out.keep HJ1.out HK2.out;refine⟨_,rfl,(hkp.alloc _).alloc _,?_,?_⟩
 ·exact .inr (.inr (.inr (.inl ⟨hx,_,_,_,_,rfl,⟨HU.out _ hsz,(Blk.new w2 _ _).alloc _⟩,⟨HU.out _ (Nat.le_succ_of_le hsz),Blk.new1 w2 _ _ _⟩,(HA1.out.mono hka (fun _ _ h=>h)).mono (fun b t c h=>⟨h.1,(h.2.alloc _).alloc _⟩) (fun _ _ h=>h),HA2.out.mono (fun b t c h=>⟨h.1,(h.2.alloc _).alloc _⟩) (fun _ _ h=>h)⟩)))
 ·rw[<-HS.out];exact HCC.out.kp HJ2.out (((Kp.refl _ _).alloc _).alloc _)
theorem fa_while (g:Nat) (hC:JC R kn bo bk lf mk pk J) (hF:FActs R kn bo bk lf mk pk J g) (E:Nat->Prop) (S:Tok->Prop) (w:World) (hJ:J E S w) (hU:Up E w) (ob:Nat) (x:It) (hx:x.kind=119) (n pl:Int) (nm:ByteArray) (a1 a2 a3:Option Addr) (m1 m2 m3 p1 p2 p3:Nat) (ha:itemsIn (BD E w) g (.slice a2 m2 p2) x.a) (hla:∃ G lo,wb kn G lo x.a) (hb:itemsIn (BD E w) g (.slice a3 m3 p3) x.b) (hlb:∃ G lo,wb kn G lo x.b):
  Calls Tryz.prog 183 #[.agg #[pt bk,pt ob,.int .i64 (lf:Int),.map mk,.map pk],it7 5 n pl nm (.slice a1 m1 p1) (.slice a2 m2 p2) (.slice a3 m3 p3)] w fun e w'=>∃ c,e=.returned c/\Kp w w' (Ft mk pk)/\actR (BD E w') R bk ob (Acts (BD E w') R bk) x c/\J E (fun t=>S t\/Bd bo lf [x] t) w':=by
 have hmf:=mkFunc;obtain⟨W0,hW0⟩:∃ W0,W0=(w.alloc (.cells #[pt bk,pt ob,.int .i64 (lf:Int),.map mk,.map pk] 206)).alloc (.cells #[.int .i64 5,.int .i64 n,.int .i64 pl,.string nm,.slice a1 m1 p1,.slice a2 m2 p2,.slice a3 m3 p3] 241):=⟨_,rfl⟩;have hW:Kp w W0 (fun _=>False):=by rw[hW0];exact ((Kp.refl w (fun _=>False)).alloc _).alloc _
 have hb0:Blk W0 w.heap.size 206 #[pt bk,pt ob,.int .i64 (lf:Int),.map mk,.map pk]:=by rw[hW0];exact (Blk.new w _ _).alloc _
 have hb1:Blk W0 (w.heap.size+1) 241 #[.int .i64 5,.int .i64 n,.int .i64 pl,.string nm,.slice a1 m1 p1,.slice a2 m2 p2,.slice a3 m3 p3]:=by rw[hW0];exact Blk.new1 w _ _ _
 have hJ0:=hC.kp hJ hW;have HC1:=hide (hF.at hC ob hJ hU ha hla hW);have HC2:Hid (∀ w1,Kp W0 w1 (Ft mk pk)->J E (fun t=>S t\/Bd bo lf x.a t) w1->∀ w0,Kp w1 w0 (fun _=>False)->Calls Tryz.prog 156 #[.agg #[pt bk,pt ob,.int .i64 (lf:Int),.map mk,.map pk],.slice a3 m3 p3] w0 fun e w'=>∃ ao cap,e=.returned (.slice ao x.b.length cap)/\Kp w1 w' (Ft mk pk)/\Acts (BD E w') R bk ob (.slice ao x.b.length cap) x.b/\J E (fun t=>(S t\/Bd bo lf x.a t)\/Bd bo lf x.b t) w'):=fun w1 hk1 hJ1=>by
  have hkw:=(hW.ft mk pk).trans hk1;exact hF.at hC ob hJ1 (hU.kp hkw) (itemsIn_mono (hC.keep hJ hkw) _ _ _ hb) hlb (Kp.refl _ _)
 have HK:=hide (hW.ft mk pk);have HBK:Hid (∀ w1,Kp W0 w1 (Ft mk pk)->Blk w1 w.heap.size 206 #[pt bk,pt ob,.int .i64 (lf:Int),.map mk,.map pk]/\Blk w1 (w.heap.size+1) 241 #[.int .i64 5,.int .i64 n,.int .i64 pl,.string nm,.slice a1 m1 p1,.slice a2 m2 p2,.slice a3 m3 p3]):=fun w1 hk1=>⟨hC.blk hJ0 hk1 hb0,hC.blk hJ0 hk1 hb1⟩;have HU:=hide hU;have HCC:=hide hC;have hS:(fun t=>(S t\/Bd bo lf x.a t)\/Bd bo lf x.b t)=(fun t=>S t\/Bd bo lf [x] t):=by funext t;rw[or_assoc];exact propext (or_congr_right (Bd.two (by omega) t).symm)
 have HS:=hide hS;clear hF ha hb hW hb0 hb1 hJ hJ0 hC hS hU;go_enter Tryz.func183,Tryz.ntmps183;go_wp2
 go_region_held3 (fun w'=>w'.cell? ⟨w.heap.size,0,none⟩=some (pt bk)/\w'.cell? ⟨w.heap.size,1,none⟩=some (pt ob)/\w'.cell? ⟨w.heap.size,2,none⟩=some (.int .i64 (lf:Int))/\w'.cell? ⟨w.heap.size,3,none⟩=some (.map mk)/\w'.cell? ⟨w.heap.size,4,none⟩=some (.map pk)/\w'.cell? ⟨w.heap.size+1,5,none⟩=some (.slice a2 m2 p2)/\w'.cell? ⟨w.heap.size+1,6,none⟩=some (.slice a3 m3 p3)) (go_keep) (first
  | (go_at_call_of 156 (Value.slice a2 m2 p2);refine (HC1.out _ ?_).mono ?_;(rw[hW0];exact (Kp.refl _ _).drew);rintro e w1 ⟨ao1,cap1,rfl,hk1,hA1,hJ1⟩;have HA1:=hide hA1;have HK1:=hide hk1;have HJ1:=hide hJ1;obtain⟨hb0,hb1⟩:=HBK.out w1 hk1;have u0:w1.cell? ⟨w.heap.size,0,none⟩=some (pt bk):=hb0.cell rfl;have u1:w1.cell? ⟨w.heap.size,1,none⟩=some (pt ob):=hb0.cell rfl;have u2:w1.cell? ⟨w.heap.size,2,none⟩=some (.int .i64 (lf:Int)):=hb0.cell rfl;have u3:w1.cell? ⟨w.heap.size,3,none⟩=some (.map mk):=hb0.cell rfl;have u4:w1.cell? ⟨w.heap.size,4,none⟩=some (.map pk):=hb0.cell rfl;have u5:w1.cell? ⟨w.heap.size+1,5,none⟩=some (.slice a2 m2 p2):=hb1.cell rfl;have u6:w1.cell? ⟨w.heap.size+1,6,none⟩=some (.slice a3 m3 p3):=hb1.cell rfl;clear hA1 hk1 hb0 hb1 hJ1)
  | (go_at_call_of 156 (Value.slice a3 m3 p3);refine (HC2.out w1 HK1.out HJ1.out _ ?_).mono ?_;exact (Kp.refl _ _);rintro e w2 ⟨ao2,cap2,rfl,hk2,hA2,hJ2⟩;have HA2:=hide hA2;have HK2:=hide hk2;have HJ2:=hide hJ2;obtain⟨hb0,hb1⟩:=HBK.out w2 (HK1.out.trans hk2);have u0:w2.cell? ⟨w.heap.size,0,none⟩=some (pt bk):=hb0.cell rfl;have u1:w2.cell? ⟨w.heap.size,1,none⟩=some (pt ob):=hb0.cell rfl;have u2:w2.cell? ⟨w.heap.size,2,none⟩=some (.int .i64 (lf:Int)):=hb0.cell rfl;have u3:w2.cell? ⟨w.heap.size,3,none⟩=some (.map mk):=hb0.cell rfl;have u4:w2.cell? ⟨w.heap.size,4,none⟩=some (.map pk):=hb0.cell rfl;have u5:w2.cell? ⟨w.heap.size+1,5,none⟩=some (.slice a2 m2 p2):=hb1.cell rfl;have u6:w2.cell? ⟨w.heap.size+1,6,none⟩=some (.slice a3 m3 p3):=hb1.cell rfl;have hlt3:=hb1.lt;clear hA2 hk2 hb0 hb1 hJ2)
  | (go_at_call 203;refine (mk_while _ _ _ _ _ _ _).mono ?_;rintro e w3 ⟨rfl,rfl⟩))
 go_wp2;go_ret;have hkp:=HK.out.trans (HK1.out.trans HK2.out);have hsz:=hkp.size;have hka:=HCC.out.keep HJ1.out HK2.out;refine⟨_,rfl,(hkp.alloc _).alloc _,?_,?_⟩
 ·exact .inr (.inr (.inr (.inr (.inr (.inl ⟨hx,_,_,_,_,rfl,⟨HU.out _ hsz,(Blk.new w2 _ _).alloc _⟩,⟨HU.out _ (Nat.le_succ_of_le hsz),Blk.new1 w2 _ _ _⟩,(HA1.out.mono hka (fun _ _ h=>h)).mono (fun b t c h=>⟨h.1,(h.2.alloc _).alloc _⟩) (fun _ _ h=>h),HA2.out.mono (fun b t c h=>⟨h.1,(h.2.alloc _).alloc _⟩) (fun _ _ h=>h)⟩)))))
 ·rw[<-HS.out];exact HCC.out.kp HJ2.out (((Kp.refl _ _).alloc _).alloc _)
end
end
end Go.Proofs.YteainaiebcphlaaGreatDoor
