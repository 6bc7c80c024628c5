import Derived.Test.YteainaiebcphlaaGreatDoorX3
import Derived.Test.YteainaiebcphlaaGreatDoorX2
import Derived.Lib.ParseIntBCases
namespace Go.Proofs.YteainaiebcphlaaGreatDoor
set_option maxRecDepth 1000000
set_option maxHeartbeats 4000000
set_option linter.all false
section
open Go.RowKit
abbrev Mem:=Nat->TypeId->Array Value->Prop
def BD (D:Nat->Prop) (w:World):Mem:=fun b t c=>D b/\Blk w b t c
abbrev pt (b:Nat):Value:=.pointer (some ⟨b,0,none⟩)
def rowM (M:Mem) (e:TypeId) (v:Value) (xs:List Value):Prop:=
 (v=.slice none 0 0/\xs=[])\/∃ g cap cur,v=.slice (some ⟨g,0,none⟩) xs.length cap/\M g e cur/\xs.length<=cap/\cap<=maxLen/\cur.size=cap * 1/\cur.toList.take (xs.length * 1)=xs
theorem rowM_mono {M M':Mem} (h:∀ b t c,M b t c->M' b t c) {e:TypeId} {v:Value} {xs:List Value} (hr:rowM M e v xs):rowM M' e v xs:=by
 rcases hr with hr|⟨g,cap,cur,h1,h2,h3⟩
 ·exact .inl hr
 ·exact .inr ⟨g,cap,cur,h1,h _ _ _ h2,h3⟩
theorem rowM.row {D:Nat->Prop} {w:World} {e:TypeId} {v:Value} {xs:List Value} (h:rowM (BD D w) e v xs):w.ownsRow 0 e 1 v xs.length xs:=by
 rcases h with⟨rfl,rfl⟩|⟨g,cap,cur,rfl,h2,h3,h4,h5,h6⟩
 ·exact World.ownsRow_nil _ _ _ _
 ·exact⟨by simp,.inr ⟨g,cap,cur,rfl,Nat.zero_le _,h2.2,h3,h4,h5,h6⟩⟩
theorem rowM.of {D:Nat->Prop} {w:World} {e:TypeId} {v:Value} {xs:List Value} (h:w.ownsRow 0 e 1 v xs.length xs) (hd:∀ b,own v b->D b):rowM (BD D w) e v xs:=by
 rcases h.2 with⟨rfl,h0⟩|⟨g,cap,cur,rfl,_,hg,h3,h4,h5,h6⟩
 ·exact .inl ⟨rfl,List.length_eq_zero_iff.1 h0⟩
 ·exact .inr ⟨g,cap,cur,rfl,⟨hd g (by simp[own,Value.ownBlock]),hg⟩,h3,h4,h5,h6⟩
theorem rowM.lt {D:Nat->Prop} {w:World} {e:TypeId} {v:Value} {xs:List Value} (h:rowM (BD D w) e v xs):∀ b,own v b->b < w.heap.size:=fun _ hb=>own_lt h.row hb
def cap1 (M:Mem) (fn:Nat) (t:TypeId) (f:Nat) (act:Value):Prop:=∃ b,act=.func (.func fn) #[] #[pt b]/\M b t #[.func (.func f) #[] #[]]
def capRe (M:Mem) (n:Nat) (ps:List Nat) (act:Value):Prop:=∃ cb b pv,act=.func (.func 151) #[] #[pt cb,pt b]/\M cb 3 #[.int .i64 n]/\M b 34 #[pv]/\rowM M 3 pv (placesV ps)
theorem cap1_mono {M M':Mem} (h:∀ b t c,M b t c->M' b t c) {fn:Nat} {t:TypeId} {f:Nat} {act:Value} (hr:cap1 M fn t f act):cap1 M' fn t f act:=by
 obtain⟨b,h1,h2⟩:=hr;exact⟨b,h1,h _ _ _ h2⟩
theorem capRe_mono {M M':Mem} (h:∀ b t c,M b t c->M' b t c) {n:Nat} {ps:List Nat} {act:Value} (hr:capRe M n ps act):capRe M' n ps act:=by
 obtain⟨cb,b,pv,h1,h2,h3,h4⟩:=hr;exact⟨cb,b,pv,h1,h _ _ _ h2,h _ _ _ h3,rowM_mono h h4⟩
def plainR (M:Mem) (j:Nat) (act:Value):Prop:=
 match j with
 | 0=>cap1 M 148 150 99 act
 | 1=>cap1 M 148 150 100 act
 | 2=>cap1 M 148 150 101 act
 | 3=>cap1 M 150 150 103 act
 | 4=>cap1 M 150 150 104 act
 | 5=>cap1 M 148 150 105 act
 | 6=>cap1 M 148 150 107 act
 | 7=>capRe M 1 [0,0] act
 | 8=>capRe M 1 [] act
 | 9=>capRe M 2 [1,0] act
 | 10=>capRe M 2 [0,1,0] act
 | 11=>capRe M 3 [1,2,0] act
 | 12=>cap1 M 152 154 110 act
 | 13=>cap1 M 152 154 111 act
 | 14=>act=.func (.func 112) #[] #[]
 | 15=>act=.func (.func 113) #[] #[]
 | _=>False
theorem plainR_mono {M M':Mem} (h:∀ b t c,M b t c->M' b t c) {j:Nat} {act:Value} (hr:plainR M j act):plainR M' j act:=by
 unfold plainR at hr ⊢
 split at hr
 ·exact cap1_mono h hr
 ·exact cap1_mono h hr
 ·exact cap1_mono h hr
 ·exact cap1_mono h hr
 ·exact cap1_mono h hr
 ·exact cap1_mono h hr
 ·exact cap1_mono h hr
 ·exact capRe_mono h hr
 ·exact capRe_mono h hr
 ·exact capRe_mono h hr
 ·exact capRe_mono h hr
 ·exact capRe_mono h hr
 ·exact cap1_mono h hr
 ·exact cap1_mono h hr
 ·exact hr
 ·exact hr
 ·exact hr
theorem ent_cmp:Ents 148:=ents_of Tryz.func148 (by kernel_rfl) (by kernel_rfl)
theorem ent_dvd:Ents 150:=ents_of Tryz.func150 (by kernel_rfl) (by kernel_rfl)
theorem ent_rea:Ents 151:=ents_of Tryz.func151 (by kernel_rfl) (by kernel_rfl)
theorem ent_shw:Ents 152:=ents_of Tryz.func152 (by kernel_rfl) (by kernel_rfl)
theorem ent_fet:Ents 112:=ents_of Tryz.func112 (by kernel_rfl) (by kernel_rfl)
theorem ent_sto:Ents 113:=ents_of Tryz.func113 (by kernel_rfl) (by kernel_rfl)
theorem mkFunc (fn:Fn) (first cap:Array Value) (w:World):(Instr.makeFunc fn first cap).run Tryz.prog w=.ok (.func fn first cap) w:=rfl
theorem Blk.new1 (w:World) (o:Obj) (c:Array Value) (t:TypeId):Blk ((w.alloc o).alloc (.cells c t)) (w.heap.size+1) t c:=by
 have:=Blk.new (w.alloc o) c t;rw[World.size_alloc] at this;exact this
theorem Blk.new2 (w:World) (o o':Obj) (c:Array Value) (t:TypeId):Blk (((w.alloc o).alloc o').alloc (.cells c t)) (w.heap.size+1+1) t c:=by
 have:=Blk.new ((w.alloc o).alloc o') c t;rw[World.size_alloc,World.size_alloc] at this;exact this
theorem re_under (w:World) (xb rb cb pb:Nat) (m:MS) (ns:List Int) (n:Nat) (h:MInv w xb rb m ns) (hc:Blk w cb 3 #[.int .i64 n]) (hl:ns.length < n) (hn:n<=3):
  Calls Tryz.prog 151 #[.pointer (some ⟨rb,0,none⟩),.pointer (some ⟨cb,0,none⟩),.pointer (some ⟨pb,0,none⟩)] w fun e w'=>e=.returned (.int .i64 6)/\MPost w w' xb rb m ⟨6,[],m.mem,m.out⟩:=by
 have c0:w.cell? ⟨cb,0,none⟩=some (.int .i64 n):=hc.cell rfl;go_enter Tryz.func151,Tryz.ntmps151
 go_wp2_with fail
 refine (takeM_under _ _ _ _ _ _ h (by omega) (by omega)).mono ?_;rintro e w1 ⟨rfl,hk⟩;go_wp2;go_ret;exact⟨rfl,MPost.err (MTo.kp (hk.alloc _)) (h.kp (hk.alloc _)) rfl rfl rfl (by decide)⟩
theorem mk_add (w:World):Calls Tryz.prog 72 #[.int .i64 2] w fun e w'=>∃ act,e=.returned act/\Kp w w' (fun _=>False)/\plainR (BD (fun k=>w.heap.size<=k) w') 0 act:=by
 have hmf:=mkFunc;go_enter Tryz.func72,Tryz.ntmps72;go_wp2;go_ret;exact⟨_,rfl,(Kp.refl _ _).alloc _,_,rfl,Nat.le_refl _,Blk.new w _ _⟩
theorem mk_sub (w:World):Calls Tryz.prog 72 #[.int .i64 3] w fun e w'=>∃ act,e=.returned act/\Kp w w' (fun _=>False)/\plainR (BD (fun k=>w.heap.size<=k) w') 1 act:=by
 have hmf:=mkFunc;go_enter Tryz.func72,Tryz.ntmps72;go_wp2;go_ret;exact⟨_,rfl,(Kp.refl _ _).alloc _,_,rfl,Nat.le_refl _,Blk.new w _ _⟩
theorem mk_mul (w:World):Calls Tryz.prog 72 #[.int .i64 4] w fun e w'=>∃ act,e=.returned act/\Kp w w' (fun _=>False)/\plainR (BD (fun k=>w.heap.size<=k) w') 2 act:=by
 have hmf:=mkFunc;go_enter Tryz.func72,Tryz.ntmps72;go_wp2;go_ret;exact⟨_,rfl,(Kp.refl _ _).alloc _,_,rfl,Nat.le_refl _,Blk.new w _ _⟩
theorem mk_quo (w:World):Calls Tryz.prog 72 #[.int .i64 5] w fun e w'=>∃ act,e=.returned act/\Kp w w' (fun _=>False)/\plainR (BD (fun k=>w.heap.size<=k) w') 3 act:=by
 have hmf:=mkFunc;go_enter Tryz.func72,Tryz.ntmps72;go_wp2;go_ret;exact⟨_,rfl,(Kp.refl _ _).alloc _,_,rfl,Nat.le_refl _,Blk.new w _ _⟩
theorem mk_mod (w:World):Calls Tryz.prog 72 #[.int .i64 6] w fun e w'=>∃ act,e=.returned act/\Kp w w' (fun _=>False)/\plainR (BD (fun k=>w.heap.size<=k) w') 4 act:=by
 have hmf:=mkFunc;go_enter Tryz.func72,Tryz.ntmps72;go_wp2;go_ret;exact⟨_,rfl,(Kp.refl _ _).alloc _,_,rfl,Nat.le_refl _,Blk.new w _ _⟩
theorem mk_eq (w:World):Calls Tryz.prog 72 #[.int .i64 7] w fun e w'=>∃ act,e=.returned act/\Kp w w' (fun _=>False)/\plainR (BD (fun k=>w.heap.size<=k) w') 5 act:=by
 have hmf:=mkFunc;go_enter Tryz.func72,Tryz.ntmps72;go_wp2;go_ret;exact⟨_,rfl,(Kp.refl _ _).alloc _,_,rfl,Nat.le_refl _,Blk.new w _ _⟩
theorem mk_lt (w:World):Calls Tryz.prog 72 #[.int .i64 8] w fun e w'=>∃ act,e=.returned act/\Kp w w' (fun _=>False)/\plainR (BD (fun k=>w.heap.size<=k) w') 6 act:=by
 have hmf:=mkFunc;go_enter Tryz.func72,Tryz.ntmps72;go_wp2;go_ret;exact⟨_,rfl,(Kp.refl _ _).alloc _,_,rfl,Nat.le_refl _,Blk.new w _ _⟩
theorem mk_dup (w:World):Calls Tryz.prog 72 #[.int .i64 9] w fun e w'=>∃ act,e=.returned act/\Kp w w' (fun _=>False)/\plainR (BD (fun k=>w.heap.size<=k) w') 7 act:=by
 have hmf:=mkFunc;go_enter Tryz.func72,Tryz.ntmps72;go_wp2;go_ret;have hr0:Blk (((w.alloc (.cells (placesV [0,0]).toArray 3)).alloc (.cells #[.int .i64 ((1:Nat):Int)] 3)).alloc (.cells #[.slice (some ⟨w.heap.size,0,none⟩) 2 2] 34)) w.heap.size 3 (placesV [0,0]).toArray:=((Blk.new w _ _).alloc _).alloc _;exact⟨_,rfl,(((Kp.refl _ _).alloc _).alloc _).alloc _,_,_,_,rfl,⟨Nat.le_succ _,by exact (Blk.new1 w _ _ _).alloc _⟩,⟨Nat.le_trans (Nat.le_succ _) (Nat.le_succ _),by exact Blk.new2 w _ _ _ _⟩,.inr ⟨w.heap.size,2,(placesV [0,0]).toArray,rfl,⟨Nat.le_refl _,hr0⟩,Nat.le_refl _,by decide,rfl,by simp[placesV]⟩⟩
theorem mk_drop (w:World):Calls Tryz.prog 72 #[.int .i64 10] w fun e w'=>∃ act,e=.returned act/\Kp w w' (fun _=>False)/\plainR (BD (fun k=>w.heap.size<=k) w') 8 act:=by
 have hmf:=mkFunc;go_enter Tryz.func72,Tryz.ntmps72;go_wp2;go_ret;exact⟨_,rfl,((Kp.refl _ _).alloc _).alloc _,_,_,_,rfl,⟨Nat.le_refl _,(Blk.new w _ _).alloc _⟩,⟨Nat.le_succ _,Blk.new1 w _ _ _⟩,.inl ⟨rfl,rfl⟩⟩
theorem mk_swap (w:World):Calls Tryz.prog 72 #[.int .i64 11] w fun e w'=>∃ act,e=.returned act/\Kp w w' (fun _=>False)/\plainR (BD (fun k=>w.heap.size<=k) w') 9 act:=by
 have hmf:=mkFunc;go_enter Tryz.func72,Tryz.ntmps72;go_wp2;go_ret;have hr0:Blk (((w.alloc (.cells (placesV [1,0]).toArray 3)).alloc (.cells #[.int .i64 ((2:Nat):Int)] 3)).alloc (.cells #[.slice (some ⟨w.heap.size,0,none⟩) 2 2] 34)) w.heap.size 3 (placesV [1,0]).toArray:=((Blk.new w _ _).alloc _).alloc _;exact⟨_,rfl,(((Kp.refl _ _).alloc _).alloc _).alloc _,_,_,_,rfl,⟨Nat.le_succ _,by exact (Blk.new1 w _ _ _).alloc _⟩,⟨Nat.le_trans (Nat.le_succ _) (Nat.le_succ _),by exact Blk.new2 w _ _ _ _⟩,.inr ⟨w.heap.size,2,(placesV [1,0]).toArray,rfl,⟨Nat.le_refl _,hr0⟩,Nat.le_refl _,by decide,rfl,by simp[placesV]⟩⟩
theorem mk_over (w:World):Calls Tryz.prog 72 #[.int .i64 12] w fun e w'=>∃ act,e=.returned act/\Kp w w' (fun _=>False)/\plainR (BD (fun k=>w.heap.size<=k) w') 10 act:=by
 have hmf:=mkFunc;go_enter Tryz.func72,Tryz.ntmps72;go_wp2;go_ret;have hr0:Blk (((w.alloc (.cells (placesV [0,1,0]).toArray 3)).alloc (.cells #[.int .i64 ((2:Nat):Int)] 3)).alloc (.cells #[.slice (some ⟨w.heap.size,0,none⟩) 3 3] 34)) w.heap.size 3 (placesV [0,1,0]).toArray:=((Blk.new w _ _).alloc _).alloc _;exact⟨_,rfl,(((Kp.refl _ _).alloc _).alloc _).alloc _,_,_,_,rfl,⟨Nat.le_succ _,by exact (Blk.new1 w _ _ _).alloc _⟩,⟨Nat.le_trans (Nat.le_succ _) (Nat.le_succ _),by exact Blk.new2 w _ _ _ _⟩,.inr ⟨w.heap.size,3,(placesV [0,1,0]).toArray,rfl,⟨Nat.le_refl _,hr0⟩,Nat.le_refl _,by decide,rfl,by simp[placesV]⟩⟩
theorem mk_rot (w:World):Calls Tryz.prog 72 #[.int .i64 13] w fun e w'=>∃ act,e=.returned act/\Kp w w' (fun _=>False)/\plainR (BD (fun k=>w.heap.size<=k) w') 11 act:=by
 have hmf:=mkFunc;go_enter Tryz.func72,Tryz.ntmps72;go_wp2;go_ret;have hr0:Blk (((w.alloc (.cells (placesV [1,2,0]).toArray 3)).alloc (.cells #[.int .i64 ((3:Nat):Int)] 3)).alloc (.cells #[.slice (some ⟨w.heap.size,0,none⟩) 3 3] 34)) w.heap.size 3 (placesV [1,2,0]).toArray:=((Blk.new w _ _).alloc _).alloc _;exact⟨_,rfl,(((Kp.refl _ _).alloc _).alloc _).alloc _,_,_,_,rfl,⟨Nat.le_succ _,by exact (Blk.new1 w _ _ _).alloc _⟩,⟨Nat.le_trans (Nat.le_succ _) (Nat.le_succ _),by exact Blk.new2 w _ _ _ _⟩,.inr ⟨w.heap.size,3,(placesV [1,2,0]).toArray,rfl,⟨Nat.le_refl _,hr0⟩,Nat.le_refl _,by decide,rfl,by simp[placesV]⟩⟩
theorem mk_dot (w:World):Calls Tryz.prog 72 #[.int .i64 14] w fun e w'=>∃ act,e=.returned act/\Kp w w' (fun _=>False)/\plainR (BD (fun k=>w.heap.size<=k) w') 12 act:=by
 have hmf:=mkFunc;go_enter Tryz.func72,Tryz.ntmps72;go_wp2;go_ret;exact⟨_,rfl,(Kp.refl _ _).alloc _,_,rfl,Nat.le_refl _,Blk.new w _ _⟩
theorem mk_emit (w:World):Calls Tryz.prog 72 #[.int .i64 15] w fun e w'=>∃ act,e=.returned act/\Kp w w' (fun _=>False)/\plainR (BD (fun k=>w.heap.size<=k) w') 13 act:=by
 have hmf:=mkFunc;go_enter Tryz.func72,Tryz.ntmps72;go_wp2;go_ret;exact⟨_,rfl,(Kp.refl _ _).alloc _,_,rfl,Nat.le_refl _,Blk.new w _ _⟩
theorem mk_fetch (w:World):Calls Tryz.prog 72 #[.int .i64 16] w fun e w'=>∃ act,e=.returned act/\Kp w w' (fun _=>False)/\plainR (BD (fun k=>w.heap.size<=k) w') 14 act:=by
 have hmf:=mkFunc;go_enter Tryz.func72,Tryz.ntmps72;go_wp2;go_ret;exact⟨_,rfl,Kp.refl _ _,rfl⟩
theorem mk_store (w:World):Calls Tryz.prog 72 #[.int .i64 17] w fun e w'=>∃ act,e=.returned act/\Kp w w' (fun _=>False)/\plainR (BD (fun k=>w.heap.size<=k) w') 15 act:=by
 have hmf:=mkFunc;go_enter Tryz.func72,Tryz.ntmps72;go_wp2;go_ret;exact⟨_,rfl,Kp.refl _ _,rfl⟩
theorem mkPlain (j:Nat) (hj:j < 16) (K:Int) (hK:K=(j:Int)+2) (w:World):Calls Tryz.prog 72 #[.int .i64 K] w fun e w'=>∃ act,e=.returned act/\Kp w w' (fun _=>False)/\plainR (BD (fun k=>w.heap.size<=k) w') j act:=by
 subst hK;have:j=0\/j=1\/j=2\/j=3\/j=4\/j=5\/j=6\/j=7\/j=8\/j=9\/j=10\/j=11\/j=12\/j=13\/j=14\/j=15:=by omega
 rcases this with rfl|rfl|rfl|rfl|rfl|rfl|rfl|rfl|rfl|rfl|rfl|rfl|rfl|rfl|rfl|rfl
 ·exact mk_add w
 ·exact mk_sub w
 ·exact mk_mul w
 ·exact mk_quo w
 ·exact mk_mod w
 ·exact mk_eq w
 ·exact mk_lt w
 ·exact mk_dup w
 ·exact mk_drop w
 ·exact mk_swap w
 ·exact mk_over w
 ·exact mk_rot w
 ·exact mk_dot w
 ·exact mk_emit w
 ·exact mk_fetch w
 ·exact mk_store w
end
section
open Go.RowKit
theorem do_add (w:World) (D:Nat->Prop) (xb rb:Nat) (m:MS) (rs:List Int) (act:Value) (hact:plainR (BD D w) 0 act) (h:MInv w xb rb m rs.reverse) (_ho:m.out.size<=300) (_hin:∀ a∈rs,In a):
  CallsV act (pt rb) w fun e w'=>e=.returned (.int .i64 (p_add m.mem m.out rs).e)/\MPost w w' xb rb m (p_add m.mem m.out rs):=by
 obtain⟨fb,rfl,_,hf⟩:=hact;refine⟨_,_,_,rfl,ent_cmp,?_⟩
 match rs,h with
 | [],h=>exact un_96 w xb rb _ _ _ h (by simp)
 | [_],h=>exact un_96 w xb rb _ _ _ h (by simp)
 | b :: a :: r,h=>exact cp_add w xb rb _ _ b a r h hf
theorem do_sub (w:World) (D:Nat->Prop) (xb rb:Nat) (m:MS) (rs:List Int) (act:Value) (hact:plainR (BD D w) 1 act) (h:MInv w xb rb m rs.reverse) (_ho:m.out.size<=300) (_hin:∀ a∈rs,In a):
  CallsV act (pt rb) w fun e w'=>e=.returned (.int .i64 (p_sub m.mem m.out rs).e)/\MPost w w' xb rb m (p_sub m.mem m.out rs):=by
 obtain⟨fb,rfl,_,hf⟩:=hact;refine⟨_,_,_,rfl,ent_cmp,?_⟩
 match rs,h with
 | [],h=>exact un_96 w xb rb _ _ _ h (by simp)
 | [_],h=>exact un_96 w xb rb _ _ _ h (by simp)
 | b :: a :: r,h=>exact cp_sub w xb rb _ _ b a r h hf
theorem do_mul (w:World) (D:Nat->Prop) (xb rb:Nat) (m:MS) (rs:List Int) (act:Value) (hact:plainR (BD D w) 2 act) (h:MInv w xb rb m rs.reverse) (_ho:m.out.size<=300) (_hin:∀ a∈rs,In a):
  CallsV act (pt rb) w fun e w'=>e=.returned (.int .i64 (p_mul m.mem m.out rs).e)/\MPost w w' xb rb m (p_mul m.mem m.out rs):=by
 obtain⟨fb,rfl,_,hf⟩:=hact;refine⟨_,_,_,rfl,ent_cmp,?_⟩
 match rs,h with
 | [],h=>exact un_96 w xb rb _ _ _ h (by simp)
 | [_],h=>exact un_96 w xb rb _ _ _ h (by simp)
 | b :: a :: r,h=>exact cp_mul w xb rb _ _ b a r h hf
theorem do_quo (w:World) (D:Nat->Prop) (xb rb:Nat) (m:MS) (rs:List Int) (act:Value) (hact:plainR (BD D w) 3 act) (h:MInv w xb rb m rs.reverse) (_ho:m.out.size<=300) (_hin:∀ a∈rs,In a):
  CallsV act (pt rb) w fun e w'=>e=.returned (.int .i64 (p_quo m.mem m.out rs).e)/\MPost w w' xb rb m (p_quo m.mem m.out rs):=by
 obtain⟨fb,rfl,_,hf⟩:=hact;refine⟨_,_,_,rfl,ent_dvd,?_⟩
 match rs,h with
 | [],h=>exact un_98 w xb rb _ _ _ h (by simp)
 | [_],h=>exact un_98 w xb rb _ _ _ h (by simp)
 | b :: a :: r,h=>
  simp only[p_quo];by_cases hb:b=0
  ·subst hb;rw[if_pos rfl];exact dv_zero w xb rb _ _ a r h
  ·rw[if_neg hb];exact dv_quo w xb rb _ _ b a r h hf hb
theorem do_mod (w:World) (D:Nat->Prop) (xb rb:Nat) (m:MS) (rs:List Int) (act:Value) (hact:plainR (BD D w) 4 act) (h:MInv w xb rb m rs.reverse) (_ho:m.out.size<=300) (_hin:∀ a∈rs,In a):
  CallsV act (pt rb) w fun e w'=>e=.returned (.int .i64 (p_mod m.mem m.out rs).e)/\MPost w w' xb rb m (p_mod m.mem m.out rs):=by
 obtain⟨fb,rfl,_,hf⟩:=hact;refine⟨_,_,_,rfl,ent_dvd,?_⟩
 match rs,h with
 | [],h=>exact un_98 w xb rb _ _ _ h (by simp)
 | [_],h=>exact un_98 w xb rb _ _ _ h (by simp)
 | b :: a :: r,h=>
  simp only[p_mod];by_cases hb:b=0
  ·subst hb;rw[if_pos rfl];exact dv_zero w xb rb _ _ a r h
  ·rw[if_neg hb];exact dv_mod w xb rb _ _ b a r h hf hb
theorem do_eq (w:World) (D:Nat->Prop) (xb rb:Nat) (m:MS) (rs:List Int) (act:Value) (hact:plainR (BD D w) 5 act) (h:MInv w xb rb m rs.reverse) (_ho:m.out.size<=300) (_hin:∀ a∈rs,In a):
  CallsV act (pt rb) w fun e w'=>e=.returned (.int .i64 (p_eq m.mem m.out rs).e)/\MPost w w' xb rb m (p_eq m.mem m.out rs):=by
 obtain⟨fb,rfl,_,hf⟩:=hact;refine⟨_,_,_,rfl,ent_cmp,?_⟩
 match rs,h with
 | [],h=>exact un_96 w xb rb _ _ _ h (by simp)
 | [_],h=>exact un_96 w xb rb _ _ _ h (by simp)
 | b :: a :: r,h=>exact cp_eq w xb rb _ _ b a r h hf
theorem do_lt (w:World) (D:Nat->Prop) (xb rb:Nat) (m:MS) (rs:List Int) (act:Value) (hact:plainR (BD D w) 6 act) (h:MInv w xb rb m rs.reverse) (_ho:m.out.size<=300) (_hin:∀ a∈rs,In a):
  CallsV act (pt rb) w fun e w'=>e=.returned (.int .i64 (p_lt m.mem m.out rs).e)/\MPost w w' xb rb m (p_lt m.mem m.out rs):=by
 obtain⟨fb,rfl,_,hf⟩:=hact;refine⟨_,_,_,rfl,ent_cmp,?_⟩
 match rs,h with
 | [],h=>exact un_96 w xb rb _ _ _ h (by simp)
 | [_],h=>exact un_96 w xb rb _ _ _ h (by simp)
 | b :: a :: r,h=>exact cp_lt w xb rb _ _ b a r h hf
theorem do_dup (w:World) (D:Nat->Prop) (xb rb:Nat) (m:MS) (rs:List Int) (act:Value) (hact:plainR (BD D w) 7 act) (h:MInv w xb rb m rs.reverse) (_ho:m.out.size<=300) (_hin:∀ a∈rs,In a):
  CallsV act (pt rb) w fun e w'=>e=.returned (.int .i64 (p_dup m.mem m.out rs).e)/\MPost w w' xb rb m (p_dup m.mem m.out rs):=by
 obtain⟨cb,b0,pv,rfl,⟨_,hc⟩,⟨_,hpb⟩,hpr⟩:=hact;have hpv:=hpr.row;refine⟨_,_,_,rfl,ent_rea,?_⟩
 match rs,h with
 | [],h=>exact re_under w xb rb _ _ _ _ 1 h hc (by simp) (by decide)
 | a :: r,h=>
  have hl:=h.len;simp only[List.length_reverse,List.length_cons] at hl;refine (reM w xb rb _ _ _ r.reverse [a] [0,0] _ (by simpa using h) (by simp) (by simp) hc hpb hpv (by decide) (by decide)).mono ?_;rintro e w2 ⟨hp1,hp2⟩;simp only[p_dup];by_cases hr:r.length < 31
  ·rw[if_pos hr];have:=hp1 (by simp;omega);simpa [picked] using this
  ·rw[if_neg hr];exact hp2 (by simp;omega)
theorem do_drop (w:World) (D:Nat->Prop) (xb rb:Nat) (m:MS) (rs:List Int) (act:Value) (hact:plainR (BD D w) 8 act) (h:MInv w xb rb m rs.reverse) (_ho:m.out.size<=300) (_hin:∀ a∈rs,In a):
  CallsV act (pt rb) w fun e w'=>e=.returned (.int .i64 (p_drop m.mem m.out rs).e)/\MPost w w' xb rb m (p_drop m.mem m.out rs):=by
 obtain⟨cb,b0,pv,rfl,⟨_,hc⟩,⟨_,hpb⟩,hpr⟩:=hact;have hpv:=hpr.row;refine⟨_,_,_,rfl,ent_rea,?_⟩
 match rs,h with
 | [],h=>exact re_under w xb rb _ _ _ _ 1 h hc (by simp) (by decide)
 | a :: r,h=>
  have hl:=h.len;simp only[List.length_reverse,List.length_cons] at hl;refine (reM w xb rb _ _ _ r.reverse [a] [] _ (by simpa using h) (by simp) (by simp) hc hpb hpv (by decide) (by decide)).mono ?_;rintro e w2 ⟨hp1,_⟩;have:=hp1 (by simp;omega)
  simpa [picked,p_drop] using this
theorem do_swap (w:World) (D:Nat->Prop) (xb rb:Nat) (m:MS) (rs:List Int) (act:Value) (hact:plainR (BD D w) 9 act) (h:MInv w xb rb m rs.reverse) (_ho:m.out.size<=300) (_hin:∀ a∈rs,In a):
  CallsV act (pt rb) w fun e w'=>e=.returned (.int .i64 (p_swap m.mem m.out rs).e)/\MPost w w' xb rb m (p_swap m.mem m.out rs):=by
 obtain⟨cb,b0,pv,rfl,⟨_,hc⟩,⟨_,hpb⟩,hpr⟩:=hact;have hpv:=hpr.row;refine⟨_,_,_,rfl,ent_rea,?_⟩
 match rs,h with
 | [],h=>exact re_under w xb rb _ _ _ _ 2 h hc (by simp) (by decide)
 | [_],h=>exact re_under w xb rb _ _ _ _ 2 h hc (by simp) (by decide)
 | b :: a :: r,h=>
  have hl:=h.len;simp only[List.length_reverse,List.length_cons] at hl;refine (reM w xb rb _ _ _ r.reverse [a,b] [1,0] _ (by simpa using h) (by simp) (by simp) hc hpb hpv (by decide) (by decide)).mono ?_;rintro e w2 ⟨hp1,_⟩;have:=hp1 (by simp;omega)
  simpa [picked,p_swap] using this
theorem do_over (w:World) (D:Nat->Prop) (xb rb:Nat) (m:MS) (rs:List Int) (act:Value) (hact:plainR (BD D w) 10 act) (h:MInv w xb rb m rs.reverse) (_ho:m.out.size<=300) (_hin:∀ a∈rs,In a):
  CallsV act (pt rb) w fun e w'=>e=.returned (.int .i64 (p_over m.mem m.out rs).e)/\MPost w w' xb rb m (p_over m.mem m.out rs):=by
 obtain⟨cb,b0,pv,rfl,⟨_,hc⟩,⟨_,hpb⟩,hpr⟩:=hact;have hpv:=hpr.row;refine⟨_,_,_,rfl,ent_rea,?_⟩
 match rs,h with
 | [],h=>exact re_under w xb rb _ _ _ _ 2 h hc (by simp) (by decide)
 | [_],h=>exact re_under w xb rb _ _ _ _ 2 h hc (by simp) (by decide)
 | b :: a :: r,h=>
  have hl:=h.len;simp only[List.length_reverse,List.length_cons] at hl;refine (reM w xb rb _ _ _ r.reverse [a,b] [0,1,0] _ (by simpa using h) (by simp) (by simp) hc hpb hpv (by decide) (by decide)).mono ?_;rintro e w2 ⟨hp1,hp2⟩;simp only[p_over];by_cases hr:r.length < 30
  ·rw[if_pos hr];have:=hp1 (by simp;omega);simpa [picked] using this
  ·rw[if_neg hr];exact hp2 (by simp;omega)
theorem do_rot (w:World) (D:Nat->Prop) (xb rb:Nat) (m:MS) (rs:List Int) (act:Value) (hact:plainR (BD D w) 11 act) (h:MInv w xb rb m rs.reverse) (_ho:m.out.size<=300) (_hin:∀ a∈rs,In a):
  CallsV act (pt rb) w fun e w'=>e=.returned (.int .i64 (p_rot m.mem m.out rs).e)/\MPost w w' xb rb m (p_rot m.mem m.out rs):=by
 obtain⟨cb,b0,pv,rfl,⟨_,hc⟩,⟨_,hpb⟩,hpr⟩:=hact;have hpv:=hpr.row;refine⟨_,_,_,rfl,ent_rea,?_⟩
 match rs,h with
 | [],h=>exact re_under w xb rb _ _ _ _ 3 h hc (by simp) (by decide)
 | [_],h=>exact re_under w xb rb _ _ _ _ 3 h hc (by simp) (by decide)
 | [_,_],h=>exact re_under w xb rb _ _ _ _ 3 h hc (by simp) (by decide)
 | c :: b :: a :: r,h=>
  have hl:=h.len;simp only[List.length_reverse,List.length_cons] at hl;refine (reM w xb rb _ _ _ r.reverse [a,b,c] [1,2,0] _ (by simpa using h) (by simp) (by simp) hc hpb hpv (by decide) (by decide)).mono ?_;rintro e w2 ⟨hp1,_⟩;have:=hp1 (by simp;omega)
  simpa [picked,p_rot] using this
theorem do_dot (B:Nat) (W:World) (w:World) (D:Nat->Prop) (xb rb:Nat) (m:MS) (rs:List Int) (act:Value) (hact:plainR (BD D w) 12 act) (h:MInv w xb rb m rs.reverse) (ho:m.out.size<=300) (hin:∀ a∈rs,In a) (hS:Safe B W w xb rb m) (hG:Glo B W):
  CallsV act (pt rb) w fun e w'=>e=.returned (.int .i64 (p_dot m.mem m.out rs).e)/\MPost w w' xb rb m (p_dot m.mem m.out rs):=by
 obtain⟨fb,rfl,_,hf⟩:=hact;refine⟨_,_,_,rfl,ent_shw,?_⟩
 match rs,h,hin with
 | [],h,_=>exact un_100 w xb rb _ _ _ h (by simp)
 | a :: r,h,hin=>
  have ha:=hin a (by simp);exact sh_dot B W w xb rb _ _ a r h hf ho ha.1 ha.2 hS hG
theorem do_emit (w:World) (D:Nat->Prop) (xb rb:Nat) (m:MS) (rs:List Int) (act:Value) (hact:plainR (BD D w) 13 act) (h:MInv w xb rb m rs.reverse) (ho:m.out.size<=300) (_hin:∀ a∈rs,In a):
  CallsV act (pt rb) w fun e w'=>e=.returned (.int .i64 (p_emit m.mem m.out rs).e)/\MPost w w' xb rb m (p_emit m.mem m.out rs):=by
 obtain⟨fb,rfl,_,hf⟩:=hact;refine⟨_,_,_,rfl,ent_shw,?_⟩
 match rs,h with
 | [],h=>exact un_100 w xb rb _ _ _ h (by simp)
 | a :: r,h=>exact sh_emit w xb rb _ _ a r h hf ho
theorem do_fetch (w:World) (D:Nat->Prop) (xb rb:Nat) (m:MS) (rs:List Int) (act:Value) (hact:plainR (BD D w) 14 act) (h:MInv w xb rb m rs.reverse) (_ho:m.out.size<=300) (_hin:∀ a∈rs,In a):
  CallsV act (pt rb) w fun e w'=>e=.returned (.int .i64 (p_fetch m.mem m.out rs).e)/\MPost w w' xb rb m (p_fetch m.mem m.out rs):=by
 have hact:act=_:=hact;subst hact;refine⟨_,_,_,rfl,ent_fet,?_⟩
 match rs,h with
 | [],h=>exact un_85 w xb rb _ _ h (by simp)
 | a :: r,h=>
  simp only[p_fetch];by_cases hr:0<=a/\a < 16
  ·rw[if_pos hr];exact fe_ok w xb rb _ a r h hr.1 hr.2
  ·rw[if_neg hr];exact fe_no w xb rb _ a r h hr
theorem do_store (w:World) (D:Nat->Prop) (xb rb:Nat) (m:MS) (rs:List Int) (act:Value) (hact:plainR (BD D w) 15 act) (h:MInv w xb rb m rs.reverse) (_ho:m.out.size<=300) (_hin:∀ a∈rs,In a):
  CallsV act (pt rb) w fun e w'=>e=.returned (.int .i64 (p_store m.mem m.out rs).e)/\MPost w w' xb rb m (p_store m.mem m.out rs):=by
 have hact:act=_:=hact;subst hact;refine⟨_,_,_,rfl,ent_sto,?_⟩
 match rs,h with
 | [],h=>exact un_86 w xb rb _ _ h (by simp)
 | [_],h=>exact un_86 w xb rb _ _ h (by simp)
 | b :: a :: r,h=>
  simp only[p_store];by_cases hr:0<=b/\b < 16
  ·rw[if_pos hr];exact st_ok w xb rb _ b a r h hr.1 hr.2
  ·rw[if_neg hr];exact st_no w xb rb _ b a r h hr
theorem actM (B:Nat) (W:World) (w:World) (D:Nat->Prop) (xb rb:Nat) (m:MS) (rs:List Int) (j:Nat) (act:Value) (hact:plainR (BD D w) j act) (h:MInv w xb rb m rs.reverse) (ho:m.out.size<=300) (hin:∀ a∈rs,In a) (hS:Safe B W w xb rb m) (hG:Glo B W):
  CallsV act (pt rb) w fun e w'=>e=.returned (.int .i64 (plainP j rs m.mem m.out).e)/\MPost w w' xb rb m (plainP j rs m.mem m.out):=by
 match j,hact with
 | 0,hact=>exact do_add w D xb rb m rs act hact h ho hin
 | 1,hact=>exact do_sub w D xb rb m rs act hact h ho hin
 | 2,hact=>exact do_mul w D xb rb m rs act hact h ho hin
 | 3,hact=>exact do_quo w D xb rb m rs act hact h ho hin
 | 4,hact=>exact do_mod w D xb rb m rs act hact h ho hin
 | 5,hact=>exact do_eq w D xb rb m rs act hact h ho hin
 | 6,hact=>exact do_lt w D xb rb m rs act hact h ho hin
 | 7,hact=>exact do_dup w D xb rb m rs act hact h ho hin
 | 8,hact=>exact do_drop w D xb rb m rs act hact h ho hin
 | 9,hact=>exact do_swap w D xb rb m rs act hact h ho hin
 | 10,hact=>exact do_over w D xb rb m rs act hact h ho hin
 | 11,hact=>exact do_rot w D xb rb m rs act hact h ho hin
 | 12,hact=>exact do_dot B W w D xb rb m rs act hact h ho hin hS hG
 | 13,hact=>exact do_emit w D xb rb m rs act hact h ho hin
 | 14,hact=>exact do_fetch w D xb rb m rs act hact h ho hin
 | 15,hact=>exact do_store w D xb rb m rs act hact h ho hin
 | _+16,hact=>exact hact.elim
end
section
open Go.RowKit
theorem parseU (M:Nat) (hM:1000000000000000000<=M):∀ (l:List UInt8) (acc:Nat),l.all digB=true->(acc+1) * 10 ^ l.length<=1000000000000000000->Lib.parseUintM M acc l=.ok (l.foldl (fun n c=>10 * n+(c.toNat - 48)) acc)
 | [],acc,_,_=>rfl
 | c :: r,acc,h,hb=>by
  simp only[List.all_cons,Bool.and_eq_true] at h;have hd:=of_decide_eq_true h.1;have hp:1<=10 ^ r.length:=Nat.one_le_pow _ _ (by decide);rw[List.length_cons,Nat.pow_succ] at hb;have h10:(acc+1) * 10 * 10 ^ r.length<=1000000000000000000:=by rw[Nat.mul_assoc,Nat.mul_comm 10];exact hb
  have hle:(acc+1) * 10<=(acc+1) * 10 * 10 ^ r.length:=Nat.le_mul_of_pos_right _ hp;have hnext:(acc * 10+(c.toNat - 48)+1) * 10 ^ r.length<=1000000000000000000:=Nat.le_trans (Nat.mul_le_mul_right _ (by omega)) h10;rw[Lib.parseUintM,if_pos hd,if_neg (by omega),if_neg (by omega),parseU M hM r _ h.2 hnext,List.foldl_cons,Nat.mul_comm 10 acc]
theorem parse_digits {r:List UInt8} (h:digitsB r=true):Lib.parseUintB 64 r=.ok (valD r):=by
 simp only[digitsB,Bool.and_eq_true,decide_eq_true_eq] at h;unfold Lib.parseUintB;rw[if_neg (by intro e;subst e;simp at h),parseU _ (by decide) r 0 h.2 (by have:=pow_le18 h.1.2;omega)];rfl
theorem valD_small {r:List UInt8} (h:digitsB r=true):valD r < 1000000000000000000:=by
 simp only[digitsB,Bool.and_eq_true,decide_eq_true_eq] at h;have h1:=valD_lt r h.2;have h2:=pow_le18 h.1.2;omega
theorem parse_num {l:List UInt8} {n:Int} (h:numP l=some n):Lib.parseIntB 64 l=.ok n:=by
 cases l with
 | nil=>simp[numP] at h
 | cons c r=>
  simp only[numP] at h
  split at h
  ·rename_i hc
   split at h
   ·rename_i hd
    injection h with h;have:=valD_small hd;rw[hc,Lib.parseIntB_minus,parse_digits hd,Lib.signedC,if_neg (by simp;omega),h]
   ·cases h
  ·rename_i hc
   split at h
   ·rename_i hd
    injection h with h;have hs:=valD_small hd;have h1:digB c=true:=by
     simp only[digitsB,Bool.and_eq_true,List.all_cons] at hd;exact hd.2.1
    have h2:=of_decide_eq_true h1;rw[Lib.parseIntB_plain 64 c r (by omega) (by omega),parse_digits hd,Lib.signlessC,if_neg (by simp;omega),h]
   ·cases h
theorem kp_bytes (w:World) (t:ByteArray):Kp w (Lib.bytesWorld w 5 t) (fun _=>False):=by
 unfold Lib.bytesWorld World.freeze;rw[if_neg (by decide)];refine⟨rfl,rfl,rfl,?_,fun k hk _=>?_⟩
 ·simp
 ·show (Array.modify _ _ _)[k]? = _;rw[Array.getElem?_modify,if_neg (by simp;omega)];exact Below.heap_alloc w.drew _ k hk
theorem valueM (s:ByteArray) (n:Int) (w:World) (h:numP s.toList=some n) (hs:s.size<=1000):
  Calls Tryz.prog 70 #[.string s] w fun e w'=>e=.returned (.int .i64 n)/\Kp w w' (fun _=>False):=by
 have hP:=Tryz.strconv_ParseInt_10_at64_ok s (by omega) n (parse_num (by rw[<-ByteArray.toList_eq];exact h)) w;have HP:=hide hP;clear hP h;go_enter Tryz.func70,Tryz.ntmps70
 go_wp2_with fail
 refine HP.out.mono ?_;rintro e w1 ⟨rfl,hw⟩;have hk:Kp w w1 (fun _=>False):=by
  rcases hw with hw|⟨t,hw⟩
  ·subst hw;exact Kp.refl _ _
  ·subst hw;exact kp_bytes w t
 clear hw;go_wp2;go_ret;exact⟨rfl,hk⟩
theorem trim_cons (c:UInt8) (r:List UInt8):Lib.trimPrefix (c :: r) [45]=if c=45 then r else c :: r:=by
 by_cases hc:c=45
 ·subst hc;rw[if_pos rfl];simp[Lib.trimPrefix,Lib.hasPrefix]
 ·rw[if_neg hc];have h:Lib.hasPrefix (c :: r) [45]=false:=by
   show List.isPrefixOf [45] (c :: r)=false;simp[List.isPrefixOf,Ne.symm hc]
  unfold Lib.trimPrefix;rw[h];rfl
theorem num_trim (l:List UInt8):(numP l).isSome=digitsB (Lib.trimPrefix l [45]):=by
 cases l with
 | nil=>rfl
 | cons c r=>
  rw[trim_cons];simp only[numP];by_cases hc:c=45
  ·rw[if_pos hc,if_pos hc]
   cases digitsB r <;> rfl
  ·rw[if_neg hc,if_neg hc]
   cases digitsB (c :: r) <;> rfl
theorem isNumM (s:ByteArray) (w:World) (hs:s.size<=1000):
  Calls Tryz.prog 93 #[.string s] w fun e w'=>e=.returned (.bool (numP s.toList).isSome)/\w'=w:=by
 rw[ByteArray.toList_eq,num_trim];obtain⟨d,hd⟩:∃ d:ByteArray,d=⟨(Lib.trimPrefix s.data.toList [45]).toArray⟩:=⟨_,rfl⟩;have hdl:Lib.trimPrefix s.data.toList [45]=d.data.toList:=by rw[hd]
 rw[hdl];have hdz:d.size<=1000:=by
  have h1:(Lib.trimPrefix s.data.toList [45]).length<=s.data.toList.length:=by unfold Lib.trimPrefix;split <;> simp
  have h2:d.data.toList.length=d.size:=rfl;have h3:s.data.toList.length=s.size:=rfl;rw[hdl] at h1;omega
 have hC:=Tryz.strings_TrimPrefix s ⟨#[45]⟩ w;have HC:Hid (Calls Tryz.prog 145 #[.string s,.string ⟨#[45]⟩] w fun e w'=>e=.returned (.string d)/\w'=w):=by rw[hd];exact hC
 clear hC hd hdl;go_enter Tryz.func93,Tryz.ntmps93
 go_wp2_with fail
 refine HC.out.mono ?_;rintro e w' ⟨rfl,hw⟩;rw[hw];clear hw;by_cases hsz:1<=d.size/\d.size<=18
 ·obtain⟨hz1,hz2⟩:=hsz;go_wp2
  go_loop [17] (fun i=>∃ k:Nat,k<=d.size/\i=.int .i64 k/\(d.data.toList.take k).all digB=true) (fun i=>d.size - (intOf i).toNat)
  case atStart=>exact⟨0,Nat.zero_le _,rfl,rfl⟩
  case round=>
   obtain⟨k,hk,rfl,hall⟩:=hrel;have HA:=hide hall;clear hall;by_cases hlt:k < d.size
   ·by_cases hok:48<=d[k].toNat/\d[k].toNat<=57
    ·obtain⟨ho1,ho2⟩:=hok;go_wp2
     go_round
     case rel=>exact⟨k+1,by omega,by go_num,by rw[take_snoc d k hlt,List.all_append,HA.out];simp[digB,ho1,ho2]⟩
     case measure=>simp[intOf];omega
    ·have HB:Hid (digitsB d.data.toList=false):=digitsB_bad (l:=d.data.toList) (k:=k) hlt (decide_eq_false hok);rcases (show d[k].toNat < 48\/(48<=d[k].toNat/\57 < d[k].toNat) by omega) with h1|⟨h1,h2⟩
     all_goals
      clear hok;go_wp2;go_ret;exact⟨by rw[HB.out];rfl,rfl⟩
   ·have HB:Hid (digitsB d.data.toList=true):=by
     have h1:=HA.out;rw[List.take_of_length_le (by show d.data.size<=k;exact Nat.le_of_not_lt hlt)] at h1;unfold Hid digitsB;have h2:d.data.toList.length=d.size:=rfl;rw[h1,h2];simp[hz1,hz2]
    go_wp2;go_ret;exact⟨by rw[HB.out];rfl,rfl⟩
 ·have HB:Hid (digitsB d.data.toList=false):=by
   have h2:d.data.toList.length=d.size:=rfl;unfold Hid digitsB;rw[h2,decide_eq_false hsz];rfl
  rcases (show d.size < 1\/(1<=d.size/\18 < d.size) by omega) with h1|⟨h1,h2⟩
  all_goals
   clear hsz;go_wp2;go_ret;exact⟨by rw[HB.out];rfl,rfl⟩
end
end Go.Proofs.YteainaiebcphlaaGreatDoor
