import Derived.Test.YteainaiebcphlaaGreatDoorY5
import Derived.Test.YteainaiebcphlaaGreatDoorY3
import Derived.Test.YteainaiebcphlaaGreatDoorY4
import Derived.Deep.RegionWith
import Derived.Laws.AppendOwnNone
namespace Go.Proofs.YteainaiebcphlaaGreatDoor
set_option maxRecDepth 1000000
set_option maxHeartbeats 4000000
set_option linter.all false
section
open Go.RowKit
theorem bdQ_rec (w:World) (sb bk mb:Nat) (known:Tok->Bool) (ws:List ByteArray) (lo:Nat) (h:RdInv w sb bk mb known ws lo):
  Calls Tryz.prog 218 #[pt sb,.int .i64 32] w fun x w'=>Kp w w' (fun b=>b=sb)/\QIt w sb bk mb known lo x w' (.ok ([⟨114,0,[],[],[],[]⟩],[],texts ws)):=by
 obtain⟨rv,hB,hT⟩:=h.blk;have hsb:=hB.lt;go_enter Tryz.func218,Tryz.ntmps218;go_wp2;have hK2:Kp w (w.alloc (.cells #[.int .i64 8,.int .i64 0,.int .i64 0,.string ⟨#[]⟩,.slice none 0 0,.slice none 0 0,.slice none 0 0] 241)) (fun b=>b=sb):=(Kp.refl _ _).alloc _;have hB2:Blk (w.alloc (.cells #[.int .i64 8,.int .i64 0,.int .i64 0,.string ⟨#[]⟩,.slice none 0 0,.slice none 0 0,.slice none 0 0] 241)) sb 201 (rdArr rv bk lo):=hB.alloc _;refine bodyPost_ret (v:=.tuple #[.agg #[.int .i64 8,.int .i64 0,.int .i64 0,.string ⟨#[]⟩,.slice none 0 0,.slice none 0 0,.slice none 0 0],.int .i64 0]) (by simp[results,Tryz.results218,go_sem]) rfl ?_;exact⟨hK2,_,_,_,_,_,_,_,ws,rfl,rfl,itm_leaf 114 0 0 0 _ [] (by simp) (by simp) (by simp) (by simp),rfl,h.to hK2 rv hB2 hT h.len h.ok⟩
theorem bdQ_exit (w:World) (sb bk mb:Nat) (known:Tok->Bool) (ws:List ByteArray) (lo:Nat) (h:RdInv w sb bk mb known ws lo):
  Calls Tryz.prog 218 #[pt sb,.int .i64 33] w fun x w'=>Kp w w' (fun b=>b=sb)/\QIt w sb bk mb known lo x w' (.ok ([⟨120,0,[],[],[],[]⟩],[],texts ws)):=by
 obtain⟨rv,hB,hT⟩:=h.blk;have hsb:=hB.lt;go_enter Tryz.func218,Tryz.ntmps218;go_wp2;have hK2:Kp w (w.alloc (.cells #[.int .i64 9,.int .i64 0,.int .i64 0,.string ⟨#[]⟩,.slice none 0 0,.slice none 0 0,.slice none 0 0] 241)) (fun b=>b=sb):=(Kp.refl _ _).alloc _;have hB2:Blk (w.alloc (.cells #[.int .i64 9,.int .i64 0,.int .i64 0,.string ⟨#[]⟩,.slice none 0 0,.slice none 0 0,.slice none 0 0] 241)) sb 201 (rdArr rv bk lo):=hB.alloc _;refine bodyPost_ret (v:=.tuple #[.agg #[.int .i64 9,.int .i64 0,.int .i64 0,.string ⟨#[]⟩,.slice none 0 0,.slice none 0 0,.slice none 0 0],.int .i64 0]) (by simp[results,Tryz.results218,go_sem]) rfl ?_;exact⟨hK2,_,_,_,_,_,_,_,ws,rfl,rfl,itm_leaf 120 0 0 0 _ [] (by simp) (by simp) (by simp) (by simp),rfl,h.to hK2 rv hB2 hT h.len h.ok⟩
theorem bdQ_i (w:World) (sb bk mb:Nat) (known:Tok->Bool) (ws:List ByteArray) (lo:Nat) (h:RdInv w sb bk mb known ws lo) (hlo:0 < lo):
  Calls Tryz.prog 218 #[pt sb,.int .i64 31] w fun x w'=>Kp w w' (fun b=>b=sb)/\QIt w sb bk mb known lo x w' (.ok ([⟨105,0,[],[],[],[]⟩],[],texts ws)):=by
 obtain⟨rv,hB,hT⟩:=h.blk;have hsb:=hB.lt;have c2:w.cell? ⟨sb,2,none⟩=some (.int .i64 lo):=hB.cell rfl;go_enter Tryz.func218,Tryz.ntmps218;go_wp2;have hK2:Kp w (w.alloc (.cells #[.int .i64 7,.int .i64 0,.int .i64 0,.string ⟨#[]⟩,.slice none 0 0,.slice none 0 0,.slice none 0 0] 241)) (fun b=>b=sb):=(Kp.refl _ _).alloc _;have hB2:Blk (w.alloc (.cells #[.int .i64 7,.int .i64 0,.int .i64 0,.string ⟨#[]⟩,.slice none 0 0,.slice none 0 0,.slice none 0 0] 241)) sb 201 (rdArr rv bk lo):=hB.alloc _;refine bodyPost_ret (v:=.tuple #[.agg #[.int .i64 7,.int .i64 0,.int .i64 0,.string ⟨#[]⟩,.slice none 0 0,.slice none 0 0,.slice none 0 0],.int .i64 0]) (by simp[results,Tryz.results218,go_sem]) rfl ?_;exact⟨hK2,_,_,_,_,_,_,_,ws,rfl,rfl,itm_leaf 105 0 0 0 _ [] (by simp) (by simp) (by simp) (by simp),rfl,h.to hK2 rv hB2 hT h.len h.ok⟩
theorem bdQ_colon (w:World) (sb bk mb:Nat) (known:Tok->Bool) (ws:List ByteArray) (lo:Nat) (h:RdInv w sb bk mb known ws lo):
  Calls Tryz.prog 218 #[pt sb,.int .i64 18] w fun x w'=>Kp w w' (fun b=>b=sb)/\QIt w sb bk mb known lo x w' (.error 4):=by
 obtain⟨rv,hB,hT⟩:=h.blk;have hsb:=hB.lt;go_enter Tryz.func218,Tryz.ntmps218;go_wp2;have hK2:Kp w (w.alloc (.cells #[.int .i64 0,.int .i64 0,.int .i64 0,.string ⟨#[]⟩,.slice none 0 0,.slice none 0 0,.slice none 0 0] 241)) (fun b=>b=sb):=(Kp.refl _ _).alloc _;have hB2:Blk (w.alloc (.cells #[.int .i64 0,.int .i64 0,.int .i64 0,.string ⟨#[]⟩,.slice none 0 0,.slice none 0 0,.slice none 0 0] 241)) sb 201 (rdArr rv bk lo):=hB.alloc _;refine bodyPost_ret (v:=.tuple #[.agg #[.int .i64 0,.int .i64 0,.int .i64 0,.string ⟨#[]⟩,.slice none 0 0,.slice none 0 0,.slice none 0 0],.int .i64 4]) (by simp[results,Tryz.results218,go_sem]) rfl ?_;exact⟨hK2,by decide,_,_,_,_,_,_,_,_,_,_,_,_,_,_,rfl,hB2⟩
theorem bdQ_close (w:World) (sb bk mb:Nat) (known:Tok->Bool) (ws:List ByteArray) (lo:Nat) (h:RdInv w sb bk mb known ws lo):
  Calls Tryz.prog 218 #[pt sb,.int .i64 21] w fun x w'=>Kp w w' (fun b=>b=sb)/\QIt w sb bk mb known lo x w' (.error 4):=by
 obtain⟨rv,hB,hT⟩:=h.blk;have hsb:=hB.lt;go_enter Tryz.func218,Tryz.ntmps218;go_wp2;have hK2:Kp w (w.alloc (.cells #[.int .i64 0,.int .i64 0,.int .i64 0,.string ⟨#[]⟩,.slice none 0 0,.slice none 0 0,.slice none 0 0] 241)) (fun b=>b=sb):=(Kp.refl _ _).alloc _;have hB2:Blk (w.alloc (.cells #[.int .i64 0,.int .i64 0,.int .i64 0,.string ⟨#[]⟩,.slice none 0 0,.slice none 0 0,.slice none 0 0] 241)) sb 201 (rdArr rv bk lo):=hB.alloc _;refine bodyPost_ret (v:=.tuple #[.agg #[.int .i64 0,.int .i64 0,.int .i64 0,.string ⟨#[]⟩,.slice none 0 0,.slice none 0 0,.slice none 0 0],.int .i64 4]) (by simp[results,Tryz.results218,go_sem]) rfl ?_;exact⟨hK2,by decide,_,_,_,_,_,_,_,_,_,_,_,_,_,_,rfl,hB2⟩
theorem bdQ_i0 (w:World) (sb bk mb:Nat) (known:Tok->Bool) (ws:List ByteArray) (lo:Nat) (h:RdInv w sb bk mb known ws lo) (hlo:lo=0):
  Calls Tryz.prog 218 #[pt sb,.int .i64 31] w fun x w'=>Kp w w' (fun b=>b=sb)/\QIt w sb bk mb known lo x w' (.error 4):=by
 obtain⟨rv,hB,hT⟩:=h.blk;have hsb:=hB.lt;have c2:w.cell? ⟨sb,2,none⟩=some (.int .i64 0):=by have:w.cell? ⟨sb,2,none⟩=some (.int .i64 lo):=hB.cell rfl;rw[hlo] at this;exact this
 go_enter Tryz.func218,Tryz.ntmps218;go_wp2;have hK2:Kp w (w.alloc (.cells #[.int .i64 0,.int .i64 0,.int .i64 0,.string ⟨#[]⟩,.slice none 0 0,.slice none 0 0,.slice none 0 0] 241)) (fun b=>b=sb):=(Kp.refl _ _).alloc _;have hB2:Blk (w.alloc (.cells #[.int .i64 0,.int .i64 0,.int .i64 0,.string ⟨#[]⟩,.slice none 0 0,.slice none 0 0,.slice none 0 0] 241)) sb 201 (rdArr rv bk lo):=hB.alloc _;refine bodyPost_ret (v:=.tuple #[.agg #[.int .i64 0,.int .i64 0,.int .i64 0,.string ⟨#[]⟩,.slice none 0 0,.slice none 0 0,.slice none 0 0],.int .i64 4]) (by simp[results,Tryz.results218,go_sem]) rfl ?_;exact⟨hK2,by decide,_,_,_,_,_,_,_,_,_,_,_,_,_,_,rfl,hB2⟩
theorem itQ_bound (w:World) (sb bk mb:Nat) (known:Tok->Bool) (ws:List ByteArray) (lo:Nat) (tb:ByteArray) (K:Int) (hK:18<=K) (res:PRes) (h:RdInv w sb bk mb known ws lo)
  (hc:∀ w,RdInv w sb bk mb known ws lo->Calls Tryz.prog 218 #[pt sb,.int .i64 K] w fun x w'=>Kp w w' (fun b=>b=sb)/\QIt w sb bk mb known lo x w' res):
  Calls Tryz.prog 198 #[pt sb,.string tb,.int .i64 K] w fun x w'=>Kp w w' (fun b=>b=sb)/\QIt w sb bk mb known lo x w' res:=by
 obtain⟨rv,hB,hT⟩:=h.blk;have hsb:=hB.lt;have hcs:sb ≠ w.heap.size:=by omega
 have hka:=(Kp.refl w (fun _=>False)).alloc (.cells zIt7 241);have HC:=hide (hc _ (h.kp hka));have hZ0:=Blk.new w zIt7 241;clear hc hka;go_enter Tryz.func198,Tryz.ntmps198
 go_wp2_with fail
 refine (kindPlain _ _).mono ?_;rintro e w' ⟨rfl,hw⟩;rw[hw];clear hw;have hb:decide (2<=K/\K<=17)=false:=decide_eq_false (by omega);rw[hb]
 go_wp2_with fail
 refine HC.out.mono ?_;rintro x w2 ⟨hk2,hq⟩;have hZ:=hk2.blk hZ0 hcs.symm;have hkp:Kp w w2 (fun b=>b=sb):=((Kp.refl _ _).alloc _).trans hk2;have hsz2:w.heap.size+1<=w2.heap.size:=by have:=hk2.size;simpa using this
 obtain⟨y0,y1,y2,y3,y4,y5,y6⟩:=hZ.seven;obtain⟨z0,z1,z2,z3,z4,z5,z6⟩:=hZ.sevenF;rcases res with er|⟨xs,tt,r⟩
 ·obtain⟨her,k7,n7,pl7,nm,a1,m1,p1,a2,m2,p2,a3,m3,p3,rv2,rfl,hB1⟩:=hq;clear hk2 hZ0;go_wp2;have hC2:=hZ.set7 (.int .i64 k7) (.int .i64 n7) (.int .i64 pl7) (.string nm) (.slice a1 m1 p1) (.slice a2 m2 p2) (.slice a3 m3 p3);have hK2:=hkp.set7 (Nat.le_refl _) (.int .i64 k7) (.int .i64 n7) (.int .i64 pl7) (.string nm) (.slice a1 m1 p1) (.slice a2 m2 p2) (.slice a3 m3 p3);have hB2:=hB1.other7 hcs (.int .i64 k7) (.int .i64 n7) (.int .i64 pl7) (.string nm) (.slice a1 m1 p1) (.slice a2 m2 p2) (.slice a3 m3 p3);generalize (((((((w2.setCell ⟨w.heap.size,0,none⟩ (.int .i64 k7)).setCell ⟨w.heap.size,1,none⟩ (.int .i64 n7)).setCell ⟨w.heap.size,2,none⟩ (.int .i64 pl7)).setCell ⟨w.heap.size,3,none⟩ (.string nm)).setCell ⟨w.heap.size,4,none⟩ (.slice a1 m1 p1)).setCell ⟨w.heap.size,5,none⟩ (.slice a2 m2 p2)).setCell ⟨w.heap.size,6,none⟩ (.slice a3 m3 p3))=wf at hC2 hK2 hB2 ⊢;obtain⟨q0,q1,q2,q3,q4,q5,q6⟩:=hC2.seven;refine bodyPost_ret (v:=.tuple #[.agg #[.int .i64 k7,.int .i64 n7,.int .i64 pl7,.string nm,.slice a1 m1 p1,.slice a2 m2 p2,.slice a3 m3 p3],.int .i64 er]) (by simp[results,Tryz.results198,go_sem,q0,q1,q2,q3,q4,q5,q6]) rfl ?_;exact⟨hK2,her,_,_,_,_,_,_,_,_,_,_,_,_,_,_,rfl,hB2⟩
 ·obtain⟨x',n7,pl7,nm,tv,va,vb,ws2,rfl,rfl,hat,htx,hS2⟩:=hq;obtain⟨ws5,hr5,-⟩:=hat.toks;obtain⟨xs3,hr3,-⟩:=hat.a.out;obtain⟨xs4,hr4,-⟩:=hat.b.out;obtain⟨a3,p3,rfl⟩:=hr3.form;obtain⟨a4,p4,rfl⟩:=hr4.form;obtain⟨a5,p5,hv5⟩:=hr5.form;rw[List.length_map] at hv5;subst hv5;obtain⟨rv2,hB1,hT2⟩:=hS2.blk;have HAt:=hide hat;have HS2:=hide hS2;clear hk2 hZ0 hr3 hr4 hr5 hat hS2;go_wp2;have hk3:Kp w2 (((((((w2.setCell ⟨w.heap.size,0,none⟩ (.int .i64 (kindP x'.kind))).setCell ⟨w.heap.size,1,none⟩ (.int .i64 n7)).setCell ⟨w.heap.size,2,none⟩ (.int .i64 pl7)).setCell ⟨w.heap.size,3,none⟩ (.string nm)).setCell ⟨w.heap.size,4,none⟩ (.slice a5 ws5.length p5)).setCell ⟨w.heap.size,5,none⟩ (.slice a3 x'.a.length p3)).setCell ⟨w.heap.size,6,none⟩ (.slice a4 x'.b.length p4)) (fun b=>b=w.heap.size):=((((((((Kp.refl w2 (fun b=>b=w.heap.size)).set (a:=⟨w.heap.size,0,none⟩) (fun _=>rfl) _).set (a:=⟨w.heap.size,1,none⟩) (fun _=>rfl) _).set (a:=⟨w.heap.size,2,none⟩) (fun _=>rfl) _).set (a:=⟨w.heap.size,3,none⟩) (fun _=>rfl) _).set (a:=⟨w.heap.size,4,none⟩) (fun _=>rfl) _).set (a:=⟨w.heap.size,5,none⟩) (fun _=>rfl) _).set (a:=⟨w.heap.size,6,none⟩) (fun _=>rfl) _);have hC2:=hZ.set7 (.int .i64 (kindP x'.kind)) (.int .i64 n7) (.int .i64 pl7) (.string nm) (.slice a5 ws5.length p5) (.slice a3 x'.a.length p3) (.slice a4 x'.b.length p4);have hK2:=hkp.set7 (Nat.le_refl _) (.int .i64 (kindP x'.kind)) (.int .i64 n7) (.int .i64 pl7) (.string nm) (.slice a5 ws5.length p5) (.slice a3 x'.a.length p3) (.slice a4 x'.b.length p4);have hB2:=hB1.other7 hcs (.int .i64 (kindP x'.kind)) (.int .i64 n7) (.int .i64 pl7) (.string nm) (.slice a5 ws5.length p5) (.slice a3 x'.a.length p3) (.slice a4 x'.b.length p4);generalize (((((((w2.setCell ⟨w.heap.size,0,none⟩ (.int .i64 (kindP x'.kind))).setCell ⟨w.heap.size,1,none⟩ (.int .i64 n7)).setCell ⟨w.heap.size,2,none⟩ (.int .i64 pl7)).setCell ⟨w.heap.size,3,none⟩ (.string nm)).setCell ⟨w.heap.size,4,none⟩ (.slice a5 ws5.length p5)).setCell ⟨w.heap.size,5,none⟩ (.slice a3 x'.a.length p3)).setCell ⟨w.heap.size,6,none⟩ (.slice a4 x'.b.length p4))=wf at hC2 hK2 hB2 hk3 ⊢;obtain⟨q0,q1,q2,q3,q4,q5,q6⟩:=hC2.seven;refine bodyPost_ret (v:=.tuple #[.agg #[.int .i64 (kindP x'.kind),.int .i64 n7,.int .i64 pl7,.string nm,.slice a5 ws5.length p5,.slice a3 x'.a.length p3,.slice a4 x'.b.length p4],.int .i64 0]) (by simp[results,Tryz.results198,go_sem,q0,q1,q2,q3,q4,q5,q6]) rfl ?_;have hkc:=BD_keep (D:=New (w.alloc (.cells zIt7 241))) (D':=New w) hk3 (fun b _ hb=>by
   have hb:w.heap.size+1<=b:=by have:(w.alloc (.cells zIt7 241)).heap.size<=b:=hb;simpa using this
   exact⟨by show w.heap.size<=b;omega,by show ¬ b=w.heap.size;omega⟩)
  refine⟨hK2,x',n7,pl7,nm,_,_,_,ws2,rfl,rfl,HAt.out.mono hkc (fun _ _ h=>h.mono hkc),htx,?_⟩;have h2:=HS2.out;obtain⟨nn,DD,hm,hl⟩:=h2.book.look;have hne:∀ b t c,Blk w2 b t c->t ≠ 241->¬ b=w.heap.size:=fun b t c hb ht e=>by subst e;exact ht (hb.inj hZ).1
  have h1w:=h.sp.lt;exact⟨⟨rv2,hB2,TokAt_mono (fun b c hc=>⟨hc.1,hk3.blk hc.2 (hne b 9 c hc.2 (by decide))⟩) hT2⟩,h2.book.kp hk3 (hne bk _ _ h2.book.blk (by decide)) (fun e=>map_ne hm hZ e),h2.len,h2.ok,h2.sp.kp hk3 (by show ¬ (1:Nat)=w.heap.size;omega),h2.s1⟩
end
section
open Go.RowKit
def convR (E:List Tok):PRes->PRes
 | .error e=>.error e
 | .ok (l,t,r)=>if E.any (· == t)=true then .ok (l,t,r) else .error 4
theorem convR_cons (E:List Tok) (xs:List It) (res:PRes):convR E (consR xs res)=consR xs (convR E res):=by
 rcases res with e|⟨l,t,r⟩
 ·rfl
 ·show (if _ then _ else _)=consR xs (if _ then _ else _)
  split <;> rfl
theorem pOne_end (known:Tok->Bool) (lo:Nat) {t:Tok} (h:allEnds.any (· == t)=true):pOne known lo t=.error 4:=by
 obtain⟨x,hx,he⟩:=List.any_eq_true.1 h;have he:=beq_iff_eq.1 he;subst he;simp only[allEnds,List.mem_cons,List.mem_nil_iff,or_false] at hx;rcases hx with rfl|rfl|rfl|rfl|rfl|rfl|rfl
 all_goals
  unfold pOne
  first
   | rw[show numP kSemi=none by decide]
   | rw[show numP kElse=none by decide]
   | rw[show numP kThen=none by decide]
   | rw[show numP kUntil=none by decide]
   | rw[show numP kWhile=none by decide]
   | rw[show numP kRepeat=none by decide]
   | rw[show numP kLoop=none by decide]
  dsimp only;rw[if_neg (by decide),if_neg (fun e=>absurd e.1 (by decide)),if_neg (by decide),if_neg (by decide),if_pos (by decide)]
theorem not_long_end {t:Tok} (h:allEnds.any (· == t)=true):¬ longT t:=by
 rintro (rfl|rfl|rfl|rfl) <;> revert h <;> decide
theorem pB_run {known:Tok->Bool} {g lo:Nat} {ends:List Tok} {t:Tok} {r:List Tok} (h:ends.any (· == t)=false) {xs:List It} {t1:Tok} {r2:List Tok} {res:PRes} (h1:pRead known g ⟨true,lo,[],t⟩ r=some (.ok (xs,t1,r2))) (h2:pRead known g ⟨false,lo,ends,[]⟩ r2=some res):
  pRead known (g+1) ⟨false,lo,ends,[]⟩ (t :: r)=some (consR xs res):=by
 rw[pRead.eq_def];simp only[h,Bool.false_eq_true,if_false,if_true,h1,h2];rcases res with e|⟨l,t',r'⟩ <;> rfl
theorem pB_err {known:Tok->Bool} {g lo:Nat} {ends:List Tok} {t:Tok} {r:List Tok} (h:ends.any (· == t)=false) {e:Int} (h1:pRead known g ⟨true,lo,[],t⟩ r=some (.error e)):
  pRead known (g+1) ⟨false,lo,ends,[]⟩ (t :: r)=some (.error e):=by
 rw[pRead.eq_def];simp only[h,Bool.false_eq_true,if_false,if_true,h1]
theorem pEnds (known:Tok->Bool) (E:List Tok) (hE:∀ t,E.any (· == t)=true->allEnds.any (· == t)=true) (lo:Nat):∀ (g:Nat) (r:List Tok) (res:PRes),pRead known g ⟨false,lo,E,[]⟩ r=some res->∃ res',pRead known g ⟨false,lo,allEnds,[]⟩ r=some res'/\res=convR E res'
 | 0,_,_,h=>by rw[pB0] at h;cases h
 | g+1,[],res,h=>by
  rw[pB_nil] at h;injection h with h;exact⟨.error 4,pB_nil _ _ _ _,h.symm⟩
 | g+1,t :: r,res,h=>by
  cases h1:E.any (· == t)
  ·rcases pB_go _ _ _ _ _ _ h1 _ h with⟨e,hi,hr⟩|⟨xs,t1,r2,res2,hi,h2,hr⟩
   ·cases h2:allEnds.any (· == t)
    ·exact⟨.error e,pB_err h2 hi,hr⟩
    ·refine⟨.ok ([],t,r),pB_stop _ _ _ _ _ _ h2,?_⟩
     cases g with
     | zero=>cases hi
     | succ g=>
      rw[pI_one _ _ _ _ _ (not_long_end h2),pOne_end _ _ h2] at hi;injection hi with hi;injection hi with hi;rw[hr,<-hi];show _=(if _ then _ else _);rw[if_neg (by rw[h1];decide)]
   ·cases h3:allEnds.any (· == t)
    ·obtain⟨res',h4,h5⟩:=pEnds known E hE lo g r2 res2 h2;exact⟨consR xs res',pB_run h3 hi h4,by rw[hr,h5,convR_cons]⟩
    ·exfalso
     cases g with
     | zero=>cases hi
     | succ g=>
      rw[pI_one _ _ _ _ _ (not_long_end h3),pOne_end _ _ h3] at hi
      cases hi
  ·rw[pB_stop _ _ _ _ _ _ h1] at h;injection h with h;refine⟨.ok ([],t,r),pB_stop _ _ _ _ _ _ (hE t h1),?_⟩;rw[<-h];show _=(if _ then _ else _);rw[if_pos h1]
theorem sub_ends {E:List Tok} (h:∀ x∈E,x∈allEnds):∀ t,E.any (· == t)=true->allEnds.any (· == t)=true:=by
 intro t ht;obtain⟨x,hx,he⟩:=List.any_eq_true.1 ht;exact List.any_eq_true.2 ⟨x,h x hx,he⟩
theorem ok_ends {known:Tok->Bool}:∀ (g lo:Nat) (r:List Tok) (l:List It) (t:Tok) (r':List Tok),pRead known g ⟨false,lo,allEnds,[]⟩ r=some (.ok (l,t,r'))->allEnds.any (· == t)=true
 | 0,_,_,_,_,_,h=>by rw[pB0] at h;cases h
 | g+1,lo,[],_,_,_,h=>by rw[pB_nil] at h;cases h
 | g+1,lo,t0 :: r,l,t,r',h=>by
  cases h1:allEnds.any (· == t0)
  ·rcases pB_go _ _ _ _ _ _ h1 _ h with⟨e,hi,hr⟩|⟨xs,t1,r2,res2,hi,h2,hr⟩
   ·cases hr
   ·rcases res2 with e|⟨l2,t2,r3⟩
    ·cases hr
    ·have hr:Except.ok (l,t,r')=Except.ok (xs ++ l2,t2,r3):=hr;injection hr with hr;injection hr with _ hr;injection hr with hr _;subst hr;exact ok_ends g lo r2 l2 t r3 h2
  ·rw[pB_stop _ _ _ _ _ _ h1] at h;injection h with h;injection h with h;injection h with _ h;injection h with h _;subst h;exact h1
end
section
open Go.RowKit
theorem end_kind0 {t:Tok} (h:allEnds.any (· == t)=true):kindN t ≠ 0:=by
 obtain⟨x,hx,he⟩:=List.any_eq_true.1 h;have he:=beq_iff_eq.1 he;subst he;simp only[allEnds,List.mem_cons,List.mem_nil_iff,or_false] at hx;rcases hx with rfl|rfl|rfl|rfl|rfl|rfl|rfl <;> decide
theorem kind_same {t k:Tok} (h:allEnds.any (· == t)=true) (hk:kindN t=kindN k):t=k:=by
 have h1:=kindN_at rfl (end_kind0 h);have h2:=kindN_at (l:=k) rfl (by rw[<-hk];exact end_kind0 h);rw[hk,h2] at h1;exact (Option.some.inj h1).symm
theorem convR_in {E:List Tok} {l:List It} {t:Tok} {r:List Tok} (h:E.any (· == t)=true):convR E (.ok (l,t,r))=.ok (l,t,r):=if_pos h
theorem convR_out {E:List Tok} {l:List It} {t:Tok} {r:List Tok} (h:E.any (· == t)=false):convR E (.ok (l,t,r))=.error 4:=if_neg (by rw[h];decide)
def QUp (w:World) (sb bk mb:Nat) (known:Tok->Bool) (lo:Nat) (x:Ending) (w':World):PRes->Prop
 | .ok (l,_,r)=>∃ v ws',x=.returned (.tuple #[v,.int .i64 0])/\Items (BD (New w) w') v l/\texts ws'=r/\RdInv w' sb bk mb known ws' lo
 | .error e=>e ≠ 0/\∃ a m p rv,x=.returned (.tuple #[.slice a m p,.int .i64 e])/\Blk w' sb 201 (rdArr rv bk lo)
theorem upToQ (g:Nat) (hB:QBody g) (w:World) (sb bk mb:Nat) (known:Tok->Bool) (ws:List ByteArray) (lo:Nat) (k0:Tok) (W:Int) (hW:W=(kindN k0:Int)) (hk0:k0∈allEnds) (res:PRes) (hres:pRead known g ⟨false,lo,[k0],[]⟩ (texts ws)=some res) (h:RdInv w sb bk mb known ws lo):
  Calls Tryz.prog 155 #[pt sb,.int .i64 W] w fun x w'=>Kp w w' (fun b=>b=sb)/\QUp w sb bk mb known lo x w' res:=by
 obtain⟨res',hr',rfl⟩:=pEnds known [k0] (sub_ends (by simpa using hk0)) lo g _ _ hres;have HB:=hide (hB w sb bk mb known ws lo res' hr' h);have HW:=hide hW;clear hB hres hW;go_enter Tryz.func155,Tryz.ntmps155
 go_wp2_with fail
 refine HB.out.mono ?_;rintro x w1 ⟨hk1,hq⟩;rcases res' with er|⟨l,t,r⟩
 ·obtain⟨her,rv,rfl,hB1⟩:=hq;have he0:(er == 0)=false:=by simpa using her
  go_wp2;go_ret2;exact⟨hk1,her,none,0,0,rv,rfl,hB1⟩
 ·obtain⟨v,ws',rfl,hI,htx,hS⟩:=hq;have hte:=ok_ends _ _ _ _ _ _ hr';obtain⟨xs,hrow,-⟩:=hI.out;obtain⟨a,p,rfl⟩:=hrow.form;obtain⟨rv,hB1,-⟩:=hS.blk;obtain⟨T,hT⟩:∃ T:Int,T=(kindN t:Int):=⟨_,rfl⟩;rw[<-hT];have HT:=hide hT;have HI:=hide hI;have HS:=hide hS;clear hT hI hS hrow hr' HB;by_cases htk:t=k0
  ·have hTW:(T == W)=true:=by rw[HT.out,HW.out,htk];simp
   go_wp2;go_ret2;refine⟨hk1,?_⟩;rw[convR_in (by simp[htk])];exact⟨_,ws',rfl,HI.out,htx,HS.out⟩
  ·have hTW:(T == W)=false:=by
    rw[beq_eq_false_iff_ne,HT.out,HW.out];exact fun e=>htk (kind_same hte (by omega))
   go_wp2;go_ret2;refine⟨hk1,?_⟩;rw[convR_out (by simpa using fun e=>htk e.symm)];exact⟨by decide,a,l.length,p,rv,rfl,hB1⟩
end
section
open Go.RowKit
abbrev fStep (b:Nat):Value:=.func (.func 219) #[] #[pt b]
abbrev fDeep (b:Nat):Value:=.func (.func 157) #[] #[pt b]
def callS (M:Mem) (bk:Nat) (name:Tok) (c:Value):Prop:=
 ∃ ab db bb nb nm,c=fStep ab/\M ab 125 #[fDeep db]/\M db 125 #[.func (.func 120) #[] #[pt bb,pt nb]]/\M bb 78 #[pt bk]/\M nb 9 #[.string nm]/\nm.data.toList=name/\nm.size<=1000
def callB (M:Mem) (R:Nat->Fr->Prop) (bk:Nat) (P:Nat->Value->List It->Prop) (name:Tok) (c:Value):Prop:=
 ∃ pb cb bb ab o2 f va cv,c=.func (.func 247) #[] #[pt pb,pt cb,pt bb,pt ab]/\M pb 107 #[pt o2]/\M cb 243 #[cv]/\callS M bk name cv/\M bb 78 #[pt bk]/\M ab 109 #[va]/\R o2 f/\f.name=name/\P o2 va f.body
def callR (M:Mem) (R:Nat->Fr->Prop) (bk:Nat) (P:Nat->Value->List It->Prop) (name:Tok) (c:Value):Prop:=callS M bk name c\/callB M R bk P name c
theorem callS_mono {M M':Mem} (h:∀ b t c,M b t c->M' b t c) {bk:Nat} {name:Tok} {c:Value} (hr:callS M bk name c):callS M' bk name c:=by
 obtain⟨ab,db,bb,nb,nm,h1,h2,h3,h4,h5,h6⟩:=hr;exact⟨ab,db,bb,nb,nm,h1,h _ _ _ h2,h _ _ _ h3,h _ _ _ h4,h _ _ _ h5,h6⟩
theorem callR_mono {M M':Mem} {R R':Nat->Fr->Prop} {P P':Nat->Value->List It->Prop} (h:∀ b t c,M b t c->M' b t c) (hR:∀ o f,R o f->R' o f) (hp:∀ o v l,P o v l->P' o v l) {bk:Nat} {name:Tok} {c:Value} (hr:callR M R bk P name c):callR M' R' bk P' name c:=by
 rcases hr with hr|⟨pb,cb,bb,ab,o2,f,va,cv,h1,h2,h3,h4,h5,h6,h7,h8,h9⟩
 ·exact .inl (callS_mono h hr)
 ·exact .inr ⟨pb,cb,bb,ab,o2,f,va,cv,h1,h _ _ _ h2,h _ _ _ h3,callS_mono h h4,h _ _ _ h5,h _ _ _ h6,hR _ _ h7,h8,hp _ _ _ h9⟩
def actR (M:Mem) (R:Nat->Fr->Prop) (bk ob:Nat) (P:Nat->Value->List It->Prop) (x:It) (c:Value):Prop:=
 (x.kind=110/\In x.n/\∃ ab nb,c=fStep ab/\M ab 125 #[.func (.func 95) #[] #[pt nb]]/\M nb 2 #[.int .i64 x.n]) \/
 (x.kind=112/\∃ ab act j,c=fStep ab/\M ab 125 #[act]/\plainR M j act/\plainL.findIdx? (· == x.name)=some j) \/
 (x.kind=99/\callR M R bk P x.name c) \/
 (x.kind=63/\∃ b1 b2 va vb,c=.func (.func 222) #[] #[pt b1,pt b2]/\M b1 109 #[va]/\M b2 109 #[vb]/\P ob va x.a/\P ob vb x.b) \/
 (x.kind=117/\∃ b1 va,c=.func (.func 224) #[] #[pt b1]/\M b1 109 #[va]/\P ob va x.a) \/
 (x.kind=119/\∃ b1 b2 va vb,c=.func (.func 225) #[] #[pt b1,pt b2]/\M b1 109 #[va]/\M b2 109 #[vb]/\P ob va x.a/\P ob vb x.b) \/
 (x.kind=100/\∃ b1 va,c=.func (.func 226) #[] #[pt b1]/\M b1 109 #[va]/\P ob va x.a) \/
 (x.kind=105/\c=.func (.func 205) #[] #[]) \/
 (x.kind=114/\∃ ab db bb wb,c=fStep ab/\M ab 125 #[fDeep db]/\M db 125 #[.func (.func 229) #[] #[pt bb,pt wb]]/\M bb 78 #[pt bk]/\M wb 107 #[pt ob]) \/
 (x.kind=120/\c=.func (.func 208) #[] #[]) \/
 (x.kind=123/\∃ ab db bb tb tv ws,c=fStep ab/\M ab 125 #[fDeep db]/\M db 125 #[.func (.func 230) #[] #[pt bb,pt tb]]/\M bb 78 #[pt bk]/\M tb 47 #[tv]/\rowM M 9 tv (ws.map Value.string)/\texts ws=x.toks/\(∀ t∈ws,okW t)/\ws.length<=1000)
theorem actR_mono {M M':Mem} {R R':Nat->Fr->Prop} {bk ob:Nat} {P P':Nat->Value->List It->Prop} (h:∀ b t c,M b t c->M' b t c) (hR:∀ o f,R o f->R' o f) (hp:∀ o v l,P o v l->P' o v l) {x:It} {c:Value} (hr:actR M R bk ob P x c):actR M' R' bk ob P' x c:=by
 unfold actR at hr ⊢;rcases hr with⟨k,i,ab,nb,h1,h2,h3⟩|⟨k,ab,act,j,h1,h2,h3,h4⟩|⟨k,h1⟩|⟨k,b1,b2,va,vb,h1,h2,h3,h4,h5⟩|⟨k,b1,va,h1,h2,h3⟩|⟨k,b1,b2,va,vb,h1,h2,h3,h4,h5⟩|⟨k,b1,va,h1,h2,h3⟩|hr|⟨k,ab,db,bb,wb,h1,h2,h3,h4,h5⟩|hr|⟨k,ab,db,sb,tb,tv,ws,h1,h2,h3,h4,h5,h6,h7⟩
 ·exact .inl ⟨k,i,ab,nb,h1,h _ _ _ h2,h _ _ _ h3⟩
 ·exact .inr (.inl ⟨k,ab,act,j,h1,h _ _ _ h2,plainR_mono h h3,h4⟩)
 ·exact .inr (.inr (.inl ⟨k,callR_mono h hR hp h1⟩))
 ·exact .inr (.inr (.inr (.inl ⟨k,b1,b2,va,vb,h1,h _ _ _ h2,h _ _ _ h3,hp _ _ _ h4,hp _ _ _ h5⟩)))
 ·exact .inr (.inr (.inr (.inr (.inl ⟨k,b1,va,h1,h _ _ _ h2,hp _ _ _ h3⟩))))
 ·exact .inr (.inr (.inr (.inr (.inr (.inl ⟨k,b1,b2,va,vb,h1,h _ _ _ h2,h _ _ _ h3,hp _ _ _ h4,hp _ _ _ h5⟩)))))
 ·exact .inr (.inr (.inr (.inr (.inr (.inr (.inl ⟨k,b1,va,h1,h _ _ _ h2,hp _ _ _ h3⟩))))))
 ·exact .inr (.inr (.inr (.inr (.inr (.inr (.inr (.inl hr)))))))
 ·exact .inr (.inr (.inr (.inr (.inr (.inr (.inr (.inr (.inl ⟨k,ab,db,bb,wb,h1,h _ _ _ h2,h _ _ _ h3,h _ _ _ h4,h _ _ _ h5⟩))))))))
 ·exact .inr (.inr (.inr (.inr (.inr (.inr (.inr (.inr (.inr (.inl hr)))))))))
 ·exact .inr (.inr (.inr (.inr (.inr (.inr (.inr (.inr (.inr (.inr ⟨k,ab,db,sb,tb,tv,ws,h1,h _ _ _ h2,h _ _ _ h3,h _ _ _ h4,h _ _ _ h5,rowM_mono h h6,h7⟩)))))))))
def actsL (P:It->Value->Prop):List It->List Value->Prop
 | [],cs=>cs=[]
 | x :: l,cs=>∃ c r,cs=c :: r/\P x c/\actsL P l r
theorem actsL_imp {P P':It->Value->Prop} (h:∀ x c,P x c->P' x c):∀ (l:List It) (cs:List Value),actsL P l cs->actsL P' l cs
 | [],_,h0=>h0
 | _ :: l,_,⟨c,r,h1,h2,h3⟩=>⟨c,r,h1,h _ _ h2,actsL_imp h l r h3⟩
theorem actsL_len {P:It->Value->Prop}:∀ (l:List It) (cs:List Value),actsL P l cs->cs.length=l.length
 | [],_,h=>by have h:_=_:=h;subst h;rfl
 | _ :: l,_,⟨c,r,h1,_,h3⟩=>by rw[h1];simp[actsL_len l r h3]
theorem actsL_app {P:It->Value->Prop}:∀ (l l':List It) (cs cs':List Value),actsL P l cs->actsL P l' cs'->actsL P (l ++ l') (cs ++ cs')
 | [],_,_,_,h,h'=>by have h:_=_:=h;subst h;exact h'
 | _ :: l,l',_,cs',⟨c,r,h1,h2,h3⟩,h'=>⟨c,r ++ cs',by rw[h1];rfl,h2,actsL_app l l' r cs' h3 h'⟩
theorem actsL_at {P:It->Value->Prop}:∀ (l:List It) (cs:List Value),actsL P l cs->∀ i (h:i < l.length),∃ c,cs[i]? = some c/\P l[i] c
 | [],_,_,i,h=>absurd h (by simp)
 | _ :: l,_,⟨c,r,h1,h2,h3⟩,0,h=>⟨c,by rw[h1];rfl,h2⟩
 | _ :: l,_,⟨c,r,h1,h2,h3⟩,i+1,h=>by
  obtain⟨c',h4,h5⟩:=actsL_at l r h3 i (by simpa using h);exact⟨c',by rw[h1];simpa using h4,h5⟩
def actsIn (M:Mem) (R:Nat->Fr->Prop) (bk:Nat):Nat->Nat->Value->List It->Prop
 | 0,_,_,_=>False
 | g+1,ob,v,l=>∃ cs,rowM M 243 v cs/\actsL (actR M R bk ob (actsIn M R bk g)) l cs
def Acts (M:Mem) (R:Nat->Fr->Prop) (bk ob:Nat) (v:Value) (l:List It):Prop:=∃ g,actsIn M R bk g ob v l
theorem actsIn_mono {M M':Mem} {R R':Nat->Fr->Prop} {bk:Nat} (h:∀ b t c,M b t c->M' b t c) (hR:∀ o f,R o f->R' o f):∀ (g ob:Nat) (v:Value) (l:List It),actsIn M R bk g ob v l->actsIn M' R' bk g ob v l
 | 0,_,_,_,h0=>h0
 | g+1,_,_,_,⟨cs,h1,h2⟩=>⟨cs,rowM_mono h h1,actsL_imp (fun _ _=>actR_mono h hR (actsIn_mono h hR g)) _ _ h2⟩
theorem actsIn_succ {M:Mem} {R:Nat->Fr->Prop} {bk:Nat}:∀ (g ob:Nat) (v:Value) (l:List It),actsIn M R bk g ob v l->actsIn M R bk (g+1) ob v l
 | 0,_,_,_,h=>h.elim
 | g+1,_,_,_,⟨cs,h1,h2⟩=>⟨cs,h1,actsL_imp (fun _ _=>actR_mono (fun _ _ _ h=>h) (fun _ _ h=>h) (actsIn_succ g)) _ _ h2⟩
theorem actsIn_le {M:Mem} {R:Nat->Fr->Prop} {bk ob g g':Nat} (hg:g<=g') {v:Value} {l:List It} (h:actsIn M R bk g ob v l):actsIn M R bk g' ob v l:=by
 induction hg with
 | refl=>exact h
 | step _ ih=>exact actsIn_succ _ _ _ _ ih
theorem Acts.mono {M M':Mem} {R R':Nat->Fr->Prop} {bk ob:Nat} (h:∀ b t c,M b t c->M' b t c) (hR:∀ o f,R o f->R' o f) {v:Value} {l:List It} (hi:Acts M R bk ob v l):Acts M' R' bk ob v l:=by
 obtain⟨g,hg⟩:=hi;exact⟨g,actsIn_mono h hR g ob v l hg⟩
theorem actR_lift {M:Mem} {R:Nat->Fr->Prop} {bk ob:Nat} {x:It} {c:Value} (hr:actR M R bk ob (Acts M R bk) x c):∃ g,actR M R bk ob (actsIn M R bk g) x c:=by
 unfold actR at hr;rcases hr with hr|hr|⟨k,hr|⟨pb,cb,bb,ab,o2,f,va,cv,h1,h2,h3,h4,h5,h6,h7,h8,⟨g,h9⟩⟩⟩|⟨k,b1,b2,va,vb,h1,h2,h3,⟨g1,h4⟩,⟨g2,h5⟩⟩|⟨k,b1,va,h1,h2,⟨g1,h3⟩⟩|⟨k,b1,b2,va,vb,h1,h2,h3,⟨g1,h4⟩,⟨g2,h5⟩⟩|⟨k,b1,va,h1,h2,⟨g1,h3⟩⟩|hr|hr|hr|hr
 ·exact⟨0,.inl hr⟩
 ·exact⟨0,.inr (.inl hr)⟩
 ·exact⟨0,.inr (.inr (.inl ⟨k,.inl hr⟩))⟩
 ·exact⟨g,.inr (.inr (.inl ⟨k,.inr ⟨pb,cb,bb,ab,o2,f,va,cv,h1,h2,h3,h4,h5,h6,h7,h8,h9⟩⟩))⟩
 ·exact⟨g1+g2,.inr (.inr (.inr (.inl ⟨k,b1,b2,va,vb,h1,h2,h3,actsIn_le (by omega) h4,actsIn_le (by omega) h5⟩)))⟩
 ·exact⟨g1,.inr (.inr (.inr (.inr (.inl ⟨k,b1,va,h1,h2,h3⟩))))⟩
 ·exact⟨g1+g2,.inr (.inr (.inr (.inr (.inr (.inl ⟨k,b1,b2,va,vb,h1,h2,h3,actsIn_le (by omega) h4,actsIn_le (by omega) h5⟩)))))⟩
 ·exact⟨g1,.inr (.inr (.inr (.inr (.inr (.inr (.inl ⟨k,b1,va,h1,h2,h3⟩))))))⟩
 ·exact⟨0,.inr (.inr (.inr (.inr (.inr (.inr (.inr (.inl hr)))))))⟩
 ·exact⟨0,.inr (.inr (.inr (.inr (.inr (.inr (.inr (.inr (.inl hr))))))))⟩
 ·exact⟨0,.inr (.inr (.inr (.inr (.inr (.inr (.inr (.inr (.inr (.inl hr)))))))))⟩
 ·exact⟨0,.inr (.inr (.inr (.inr (.inr (.inr (.inr (.inr (.inr (.inr hr)))))))))⟩
theorem actsL_lift {M:Mem} {R:Nat->Fr->Prop} {bk ob:Nat}:∀ (l:List It) (cs:List Value),actsL (actR M R bk ob (Acts M R bk)) l cs->∃ g,actsL (actR M R bk ob (actsIn M R bk g)) l cs
 | [],_,h=>⟨0,h⟩
 | _ :: l,_,⟨c,r,h1,h2,h3⟩=>by
  obtain⟨g1,h2⟩:=actR_lift h2;obtain⟨g2,h3⟩:=actsL_lift l r h3;exact⟨g1+g2,c,r,h1,actR_mono (fun _ _ _ h=>h) (fun _ _ h=>h) (fun _ _ _=>actsIn_le (by omega)) h2,actsL_imp (fun _ _=>actR_mono (fun _ _ _ h=>h) (fun _ _ h=>h) (fun _ _ _=>actsIn_le (by omega))) _ _ h3⟩
theorem Acts.of {M:Mem} {R:Nat->Fr->Prop} {bk ob:Nat} {v:Value} {l:List It} {cs:List Value} (h1:rowM M 243 v cs) (h2:actsL (actR M R bk ob (Acts M R bk)) l cs):Acts M R bk ob v l:=by
 obtain⟨g,h⟩:=actsL_lift l cs h2;exact⟨g+1,cs,h1,h⟩
theorem Acts.out {M:Mem} {R:Nat->Fr->Prop} {bk ob:Nat} {v:Value} {l:List It} (h:Acts M R bk ob v l):∃ cs,rowM M 243 v cs/\actsL (actR M R bk ob (Acts M R bk)) l cs:=by
 obtain⟨g,h⟩:=h
 cases g with
 | zero=>exact h.elim
 | succ g=>
  obtain⟨cs,h1,h2⟩:=h;exact⟨cs,h1,actsL_imp (fun _ _=>actR_mono (fun _ _ _ h=>h) (fun _ _ h=>h) (fun _ _ _ h=>⟨g,h⟩)) _ _ h2⟩
theorem Acts.form {M:Mem} {R:Nat->Fr->Prop} {bk ob:Nat} {v:Value} {l:List It} (h:Acts M R bk ob v l):∃ ao cap,v=.slice ao l.length cap:=by
 obtain⟨cs,h1,h2⟩:=h.out;obtain⟨ao,cap,rfl⟩:=h1.form;exact⟨ao,cap,by rw[actsL_len _ _ h2]⟩
end
section
open Go.RowKit
theorem St.step_steps (s:St):s.step.steps=s.steps+1:=by unfold St.step;split <;> rfl
theorem St.step_depth (s:St):s.step.depth=s.depth:=by unfold St.step;split <;> rfl
theorem St.put_steps (s:St) (n:Int):(s.put n).steps=s.steps:=by unfold St.put;split <;> rfl
theorem St.put_depth (s:St) (n:Int):(s.put n).depth=s.depth:=by unfold St.put;split <;> rfl
theorem St.word_steps (s:St) (k:Nat):(s.word k).steps=s.steps:=rfl
theorem St.word_depth (s:St) (k:Nat):(s.word k).depth=s.depth:=rfl
theorem St.err_steps (s:St) (k:Int):(s.err k).steps=s.steps:=rfl
theorem St.err_depth (s:St) (k:Int):(s.err k).depth=s.depth:=rfl
theorem St.set_steps (s:St) (t:Tok) (b:List It):(s.set t b).steps=s.steps:=rfl
theorem St.set_depth (s:St) (t:Tok) (b:List It):(s.set t b).depth=s.depth:=rfl
theorem St.test_steps (s:St):s.test.1.steps=s.steps+1:=by
 unfold St.test;split
 ·split
  ·exact s.step_steps
  ·exact s.step_steps
 ·exact s.step_steps
theorem St.test_depth (s:St):s.test.1.depth=s.depth:=by
 unfold St.test;split
 ·split
  ·exact s.step_depth
  ·exact s.step_depth
 ·exact s.step_depth
theorem St.count_keep {g:Nat} {s s':St} {k:Nat} (h:s.count g k=some s'):s'.depth=s.depth/\s'.steps=s.steps:=by
 unfold St.count at h
 repeat' split at h
 all_goals first
  | (cases h;done)
  | (injection h with h;subst h;exact⟨rfl,rfl⟩)
theorem entered_keep {g:Nat} {s s':St} {o:Option Nat} {i:Int} (h:(match o with|none=>some s|some k=>match s.defs[k]? with|none=>none|some d=>if d.id=i then s.count g k else some s)=some s'):s'.depth=s.depth/\s'.steps=s.steps:=by
 repeat' split at h
 all_goals first
  | (cases h;done)
  | (injection h with h;subst h;exact⟨rfl,rfl⟩)
  | exact St.count_keep h
def Kee (s s':St):Prop:=s'.depth=s.depth/\s.steps<=s'.steps
section
variable (g:Nat) (f:Fr) (lp:List Int) (s:St)
theorem x_nil:xRun (g+1) (jBody f lp []) s=some (s,false):=rfl
theorem x_cons (x:It) (l:List It):xRun (g+1) (jBody f lp (x :: l)) s=match xRun g (jItem f lp x) s with
  | none=>none
  | some (s1,left)=>if left=true\/s1.e ≠ 0 then some (s1,true) else xRun g (jBody f lp l) s1:=rfl
theorem x_if (x:It) (h:x.kind=63):xRun (g+1) (jItem f lp x) s=if s.test.1.e ≠ 0 then some (s.test.1,true) else if s.test.2=true then xRun g (jBody f lp x.a) s.test.1 else xRun g (jBody f lp x.b) s.test.1:=by
 conv=>lhs;unfold xRun
 rw[if_neg (show ¬ (jItem f lp x).what=0 from (by decide:¬ (1:Nat)=0)),if_pos (show (jItem f lp x).what=1 from rfl),if_pos (show (jItem f lp x).x.kind=63 from h)];rfl
theorem x_until (x:It) (h:x.kind=117):xRun (g+1) (jItem f lp x) s=match xRun g (jBody f lp x.a) s with
  | none=>none
  | some (s1,left)=>if left=true then some (s1,true) else
   if s1.test.1.e ≠ 0 then some (s1.test.1,true) else if s1.test.2=true then some (s1.test.1,false) else xRun g (jItem f lp x) s1.test.1:=by
 conv=>lhs;unfold xRun
 rw[if_neg (show ¬ (jItem f lp x).what=0 from (by decide:¬ (1:Nat)=0)),if_pos (show (jItem f lp x).what=1 from rfl),if_neg (show ¬ (jItem f lp x).x.kind=63 from (by omega:¬ x.kind=63)),if_pos (show (jItem f lp x).x.kind=117 from h)];rfl
theorem x_while (x:It) (h:x.kind=119):xRun (g+1) (jItem f lp x) s=match xRun g (jBody f lp x.a) s with
  | none=>none
  | some (s1,left)=>if left=true then some (s1,true) else
   if s1.test.1.e ≠ 0 then some (s1.test.1,true) else if s1.test.2=false then some (s1.test.1,false) else
    match xRun g (jBody f lp x.b) s1.test.1 with
    | none=>none
    | some (s3,left3)=>if left3=true then some (s3,true) else xRun g (jItem f lp x) s3:=by
 conv=>lhs;unfold xRun
 rw[if_neg (show ¬ (jItem f lp x).what=0 from (by decide:¬ (1:Nat)=0)),if_pos (show (jItem f lp x).what=1 from rfl),if_neg (show ¬ (jItem f lp x).x.kind=63 from (by omega:¬ x.kind=63)),if_neg (show ¬ (jItem f lp x).x.kind=117 from (by omega:¬ x.kind=117)),if_pos (show (jItem f lp x).x.kind=119 from h)];rfl
def xOne (x:It) (s:St):Option (St × Bool):=
 if x.kind=110 then some (s.put x.n,decide ((s.put x.n).e ≠ 0))
 else if x.kind=112 then
  match plainL.findIdx? (· == x.name) with
  | none=>none
  | some k=>some (s.word k,decide ((s.word k).e ≠ 0))
 else if x.kind=105 then
  match lp with
  | []=>none
  | i :: _=>some (s.put i,decide ((s.put i).e ≠ 0))
 else if x.kind=120 then some (s,true)
 else if x.kind=114 then
  match xRun g (jEnter f) s with
  | none=>none
  | some (s2,_)=>some (s2,decide (s2.e ≠ 0))
 else if x.kind=99 then
  match xRun g (jCall x.name) s with
  | none=>none
  | some (s2,_)=>some (s2,decide (s2.e ≠ 0))
 else if x.kind=123 then
  if 20<=s.depth then some (s.err 8,true) else
  match xRun g (jToks x.toks) { s with depth:=s.depth+1 } with
  | none=>none
  | some (s2,_)=>some ({ s2 with depth:=s2.depth - 1 },decide (s2.e ≠ 0))
 else if x.kind=100 then
  match s.rs with
  | b :: m :: r=>xRun g (jDo f lp b m x.a) { s with rs:=r }
  | _=>some (s.err 6,true)
 else none
theorem x_one (x:It) (h1:¬ x.kind=63) (h2:¬ x.kind=117) (h3:¬ x.kind=119):xRun (g+1) (jItem f lp x) s=if s.step.e ≠ 0 then some (s.step,true) else xOne g f lp x s.step:=by
 conv=>lhs;unfold xRun
 rw[if_neg (show ¬ (jItem f lp x).what=0 from (by decide:¬ (1:Nat)=0)),if_pos (show (jItem f lp x).what=1 from rfl),if_neg (show ¬ (jItem f lp x).x.kind=63 from h1),if_neg (show ¬ (jItem f lp x).x.kind=117 from h2),if_neg (show ¬ (jItem f lp x).x.kind=119 from h3)];rfl
theorem x_do (n m:Int) (l:List It):xRun (g+1) (jDo f lp n m l) s=if n < m then
        if s.step.e ≠ 0 then some (s.step,true) else
        match xRun g (jBody f (n :: lp) l) s.step with
        | none=>none
        | some (s2,left)=>if left=true then some (s2,true) else xRun g (jDo f lp (n+1) m l) s2
      else some (s,false):=rfl
def xCome (s:St):Option St:=match s.find f.name with
 | none=>some s
 | some k=>match s.defs[k]? with
  | none=>none
  | some d=>if d.id=f.id then s.count g k else some s
theorem x_enter:xRun (g+1) (jEnter f) s=if 20<=s.depth then some (s.err 8,true) else
      match xCome g f s with
      | none=>none
      | some s1=>match xRun g (jBody f [] f.body) { s1 with depth:=s1.depth+1 } with
        | none=>none
        | some (s2,_)=>some ({ s2 with depth:=s2.depth - 1 },false):=rfl
theorem x_call (t:Tok):xRun (g+1) (jCall t) s=match s.defs.find? (fun d=>d.name == t) with
      | none=>none
      | some d=>xRun g (jEnter ⟨d.id,d.name,d.body⟩) s:=rfl
theorem x_tnil:xRun (g+1) (jToks []) s=some (s,false):=rfl
def xTok (t:Tok) (s:St):Option St:=match numP t with
 | some n=>if s.step.e ≠ 0 then some s.step else some (s.step.put n)
 | none=>match plainL.findIdx? (· == t) with
  | some k=>if s.step.e ≠ 0 then some s.step else some (s.step.word k)
  | none=>if (keptL.any (· == t) || t == kSemi || t == kOpen || t == kClose)=true then some (s.err 4)
   else if s.known t=false then some (s.err 3)
   else if s.step.e ≠ 0 then some s.step else
   match xRun g (jCall t) s.step with
   | none=>none
   | some (s2,_)=>some s2
theorem x_tok (t:Tok) (r:List Tok) (he:s.e=0) (ht:¬ t=kColon):xRun (g+1) (jToks (t :: r)) s=match xTok g t s with
      | none=>none
      | some s2=>xRun g (jToks r) s2:=by
  conv=>lhs;unfold xRun
  rw[if_neg (show ¬ (jToks (t :: r)).what=0 from (by decide:¬ (5:Nat)=0)),if_neg (show ¬ (jToks (t :: r)).what=1 from (by decide:¬ (5:Nat)=1)),if_neg (show ¬ (jToks (t :: r)).what=2 from (by decide:¬ (5:Nat)=2)),if_neg (show ¬ (jToks (t :: r)).what=3 from (by decide:¬ (5:Nat)=3)),if_neg (show ¬ (jToks (t :: r)).what=4 from (by decide:¬ (5:Nat)=4))];show (if s.e ≠ 0 then _ else _)=_;rw[if_neg (by simp[he]),if_neg ht];unfold xTok
  cases numP t with
  | some n=>
    dsimp only;by_cases h:s.step.e ≠ 0
    · rw[if_pos h,if_pos h]
    · rw[if_neg h,if_neg h]
  | none=>
    dsimp only
    cases plainL.findIdx? (· == t) with
    | some k=>
      dsimp only;by_cases h:s.step.e ≠ 0
      · rw[if_pos h,if_pos h]
      · rw[if_neg h,if_neg h]
    | none=>
      dsimp only;by_cases h1:(keptL.any (· == t) || t == kSemi || t == kOpen || t == kClose)=true
      · rw[if_pos h1,if_pos h1]
      · rw[if_neg h1,if_neg h1]
        by_cases h2:s.known t=false
        · rw[if_pos h2,if_pos h2]
        · rw[if_neg h2,if_neg h2]
          by_cases h:s.step.e ≠ 0
          · rw[if_pos h,if_pos h]
          · rw[if_neg h,if_neg h]
            cases xRun g (jCall t) s.step <;> rfl
theorem x_terr (ts:List Tok) (he:s.e ≠ 0):xRun (g+1) (jToks ts) s=some (s,false):=by
 cases ts with
 | nil=>rfl
 | cons t r=>
  conv=>lhs;unfold xRun
  rw[if_neg (show ¬ (jToks (t :: r)).what=0 from (by decide:¬ (5:Nat)=0)),if_neg (show ¬ (jToks (t :: r)).what=1 from (by decide:¬ (5:Nat)=1)),if_neg (show ¬ (jToks (t :: r)).what=2 from (by decide:¬ (5:Nat)=2)),if_neg (show ¬ (jToks (t :: r)).what=3 from (by decide:¬ (5:Nat)=3)),if_neg (show ¬ (jToks (t :: r)).what=4 from (by decide:¬ (5:Nat)=4))];show (if s.e ≠ 0 then _ else _)=_;rw[if_pos he]
theorem x_def (r:List Tok) (he:s.e=0):xRun (g+1) (jToks (kColon :: r)) s=match pDef g s r with
          | none=>none
          | some (.error e)=>some (s.err e,false)
          | some (.ok (nm,b,r1))=>if s.step.e ≠ 0 then some (s.step,false) else xRun g (jToks r1) (s.step.set nm b):=by
  conv=>lhs;unfold xRun
  rw[if_neg (show ¬ (jToks (kColon :: r)).what=0 from (by decide:¬ (5:Nat)=0)),if_neg (show ¬ (jToks (kColon :: r)).what=1 from (by decide:¬ (5:Nat)=1)),if_neg (show ¬ (jToks (kColon :: r)).what=2 from (by decide:¬ (5:Nat)=2)),if_neg (show ¬ (jToks (kColon :: r)).what=3 from (by decide:¬ (5:Nat)=3)),if_neg (show ¬ (jToks (kColon :: r)).what=4 from (by decide:¬ (5:Nat)=4))];show (if s.e ≠ 0 then _ else _)=_;rw[if_neg (by simp[he]),if_pos rfl]
  cases pDef g s r <;> rfl
end
theorem xTok_keep {g:Nat} (ih:∀ (j:XJ) (s s':St) (left:Bool),xRun g j s=some (s',left)->Kee s s') {t:Tok} {s s':St} (h:xTok g t s=some s'):Kee s s':=by
 unfold xTok at h
 repeat' split at h
 all_goals first
  | (cases h;done)
  | (injection h with h;subst h;simp only[Kee,true_and,St.step_steps,St.step_depth,St.put_steps,St.put_depth,St.word_steps,St.word_depth,St.err_steps,St.err_depth];omega)
  | (have k:=ih _ _ _ _ ‹xRun g _ _=some _›;injection h with h;subst h;simp only[Kee,true_and,St.step_steps,St.step_depth] at k ⊢;omega)
theorem xOne_keep {g:Nat} (ih:∀ (j:XJ) (s s':St) (left:Bool),xRun g j s=some (s',left)->Kee s s') {f:Fr} {lp:List Int} {x:It} {s s':St} {left:Bool} (h:xOne g f lp x s=some (s',left)):Kee s s':=by
 unfold xOne at h
 repeat' split at h
 all_goals first
  | (cases h;done)
  | (injection h with h;injection h with h1 h2;subst h1;simp only[Kee,true_and,St.put_steps,St.put_depth,St.word_steps,St.word_depth,St.err_steps,St.err_depth];omega)
  | (have k:=ih _ _ _ _ h;simp only[Kee,true_and] at k ⊢;omega)
  | (have k:=ih _ _ _ _ ‹xRun g _ _=some _›;injection h with h;injection h with h1 h2;subst h1;simp only[Kee,true_and] at k ⊢;omega)
theorem xRun_keep:∀ (g:Nat) (j:XJ) (s s':St) (left:Bool),xRun g j s=some (s',left)->Kee s s':=by
 intro g
 induction g with
 | zero=>intro j s s' left h;cases h
 | succ g ih=>
  intro j s s' left h;unfold xRun at h;by_cases h0:j.what=0
  ·rw[if_pos h0] at h
   split at h
   ·injection h with h;injection h with h1 h2;subst h1;exact⟨rfl,Int.le_refl _⟩
   ·split at h
    ·cases h
    ·have k:=ih _ _ _ _ ‹xRun g _ _=some _›
     split at h
     ·injection h with h;injection h with h1 h2;subst h1;exact k
     ·have k2:=ih _ _ _ _ h;simp only[Kee,true_and] at k k2 ⊢;omega
  rw[if_neg h0] at h;by_cases h1:j.what=1
  ·rw[if_pos h1] at h;by_cases q1:j.x.kind=63
   ·rw[if_pos q1] at h
    repeat' split at h
    ·injection h with h;injection h with h1 h2;subst h1;simp only[Kee,true_and,St.test_steps,St.test_depth];omega
    ·have k:=ih _ _ _ _ h;simp only[Kee,true_and,St.test_steps,St.test_depth] at k ⊢;omega
    ·have k:=ih _ _ _ _ h;simp only[Kee,true_and,St.test_steps,St.test_depth] at k ⊢;omega
   rw[if_neg q1] at h;by_cases q2:j.x.kind=117
   ·rw[if_pos q2] at h
    split at h
    ·cases h
    ·have k:=ih _ _ _ _ ‹xRun g _ _=some _›
     repeat' split at h
     ·injection h with h;injection h with h1 h2;subst h1;exact k
     ·injection h with h;injection h with h1 h2;subst h1;simp only[Kee,true_and,St.test_steps,St.test_depth] at k ⊢;omega
     ·injection h with h;injection h with h1 h2;subst h1;simp only[Kee,true_and,St.test_steps,St.test_depth] at k ⊢;omega
     ·have k2:=ih _ _ _ _ h;simp only[Kee,true_and,St.test_steps,St.test_depth] at k k2 ⊢;omega
   rw[if_neg q2] at h;by_cases q3:j.x.kind=119
   ·rw[if_pos q3] at h
    split at h
    ·cases h
    ·have k:=ih _ _ _ _ ‹xRun g _ _=some _›
     split at h
     ·injection h with h;injection h with h1 h2;subst h1;exact k
     split at h
     ·injection h with h;injection h with h1 h2;subst h1;simp only[Kee,true_and,St.test_steps,St.test_depth] at k ⊢;omega
     split at h
     ·injection h with h;injection h with h1 h2;subst h1;simp only[Kee,true_and,St.test_steps,St.test_depth] at k ⊢;omega
     split at h
     ·cases h
     ·have k2:=ih _ _ _ _ ‹xRun g _ _=some _›
      split at h
      ·injection h with h;injection h with h1 h2;subst h1;simp only[Kee,true_and,St.test_steps,St.test_depth] at k k2 ⊢;omega
      ·have k3:=ih _ _ _ _ h;simp only[Kee,true_and,St.test_steps,St.test_depth] at k k2 k3 ⊢;omega
   rw[if_neg q3] at h;by_cases q4:s.step.e ≠ 0
   ·rw[if_pos q4] at h;injection h with h;injection h with h1 h2;subst h1;simp only[Kee,true_and,St.step_steps,St.step_depth];omega
   rw[if_neg q4] at h;have k:=xOne_keep (f:=j.f) (lp:=j.lp) (x:=j.x) (s:=s.step) (s':=s') (left:=left) ih h;simp only[Kee,true_and,St.step_steps,St.step_depth] at k ⊢;omega
  rw[if_neg h1] at h;by_cases h2:j.what=2
  ·rw[if_pos h2] at h
   split at h
   ·split at h
    ·injection h with h;injection h with h1 h2;subst h1;simp only[Kee,true_and,St.step_steps,St.step_depth];omega
    split at h
    ·cases h
    ·have k:=ih _ _ _ _ ‹xRun g _ _=some _›
     split at h
     ·injection h with h;injection h with h1 h2;subst h1;simp only[Kee,true_and,St.step_steps,St.step_depth] at k ⊢;omega
     ·have k2:=ih _ _ _ _ h;simp only[Kee,true_and,St.step_steps,St.step_depth] at k k2 ⊢;omega
   ·injection h with h;injection h with h1 h2;subst h1;exact⟨rfl,Int.le_refl _⟩
  rw[if_neg h2] at h;by_cases h3:j.what=3
  ·rw[if_pos h3] at h;by_cases q:20<=s.depth
   ·rw[if_pos q] at h;injection h with h;injection h with h1 h2;subst h1;exact⟨rfl,Int.le_refl _⟩
   rw[if_neg q] at h
   have h:(match xCome g j.f s with
    | none=>none
    | some s1=>match xRun g (jBody j.f [] j.f.body) { s1 with depth:=s1.depth+1 } with
     | none=>none
     | some (s2,_)=>some ({ s2 with depth:=s2.depth - 1 },false))=some (s',left):=h
   split at h
   ·cases h
   ·rename_i s1 hc
    have e:=entered_keep (o:=s.find j.f.name) hc
    split at h
    ·cases h
    ·have k:=ih _ _ _ _ ‹xRun g _ _=some _›;injection h with h;injection h with h1 h2;subst h1;simp only[Kee,true_and] at k ⊢;omega
  rw[if_neg h3] at h;by_cases h4:j.what=4
  ·rw[if_pos h4] at h
   split at h
   ·cases h
   ·exact ih _ _ _ _ h
  rw[if_neg h4] at h
  split at h
  ·injection h with h;injection h with h1 h2;subst h1;exact⟨rfl,Int.le_refl _⟩
  ·rename_i t r _
   by_cases he:s.e ≠ 0
   ·rw[if_pos he] at h;injection h with h;injection h with h1 h2;subst h1;exact⟨rfl,Int.le_refl _⟩
   have he:s.e=0:=by simpa using he
   by_cases ht:t=kColon
   ·subst ht;have hx:=x_def g s r he;have h:xRun (g+1) (jToks (kColon :: r)) s=some (s',left):=h;rw[hx] at h
    split at h
    ·cases h
    ·injection h with h;injection h with h1 h2;subst h1;exact⟨rfl,Int.le_refl _⟩
    ·split at h
     ·injection h with h;injection h with h1 h2;subst h1;simp only[Kee,true_and,St.step_steps,St.step_depth];omega
     ·have k:=ih _ _ _ _ h;simp only[Kee,true_and,St.step_steps,St.step_depth,St.set_steps,St.set_depth] at k ⊢;omega
   ·have h:xRun (g+1) (jToks (t :: r)) s=some (s',left):=h;rw[x_tok g s t r he ht] at h
    split at h
    ·cases h
    ·have k:=xTok_keep ih ‹xTok g _ _=some _›;have k2:=ih _ _ _ _ h;simp only[Kee,true_and] at k k2 ⊢;omega
end
section
open Go.RowKit
variable {K:Nat->Prop}
structure SGood (s:St):Prop where
 g:Good s.rs s.mem s.out
 s0:0<=s.steps
 s1:s.steps<=2001
 s2:s.e=0->s.steps<=2000
 d0:0<=s.depth
 d1:s.depth<=20
 b0:0<=s.built
 b1:s.built<=3
 cb:∀ d∈s.defs,∀ g names,callsG g d.body=some names->names.length<=1000
end
section
open Go.RowKit
variable {K:Nat->Prop}
def CBnd (l:List It):Prop:=∀ g names,callsG g l=some names->names.length<=1000
theorem cb_set {s:St} {k:Nat} {d':Def} (hg:SGood s) (hk:k < s.defs.length) (hb:d'.body=s.defs[k].body):∀ d∈s.defs.set k d',CBnd d.body:=by
 intro d hd;rcases List.mem_or_eq_of_mem_set hd with h1|h1
 ·exact hg.cb d h1
 ·rw[h1,hb];intro g names hn;exact hg.cb s.defs[k] (List.getElem_mem hk) g names hn
end
end Go.Proofs.YteainaiebcphlaaGreatDoor
