import Derived.Test.YteainaiebcphlaaGreatDoorQ10
import Derived.Test.YteainaiebcphlaaGreatDoorQ5
import Derived.Test.YteainaiebcphlaaGreatDoorQ6
namespace Go.Proofs.YteainaiebcphlaaGreatDoor
set_option maxRecDepth 1000000
set_option maxHeartbeats 4000000
set_option linter.all false
open Go.Proofs.Tryz
section
open Go.RowKit
theorem K8 (w:World)(sb bk mb:Nat)(aA:Tok->Bool)(ws:List ByteArray)(lo:Nat)(h:bW w sb bk mb aA ws lo):
  Calls prog 218 #[pt sb,.int .i64 32] w λx w'=>Kp w w' (λb=>b=sb)/\rE w sb bk mb aA lo x w' (.ok ([⟨114,0,[],[],[],[]⟩],[],aD ws)):=by
 obtain⟨rv,hB,hT⟩:=h.blk;have hsb:=hB.lt;go_enter func218,ntmps218;go_wp2;have hK2:Kp w (w.alloc (.cells #[.int .i64 8,.int .i64 0,.int .i64 0,.string ⟨#[]⟩,.slice none 0 0,.slice none 0 0,.slice none 0 0] 241)) (λb=>b=sb):=(Kp.refl _ _).alloc _;have aX:aC (w.alloc (.cells #[.int .i64 8,.int .i64 0,.int .i64 0,.string ⟨#[]⟩,.slice none 0 0,.slice none 0 0,.slice none 0 0] 241)) sb 201 (gA rv bk lo):=hB.alloc _;refine bodyPost_ret (v:=.tuple #[.agg #[.int .i64 8,.int .i64 0,.int .i64 0,.string ⟨#[]⟩,.slice none 0 0,.slice none 0 0,.slice none 0 0],.int .i64 0]) (by simp[results,results218,go_sem]) rfl ?_;exact⟨hK2,_,_,_,_,_,_,_,ws,rfl,rfl,kL 114 0 0 0 _ [] (by simp) (by simp) (by simp) (by simp),rfl,h.to hK2 rv aX hT h.len h.ok⟩
theorem Gu (w:World)(sb bk mb:Nat)(aA:Tok->Bool)(ws:List ByteArray)(lo:Nat)(h:bW w sb bk mb aA ws lo):
  Calls prog 218 #[pt sb,.int .i64 33] w λx w'=>Kp w w' (λb=>b=sb)/\rE w sb bk mb aA lo x w' (.ok ([⟨120,0,[],[],[],[]⟩],[],aD ws)):=by
 obtain⟨rv,hB,hT⟩:=h.blk;have hsb:=hB.lt;go_enter func218,ntmps218;go_wp2;have hK2:Kp w (w.alloc (.cells #[.int .i64 9,.int .i64 0,.int .i64 0,.string ⟨#[]⟩,.slice none 0 0,.slice none 0 0,.slice none 0 0] 241)) (λb=>b=sb):=(Kp.refl _ _).alloc _;have aX:aC (w.alloc (.cells #[.int .i64 9,.int .i64 0,.int .i64 0,.string ⟨#[]⟩,.slice none 0 0,.slice none 0 0,.slice none 0 0] 241)) sb 201 (gA rv bk lo):=hB.alloc _;refine bodyPost_ret (v:=.tuple #[.agg #[.int .i64 9,.int .i64 0,.int .i64 0,.string ⟨#[]⟩,.slice none 0 0,.slice none 0 0,.slice none 0 0],.int .i64 0]) (by simp[results,results218,go_sem]) rfl ?_;exact⟨hK2,_,_,_,_,_,_,_,ws,rfl,rfl,kL 120 0 0 0 _ [] (by simp) (by simp) (by simp) (by simp),rfl,h.to hK2 rv aX hT h.len h.ok⟩
theorem Tu (w:World)(sb bk mb:Nat)(aA:Tok->Bool)(ws:List ByteArray)(lo:Nat)(h:bW w sb bk mb aA ws lo)(hlo:0<lo):
  Calls prog 218 #[pt sb,.int .i64 31] w λx w'=>Kp w w' (λb=>b=sb)/\rE w sb bk mb aA lo x w' (.ok ([⟨105,0,[],[],[],[]⟩],[],aD ws)):=by
 obtain⟨rv,hB,hT⟩:=h.blk;have hsb:=hB.lt;have c2:w.cell? ⟨sb,2,none⟩=some (.int .i64 lo):=hB.cell rfl;go_enter func218,ntmps218;go_wp2;have hK2:Kp w (w.alloc (.cells #[.int .i64 7,.int .i64 0,.int .i64 0,.string ⟨#[]⟩,.slice none 0 0,.slice none 0 0,.slice none 0 0] 241)) (λb=>b=sb):=(Kp.refl _ _).alloc _;have aX:aC (w.alloc (.cells #[.int .i64 7,.int .i64 0,.int .i64 0,.string ⟨#[]⟩,.slice none 0 0,.slice none 0 0,.slice none 0 0] 241)) sb 201 (gA rv bk lo):=hB.alloc _;refine bodyPost_ret (v:=.tuple #[.agg #[.int .i64 7,.int .i64 0,.int .i64 0,.string ⟨#[]⟩,.slice none 0 0,.slice none 0 0,.slice none 0 0],.int .i64 0]) (by simp[results,results218,go_sem]) rfl ?_;exact⟨hK2,_,_,_,_,_,_,_,ws,rfl,rfl,kL 105 0 0 0 _ [] (by simp) (by simp) (by simp) (by simp),rfl,h.to hK2 rv aX hT h.len h.ok⟩
theorem D7 (w:World)(sb bk mb:Nat)(aA:Tok->Bool)(ws:List ByteArray)(lo:Nat)(h:bW w sb bk mb aA ws lo):
  Calls prog 218 #[pt sb,.int .i64 18] w λx w'=>Kp w w' (λb=>b=sb)/\rE w sb bk mb aA lo x w' (.error 4):=by
 obtain⟨rv,hB,hT⟩:=h.blk;have hsb:=hB.lt;go_enter func218,ntmps218;go_wp2;have hK2:Kp w (w.alloc (.cells #[.int .i64 0,.int .i64 0,.int .i64 0,.string ⟨#[]⟩,.slice none 0 0,.slice none 0 0,.slice none 0 0] 241)) (λb=>b=sb):=(Kp.refl _ _).alloc _;have aX:aC (w.alloc (.cells #[.int .i64 0,.int .i64 0,.int .i64 0,.string ⟨#[]⟩,.slice none 0 0,.slice none 0 0,.slice none 0 0] 241)) sb 201 (gA rv bk lo):=hB.alloc _;refine bodyPost_ret (v:=.tuple #[.agg #[.int .i64 0,.int .i64 0,.int .i64 0,.string ⟨#[]⟩,.slice none 0 0,.slice none 0 0,.slice none 0 0],.int .i64 4]) (by simp[results,results218,go_sem]) rfl ?_;exact⟨hK2,by decide,_,_,_,_,_,_,_,_,_,_,_,_,_,_,rfl,aX⟩
theorem D8 (w:World)(sb bk mb:Nat)(aA:Tok->Bool)(ws:List ByteArray)(lo:Nat)(h:bW w sb bk mb aA ws lo):
  Calls prog 218 #[pt sb,.int .i64 21] w λx w'=>Kp w w' (λb=>b=sb)/\rE w sb bk mb aA lo x w' (.error 4):=by
 obtain⟨rv,hB,hT⟩:=h.blk;have hsb:=hB.lt;go_enter func218,ntmps218;go_wp2;have hK2:Kp w (w.alloc (.cells #[.int .i64 0,.int .i64 0,.int .i64 0,.string ⟨#[]⟩,.slice none 0 0,.slice none 0 0,.slice none 0 0] 241)) (λb=>b=sb):=(Kp.refl _ _).alloc _;have aX:aC (w.alloc (.cells #[.int .i64 0,.int .i64 0,.int .i64 0,.string ⟨#[]⟩,.slice none 0 0,.slice none 0 0,.slice none 0 0] 241)) sb 201 (gA rv bk lo):=hB.alloc _;refine bodyPost_ret (v:=.tuple #[.agg #[.int .i64 0,.int .i64 0,.int .i64 0,.string ⟨#[]⟩,.slice none 0 0,.slice none 0 0,.slice none 0 0],.int .i64 4]) (by simp[results,results218,go_sem]) rfl ?_;exact⟨hK2,by decide,_,_,_,_,_,_,_,_,_,_,_,_,_,_,rfl,aX⟩
theorem Pk (w:World)(sb bk mb:Nat)(aA:Tok->Bool)(ws:List ByteArray)(lo:Nat)(h:bW w sb bk mb aA ws lo)(hlo:lo=0):
  Calls prog 218 #[pt sb,.int .i64 31] w λx w'=>Kp w w' (λb=>b=sb)/\rE w sb bk mb aA lo x w' (.error 4):=by
 obtain⟨rv,hB,hT⟩:=h.blk;have hsb:=hB.lt;have c2:w.cell? ⟨sb,2,none⟩=some (.int .i64 0):=by have:w.cell? ⟨sb,2,none⟩=some (.int .i64 lo):=hB.cell rfl;rw[hlo] at this;exact this
 go_enter func218,ntmps218;go_wp2;have hK2:Kp w (w.alloc (.cells #[.int .i64 0,.int .i64 0,.int .i64 0,.string ⟨#[]⟩,.slice none 0 0,.slice none 0 0,.slice none 0 0] 241)) (λb=>b=sb):=(Kp.refl _ _).alloc _;have aX:aC (w.alloc (.cells #[.int .i64 0,.int .i64 0,.int .i64 0,.string ⟨#[]⟩,.slice none 0 0,.slice none 0 0,.slice none 0 0] 241)) sb 201 (gA rv bk lo):=hB.alloc _;refine bodyPost_ret (v:=.tuple #[.agg #[.int .i64 0,.int .i64 0,.int .i64 0,.string ⟨#[]⟩,.slice none 0 0,.slice none 0 0,.slice none 0 0],.int .i64 4]) (by simp[results,results218,go_sem]) rfl ?_;exact⟨hK2,by decide,_,_,_,_,_,_,_,_,_,_,_,_,_,_,rfl,aX⟩
theorem D9 (w:World)(sb bk mb:Nat)(aA:Tok->Bool)(ws:List ByteArray)(lo:Nat)(tb:ByteArray)(K:Int)(hK:18<=K)(res:fh)(h:bW w sb bk mb aA ws lo)
  (hc:∀w,bW w sb bk mb aA ws lo->Calls prog 218 #[pt sb,.int .i64 K] w λx w'=>Kp w w' (λb=>b=sb)/\rE w sb bk mb aA lo x w' res):
  Calls prog 198 #[pt sb,.string tb,.int .i64 K] w λx w'=>Kp w w' (λb=>b=sb)/\rE w sb bk mb aA lo x w' res:=by
 obtain⟨rv,hB,hT⟩:=h.blk;have hsb:=hB.lt;have hcs:sb≠w.heap.size:=by omega
 have hka:=(Kp.refl w (λ_=>False)).alloc (.cells ju 241);have HC:=az (hc _ (h.kp hka));have lU:=aC.new w ju 241;clear hc hka;go_enter func198,ntmps198
 go_wp2_with fail
 refine(gS _ _).mono ?_;rintro e w' ⟨rfl,hw⟩;rw[hw];clear hw;have hb:decide (2<=K/\K<=17)=false:=decide_eq_false (by omega);rw[hb]
 go_wp2_with fail
 refine HC.out.mono ?_;rintro x w2 ⟨hk2,hq⟩;have hZ:=hk2.blk lU hcs.symm;have hkp:Kp w w2 (λb=>b=sb):=((Kp.refl _ _).alloc _).trans hk2;have hsz2:w.heap.size+1<=w2.heap.size:=by have:=hk2.size;simpa using this
 obtain⟨y0,y1,y2,y3,y4,y5,y6⟩:=hZ.seven;obtain⟨z0,z1,z2,z3,z4,z5,z6⟩:=hZ.fk;rcases res with er|⟨xs,tt,r⟩
 ·obtain⟨her,k7,n7,fO,nm,a1,m1,p1,a2,m2,p2,a3,m3,p3,rH,rfl,cX⟩:=hq;clear hk2 lU;go_wp2;have bS:=hZ.dL (.int .i64 k7) (.int .i64 n7) (.int .i64 fO) (.string nm) (.slice a1 m1 p1) (.slice a2 m2 p2) (.slice a3 m3 p3);have hK2:=hkp.dL (ah _) (.int .i64 k7) (.int .i64 n7) (.int .i64 fO) (.string nm) (.slice a1 m1 p1) (.slice a2 m2 p2) (.slice a3 m3 p3);have aX:=cX.dM hcs (.int .i64 k7) (.int .i64 n7) (.int .i64 fO) (.string nm) (.slice a1 m1 p1) (.slice a2 m2 p2) (.slice a3 m3 p3);generalize (((((((w2.setCell ⟨w.heap.size,0,none⟩ (.int .i64 k7)).setCell ⟨w.heap.size,1,none⟩ (.int .i64 n7)).setCell ⟨w.heap.size,2,none⟩ (.int .i64 fO)).setCell ⟨w.heap.size,3,none⟩ (.string nm)).setCell ⟨w.heap.size,4,none⟩ (.slice a1 m1 p1)).setCell ⟨w.heap.size,5,none⟩ (.slice a2 m2 p2)).setCell ⟨w.heap.size,6,none⟩ (.slice a3 m3 p3))=wf at bS hK2 aX ⊢;obtain⟨q0,q1,q2,q3,q4,q5,q6⟩:=bS.seven;refine bodyPost_ret (v:=.tuple #[.agg #[.int .i64 k7,.int .i64 n7,.int .i64 fO,.string nm,.slice a1 m1 p1,.slice a2 m2 p2,.slice a3 m3 p3],.int .i64 er]) (by simp[results,results198,go_sem,q0,q1,q2,q3,q4,q5,q6]) rfl ?_;exact⟨hK2,her,_,_,_,_,_,_,_,_,_,_,_,_,_,_,rfl,aX⟩
 ·obtain⟨x',n7,fO,nm,tv,va,vb,kF,rfl,rfl,hat,htx,fM⟩:=hq;obtain⟨gF,js,-⟩:=hat.toks;obtain⟨K6,hr3,-⟩:=hat.a.out;obtain⟨SH,hr4,-⟩:=hat.b.out;obtain⟨a3,p3,rfl⟩:=hr3.form;obtain⟨a4,p4,rfl⟩:=hr4.form;obtain⟨a5,p5,rI⟩:=js.form;rw[List.length_map] at rI;subst rI;obtain⟨rH,cX,zq⟩:=fM.blk;have DZ:=az hat;have vY:=az fM;clear hk2 lU hr3 hr4 js hat fM;go_wp2;have hk3:Kp w2 (((((((w2.setCell ⟨w.heap.size,0,none⟩ (.int .i64 (dw x'.kind))).setCell ⟨w.heap.size,1,none⟩ (.int .i64 n7)).setCell ⟨w.heap.size,2,none⟩ (.int .i64 fO)).setCell ⟨w.heap.size,3,none⟩ (.string nm)).setCell ⟨w.heap.size,4,none⟩ (.slice a5 gF.length p5)).setCell ⟨w.heap.size,5,none⟩ (.slice a3 x'.a.length p3)).setCell ⟨w.heap.size,6,none⟩ (.slice a4 x'.b.length p4)) (λb=>b=w.heap.size):=((((((((Kp.refl w2 (λb=>b=w.heap.size)).set (a:=⟨w.heap.size,0,none⟩) (λ_=>rfl) _).set (a:=⟨w.heap.size,1,none⟩) (λ_=>rfl) _).set (a:=⟨w.heap.size,2,none⟩) (λ_=>rfl) _).set (a:=⟨w.heap.size,3,none⟩) (λ_=>rfl) _).set (a:=⟨w.heap.size,4,none⟩) (λ_=>rfl) _).set (a:=⟨w.heap.size,5,none⟩) (λ_=>rfl) _).set (a:=⟨w.heap.size,6,none⟩) (λ_=>rfl) _);have bS:=hZ.dL (.int .i64 (dw x'.kind)) (.int .i64 n7) (.int .i64 fO) (.string nm) (.slice a5 gF.length p5) (.slice a3 x'.a.length p3) (.slice a4 x'.b.length p4);have hK2:=hkp.dL (ah _) (.int .i64 (dw x'.kind)) (.int .i64 n7) (.int .i64 fO) (.string nm) (.slice a5 gF.length p5) (.slice a3 x'.a.length p3) (.slice a4 x'.b.length p4);have aX:=cX.dM hcs (.int .i64 (dw x'.kind)) (.int .i64 n7) (.int .i64 fO) (.string nm) (.slice a5 gF.length p5) (.slice a3 x'.a.length p3) (.slice a4 x'.b.length p4);generalize (((((((w2.setCell ⟨w.heap.size,0,none⟩ (.int .i64 (dw x'.kind))).setCell ⟨w.heap.size,1,none⟩ (.int .i64 n7)).setCell ⟨w.heap.size,2,none⟩ (.int .i64 fO)).setCell ⟨w.heap.size,3,none⟩ (.string nm)).setCell ⟨w.heap.size,4,none⟩ (.slice a5 gF.length p5)).setCell ⟨w.heap.size,5,none⟩ (.slice a3 x'.a.length p3)).setCell ⟨w.heap.size,6,none⟩ (.slice a4 x'.b.length p4))=wf at bS hK2 aX hk3 ⊢;obtain⟨q0,q1,q2,q3,q4,q5,q6⟩:=bS.seven;refine bodyPost_ret (v:=.tuple #[.agg #[.int .i64 (dw x'.kind),.int .i64 n7,.int .i64 fO,.string nm,.slice a5 gF.length p5,.slice a3 x'.a.length p3,.slice a4 x'.b.length p4],.int .i64 0]) (by simp[results,results198,go_sem,q0,q1,q2,q3,q4,q5,q6]) rfl ?_;have hkc:=bU (D:=New (w.alloc (.cells ju 241))) (D':=New w) hk3 (λb _ hb=>by
   have hb:w.heap.size+1<=b:=by have:(w.alloc (.cells ju 241)).heap.size<=b:=hb;simpa using this
   exact⟨by show w.heap.size<=b;omega,by show ¬b=w.heap.size;omega⟩)
  refine⟨hK2,x',n7,fO,nm,_,_,_,kF,rfl,rfl,DZ.out.mono hkc (λ_ _ h=>h.mono hkc),htx,?_⟩;have h2:=vY.out;obtain⟨nn,DD,hm,hl⟩:=h2.book.look;have hne:∀b t c,aC w2 b t c->t≠241->¬b=w.heap.size:=λb t c hb ht e=>by subst e;exact ht (hb.inj hZ).1
  have Bf:=h.sp.lt;exact⟨⟨rH,aX,cO (λb c hc=>⟨hc.1,hk3.blk hc.2 (hne b 9 c hc.2 (by decide))⟩) zq⟩,h2.book.kp hk3 (hne bk _ _ h2.book.blk (by decide)) (λe=>dh hm hZ e),h2.len,h2.ok,h2.sp.kp hk3 (by show ¬(1:Nat)=w.heap.size;omega),h2.s1⟩
def zu (E:List Tok):fh->fh
 | .error e=>.error e
 | .ok (l,t,r)=>if E.any (· == t)=true then .ok (l,t,r) else .error 4
theorem Bl (E:List Tok)(xs:List It)(res:fh):zu E (fN xs res)=fN xs (zu E res):=by
 rcases res with e|⟨l,t,r⟩
 ·rfl
 ·show(if _ then _ else _)=fN xs (if _ then _ else _)
  split <;> rfl
theorem zw (aA:Tok->Bool)(lo:Nat){t:Tok}(h:cB.any (· == t)=true):jg aA lo t=.error 4:=by
 obtain⟨x,hx,he⟩:=List.any_eq_true.1 h;have he:=beq_iff_eq.1 he;subst he;simp only[cB,List.mem_cons,List.mem_nil_iff,or_false] at hx;rcases hx with rfl|rfl|rfl|rfl|rfl|rfl|rfl
 all_goals
  unfold jg
  first
   | rw[show bA eH=none by decide]
   | rw[show bA eY=none by decide]
   | rw[show bA dF=none by decide]
   | rw[show bA fL=none by decide]
   | rw[show bA di=none by decide]
   | rw[show bA gj=none by decide]
   | rw[show bA mA=none by decide]
  dsimp only;rw[af (by decide),af (λe=>ax e.1 (by decide)),af (by decide),af (by decide),ag (by decide)]
theorem pJ {t:Tok}(h:cB.any (· == t)=true):¬lV t:=by
 rintro (rfl|rfl|rfl|rfl) <;> revert h <;> decide
theorem Pm {aA:Tok->Bool}{g lo:Nat}{ends:List Tok}{t:Tok}{r:List Tok}(h:ends.any (· == t)=false){xs:List It}{t1:Tok}{r2:List Tok}{res:fh}(h1:aK aA g ⟨true,lo,[],t⟩ r=some (.ok (xs,t1,r2)))(h2:aK aA g ⟨false,lo,ends,[]⟩ r2=some res):
  aK aA (g+1) ⟨false,lo,ends,[]⟩ (t::r)=some (fN xs res):=by
 rw[aK.eq_def];simp only[h,Bool.false_eq_true,if_false,if_true,h1,h2];rcases res with e|⟨l,t',r'⟩ <;> rfl
theorem Pn {aA:Tok->Bool}{g lo:Nat}{ends:List Tok}{t:Tok}{r:List Tok}(h:ends.any (· == t)=false){e:Int}(h1:aK aA g ⟨true,lo,[],t⟩ r=some (.error e)):
  aK aA (g+1) ⟨false,lo,ends,[]⟩ (t::r)=some (.error e):=by
 rw[aK.eq_def];simp only[h,Bool.false_eq_true,if_false,if_true,h1]
theorem rM (aA:Tok->Bool)(E:List Tok)(hE:∀t,E.any (· == t)=true->cB.any (· == t)=true)(lo:Nat):∀(g:Nat) (r:List Tok) (res:fh),aK aA g ⟨false,lo,E,[]⟩ r=some res->∃res',aK aA g ⟨false,lo,cB,[]⟩ r=some res'/\res=zu E res'
 | 0,_,_,h=>by rw[XO] at h;cases h
 | g+1,[],res,h=>by
  rw[tK] at h;injection h with h;exact⟨.error 4,tK _ _ _ _,h.symm⟩
 | g+1,t::r,res,h=>by
  cases h1:E.any (· == t)
  ·rcases CW _ _ _ _ _ _ h1 _ h with⟨e,hi,hr⟩|⟨xs,t1,r2,gm,hi,h2,hr⟩
   ·cases h2:cB.any (· == t)
    ·exact⟨.error e,Pn h2 hi,hr⟩
    ·refine⟨.ok ([],t,r),ny _ _ _ _ _ _ h2,?_⟩
     cases g with
     | zero=>cases hi
     | succ g=>
      rw[jh _ _ _ _ _ (pJ h2),zw _ _ h2] at hi;injection hi with hi;injection hi with hi;rw[hr,<-hi];show _=(if _ then _ else _);rw[af (by rw[h1];decide)]
   ·cases h3:cB.any (· == t)
    ·obtain⟨res',h4,h5⟩:=rM aA E hE lo g r2 gm h2;exact⟨fN xs res',Pm h3 hi h4,by rw[hr,h5,Bl]⟩
    ·exfalso
     cases g with
     | zero=>cases hi
     | succ g=>
      rw[jh _ _ _ _ _ (pJ h3),zw _ _ h3] at hi
      cases hi
  ·rw[ny _ _ _ _ _ _ h1] at h;injection h with h;refine⟨.ok ([],t,r),ny _ _ _ _ _ _ (hE t h1),?_⟩;rw[<-h];show _=(if _ then _ else _);rw[ag h1]
theorem jE {E:List Tok}(h:∀x∈E,x∈cB):∀t,E.any (· == t)=true->cB.any (· == t)=true:=by
 intro t ht;obtain⟨x,hx,he⟩:=List.any_eq_true.1 ht;exact List.any_eq_true.2 ⟨x,h x hx,he⟩
theorem pK {aA:Tok->Bool}:∀(g lo:Nat) (r:List Tok) (l:List It) (t:Tok) (r':List Tok),aK aA g ⟨false,lo,cB,[]⟩ r=some (.ok (l,t,r'))->cB.any (· == t)=true
 | 0,_,_,_,_,_,h=>by rw[XO] at h;cases h
 | g+1,lo,[],_,_,_,h=>by rw[tK] at h;cases h
 | g+1,lo,t0::r,l,t,r',h=>by
  cases h1:cB.any (· == t0)
  ·rcases CW _ _ _ _ _ _ h1 _ h with⟨e,hi,hr⟩|⟨xs,t1,r2,gm,hi,h2,hr⟩
   ·cases hr
   ·rcases gm with e|⟨l2,t2,r3⟩
    ·cases hr
    ·have hr:Except.ok (l,t,r')=Except.ok (xs++l2,t2,r3):=hr;injection hr with hr;injection hr with _ hr;injection hr with hr _;subst hr;exact pK g lo r2 l2 t r3 h2
  ·rw[ny _ _ _ _ _ _ h1] at h;injection h with h;injection h with h;injection h with _ h;injection h with h _;subst h;exact h1
theorem xm {t:Tok}(h:cB.any (· == t)=true):cL t≠0:=by
 obtain⟨x,hx,he⟩:=List.any_eq_true.1 h;have he:=beq_iff_eq.1 he;subst he;simp only[cB,List.mem_cons,List.mem_nil_iff,or_false] at hx;rcases hx with rfl|rfl|rfl|rfl|rfl|rfl|rfl <;> decide
theorem xo {t k:Tok}(h:cB.any (· == t)=true)(hk:cL t=cL k):t=k:=by
 have h1:=kK rfl (xm h);have h2:=kK (l:=k) rfl (by rw[<-hk];exact xm h);rw[hk,h2] at h1;exact(Option.some.inj h1).symm
theorem jF {E:List Tok}{l:List It}{t:Tok}{r:List Tok}(h:E.any (· == t)=true):zu E (.ok (l,t,r))=.ok (l,t,r):=ag h
theorem iK {E:List Tok}{l:List It}{t:Tok}{r:List Tok}(h:E.any (· == t)=false):zu E (.ok (l,t,r))=.error 4:=af (by rw[h];decide)
def QUp (w:World)(sb bk mb:Nat)(aA:Tok->Bool)(lo:Nat)(x:Ending)(w':World):fh->Prop
 | .ok (l,_,r)=>∃v eZ,x=.returned (.tuple #[v,.int .i64 0])/\cV (BD (New w) w') v l/\aD eZ=r/\bW w' sb bk mb aA eZ lo
 | .error e=>e≠0/\∃a m p rv,x=.returned (.tuple #[.slice a m p,.int .i64 e])/\aC w' sb 201 (gA rv bk lo)
theorem Gv (g:Nat)(hB:tI g)(w:World)(sb bk mb:Nat)(aA:Tok->Bool)(ws:List ByteArray)(lo:Nat)(k0:Tok)(W:Int)(hW:W=(cL k0:Int))(bC:k0∈cB)(res:fh)(aG:aK aA g ⟨false,lo,[k0],[]⟩ (aD ws)=some res)(h:bW w sb bk mb aA ws lo):
  Calls prog 155 #[pt sb,.int .i64 W] w λx w'=>Kp w w' (λb=>b=sb)/\QUp w sb bk mb aA lo x w' res:=by
 obtain⟨res',hr',rfl⟩:=rM aA [k0] (jE (by simpa using bC)) lo g _ _ aG;have HB:=az (hB w sb bk mb aA ws lo res' hr' h);have HW:=az hW;clear hB aG hW;go_enter func155,ntmps155
 go_wp2_with fail
 refine HB.out.mono ?_;rintro x w1 ⟨hk1,hq⟩;rcases res' with er|⟨l,t,r⟩
 ·obtain⟨her,rv,rfl,cX⟩:=hq;have Gw:(er==0)=false:=by simpa using her
  go_wp2;go_ret2;exact⟨hk1,her,none,0,0,rv,rfl,cX⟩
 ·obtain⟨v,eZ,rfl,hI,htx,hS⟩:=hq;have hte:=pK _ _ _ _ _ _ hr';obtain⟨xs,aJ,-⟩:=hI.out;obtain⟨a,p,rfl⟩:=aJ.form;obtain⟨rv,cX,-⟩:=hS.blk;obtain⟨T,hT⟩:∃T:Int,T=(cL t:Int):=⟨_,rfl⟩;rw[<-hT];have HT:=az hT;have HI:=az hI;have HS:=az hS;clear hT hI hS aJ hr' HB;by_cases htk:t=k0
  ·have hTW:(T==W)=true:=by rw[HT.out,HW.out,htk];simp
   go_wp2;go_ret2;refine⟨hk1,?_⟩;rw[jF (by simp[htk])];exact⟨_,eZ,rfl,HI.out,htx,HS.out⟩
  ·have hTW:(T==W)=false:=by
    rw[beq_eq_false_iff_ne,HT.out,HW.out];exact λe=>htk (xo hte (by omega))
   go_wp2;go_ret2;refine⟨hk1,?_⟩;rw[iK (by simpa using λe=>htk e.symm)];exact⟨by decide,a,l.length,p,rv,rfl,cX⟩
abbrev lW (b:Nat):Value:=.func (.func 219) #[] #[pt b]
abbrev j4 (b:Nat):Value:=.func (.func 157) #[] #[pt b]
def xp (M:Mem)(bk:Nat)(name:Tok)(c:Value):Prop:=
 ∃ab db bb nb nm,c=lW ab/\M ab 125 #[j4 db]/\M db 125 #[.func (.func 120) #[] #[pt bb,pt nb]]/\M bb 78 #[pt bk]/\M nb 9 #[.string nm]/\nm.data.toList=name/\nm.size<=1000
def Ob (M:Mem)(R:Nat->Fr->Prop)(bk:Nat)(P:Nat->Value->List It->Prop)(name:Tok)(c:Value):Prop:=
 ∃pb cb bb ab o2 f va cv,c=.func (.func 247) #[] #[pt pb,pt cb,pt bb,pt ab]/\M pb 107 #[pt o2]/\M cb 243 #[cv]/\xp M bk name cv/\M bb 78 #[pt bk]/\M ab 109 #[va]/\R o2 f/\f.name=name/\P o2 va f.body
def kM (M:Mem)(R:Nat->Fr->Prop)(bk:Nat)(P:Nat->Value->List It->Prop)(name:Tok)(c:Value):Prop:=xp M bk name c\/Ob M R bk P name c
theorem tM {M M':Mem}(h:∀b t c,M b t c->M' b t c){bk:Nat}{name:Tok}{c:Value}(hr:xp M bk name c):xp M' bk name c:=by
 obtain⟨ab,db,bb,nb,nm,h1,h2,h3,h4,h5,h6⟩:=hr;exact⟨ab,db,bb,nb,nm,h1,h _ _ _ h2,h _ _ _ h3,h _ _ _ h4,h _ _ _ h5,h6⟩
theorem iL {M M':Mem}{R R':Nat->Fr->Prop}{P P':Nat->Value->List It->Prop}(h:∀b t c,M b t c->M' b t c)(hR:∀o f,R o f->R' o f)(hp:∀o v l,P o v l->P' o v l){bk:Nat}{name:Tok}{c:Value}(hr:kM M R bk P name c):kM M' R' bk P' name c:=by
 rcases hr with hr|⟨pb,cb,bb,ab,o2,f,va,cv,h1,h2,h3,h4,h5,h6,h7,h8,h9⟩
 ·exact .inl (tM h hr)
 ·exact .inr ⟨pb,cb,bb,ab,o2,f,va,cv,h1,h _ _ _ h2,h _ _ _ h3,tM h h4,h _ _ _ h5,h _ _ _ h6,hR _ _ h7,h8,hp _ _ _ h9⟩
def gN (M:Mem)(R:Nat->Fr->Prop)(bk ob:Nat)(P:Nat->Value->List It->Prop)(x:It)(c:Value):Prop:=
 (x.kind=110/\In x.n/\∃ab nb,c=lW ab/\M ab 125 #[.func (.func 95) #[] #[pt nb]]/\M nb 2 #[.int .i64 x.n]) \/
 (x.kind=112/\∃ab act j,c=lW ab/\M ab 125 #[act]/\bB M j act/\aN.findIdx? (· == x.name)=some j) \/
 (x.kind=99/\kM M R bk P x.name c) \/
 (x.kind=63/\∃b1 b2 va vb,c=.func (.func 222) #[] #[pt b1,pt b2]/\M b1 109 #[va]/\M b2 109 #[vb]/\P ob va x.a/\P ob vb x.b) \/
 (x.kind=117/\∃b1 va,c=.func (.func 224) #[] #[pt b1]/\M b1 109 #[va]/\P ob va x.a) \/
 (x.kind=119/\∃b1 b2 va vb,c=.func (.func 225) #[] #[pt b1,pt b2]/\M b1 109 #[va]/\M b2 109 #[vb]/\P ob va x.a/\P ob vb x.b) \/
 (x.kind=100/\∃b1 va,c=.func (.func 226) #[] #[pt b1]/\M b1 109 #[va]/\P ob va x.a) \/
 (x.kind=105/\c=.func (.func 205) #[] #[]) \/
 (x.kind=114/\∃ab db bb wb,c=lW ab/\M ab 125 #[j4 db]/\M db 125 #[.func (.func 229) #[] #[pt bb,pt wb]]/\M bb 78 #[pt bk]/\M wb 107 #[pt ob]) \/
 (x.kind=120/\c=.func (.func 208) #[] #[]) \/
 (x.kind=123/\∃ab db bb tb tv ws,c=lW ab/\M ab 125 #[j4 db]/\M db 125 #[.func (.func 230) #[] #[pt bb,pt tb]]/\M bb 78 #[pt bk]/\M tb 47 #[tv]/\lg M 9 tv (ws.map Value.string)/\aD ws=x.toks/\(∀t∈ws,okW t)/\ws.length<=1000)
theorem fP {M M':Mem}{R R':Nat->Fr->Prop}{bk ob:Nat}{P P':Nat->Value->List It->Prop}(h:∀b t c,M b t c->M' b t c)(hR:∀o f,R o f->R' o f)(hp:∀o v l,P o v l->P' o v l){x:It}{c:Value}(hr:gN M R bk ob P x c):gN M' R' bk ob P' x c:=by
 unfold gN at hr ⊢;rcases hr with⟨k,i,ab,nb,h1,h2,h3⟩|⟨k,ab,act,j,h1,h2,h3,h4⟩|⟨k,h1⟩|⟨k,b1,b2,va,vb,h1,h2,h3,h4,h5⟩|⟨k,b1,va,h1,h2,h3⟩|⟨k,b1,b2,va,vb,h1,h2,h3,h4,h5⟩|⟨k,b1,va,h1,h2,h3⟩|hr|⟨k,ab,db,bb,wb,h1,h2,h3,h4,h5⟩|hr|⟨k,ab,db,sb,tb,tv,ws,h1,h2,h3,h4,h5,h6,h7⟩
 ·exact .inl ⟨k,i,ab,nb,h1,h _ _ _ h2,h _ _ _ h3⟩
 ·exact .inr (.inl ⟨k,ab,act,j,h1,h _ _ _ h2,iX h h3,h4⟩)
 ·exact .inr (.inr (.inl ⟨k,iL h hR hp h1⟩))
 ·exact .inr (.inr (.inr (.inl ⟨k,b1,b2,va,vb,h1,h _ _ _ h2,h _ _ _ h3,hp _ _ _ h4,hp _ _ _ h5⟩)))
 ·exact .inr (.inr (.inr (.inr (.inl ⟨k,b1,va,h1,h _ _ _ h2,hp _ _ _ h3⟩))))
 ·exact .inr (.inr (.inr (.inr (.inr (.inl ⟨k,b1,b2,va,vb,h1,h _ _ _ h2,h _ _ _ h3,hp _ _ _ h4,hp _ _ _ h5⟩)))))
 ·exact .inr (.inr (.inr (.inr (.inr (.inr (.inl ⟨k,b1,va,h1,h _ _ _ h2,hp _ _ _ h3⟩))))))
 ·exact .inr (.inr (.inr (.inr (.inr (.inr (.inr (.inl hr)))))))
 ·exact .inr (.inr (.inr (.inr (.inr (.inr (.inr (.inr (.inl ⟨k,ab,db,bb,wb,h1,h _ _ _ h2,h _ _ _ h3,h _ _ _ h4,h _ _ _ h5⟩))))))))
 ·exact .inr (.inr (.inr (.inr (.inr (.inr (.inr (.inr (.inr (.inl hr)))))))))
 ·exact .inr (.inr (.inr (.inr (.inr (.inr (.inr (.inr (.inr (.inr ⟨k,ab,db,sb,tb,tv,ws,h1,h _ _ _ h2,h _ _ _ h3,h _ _ _ h4,h _ _ _ h5,gT h h6,h7⟩)))))))))
def jG (P:It->Value->Prop):List It->List Value->Prop
 | [],cs=>cs=[]
 | x::l,cs=>∃c r,cs=c::r/\P x c/\jG P l r
theorem gU {P P':It->Value->Prop}(h:∀x c,P x c->P' x c):∀(l:List It) (cs:List Value),jG P l cs->jG P' l cs
 | [],_,h0=>h0
 | _::l,_,⟨c,r,h1,h2,h3⟩=>⟨c,r,h1,h _ _ h2,gU h l r h3⟩
theorem kN {P:It->Value->Prop}:∀(l:List It) (cs:List Value),jG P l cs->cs.length=l.length
 | [],_,h=>by have h:_=_:=h;subst h;rfl
 | _::l,_,⟨c,r,h1,_,h3⟩=>by rw[h1];simp[kN l r h3]
theorem xq {P:It->Value->Prop}:∀(l l':List It) (cs cs':List Value),jG P l cs->jG P l' cs'->jG P (l++l') (cs++cs')
 | [],_,_,_,h,h'=>by have h:_=_:=h;subst h;exact h'
 | _::l,l',_,cs',⟨c,r,h1,h2,h3⟩,h'=>⟨c,r++cs',by rw[h1];rfl,h2,xq l l' r cs' h3 h'⟩
theorem zx {P:It->Value->Prop}:∀(l:List It) (cs:List Value),jG P l cs->∀i (h:i<l.length),∃c,cs[i]? = some c/\P l[i] c
 | [],_,_,i,h=>ax h (by simp)
 | _::l,_,⟨c,r,h1,h2,h3⟩,0,h=>⟨c,by rw[h1];rfl,h2⟩
 | _::l,_,⟨c,r,h1,h2,h3⟩,i+1,h=>by
  obtain⟨c',h4,h5⟩:=zx l r h3 i (by simpa using h);exact⟨c',by rw[h1];simpa using h4,h5⟩
def ku (M:Mem)(R:Nat->Fr->Prop)(bk:Nat):Nat->Nat->Value->List It->Prop
 | 0,_,_,_=>False
 | g+1,ob,v,l=>∃cs,lg M 243 v cs/\jG (gN M R bk ob (ku M R bk g)) l cs
def cQ (M:Mem)(R:Nat->Fr->Prop)(bk ob:Nat)(v:Value)(l:List It):Prop:=∃g,ku M R bk g ob v l
theorem rN {M M':Mem}{R R':Nat->Fr->Prop}{bk:Nat}(h:∀b t c,M b t c->M' b t c)(hR:∀o f,R o f->R' o f):∀(g ob:Nat) (v:Value) (l:List It),ku M R bk g ob v l->ku M' R' bk g ob v l
 | 0,_,_,_,h0=>h0
 | g+1,_,_,_,⟨cs,h1,h2⟩=>⟨cs,gT h h1,gU (λ_ _=>fP h hR (rN h hR g)) _ _ h2⟩
theorem rO {M:Mem}{R:Nat->Fr->Prop}{bk:Nat}:∀(g ob:Nat) (v:Value) (l:List It),ku M R bk g ob v l->ku M R bk (g+1) ob v l
 | 0,_,_,_,h=>h.elim
 | g+1,_,_,_,⟨cs,h1,h2⟩=>⟨cs,h1,gU (λ_ _=>fP (λ_ _ _ h=>h) (λ_ _ h=>h) (rO g)) _ _ h2⟩
theorem jB {M:Mem}{R:Nat->Fr->Prop}{bk ob g g':Nat}(hg:g<=g'){v:Value}{l:List It}(h:ku M R bk g ob v l):ku M R bk g' ob v l:=by
 induction hg with
 | refl=>exact h
 | step _ ih=>exact rO _ _ _ _ ih
theorem cQ.mono {M M':Mem}{R R':Nat->Fr->Prop}{bk ob:Nat}(h:∀b t c,M b t c->M' b t c)(hR:∀o f,R o f->R' o f){v:Value}{l:List It}(hi:cQ M R bk ob v l):cQ M' R' bk ob v l:=by
 obtain⟨g,hg⟩:=hi;exact⟨g,rN h hR g ob v l hg⟩
theorem Ea {M:Mem}{R:Nat->Fr->Prop}{bk ob:Nat}{x:It}{c:Value}(hr:gN M R bk ob (cQ M R bk) x c):∃g,gN M R bk ob (ku M R bk g) x c:=by
 unfold gN at hr;rcases hr with hr|hr|⟨k,hr|⟨pb,cb,bb,ab,o2,f,va,cv,h1,h2,h3,h4,h5,h6,h7,h8,⟨g,h9⟩⟩⟩|⟨k,b1,b2,va,vb,h1,h2,h3,⟨g1,h4⟩,⟨g2,h5⟩⟩|⟨k,b1,va,h1,h2,⟨g1,h3⟩⟩|⟨k,b1,b2,va,vb,h1,h2,h3,⟨g1,h4⟩,⟨g2,h5⟩⟩|⟨k,b1,va,h1,h2,⟨g1,h3⟩⟩|hr|hr|hr|hr
 ·exact⟨0,.inl hr⟩
 ·exact⟨0,.inr (.inl hr)⟩
 ·exact⟨0,.inr (.inr (.inl ⟨k,.inl hr⟩))⟩
 ·exact⟨g,.inr (.inr (.inl ⟨k,.inr ⟨pb,cb,bb,ab,o2,f,va,cv,h1,h2,h3,h4,h5,h6,h7,h8,h9⟩⟩))⟩
 ·exact⟨g1+g2,.inr (.inr (.inr (.inl ⟨k,b1,b2,va,vb,h1,h2,h3,jB (by omega) h4,jB (by omega) h5⟩)))⟩
 ·exact⟨g1,.inr (.inr (.inr (.inr (.inl ⟨k,b1,va,h1,h2,h3⟩))))⟩
 ·exact⟨g1+g2,.inr (.inr (.inr (.inr (.inr (.inl ⟨k,b1,b2,va,vb,h1,h2,h3,jB (by omega) h4,jB (by omega) h5⟩)))))⟩
 ·exact⟨g1,.inr (.inr (.inr (.inr (.inr (.inr (.inl ⟨k,b1,va,h1,h2,h3⟩))))))⟩
 ·exact⟨0,.inr (.inr (.inr (.inr (.inr (.inr (.inr (.inl hr)))))))⟩
 ·exact⟨0,.inr (.inr (.inr (.inr (.inr (.inr (.inr (.inr (.inl hr))))))))⟩
 ·exact⟨0,.inr (.inr (.inr (.inr (.inr (.inr (.inr (.inr (.inr (.inl hr)))))))))⟩
 ·exact⟨0,.inr (.inr (.inr (.inr (.inr (.inr (.inr (.inr (.inr (.inr hr)))))))))⟩
theorem tN {M:Mem}{R:Nat->Fr->Prop}{bk ob:Nat}:∀(l:List It) (cs:List Value),jG (gN M R bk ob (cQ M R bk)) l cs->∃g,jG (gN M R bk ob (ku M R bk g)) l cs
 | [],_,h=>⟨0,h⟩
 | _::l,_,⟨c,r,h1,h2,h3⟩=>by
  obtain⟨g1,h2⟩:=Ea h2;obtain⟨g2,h3⟩:=tN l r h3;exact⟨g1+g2,c,r,h1,fP (λ_ _ _ h=>h) (λ_ _ h=>h) (λ_ _ _=>jB (by omega)) h2,gU (λ_ _=>fP (λ_ _ _ h=>h) (λ_ _ h=>h) (λ_ _ _=>jB (by omega))) _ _ h3⟩
theorem cQ.of {M:Mem}{R:Nat->Fr->Prop}{bk ob:Nat}{v:Value}{l:List It}{cs:List Value}(h1:lg M 243 v cs)(h2:jG (gN M R bk ob (cQ M R bk)) l cs):cQ M R bk ob v l:=by
 obtain⟨g,h⟩:=tN l cs h2;exact⟨g+1,cs,h1,h⟩
theorem cQ.out {M:Mem}{R:Nat->Fr->Prop}{bk ob:Nat}{v:Value}{l:List It}(h:cQ M R bk ob v l):∃cs,lg M 243 v cs/\jG (gN M R bk ob (cQ M R bk)) l cs:=by
 obtain⟨g,h⟩:=h
 cases g with
 | zero=>exact h.elim
 | succ g=>
  obtain⟨cs,h1,h2⟩:=h;exact⟨cs,h1,gU (λ_ _=>fP (λ_ _ _ h=>h) (λ_ _ h=>h) (λ_ _ _ h=>⟨g,h⟩)) _ _ h2⟩
theorem cQ.form {M:Mem}{R:Nat->Fr->Prop}{bk ob:Nat}{v:Value}{l:List It}(h:cQ M R bk ob v l):∃ao cap,v=.slice ao l.length cap:=by
 obtain⟨cs,h1,h2⟩:=h.out;obtain⟨ao,cap,rfl⟩:=h1.form;exact⟨ao,cap,by rw[kN _ _ h2]⟩
theorem St.aO (s:St):s.step.steps=s.steps+1:=by unfold St.step;split <;> rfl
theorem St.ei (s:St):s.step.depth=s.depth:=by unfold St.step;split <;> rfl
theorem St.nA (s:St)(n:Int):(s.put n).steps=s.steps:=by unfold St.put;split <;> rfl
theorem St.xu (s:St)(n:Int):(s.put n).depth=s.depth:=by unfold St.put;split <;> rfl
theorem St.tP (s:St)(k:Nat):(s.word k).steps=s.steps:=rfl
theorem St.Bn (s:St)(k:Nat):(s.word k).depth=s.depth:=rfl
theorem St.Ee (s:St)(k:Int):(s.err k).steps=s.steps:=rfl
theorem St.Ef (s:St)(k:Int):(s.err k).depth=s.depth:=rfl
theorem St.Eh (s:St)(t:Tok)(b:List It):(s.set t b).steps=s.steps:=rfl
theorem St.SI (s:St)(t:Tok)(b:List It):(s.set t b).depth=s.depth:=rfl
theorem St.cD (s:St):s.test.1.steps=s.steps+1:=by
 unfold St.test;split
 ·split
  ·exact s.aO
  ·exact s.aO
 ·exact s.aO
theorem St.fo (s:St):s.test.1.depth=s.depth:=by
 unfold St.test;split
 ·split
  ·exact s.ei
  ·exact s.ei
 ·exact s.ei
theorem St.lu {g:Nat}{s s':St}{k:Nat}(h:s.count g k=some s'):s'.depth=s.depth/\s'.steps=s.steps:=by
 unfold St.count at h
 repeat' split at h
 all_goals first
  | (cases h;done)
  | (injection h with h;subst h;exact⟨rfl,rfl⟩)
theorem yf {g:Nat}{s s':St}{o:Option Nat}{i:Int}(h:(match o with|none=>some s|some k=>match s.ay[k]? with|none=>none|some d=>if d.id=i then s.count g k else some s)=some s'):s'.depth=s.depth/\s'.steps=s.steps:=by
 repeat' split at h
 all_goals first
  | (cases h;done)
  | (injection h with h;subst h;exact⟨rfl,rfl⟩)
  | exact St.lu h
def oM (s s':St):Prop:=s'.depth=s.depth/\s.steps<=s'.steps
section
variable (g:Nat)(f:Fr)(lp:List Int)(s:St)
theorem xw:aI (g+1) (bZ f lp []) s=some (s,false):=rfl
theorem qz (x:It)(l:List It):aI (g+1) (bZ f lp (x::l)) s=match aI g (cT f lp x) s with
  | none=>none
  | some (s1,left)=>if left=true\/s1.e≠0 then some (s1,true) else aI g (bZ f lp l) s1:=rfl
theorem Gx (x:It)(h:x.kind=63):aI (g+1) (cT f lp x) s=if s.test.1.e≠0 then some (s.test.1,true) else if s.test.2=true then aI g (bZ f lp x.a) s.test.1 else aI g (bZ f lp x.b) s.test.1:=by
 conv=>lhs;unfold aI
 rw[af (show ¬(cT f lp x).what=0 from(by decide:¬(1:Nat)=0)),ag (show(cT f lp x).what=1 from rfl),ag (show(cT f lp x).x.kind=63 from h)];rfl
theorem nB (x:It)(h:x.kind=117):aI (g+1) (cT f lp x) s=match aI g (bZ f lp x.a) s with
  | none=>none
  | some (s1,left)=>if left=true then some (s1,true) else
   if s1.test.1.e≠0 then some (s1.test.1,true) else if s1.test.2=true then some (s1.test.1,false) else aI g (cT f lp x) s1.test.1:=by
 conv=>lhs;unfold aI
 rw[af (show ¬(cT f lp x).what=0 from(by decide:¬(1:Nat)=0)),ag (show(cT f lp x).what=1 from rfl),af (show ¬(cT f lp x).x.kind=63 from(by omega:¬x.kind=63)),ag (show(cT f lp x).x.kind=117 from h)];rfl
theorem lB (x:It)(h:x.kind=119):aI (g+1) (cT f lp x) s=match aI g (bZ f lp x.a) s with
  | none=>none
  | some (s1,left)=>if left=true then some (s1,true) else
   if s1.test.1.e≠0 then some (s1.test.1,true) else if s1.test.2=false then some (s1.test.1,false) else
    match aI g (bZ f lp x.b) s1.test.1 with
    | none=>none
    | some (s3,iy)=>if iy=true then some (s3,true) else aI g (cT f lp x) s3:=by
 conv=>lhs;unfold aI
 rw[af (show ¬(cT f lp x).what=0 from(by decide:¬(1:Nat)=0)),ag (show(cT f lp x).what=1 from rfl),af (show ¬(cT f lp x).x.kind=63 from(by omega:¬x.kind=63)),af (show ¬(cT f lp x).x.kind=117 from(by omega:¬x.kind=117)),ag (show(cT f lp x).x.kind=119 from h)];rfl
def eN (x:It)(s:St):Option (St × Bool):=
 if x.kind=110 then some (s.put x.n,decide ((s.put x.n).e≠0))
 else if x.kind=112 then
  match aN.findIdx? (· == x.name) with
  | none=>none
  | some k=>some (s.word k,decide ((s.word k).e≠0))
 else if x.kind=105 then
  match lp with
  | []=>none
  | i::_=>some (s.put i,decide ((s.put i).e≠0))
 else if x.kind=120 then some (s,true)
 else if x.kind=114 then
  match aI g (iM f) s with
  | none=>none
  | some (s2,_)=>some (s2,decide (s2.e≠0))
 else if x.kind=99 then
  match aI g (gB x.name) s with
  | none=>none
  | some (s2,_)=>some (s2,decide (s2.e≠0))
 else if x.kind=123 then
  if 20<=s.depth then some (s.err 8,true) else
  match aI g (aT x.toks) {s with depth:=s.depth+1} with
  | none=>none
  | some (s2,_)=>some ({s2 with depth:=s2.depth-1},decide (s2.e≠0))
 else if x.kind=100 then
  match s.rs with
  | b::m::r=>aI g (Eb f lp b m x.a) {s with rs:=r}
  | _=>some (s.err 6,true)
 else none
theorem j5 (x:It)(h1:¬x.kind=63)(h2:¬x.kind=117)(h3:¬x.kind=119):aI (g+1) (cT f lp x) s=if s.step.e≠0 then some (s.step,true) else eN g f lp x s.step:=by
 conv=>lhs;unfold aI
 rw[af (show ¬(cT f lp x).what=0 from(by decide:¬(1:Nat)=0)),ag (show(cT f lp x).what=1 from rfl),af (show ¬(cT f lp x).x.kind=63 from h1),af (show ¬(cT f lp x).x.kind=117 from h2),af (show ¬(cT f lp x).x.kind=119 from h3)];rfl
theorem Ec (n m:Int)(l:List It):aI (g+1) (Eb f lp n m l) s=if n<m then
        if s.step.e≠0 then some (s.step,true) else
        match aI g (bZ f (n::lp) l) s.step with
        | none=>none
        | some (s2,left)=>if left=true then some (s2,true) else aI g (Eb f lp (n+1) m l) s2
      else some (s,false):=rfl
def eA (s:St):Option St:=match s.find f.name with
 | none=>some s
 | some k=>match s.ay[k]? with
  | none=>none
  | some d=>if d.id=f.id then s.count g k else some s
theorem lC:aI (g+1) (iM f) s=if 20<=s.depth then some (s.err 8,true) else
      match eA g f s with
      | none=>none
      | some s1=>match aI g (bZ f [] f.body) {s1 with depth:=s1.depth+1} with
        | none=>none
        | some (s2,_)=>some ({s2 with depth:=s2.depth-1},false):=rfl
theorem qA (t:Tok):aI (g+1) (gB t) s=match s.ay.find? (λd=>d.name==t) with
      | none=>none
      | some d=>aI g (iM ⟨d.id,d.name,d.body⟩) s:=rfl
theorem Gy:aI (g+1) (aT []) s=some (s,false):=rfl
def fV (t:Tok)(s:St):Option St:=match bA t with
 | some n=>if s.step.e≠0 then some s.step else some (s.step.put n)
 | none=>match aN.findIdx? (· == t) with
  | some k=>if s.step.e≠0 then some s.step else some (s.step.word k)
  | none=>if (eB.any (· == t)||t==eH||t==fu||t==dS)=true then some (s.err 4)
   else if s.aA t=false then some (s.err 3)
   else if s.step.e≠0 then some s.step else
   match aI g (gB t) s.step with
   | none=>none
   | some (s2,_)=>some s2
theorem zy (t:Tok)(r:List Tok)(he:s.e=0)(ht:¬t=dK):aI (g+1) (aT (t::r)) s=match fV g t s with
      | none=>none
      | some s2=>aI g (aT r) s2:=by
  conv=>lhs;unfold aI
  rw[af (show ¬(aT (t::r)).what=0 from(by decide:¬(5:Nat)=0)),af (show ¬(aT (t::r)).what=1 from(by decide:¬(5:Nat)=1)),af (show ¬(aT (t::r)).what=2 from(by decide:¬(5:Nat)=2)),af (show ¬(aT (t::r)).what=3 from(by decide:¬(5:Nat)=3)),af (show ¬(aT (t::r)).what=4 from(by decide:¬(5:Nat)=4))];show(if s.e≠0 then _ else _)=_;rw[af (by simp[he]),af ht];unfold fV
  cases bA t with
  | some n=>
    dsimp only;by_cases h:s.step.e≠0
    · rw[ag h,ag h]
    · rw[af h,af h]
  | none=>
    dsimp only
    cases aN.findIdx? (· == t) with
    | some k=>
      dsimp only;by_cases h:s.step.e≠0
      · rw[ag h,ag h]
      · rw[af h,af h]
    | none=>
      dsimp only;by_cases h1:(eB.any (· == t)||t==eH||t==fu||t==dS)=true
      · rw[ag h1,ag h1]
      · rw[af h1,af h1]
        by_cases h2:s.aA t=false
        · rw[ag h2,ag h2]
        · rw[af h2,af h2]
          by_cases h:s.step.e≠0
          · rw[ag h,ag h]
          · rw[af h,af h]
            cases aI g (gB t) s.step <;> rfl
theorem yh (ts:List Tok)(he:s.e≠0):aI (g+1) (aT ts) s=some (s,false):=by
 cases ts with
 | nil=>rfl
 | cons t r=>
  conv=>lhs;unfold aI
  rw[af (show ¬(aT (t::r)).what=0 from(by decide:¬(5:Nat)=0)),af (show ¬(aT (t::r)).what=1 from(by decide:¬(5:Nat)=1)),af (show ¬(aT (t::r)).what=2 from(by decide:¬(5:Nat)=2)),af (show ¬(aT (t::r)).what=3 from(by decide:¬(5:Nat)=3)),af (show ¬(aT (t::r)).what=4 from(by decide:¬(5:Nat)=4))];show(if s.e≠0 then _ else _)=_;rw[ag he]
theorem tO (r:List Tok)(he:s.e=0):aI (g+1) (aT (dK::r)) s=match jY g s r with
          | none=>none
          | some (.error e)=>some (s.err e,false)
          | some (.ok (nm,b,r1))=>if s.step.e≠0 then some (s.step,false) else aI g (aT r1) (s.step.set nm b):=by
  conv=>lhs;unfold aI
  rw[af (show ¬(aT (dK::r)).what=0 from(by decide:¬(5:Nat)=0)),af (show ¬(aT (dK::r)).what=1 from(by decide:¬(5:Nat)=1)),af (show ¬(aT (dK::r)).what=2 from(by decide:¬(5:Nat)=2)),af (show ¬(aT (dK::r)).what=3 from(by decide:¬(5:Nat)=3)),af (show ¬(aT (dK::r)).what=4 from(by decide:¬(5:Nat)=4))];show(if s.e≠0 then _ else _)=_;rw[af (by simp[he]),ag rfl]
  cases jY g s r <;> rfl
end
theorem Ed {g:Nat}(ih:∀(j:XJ) (s s':St) (left:Bool),aI g j s=some (s',left)->oM s s'){t:Tok}{s s':St}(h:fV g t s=some s'):oM s s':=by
 unfold fV at h
 repeat' split at h
 all_goals first
  | (cases h;done)
  | (injection h with h;subst h;simp only[oM,true_and,St.aO,St.ei,St.nA,St.xu,St.tP,St.Bn,St.Ee,St.Ef];omega)
  | (have k:=ih _ _ _ _ ‹aI g _ _=some _›;injection h with h;subst h;simp only[oM,true_and,St.aO,St.ei] at k ⊢;omega)
theorem Eg {g:Nat}(ih:∀(j:XJ) (s s':St) (left:Bool),aI g j s=some (s',left)->oM s s'){f:Fr}{lp:List Int}{x:It}{s s':St}{left:Bool}(h:eN g f lp x s=some (s',left)):oM s s':=by
 unfold eN at h
 repeat' split at h
 all_goals first
  | (cases h;done)
  | (injection h with h;injection h with h1 h2;subst h1;simp only[oM,true_and,St.nA,St.xu,St.tP,St.Bn,St.Ee,St.Ef];omega)
  | (have k:=ih _ _ _ _ h;simp only[oM,true_and] at k ⊢;omega)
  | (have k:=ih _ _ _ _ ‹aI g _ _=some _›;injection h with h;injection h with h1 h2;subst h1;simp only[oM,true_and] at k ⊢;omega)
theorem cH:∀(g:Nat) (j:XJ) (s s':St) (left:Bool),aI g j s=some (s',left)->oM s s':=by
 intro g
 induction g with
 | zero=>intro j s s' left h;cases h
 | succ g ih=>
  intro j s s' left h;unfold aI at h;by_cases h0:j.what=0
  ·rw[ag h0] at h
   split at h
   ·injection h with h;injection h with h1 h2;subst h1;exact⟨rfl,Int.le_refl _⟩
   ·split at h
    ·cases h
    ·have k:=ih _ _ _ _ ‹aI g _ _=some _›
     split at h
     ·injection h with h;injection h with h1 h2;subst h1;exact k
     ·have k2:=ih _ _ _ _ h;simp only[oM,true_and] at k k2 ⊢;omega
  rw[af h0] at h;by_cases h1:j.what=1
  ·rw[ag h1] at h;by_cases q1:j.x.kind=63
   ·rw[ag q1] at h
    repeat' split at h
    ·injection h with h;injection h with h1 h2;subst h1;simp only[oM,true_and,St.cD,St.fo];omega
    ·have k:=ih _ _ _ _ h;simp only[oM,true_and,St.cD,St.fo] at k ⊢;omega
    ·have k:=ih _ _ _ _ h;simp only[oM,true_and,St.cD,St.fo] at k ⊢;omega
   rw[af q1] at h;by_cases q2:j.x.kind=117
   ·rw[ag q2] at h
    split at h
    ·cases h
    ·have k:=ih _ _ _ _ ‹aI g _ _=some _›
     repeat' split at h
     ·injection h with h;injection h with h1 h2;subst h1;exact k
     ·injection h with h;injection h with h1 h2;subst h1;simp only[oM,true_and,St.cD,St.fo] at k ⊢;omega
     ·injection h with h;injection h with h1 h2;subst h1;simp only[oM,true_and,St.cD,St.fo] at k ⊢;omega
     ·have k2:=ih _ _ _ _ h;simp only[oM,true_and,St.cD,St.fo] at k k2 ⊢;omega
   rw[af q2] at h;by_cases q3:j.x.kind=119
   ·rw[ag q3] at h
    split at h
    ·cases h
    ·have k:=ih _ _ _ _ ‹aI g _ _=some _›
     split at h
     ·injection h with h;injection h with h1 h2;subst h1;exact k
     split at h
     ·injection h with h;injection h with h1 h2;subst h1;simp only[oM,true_and,St.cD,St.fo] at k ⊢;omega
     split at h
     ·injection h with h;injection h with h1 h2;subst h1;simp only[oM,true_and,St.cD,St.fo] at k ⊢;omega
     split at h
     ·cases h
     ·have k2:=ih _ _ _ _ ‹aI g _ _=some _›
      split at h
      ·injection h with h;injection h with h1 h2;subst h1;simp only[oM,true_and,St.cD,St.fo] at k k2 ⊢;omega
      ·have k3:=ih _ _ _ _ h;simp only[oM,true_and,St.cD,St.fo] at k k2 k3 ⊢;omega
   rw[af q3] at h;by_cases q4:s.step.e≠0
   ·rw[ag q4] at h;injection h with h;injection h with h1 h2;subst h1;simp only[oM,true_and,St.aO,St.ei];omega
   rw[af q4] at h;have k:=Eg (f:=j.f) (lp:=j.lp) (x:=j.x) (s:=s.step) (s':=s') (left:=left) ih h;simp only[oM,true_and,St.aO,St.ei] at k ⊢;omega
  rw[af h1] at h;by_cases h2:j.what=2
  ·rw[ag h2] at h
   split at h
   ·split at h
    ·injection h with h;injection h with h1 h2;subst h1;simp only[oM,true_and,St.aO,St.ei];omega
    split at h
    ·cases h
    ·have k:=ih _ _ _ _ ‹aI g _ _=some _›
     split at h
     ·injection h with h;injection h with h1 h2;subst h1;simp only[oM,true_and,St.aO,St.ei] at k ⊢;omega
     ·have k2:=ih _ _ _ _ h;simp only[oM,true_and,St.aO,St.ei] at k k2 ⊢;omega
   ·injection h with h;injection h with h1 h2;subst h1;exact⟨rfl,Int.le_refl _⟩
  rw[af h2] at h;by_cases h3:j.what=3
  ·rw[ag h3] at h;by_cases q:20<=s.depth
   ·rw[ag q] at h;injection h with h;injection h with h1 h2;subst h1;exact⟨rfl,Int.le_refl _⟩
   rw[af q] at h
   have h:(match eA g j.f s with
    | none=>none
    | some s1=>match aI g (bZ j.f [] j.f.body) {s1 with depth:=s1.depth+1} with
     | none=>none
     | some (s2,_)=>some ({s2 with depth:=s2.depth-1},false))=some (s',left):=h
   split at h
   ·cases h
   ·rename_i s1 hc
    have e:=yf (o:=s.find j.f.name) hc
    split at h
    ·cases h
    ·have k:=ih _ _ _ _ ‹aI g _ _=some _›;injection h with h;injection h with h1 h2;subst h1;simp only[oM,true_and] at k ⊢;omega
  rw[af h3] at h;by_cases h4:j.what=4
  ·rw[ag h4] at h
   split at h
   ·cases h
   ·exact ih _ _ _ _ h
  rw[af h4] at h
  split at h
  ·injection h with h;injection h with h1 h2;subst h1;exact⟨rfl,Int.le_refl _⟩
  ·rename_i t r _
   by_cases he:s.e≠0
   ·rw[ag he] at h;injection h with h;injection h with h1 h2;subst h1;exact⟨rfl,Int.le_refl _⟩
   have he:s.e=0:=by simpa using he
   by_cases ht:t=dK
   ·subst ht;have hx:=tO g s r he;have h:aI (g+1) (aT (dK::r)) s=some (s',left):=h;rw[hx] at h
    split at h
    ·cases h
    ·injection h with h;injection h with h1 h2;subst h1;exact⟨rfl,Int.le_refl _⟩
    ·split at h
     ·injection h with h;injection h with h1 h2;subst h1;simp only[oM,true_and,St.aO,St.ei];omega
     ·have k:=ih _ _ _ _ h;simp only[oM,true_and,St.aO,St.ei,St.Eh,St.SI] at k ⊢;omega
   ·have h:aI (g+1) (aT (t::r)) s=some (s',left):=h;rw[zy g s t r he ht] at h
    split at h
    ·cases h
    ·have k:=Ed ih ‹fV g _ _=some _›;have k2:=ih _ _ _ _ h;simp only[oM,true_and] at k k2 ⊢;omega
end
section
open Go.RowKit
variable {K:Nat->Prop}
structure cC (s:St):Prop where
 g:Ky s.rs s.mem s.out
 s0:0<=s.steps
 s1:s.steps<=2001
 s2:s.e=0->s.steps<=2000
 d0:0<=s.depth
 d1:s.depth<=20
 b0:0<=s.built
 b1:s.built<=3
 cb:∀d∈s.ay,∀g names,bz g d.body=some names->names.length<=1000
structure bP (K:Nat->Prop)(w:World)(yb:Nat)(rs:RS)(s:St):Prop where
 inv:∃ns,aR w yb rs ns/\(s.e=0->ns=s.rs.reverse)
 e:rs.e=s.e
 st:rs.st=s.steps
 mem:rs.mem=s.mem
 out:rs.out=s.out
 ids:rs.d.ids=s.ids
 hot:rs.d.hot=s.hot
 blt:rs.d.blt=s.built
 dp:rs.d.dp=s.depth
 dr:ji K w rs.d.dv s.ay
 good:cC s
abbrev fG (yb:Nat)(w w':World)(rs rs':RS):Prop:=To (λk=>k=yb) w w' (λk=>own rs.nv k\/own rs.d.dv k) (λk=>own rs'.nv k\/own rs'.d.dv k)
theorem bP.blk {w:World}{yb:Nat}{rs:RS}{s:St}(h:bP K w yb rs s):aC w yb 67 rs.arr:=by obtain⟨ns,hi,_⟩:=h.inv;exact hi.blk
theorem bP.jX {w:World}{yb:Nat}{rs:RS}{s:St}(h:bP K w yb rs s):vZ w (λk=>k=yb\/(own rs.nv k\/own rs.d.dv k)):=by
 obtain⟨ns,hi,_⟩:=h.inv;obtain⟨xs,hr,_⟩:=h.dr.ex;rintro b t c (e|e|e) hb
 ·subst e;have:=(hb.inj hi.blk).1;subst this;exact⟨by decide,by decide⟩
 ·have:=aQ hi.row e hb;subst this;exact⟨by decide,by decide⟩
 ·have:=aQ hr e hb;subst this;exact⟨by decide,by decide⟩
theorem lS.jX {w:World}{yb:Nat}{rs:RS}{ns:List Int}(hi:aR w yb rs ns):vZ w (λk=>k=yb\/own rs.nv k):=by
 rintro b t c (e|e) hb
 ·subst e;have:=(hb.inj hi.blk).1;subst this;exact⟨by decide,by decide⟩
 ·have:=aQ hi.row e hb;subst this;exact⟨by decide,by decide⟩
theorem lS.noD {w:World}{yb:Nat}{rs:RS}{ns:List Int}(hi:aR w yb rs ns)(b:Nat)(c:Array Value)(h:b=yb\/own rs.nv b):¬aC w b 95 c:=by
 intro hb;rcases h with e|e
 ·subst e;exact ax (hb.inj hi.blk).1 (by decide)
 ·exact ax (aQ hi.row e hb) (by decide)
theorem lS.iF {w w':World}{yb:Nat}{rs rs':RS}(h:lS yb w w' rs rs')(hd:rs'.d.dv=rs.d.dv):fG yb w w' rs rs':=
 ⟨(To.kp h).mono (λk _ hk=>hk.imp_right .inl),λk hk=>by
  rcases hk with hk|hk
  ·rcases To.nx h k hk with h1|h1
   ·exact .inl (.inl h1)
   ·exact .inr h1
  ·rw[hd] at hk;exact .inl (.inr hk)⟩
theorem ji.rto {w w':World}{yb:Nat}{rs rs':RS}{ns:List Int}{ay:List Def}(hi:aR w yb rs ns)(h:lS yb w w' rs rs')(hd:ji K w rs.d.dv ay):ji K w' rs.d.dv ay:=
 hd.kp (To.kp h) (lS.jX hi) (lS.noD hi)
theorem bP.turn {w w':World}{yb:Nat}{rs rs':RS}{s s':St}(h:bP K w yb rs s)(hto:lS yb w w' rs rs')(hd:rs'.d=rs.d)(hi:∃ns,aR w' yb rs' ns/\(s'.e=0->ns=s'.rs.reverse))
  (he:rs'.e=s'.e) (hst:rs'.st=s'.steps) (hm:rs'.mem=s'.mem) (ho:rs'.out=s'.out) (h1:s'.ids=s.ids) (h2:s'.hot=s.hot) (h3:s'.built=s.built) (h4:s'.depth=s.depth) (h5:s'.ay=s.ay) (hg:cC s'):bP K w' yb rs' s'/\fG yb w w' rs rs':=by
 obtain⟨ns,hi0,_⟩:=h.inv;refine⟨⟨hi,he,hst,hm,ho,by rw[hd,h.ids,h1],by rw[hd,h.hot,h2],by rw[hd,h.blt,h3],by rw[hd,h.dp,h4],?_,hg⟩,hto.iF (by rw[hd])⟩;rw[hd,h5];exact ji.rto hi0 hto h.dr
theorem Bo (w:World)(yb:Nat)(s:RS)(ns:List Int)(h:aR w yb s ns)(he:s.e=0)(h1:s.st=2000):
  Calls prog 85 #[.pointer (some ⟨yb,0,none⟩)] w λe w'=>e=.returned (.bool false)/\aR w' yb {s with e:=12,st:=2001} ns/\lS yb w w' s {s with e:=12,st:=2001}:=by
 have c1:w.cell? ⟨yb,21,none⟩=some (.int .i64 0):=h.blk.cell (by rw[<-he];rfl);have c2:w.cell? ⟨yb,22,none⟩=some (.int .i64 2000):=h.blk.cell (by rw[<-h1];rfl);have f1:=h.blk.free 21;have f2:=h.blk.free 22;clear he h1;go_enter func85,ntmps85;go_wp2;go_ret;refine⟨rfl,(h.ya 12).setSt 2001,?_⟩;exact(lS.set (s':={s with e:=12}) rfl 21 _).trans (lS.set (s:={s with e:=12}) rfl 22 _)
theorem jH (w:World)(yb:Nat)(rs:RS)(s:St)(h:bP K w yb rs s)(he:s.e=0):
  Calls prog 85 #[.pointer (some ⟨yb,0,none⟩)] w λe w'=>e=.returned (.bool (decide (s.step.e=0)))/\∃rs',bP K w' yb rs' s.step/\fG yb w w' rs rs'/\rs'.nv=rs.nv:=by
 obtain⟨ns,hi,hns⟩:=h.inv;have hg:=h.good;by_cases hlt:s.steps<2000
 ·have hs:s.step={s with steps:=s.steps+1}:=by unfold St.step;rw[ag hlt]
  refine(Tf w yb rs ns hi (by rw[h.e,he]) (by rw[h.st];exact hg.s0) (by rw[h.st];exact hlt)).mono ?_;rintro e w' ⟨rfl,hi',hto⟩;rw[hs];refine⟨by rw[decide_eq_true (show({s with steps:=s.steps+1}:St).e=0 from he)],_,(h.turn (s':={s with steps:=s.steps+1}) hto rfl ⟨ns,hi',hns⟩ h.e (by show rs.st+1=s.steps+1;rw[h.st]) h.mem h.out rfl rfl rfl rfl rfl ?_).1,hto.iF rfl,rfl⟩;exact⟨hg.g,by have:=hg.s0;show 0<=s.steps+1;omega,by show s.steps+1<=2001;omega,λ_=>by show s.steps+1<=2000;omega,hg.d0,hg.d1,hg.b0,hg.b1,hg.cb⟩
 ·have h20:s.steps=2000:=by have:=hg.s2 he;omega
  have hs:s.step={s with e:=12,steps:=s.steps+1}:=by unfold St.step;rw[af hlt]
  refine(Bo w yb rs ns hi (by rw[h.e,he]) (by rw[h.st,h20])).mono ?_;rintro e w' ⟨rfl,hi',hto⟩;rw[hs];refine⟨rfl,_,(h.turn (s':={s with e:=12,steps:=s.steps+1}) hto rfl ⟨ns,hi',(λh=>by cases h)⟩ rfl (by show 2001=s.steps+1;rw[h20];rfl) h.mem h.out rfl rfl rfl rfl rfl ?_).1,hto.iF rfl,rfl⟩;exact⟨hg.g,by have:=hg.s0;show 0<=s.steps+1;omega,by show s.steps+1<=2001;omega,(λh=>by cases h),hg.d0,hg.d1,hg.b0,hg.b1,hg.cb⟩
theorem Po (w:World)(yb:Nat)(rs:RS)(s:St)(n:Int)(h:bP K w yb rs s)(he:s.e=0)(hn:In n):
  Calls prog 87 #[.pointer (some ⟨yb,0,none⟩),.int .i64 n] w λe w'=>e=.returned (.tuple #[])/\∃rs',bP K w' yb rs' (s.put n)/\fG yb w w' rs rs':=by
 obtain⟨ns,hi,hns⟩:=h.inv;have hg:=h.good;have hns:=hns he;subst hns;by_cases hlt:s.rs.length<32
 ·have hs:s.put n={s with rs:=n::s.rs}:=by unfold St.put;rw[ag hlt]
  refine(gz w yb rs s.rs n hi (by rw[h.e,he]) hlt).mono ?_;rintro e w' ⟨rfl,v',hi',hto⟩;rw[hs];refine⟨rfl,_,h.turn hto rfl ⟨_,hi',λ_=>rfl⟩ h.e h.st h.mem h.out rfl rfl rfl rfl rfl ?_⟩;exact⟨⟨by simp only[List.mem_cons,forall_eq_or_imp];exact⟨hn,hg.g.ins⟩,hg.g.sP,by simp only[aq];omega,hg.g.tQ⟩,hg.s0,hg.s1,hg.s2,hg.d0,hg.d1,hg.b0,hg.b1,hg.cb⟩
 ·have hs:s.put n={s with e:=7}:=by unfold St.put;rw[af hlt]
  refine(qu w yb rs _ n hi (by rw[h.e,he]) (by have:=hg.g.len;simp;omega)).mono ?_;rintro e w' ⟨rfl,hi',hto⟩;rw[hs];refine⟨rfl,_,h.turn hto rfl ⟨_,hi',(λh=>by cases h)⟩ rfl h.st h.mem h.out rfl rfl rfl rfl rfl ?_⟩;exact⟨hg.g,hg.s0,hg.s1,(λh=>by cases h),hg.d0,hg.d1,hg.b0,hg.b1,hg.cb⟩
theorem Oc (w:World)(yb:Nat)(rs:RS)(s:St)(k:Nat)(t:ByteArray)(hk:aN[k]? = some t.toList)(h:bP K w yb rs s)(he:s.e=0):
  Calls prog 88 #[.pointer (some ⟨yb,0,none⟩),.string t] w λe w'=>e=.returned (.tuple #[])/\∃rs',bP K w' yb rs' (s.word k)/\fG yb w w' rs rs':=by
 obtain⟨ns,hi,hns⟩:=h.inv;have hg:=h.good;have hns:=hns he;subst hns;refine(Bp k t hk w yb rs s.rs hi (by rw[h.e,he]) (by rw[h.out];exact hg.g.tQ) hg.g.ins).mono ?_;rintro e w' ⟨rfl,hp⟩;obtain⟨rs',ns',hi',hto,e1,e2,e3,e4,e5⟩:=hp.ex;rw[h.mem,h.out] at e1 e2 e3 e5;have hf:l9 (jI k s.rs s.mem s.out):=tR _ hg.g;injection e4 with e4 e6;refine⟨rfl,rs',h.turn hto e6 ⟨ns',hi',e5⟩ e1 (by rw[e4,h.st];rfl) e2 e3 rfl rfl rfl rfl rfl ?_⟩;exact⟨hf,hg.s0,hg.s1,λ_=>hg.s2 he,hg.d0,hg.d1,hg.b0,hg.b1,hg.cb⟩
theorem Gz (w:World)(yb:Nat)(rs:RS)(s:St)(h:bP K w yb rs s)(he:s.e=0):
  Calls prog 211 #[.pointer (some ⟨yb,0,none⟩)] w λe w'=>e=.returned (.bool s.test.2)/\∃rs',bP K w' yb rs' s.test.1/\fG yb w w' rs rs':=by
 go_enter func211,ntmps211
 go_wp2_with fail
 refine(jH w yb rs s h he).mono ?_;rintro e w1 ⟨rfl,fB,h1,bt,-⟩;by_cases hs:s.step.e=0
 ·have hd:decide (s.step.e=0)=true:=decide_eq_true hs;rw[hd];clear hd;obtain⟨ns,hi,hns⟩:=h1.inv;have hg:=h1.good;have hns:=hns hs;subst hns
  cases hrs:s.step.rs with
  | nil=>
   have HT:Hid (s.test=(s.step.err 6,false)):=by unfold Hid St.test;rw[ag hs,hrs]
   go_wp2_with fail
   refine(bO _ _ _ _ _ hi (by rw[hrs];simp)).mono ?_;rintro e w2 ⟨v,rfl,hi2,bM⟩;have HN:=h1.turn (s':=s.step.err 6) bM rfl ⟨_,hi2,(λh=>by cases h)⟩ rfl h1.st h1.mem h1.out rfl rfl rfl rfl rfl ⟨hg.g,hg.s0,hg.s1,(λh=>by cases h),hg.d0,hg.d1,hg.b0,hg.b1,hg.cb⟩;clear hi2 bM hi;go_wp2;go_ret;rw[HT.out];exact⟨rfl,_,HN.1,bt.trans HN.2⟩
  | cons a r=>
   have HT:Hid (s.test=({s.step with rs:=r},decide (a≠0))):=by unfold Hid St.test;rw[ag hs,hrs]
   rw[hrs] at hi;have hgg:=hg.g;rw[hrs] at hgg
   go_wp2_with fail
   refine(mz _ _ _ _ _ hi).mono ?_;rintro e w2 ⟨g,v',rfl,hT⟩;have HN:=h1.turn (s':={s.step with rs:=r}) hT.to rfl ⟨_,hT.inv,λ_=>rfl⟩ h1.e h1.st h1.mem h1.out rfl rfl rfl rfl rfl ⟨⟨λx hx=>hgg.ins x (by simp[hx]),hgg.sP,by have:=hgg.len;simp only[aq] at this;show r.length<=32;omega,hgg.tQ⟩,hg.s0,hg.s1,hg.s2,hg.d0,hg.d1,hg.b0,hg.b1,hg.cb⟩;have k0:=hT.blk.cell (o:=0) rfl;clear hT hi hgg;go_wp2;go_ret;rw[HT.out];refine⟨?_,_,HN.1,bt.trans HN.2⟩;by_cases ha:a=0 <;> simp[ha]
 ·have hd:decide (s.step.e=0)=false:=decide_eq_false hs;rw[hd];clear hd;have HT:Hid (s.test=(s.step,false)):=by unfold Hid St.test;rw[af hs]
  go_wp2;go_ret;rw[HT.out];exact⟨rfl,_,h1,bt⟩
end
end Go.Proofs.YteainaiebcphlaaGreatDoor
