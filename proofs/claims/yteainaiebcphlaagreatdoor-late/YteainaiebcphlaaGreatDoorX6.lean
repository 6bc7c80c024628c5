import Derived.Test.YteainaiebcphlaaGreatDoorX5
namespace Go.Proofs.YteainaiebcphlaaGreatDoor
set_option maxRecDepth 1000000
set_option maxHeartbeats 4000000
set_option linter.all false
section
open Go.RowKit
theorem kindN_at {l:List UInt8} {i:Nat} (h:kindN l=i) (hi:i ≠ 0):spellL[i]? = some l:=by
 unfold kindN at h
 cases hf:spellL.findIdx? (· == l) with
 | none=>rw[hf] at h;exact absurd h.symm hi
 | some k=>
  rw[hf] at h;have h:k=i:=h;subst h;obtain⟨hlt,hk,_⟩:=List.findIdx?_eq_some_iff_getElem.1 hf;rw[List.getElem?_eq_getElem hlt,beq_iff_eq.1 hk]
def kdOf (l:List UInt8):Int:=if (numP l).isSome then 1 else (kindN l:Int)
theorem kdOf_at {l:List UInt8} {i:Nat} (h:kdOf l=(i:Int)) (hi:2<=i):spellL[i]? = some l:=by
 unfold kdOf at h
 split at h
 ·exfalso;omega
 ·exact kindN_at (by omega) (by omega)
theorem kdOf_ends (l:List UInt8):allEnds.any (· == l)=decide (kdOf l=19\/kdOf l=23\/kdOf l=24\/kdOf l=26\/kdOf l=27\/kdOf l=28\/kdOf l=30):=by
 cases h:allEnds.any (· == l)
 ·symm
  apply decide_eq_false
  rintro (h1|h1|h1|h1|h1|h1|h1)
  ·have:=kdOf_at (i:=19) h1 (by decide);rw[show spellL[19]? = some kSemi by decide] at this;injection this with this;subst this;revert h;decide
  ·have:=kdOf_at (i:=23) h1 (by decide);rw[show spellL[23]? = some kElse by decide] at this;injection this with this;subst this;revert h;decide
  ·have:=kdOf_at (i:=24) h1 (by decide);rw[show spellL[24]? = some kThen by decide] at this;injection this with this;subst this;revert h;decide
  ·have:=kdOf_at (i:=26) h1 (by decide);rw[show spellL[26]? = some kUntil by decide] at this;injection this with this;subst this;revert h;decide
  ·have:=kdOf_at (i:=27) h1 (by decide);rw[show spellL[27]? = some kWhile by decide] at this;injection this with this;subst this;revert h;decide
  ·have:=kdOf_at (i:=28) h1 (by decide);rw[show spellL[28]? = some kRepeat by decide] at this;injection this with this;subst this;revert h;decide
  ·have:=kdOf_at (i:=30) h1 (by decide);rw[show spellL[30]? = some kLoop by decide] at this;injection this with this;subst this;revert h;decide
 ·symm
  apply decide_eq_true
  obtain⟨x,hx,he⟩:=List.any_eq_true.1 h;have he:=beq_iff_eq.1 he;subst he;simp only[allEnds,List.mem_cons,List.mem_nil_iff,or_false] at hx;rcases hx with rfl|rfl|rfl|rfl|rfl|rfl|rfl <;> decide
theorem ends_kind {l:List UInt8} (h:allEnds.any (· == l)=true):kdOf l=(kindN l:Int):=by
 obtain⟨x,hx,he⟩:=List.any_eq_true.1 h;have he:=beq_iff_eq.1 he;subst he;simp only[allEnds,List.mem_cons,List.mem_nil_iff,or_false] at hx;rcases hx with rfl|rfl|rfl|rfl|rfl|rfl|rfl <;> decide
theorem kindQ (s:ByteArray) (w:World) (hs:okW s) (hg:SpAt w):Calls Tryz.prog 67 #[.string s] w fun e w'=>e=.returned (.int .i64 (kdOf s.data.toList))/\w'=w:=by
 obtain⟨tt,fr,h⟩:=hg;exact kindM s w tt fr hs.2 h _ (by rw[ByteArray.toList_eq];rfl)
theorem results_tmp3 {fn:Func} {t u v:Tmp} (h:fn.results=#[.tmp t,.tmp u,.tmp v]) (tmps:Array Value) (P:Program) (w:World):
  (results fn tmps).run P w=.ok (.tuple #[tmps.getD t undef,tmps.getD u undef,tmps.getD v undef]) w:=by
 simp[results,h]
theorem pBraces_len:∀ (r:List Tok) (ts r':List Tok),pBraces r=.ok (ts,r')->r'.length<=r.length
 | [],_,_,h=>by cases h
 | t :: r,ts,r',h=>by
  unfold pBraces at h
  split at h
  ·cases h
  ·split at h
   ·injection h with h;injection h with h1 h2;subst h2;simp
   ·split at h
    ·cases h
    ·rename_i ts2 r2 h2
     injection h with h;injection h with h1 h3;subst h3;have:=pBraces_len r ts2 r2 h2;simp;omega
theorem pRead_len (known:Tok->Bool):∀ (g:Nat) (j:PJ) (r:List Tok) (xs:List It) (t:Tok) (r':List Tok),pRead known g j r=some (.ok (xs,t,r'))->r'.length<=r.length
 | 0,_,_,_,_,_,h=>by cases h
 | g+1,j,r,xs,t,r',h=>by
  have ih:=pRead_len known g;rw[pRead.eq_def] at h;dsimp only at h
  repeat' split at h
  all_goals first
   | (cases h;done)
   | (injection h with h;injection h with h;injection h with h1 h2;injection h2 with h2 h3;subst h3;first
     | (simp;done)
     | exact ih _ _ _ _ _ (by assumption)
     | exact pBraces_len _ _ _ (by assumption)
     | exact Nat.le_trans (ih _ _ _ _ _ (by assumption)) (ih _ _ _ _ _ (by assumption))
     | exact Nat.le_trans (ih _ _ _ _ _ (by assumption)) (Nat.le_trans (ih _ _ _ _ _ (by assumption)) (Nat.le_succ _)))
theorem SpAt.lt {w:World} (h:SpAt w):1 < w.heap.size:=by
 obtain⟨tt,fr,hx⟩:=h;rcases Nat.lt_or_ge 1 w.heap.size with h|h
 ·exact h
 ·rw[Array.getElem?_eq_none h] at hx;cases hx
theorem BD_keep {w w':World} {D D' V:Nat->Prop} (hk:Kp w w' V) (hd:∀ b,b < w.heap.size->D b->D' b/\¬ V b):∀ b t c,BD D w b t c->BD D' w' b t c:=
 fun b _ _ h=>⟨(hd b h.2.lt h.1).1,hk.blk h.2 (hd b h.2.lt h.1).2⟩
theorem BD_sub {w:World} {D D':Nat->Prop} (hd:∀ b,b < w.heap.size->D b->D' b):∀ b t c,BD D w b t c->BD D' w b t c:=
 fun b _ _ h=>⟨hd b h.2.lt h.1,h.2⟩
def BQ (w:World) (sb bk mb:Nat) (known:Tok->Bool) (lo:Nat) (G:Nat) (res:PRes) (v:Value) (wr:World):Prop:=
 ∃ ws' dn xs G' res',Kp w wr (fun b=>b=sb)/\RdInv wr sb bk mb known ws' lo/\wr.ownsRow 0 241 7 v dn.length xs/\(∀ b,own v b->New w b)/\dn.length+ws'.length<=1000 /\
  itemsL (BD (fun b=>New w b/\¬ own v b) wr) (Items (BD (fun b=>New w b/\¬ own v b) wr)) dn xs/\G'<=G/\pRead known G' ⟨false,lo,allEnds,[]⟩ (texts ws')=some res'/\res=consR dn res'
theorem bodyQ (G:Nat) (IH:∀ g,g < G->QItem g):QBody G:=by
 intro w sb bk mb known ws lo res hres h;obtain⟨i0,hi,hz0,hz1,hz2⟩:=info_parts Tryz.infoBI;have HI:=hide IH;clear IH;obtain⟨rv9,hb9,-⟩:=h.blk;have hsb:=hb9.lt;have h1w:=h.sp.lt;clear hb9;have H0:BQ w sb bk mb known lo G res (.slice none 0 0) w:=
  ⟨ws,[],[],G,res,Kp.refl _ _,h,World.ownsRow_nil _ _ _ _,fun b hb=>by simp[own,Value.ownBlock] at hb,by have:=h.len;simp;omega,rfl,Nat.le_refl _,hres,(consR_nil _).symm⟩
 have HH:=hide H0;clear H0 hres h;go_enter Tryz.func182,Tryz.ntmps182;go_wp2
 go_loopw [5] (fun v wr=>BQ w sb bk mb known lo G res v wr) (fun _ wr=>restOf wr sb)
 case atStart=>exact HH.out
 case round=>
  obtain⟨ws',dn,xs,G',res',hkp,hS,hrow,hnew,hdl,hits,hG,hp,hcons⟩:=hrel;have hmeas:=hS.rest;obtain⟨rv,hB,hT⟩:=hS.blk;obtain⟨ao1,cap1,rfl⟩:=hT.form;have c0:wr.cell? ⟨sb,0,none⟩=some (.slice ao1 ws'.length cap1):=hB.cell rfl;obtain⟨ao,cap,rfl⟩:=row_slice hrow
  cases G' with
  | zero=>rw[pB0] at hp;cases hp
  | succ g=>
  cases ws' with
  | nil=>
   rw[show texts []=[] from rfl,pB_nil] at hp;injection hp with hp;subst hp;have HR:Hid (res=.error 4):=hcons;have HB:=hide hB;clear hcons hits;go_wp2;refine bodyPost_ret (results_tmp3 rfl _ _ _) rfl ?_;rw[HR.out];exact⟨hkp,by decide,_,rfl,HB.out⟩
  | cons t wr'=>
   simp only[List.length_cons] at c0 hdl;rw[show texts (t :: wr')=t.data.toList :: texts wr' from rfl] at hp;have hok:=hS.ok t (by simp);have hlen:=hS.len;simp only[List.length_cons] at hlen hmeas;have HP:=hide hp;have HC:=hide hcons;have HT:=hide hits;have HS:=hide hS;clear hp hcons hits hT hS hB
   go_wp2_with fail
   refine (nextM _ sb bk mb lo known t wr' HS.out).mono ?_;rintro e w1 ⟨rfl,hk1,hS1⟩;have hsp:=hS1.sp
   go_wp2_with fail
   refine (kindQ _ _ hok hsp).mono ?_;rintro e w' ⟨rfl,hw⟩;rw[hw];clear hw
   go_wp2_with fail
   refine (endsM _ _).mono ?_;rintro e w' ⟨rfl,hw⟩;rw[hw];clear hw;rw[<-kdOf_ends];obtain⟨rv0,hB0,-⟩:=HS.out.blk;obtain⟨rv1,hB1,-⟩:=hS1.blk;have hrow1:=hk1.row hrow (fun b hb e=>by subst e;exact own_ne hrow hB0 (by decide) hb);have hkp1:=hkp.trans hk1;have hsz1:=hkp1.size;have hkeep1:=BD_keep (D:=fun b=>New w b/\¬ own (.slice ao dn.length cap) b) (D':=fun b=>New w b/\¬ own (.slice ao dn.length cap) b) hk1 (fun b _ hb=>⟨hb,fun e=>by have:w.heap.size<=b:=hb.1;omega⟩);have hits1:=itemsL_mono hkeep1 (fun _ _ h=>h.mono hkeep1) _ _ HT.out;clear hkeep1
   cases hany:allEnds.any (· == t.data.toList)
   ·have hitem:=pB_go _ _ _ _ _ _ hany _ HP.out;clear HT HP hB0 hrow hk1 hkp hsp c0 HS;rcases hitem with⟨e,hit,hre⟩|⟨xs1,t1,r2,res2,hit,hp2,hre⟩
    ·have HRE:Hid (res=.error e):=by have:=HC.out;rw[hre] at this;exact this
     clear hre HC hits1
     go_wp2_with fail
     refine (HI.out g (by omega) _ _ _ _ _ _ _ _ _ _ hit hS1 hok (by omega) (by rw[ByteArray.toList_eq];rfl) hany).mono ?_;clear hit;rintro x w2 ⟨hk2,her,k7,n7,pl7,nm7,a1,m1,p1,a2,m2,p2,a3,m3,p3,rv2,rfl,hB2⟩;have her':(e != 0)=true:=by simpa using her
     have hkp2:=hkp1.trans hk2;clear hk2 hrow1 hS1 hkp1;go_wp2;refine bodyPost_ret (results_tmp3 rfl _ _ _) rfl ?_;rw[HRE.out];exact⟨hkp2.alloc _,her,_,rfl,hB2.alloc _⟩
    ·have hit':=hit;have HRE:Hid (res=consR (dn ++ xs1) res2):=by have:=HC.out;rw[hre,consR_app] at this;exact this
     have HP2:=hide hp2;clear hre HC hp2
     go_wp2_with fail
     refine (HI.out g (by omega) _ _ _ _ _ _ _ _ _ _ hit hS1 hok (by omega) (by rw[ByteArray.toList_eq];rfl) hany).mono ?_;clear hit;rintro x w2 ⟨hk2,x',n7,pl7,nm,tv,va,vb,ws2,rfl,rfl,hat,htx,hS2⟩;have hwl:ws2.length<=wr'.length:=by have:=pRead_len _ _ _ _ _ _ _ hit';rw[<-htx] at this;simpa [texts] using this
     clear hit';obtain⟨ws5,hr5,-⟩:=hat.toks;obtain⟨xs3,hr3,-⟩:=hat.a.out;obtain⟨xs4,hr4,-⟩:=hat.b.out;obtain⟨a3,p3,rfl⟩:=hr3.form;obtain⟨a4,p4,rfl⟩:=hr4.form;obtain⟨a5,p5,hv5⟩:=hr5.form;rw[List.length_map] at hv5;subst hv5;have hrow2:=hk2.row hrow1 (fun b hb e=>by subst e;exact own_ne hrow1 hB1 (by decide) hb);have hkp2:=hkp1.trans hk2;have hsz2:=hkp2.size;have hsz12:=hk2.size;have HIt1:=hide hits1;have HAt:=hide hat;have hb1:∀ b,own (.slice ao dn.length cap) b->b < w1.heap.size:=fun b hb=>own_lt hrow1 hb;clear hrow1 hkp1 hr3 hr4 hr5 hits1 hat
     go_wp2_with (first
      | (at_builtin;refine wpList_append_to _ rfl _ _ 108 rfl 241 i0 (.agg zIt7) 7 112 Tryz.underlying108 hi hz0 hz1 hz2 rfl (by decide) _ _ _ rfl ((hrow2.alloc _).alloc _) ⟨w2.heap.size+1,0,none⟩ 1 1 [.int .i64 (kindP x'.kind),.int .i64 n7,.int .i64 pl7,.string nm,.slice a5 ws5.length p5,.slice a3 x'.a.length p3,.slice a4 x'.b.length p4] rfl rfl ?d1 ?d2 ?d3 ?d4 ?_)
      | go_in)
     case d1=>exact new_cells _ _ _ _
     case d2=>intro u hu;simp at hu;rcases hu with rfl|rfl|rfl|rfl|rfl|rfl|rfl <;> rfl
     case d3=>unfold maxLen;omega
     case d4=>omega
     intro v' w3 hown' hgrow hnx;have hB2:∃ rv2,Blk w2 sb 201 (rdArr rv2 bk lo)/\TokAt (BD (fun b=>b < sb) w2) rv2 ws2:=hS2.blk;obtain⟨rv2,hB2,hT2⟩:=hB2;have hB3:=grown_keep hgrow hB2 (own_ne hrow2 hB2 (by decide));have hkp3:Kp w w3 (fun b=>b=sb):=((hkp2.alloc _).alloc _).grown hgrow (fun b hb e=>by have:=hnew b e;omega);have hkg:Kp w2 w3 (fun b=>own (.slice ao dn.length cap) b):=(((Kp.refl w2 (fun b=>own (.slice ao dn.length cap) b)).alloc _).alloc _).grown hgrow (fun b _ e=>e);have hnv:∀ b,b < w2.heap.size->¬ own (.slice ao dn.length cap) b->¬ own v' b:=fun b hb hn hv=>by
      rcases hnx b hv with h1|h1
      ·exact hn h1
      ·omega
     have hnew':∀ b,own v' b->New w b:=fun b hb=>by
      rcases hnx b hb with h1|h1
      ·exact hnew b h1
      ·show w.heap.size<=b;omega
     have hka:=BD_keep (D:=fun b=>New w b/\¬ own (.slice ao dn.length cap) b) (D':=fun b=>New w b/\¬ own (.slice ao dn.length cap) b) hk2 (fun b _ hb=>⟨hb,fun e=>by have:w.heap.size<=b:=hb.1;omega⟩);have hkb:=BD_keep (D:=fun b=>New w b/\¬ own (.slice ao dn.length cap) b) (D':=fun b=>New w b/\¬ own v' b) hkg (fun b hb h=>⟨⟨h.1,hnv b hb h.2⟩,h.2⟩);have hkc:=BD_keep (D:=New w1) (D':=fun b=>New w b/\¬ own v' b) hkg (fun b hb h=>by
      have h:w1.heap.size<=b:=h;have hn:¬ own (.slice ao dn.length cap) b:=fun e=>by have:=hb1 b e;omega
      exact⟨⟨by show w.heap.size<=b;omega,hnv b hb hn⟩,hn⟩)
     have hS3:RdInv w3 sb bk mb known ws2 lo:=by
      have hg1:=hkg;obtain⟨nn,DD,hm,hl⟩:=hS2.book.look;have hnb:∀ b t c,Blk w2 b t c->t ≠ 241->¬ own (.slice ao dn.length cap) b:=fun b t c hb ht e=>own_ne hrow2 hb (fun e=>ht e.symm) e;have h1n:¬ own (.slice ao dn.length cap) 1:=by
       intro e;have:w.heap.size<=1:=hnew 1 e;omega
      exact⟨⟨rv2,hB3,TokAt_mono (fun b c hc=>⟨hc.1,hkg.blk hc.2 (hnb b 9 c hc.2 (by decide))⟩) hT2⟩,hS2.book.kp hkg (hnb bk _ _ hS2.book.blk (by decide)) (fun e=>by obtain⟨c,hc⟩:=row_blk hrow2 e;exact map_ne hm hc rfl),hS2.len,hS2.ok,hS2.sp.kp hkg h1n,hS2.s1⟩
     have hat:=HAt.out;have HN:BQ w sb bk mb known lo G res v' w3:=by
      refine⟨ws2,dn ++ [x'],xs ++ [.int .i64 (kindP x'.kind),.int .i64 n7,.int .i64 pl7,.string nm,.slice a5 ws5.length p5,.slice a3 x'.a.length p3,.slice a4 x'.b.length p4],g,res2,hkp3,hS3,by simpa using hown',hnew',by simp;omega,?_,by omega,by rw[htx];exact HP2.out,HRE.out⟩;refine itemsL_app _ _ _ _ (itemsL_mono (fun b t c h=>hkb b t c (hka b t c h)) (fun _ _ h=>h.mono (fun b t c h=>hkb b t c (hka b t c h))) _ _ HIt1.out) ?_;exact⟨_,_,_,_,_,_,[],rfl,hat.mono hkc (fun _ _ h=>h.mono hkc),rfl⟩
     have hm2:=hS3.rest;clear hown' hgrow hnx hrow2 hkp2 hS2 hB3 hkp3 hka hkb hkc hnv hnew' hb1 hk2 hB1 hB2 hT2 hkg hat hS3;go_wp2
     go_roundw
     case rel=>exact HN
     case measure=>rw[hmeas,hm2];omega
   ·have hp:=HP.out;rw[pB_stop _ _ _ _ _ _ hany] at hp;injection hp with hp;subst hp;have HRE:Hid (res=.ok (dn,t.data.toList,texts wr')):=by unfold Hid;rw[HC.out];simp[consR]
    have hkd:=ends_kind hany;rw[hkd];clear HT HP hB0 hrow hk1 hkp hsp c0 HS HC hkd;go_wp2;refine bodyPost_ret (results_tmp3 rfl _ _ _) rfl ?_;rw[HRE.out];have hsub:=BD_sub (w:=w1) (D:=fun b=>New w b/\¬ own (.slice ao dn.length cap) b) (D':=New w) (fun b _ h=>h.1);exact⟨hkp1,_,wr',rfl,Items.of (rowZ.of hrow1 hnew) (itemsL_mono hsub (fun _ _ h=>h.mono hsub) _ _ hits1) (by omega),rfl,hS1⟩
end
section
open Go.RowKit
theorem in_spell {l:List UInt8} (hl:l ≠ []) (h:kindN l=0):∀ x∈spellL,(x == l)=false:=by
 unfold kindN at h
 cases hf:spellL.findIdx? (· == l) with
 | none=>exact List.findIdx?_eq_none_iff.1 hf
 | some k=>
  rw[hf] at h;have h:k=0:=h;subst h;obtain⟨hlt,hk,_⟩:=List.findIdx?_eq_some_iff_getElem.1 hf;exact absurd (beq_iff_eq.1 hk).symm hl
theorem kind_plainN {l:List UInt8} {j:Nat} (hl:l ≠ []) (h:plainL.findIdx? (· == l)=some j):kindN l=j+2/\j < 16:=by
 have h2:([[],[]]:List (List UInt8)).findIdx? (· == l)=none:=by
  rw[List.findIdx?_eq_none_iff];intro x hx;simp at hx;subst hx;rw[beq_eq_false_iff_ne];exact fun e=>hl e.symm
 constructor
 ·unfold kindN spellL;rw[List.findIdx?_append,h2,List.findIdx?_append,h];rfl
 ·obtain⟨hlt,_⟩:=List.findIdx?_eq_some_iff_getElem.1 h;exact hlt
theorem kd_cases {l:List UInt8} (hl:l ≠ []) (he:allEnds.any (· == l)=false):
  (∃ n,numP l=some n/\kdOf l=1)\/(numP l=none/\∃ j,plainL.findIdx? (· == l)=some j/\kdOf l=(j:Int)+2/\j < 16)\/(numP l=none/\kdOf l=0/\∀ x∈spellL,(x == l)=false) \/
  l=kColon\/l=kOpen\/l=kClose\/l=kIf\/l=kBegin\/l=kDo\/l=kI\/l=kRecurse\/l=kExit:=by
 cases hn:numP l with
 | some n=>exact .inl ⟨n,rfl,by unfold kdOf;rw[hn];rfl⟩
 | none=>
  right
  cases hp:plainL.findIdx? (· == l) with
  | some j=>
   obtain⟨h1,h2⟩:=kind_plainN hl hp;exact .inl ⟨rfl,j,rfl,by unfold kdOf;rw[hn,h1];simp,h2⟩
  | none=>
   right
   by_cases h0:kindN l=0
   ·exact .inl ⟨rfl,by unfold kdOf;rw[hn,h0];rfl,in_spell hl h0⟩
   ·right
    have hs:=kindN_at rfl h0;have hlt:kindN l < 34:=by
     rcases Nat.lt_or_ge (kindN l) 34 with h|h
     ·exact h
     ·rw[List.getElem?_eq_none (by exact h)] at hs;cases hs
    generalize kindN l=i at hs h0 hlt;have:i=1\/i=2\/i=3\/i=4\/i=5\/i=6\/i=7\/i=8\/i=9\/i=10\/i=11\/i=12\/i=13\/i=14\/i=15\/i=16\/i=17\/i=18\/i=19\/i=20\/i=21\/i=22\/i=23\/i=24\/i=25\/i=26\/i=27\/i=28\/i=29\/i=30\/i=31\/i=32\/i=33:=by omega
    rcases this with rfl|rfl|rfl|rfl|rfl|rfl|rfl|rfl|rfl|rfl|rfl|rfl|rfl|rfl|rfl|rfl|rfl|rfl|rfl|rfl|rfl|rfl|rfl|rfl|rfl|rfl|rfl|rfl|rfl|rfl|rfl|rfl|rfl
    all_goals
     injection hs with hs;subst hs
     first
      | (exact absurd rfl hl)
      | (exact absurd he (by decide))
      | (exact .inl rfl)
      | (exact .inr (.inl rfl))
      | (exact .inr (.inr (.inl rfl)))
      | (exact .inr (.inr (.inr (.inl rfl))))
      | (exact .inr (.inr (.inr (.inr (.inl rfl)))))
      | (exact .inr (.inr (.inr (.inr (.inr (.inl rfl))))))
      | (exact .inr (.inr (.inr (.inr (.inr (.inr (.inl rfl)))))))
      | (exact .inr (.inr (.inr (.inr (.inr (.inr (.inr (.inl rfl))))))))
      | (exact .inr (.inr (.inr (.inr (.inr (.inr (.inr (.inr rfl))))))))
      | (exact absurd hp (by decide))
theorem itm_leaf {w w':World} (k:Nat) (n n' pl:Int) (nm:ByteArray) (name:Tok) (hk:k=110\/k=112\/k=99\/k=105\/k=114\/k=120) (h0:k=110->n'=n/\In n) (h1:k=112->∃ j,plainL.findIdx? (· == name)=some j/\pl=(j:Int)+2) (h2:k=99->nm.data.toList=name/\nm.size<=1000):
  PItm (BD (New w) w') (Items (BD (New w) w')) ⟨k,n,name,[],[],[]⟩ n' pl nm (.slice none 0 0) (.slice none 0 0) (.slice none 0 0):=by
 refine⟨?_,h0,h1,h2,⟨[],.inl ⟨rfl,rfl⟩,fun h=>?_⟩,Items.nil _,Items.nil _⟩
 ·rcases hk with h|h|h|h|h|h <;> simp[h]
 ·have h:k=123:=h
  exfalso
  clear h0 h1 h2;omega
end
section
open Go.RowKit
theorem Blk.seven {w:World} {b:Nat} {t:TypeId} {a0 a1 a2 a3 a4 a5 a6:Value} (h:Blk w b t #[a0,a1,a2,a3,a4,a5,a6]):
  w.cell? ⟨b,0,none⟩=some a0/\w.cell? ⟨b,1,none⟩=some a1/\w.cell? ⟨b,2,none⟩=some a2/\w.cell? ⟨b,3,none⟩=some a3/\w.cell? ⟨b,4,none⟩=some a4/\w.cell? ⟨b,5,none⟩=some a5/\w.cell? ⟨b,6,none⟩=some a6:=
 ⟨h.cell rfl,h.cell rfl,h.cell rfl,h.cell rfl,h.cell rfl,h.cell rfl,h.cell rfl⟩
theorem Blk.sevenF {w:World} {b:Nat} {t:TypeId} {c:Array Value} (h:Blk w b t c):
  w.frozen? ⟨b,0,none⟩=false/\w.frozen? ⟨b,1,none⟩=false/\w.frozen? ⟨b,2,none⟩=false/\w.frozen? ⟨b,3,none⟩=false/\w.frozen? ⟨b,4,none⟩=false/\w.frozen? ⟨b,5,none⟩=false/\w.frozen? ⟨b,6,none⟩=false:=
 ⟨h.free 0,h.free 1,h.free 2,h.free 3,h.free 4,h.free 5,h.free 6⟩
theorem Blk.set7 {w:World} {b:Nat} {t:TypeId} {a0 a1 a2 a3 a4 a5 a6:Value} (h:Blk w b t #[a0,a1,a2,a3,a4,a5,a6]) (v0 v1 v2 v3 v4 v5 v6:Value):
  Blk (((((((w.setCell ⟨b,0,none⟩ v0).setCell ⟨b,1,none⟩ v1).setCell ⟨b,2,none⟩ v2).setCell ⟨b,3,none⟩ v3).setCell ⟨b,4,none⟩ v4).setCell ⟨b,5,none⟩ v5).setCell ⟨b,6,none⟩ v6) b t #[v0,v1,v2,v3,v4,v5,v6]:=by
 have h1:Blk (w.setCell ⟨b,0,none⟩ v0) b t #[v0,a1,a2,a3,a4,a5,a6]:=h.set 0 v0;have h2:Blk ((w.setCell ⟨b,0,none⟩ v0).setCell ⟨b,1,none⟩ v1) b t #[v0,v1,a2,a3,a4,a5,a6]:=h1.set 1 v1;have h3:Blk (((w.setCell ⟨b,0,none⟩ v0).setCell ⟨b,1,none⟩ v1).setCell ⟨b,2,none⟩ v2) b t #[v0,v1,v2,a3,a4,a5,a6]:=h2.set 2 v2;have h4:Blk ((((w.setCell ⟨b,0,none⟩ v0).setCell ⟨b,1,none⟩ v1).setCell ⟨b,2,none⟩ v2).setCell ⟨b,3,none⟩ v3) b t #[v0,v1,v2,v3,a4,a5,a6]:=h3.set 3 v3;have h5:Blk (((((w.setCell ⟨b,0,none⟩ v0).setCell ⟨b,1,none⟩ v1).setCell ⟨b,2,none⟩ v2).setCell ⟨b,3,none⟩ v3).setCell ⟨b,4,none⟩ v4) b t #[v0,v1,v2,v3,v4,a5,a6]:=h4.set 4 v4;have h6:Blk ((((((w.setCell ⟨b,0,none⟩ v0).setCell ⟨b,1,none⟩ v1).setCell ⟨b,2,none⟩ v2).setCell ⟨b,3,none⟩ v3).setCell ⟨b,4,none⟩ v4).setCell ⟨b,5,none⟩ v5) b t #[v0,v1,v2,v3,v4,v5,a6]:=h5.set 5 v5;have h7:Blk (((((((w.setCell ⟨b,0,none⟩ v0).setCell ⟨b,1,none⟩ v1).setCell ⟨b,2,none⟩ v2).setCell ⟨b,3,none⟩ v3).setCell ⟨b,4,none⟩ v4).setCell ⟨b,5,none⟩ v5).setCell ⟨b,6,none⟩ v6) b t #[v0,v1,v2,v3,v4,v5,v6]:=h6.set 6 v6;exact h7
theorem Kp.set7 {w w1:World} {S:Nat->Prop} {b:Nat} (h:Kp w w1 S) (hb:w.heap.size<=b) (v0 v1 v2 v3 v4 v5 v6:Value):
  Kp w (((((((w1.setCell ⟨b,0,none⟩ v0).setCell ⟨b,1,none⟩ v1).setCell ⟨b,2,none⟩ v2).setCell ⟨b,3,none⟩ v3).setCell ⟨b,4,none⟩ v4).setCell ⟨b,5,none⟩ v5).setCell ⟨b,6,none⟩ v6) S:=by
 have hn:∀ o,(⟨b,o,none⟩:Addr).block < w.heap.size->S (⟨b,o,none⟩:Addr).block:=fun o hlt=>absurd hlt (by show ¬ b < _;omega);exact ((((((h.set (hn 0) v0).set (hn 1) v1).set (hn 2) v2).set (hn 3) v3).set (hn 4) v4).set (hn 5) v5).set (hn 6) v6
theorem Blk.other7 {w:World} {b b':Nat} {t:TypeId} {c:Array Value} (h:Blk w b t c) (hb:b ≠ b') (v0 v1 v2 v3 v4 v5 v6:Value):
  Blk (((((((w.setCell ⟨b',0,none⟩ v0).setCell ⟨b',1,none⟩ v1).setCell ⟨b',2,none⟩ v2).setCell ⟨b',3,none⟩ v3).setCell ⟨b',4,none⟩ v4).setCell ⟨b',5,none⟩ v5).setCell ⟨b',6,none⟩ v6) b t c:=
 ((((((h.setOther (a:=⟨b',0,none⟩) hb v0).setOther (a:=⟨b',1,none⟩) hb v1).setOther (a:=⟨b',2,none⟩) hb v2).setOther (a:=⟨b',3,none⟩) hb v3).setOther (a:=⟨b',4,none⟩) hb v4).setOther (a:=⟨b',5,none⟩) hb v5).setOther (a:=⟨b',6,none⟩) hb v6
theorem itQ_num (w:World) (sb bk mb:Nat) (known:Tok->Bool) (ws:List ByteArray) (lo:Nat) (tb:ByteArray) (n:Int) (hn:numP tb.toList=some n) (h:RdInv w sb bk mb known ws lo) (ho:okW tb):
  Calls Tryz.prog 198 #[pt sb,.string tb,.int .i64 1] w fun x w'=>Kp w w' (fun b=>b=sb)/\QIt w sb bk mb known lo x w' (.ok ([⟨110,n,[],[],[],[]⟩],[],texts ws)):=by
 have HV:Hid (∀ w,Calls Tryz.prog 70 #[.string tb] w fun e w'=>e=.returned (.int .i64 n)/\Kp w w' (fun _=>False)):=fun w=>valueM tb n w hn ho.2;obtain⟨rv,hB,hT⟩:=h.blk;have hsb:=hB.lt;have hcs:sb ≠ w.heap.size:=by omega
 have HN:=hide hn;clear hn;go_enter Tryz.func198,Tryz.ntmps198
 go_wp2_with fail
 refine (HV.out _).mono ?_;rintro e w1 ⟨rfl,hk1⟩;have hZ:=hk1.blk (Blk.new w zIt7 241) (by simp);have hkp:Kp w w1 (fun b=>b=sb):=((Kp.refl _ _).alloc _).trans (hk1.mono (fun _ _ h=>h.elim));have hB1:=hk1.blk (hB.alloc _) (by simp);obtain⟨y0,y1,y2,y3,y4,y5,y6⟩:=hZ.seven;obtain⟨z0,z1,z2,z3,z4,z5,z6⟩:=hZ.sevenF;go_wp2;have hC2:=hZ.set7 (.int .i64 0) (.int .i64 n) (.int .i64 0) (.string ⟨#[]⟩) (.slice none 0 0) (.slice none 0 0) (.slice none 0 0);have hK2:=hkp.set7 (Nat.le_refl _) (.int .i64 0) (.int .i64 n) (.int .i64 0) (.string ⟨#[]⟩) (.slice none 0 0) (.slice none 0 0) (.slice none 0 0);have hB2:=hB1.other7 hcs (.int .i64 0) (.int .i64 n) (.int .i64 0) (.string ⟨#[]⟩) (.slice none 0 0) (.slice none 0 0) (.slice none 0 0);generalize (((((((w1.setCell ⟨w.heap.size,0,none⟩ (.int .i64 0)).setCell ⟨w.heap.size,1,none⟩ (.int .i64 n)).setCell ⟨w.heap.size,2,none⟩ (.int .i64 0)).setCell ⟨w.heap.size,3,none⟩ (.string ⟨#[]⟩)).setCell ⟨w.heap.size,4,none⟩ (.slice none 0 0)).setCell ⟨w.heap.size,5,none⟩ (.slice none 0 0)).setCell ⟨w.heap.size,6,none⟩ (.slice none 0 0))=wf at hC2 hK2 hB2 ⊢;obtain⟨q0,q1,q2,q3,q4,q5,q6⟩:=hC2.seven;refine bodyPost_ret (v:=.tuple #[.agg #[.int .i64 0,.int .i64 n,.int .i64 0,.string ⟨#[]⟩,.slice none 0 0,.slice none 0 0,.slice none 0 0],.int .i64 0]) (by simp[results,Tryz.results198,go_sem,q0,q1,q2,q3,q4,q5,q6]) rfl ?_;exact⟨hK2,_,_,_,_,_,_,_,ws,rfl,rfl,itm_leaf 110 n n 0 _ [] (by simp) (fun _=>⟨rfl,numP_range HN.out⟩) (by simp) (by simp),rfl,h.to hK2 rv hB2 hT h.len h.ok⟩
theorem itQ_plain (w:World) (sb bk mb:Nat) (known:Tok->Bool) (ws:List ByteArray) (lo:Nat) (tb:ByteArray) (j:Nat) (hj:j < 16) (K:Int) (hK:K=(j:Int)+2) (hp:plainL.findIdx? (· == tb.data.toList)=some j) (h:RdInv w sb bk mb known ws lo):
  Calls Tryz.prog 198 #[pt sb,.string tb,.int .i64 K] w fun x w'=>Kp w w' (fun b=>b=sb)/\QIt w sb bk mb known lo x w' (.ok ([⟨112,0,tb.data.toList,[],[],[]⟩],[],texts ws)):=by
 obtain⟨rv,hB,hT⟩:=h.blk;have hsb:=hB.lt;have hKa:2<=K:=by omega
 have hKb:K<=17:=by omega
 have HK:=hide hK;have HP:=hide hp;clear hK hp hj;go_enter Tryz.func198,Tryz.ntmps198
 go_wp2_with fail
 refine (kindPlain _ _).mono ?_;rintro e w' ⟨rfl,hw⟩;rw[hw];clear hw;have hb:decide (2<=K/\K<=17)=true:=decide_eq_true ⟨hKa,hKb⟩;rw[hb];go_wp2;have hK2:Kp w (w.alloc (.cells #[.int .i64 1,.int .i64 0,.int .i64 K,.string ⟨#[]⟩,.slice none 0 0,.slice none 0 0,.slice none 0 0] 241)) (fun b=>b=sb):=(Kp.refl _ _).alloc _;have hB2:Blk (w.alloc (.cells #[.int .i64 1,.int .i64 0,.int .i64 K,.string ⟨#[]⟩,.slice none 0 0,.slice none 0 0,.slice none 0 0] 241)) sb 201 (rdArr rv bk lo):=hB.alloc _;refine bodyPost_ret (v:=.tuple #[.agg #[.int .i64 1,.int .i64 0,.int .i64 K,.string ⟨#[]⟩,.slice none 0 0,.slice none 0 0,.slice none 0 0],.int .i64 0]) (by simp[results,Tryz.results198,go_sem]) rfl ?_;exact⟨hK2,_,_,_,_,_,_,_,ws,rfl,rfl,itm_leaf 112 0 0 K _ tb.data.toList (by simp) (by simp) (fun _=>⟨j,HP.out,HK.out⟩) (by simp),rfl,h.to hK2 rv hB2 hT h.len h.ok⟩
theorem itQ_word (w:World) (sb bk mb:Nat) (known:Tok->Bool) (ws:List ByteArray) (lo:Nat) (tb:ByteArray) (h:RdInv w sb bk mb known ws lo) (ho:okW tb) (res:PRes) (hres:res=if known tb.data.toList=true then .ok ([⟨99,0,tb.data.toList,[],[],[]⟩],[],texts ws) else .error 3):
  Calls Tryz.prog 198 #[pt sb,.string tb,.int .i64 0] w fun x w'=>Kp w w' (fun b=>b=sb)/\QIt w sb bk mb known lo x w' res:=by
 obtain⟨rv,hB,hT⟩:=h.blk;have hsb:=hB.lt;have hB1:Blk (w.alloc (.cells #[.int .i64 0,.int .i64 0,.int .i64 0,.string ⟨#[]⟩,.slice none 0 0,.slice none 0 0,.slice none 0 0] 241)) sb 201 (rdArr rv bk lo):=hB.alloc _;have c1:(w.alloc (.cells #[.int .i64 0,.int .i64 0,.int .i64 0,.string ⟨#[]⟩,.slice none 0 0,.slice none 0 0,.slice none 0 0] 241)).cell? ⟨sb,1,none⟩=some (.func (.func 74) #[pt bk] #[]):=hB1.cell rfl;have HH:=hide (hasM _ bk mb known (h.book.kp ((Kp.refl _ (fun _=>False)).alloc (.cells #[.int .i64 0,.int .i64 0,.int .i64 0,.string ⟨#[]⟩,.slice none 0 0,.slice none 0 0,.slice none 0 0] 241)) (by simp) (by simp)) tb (Nat.le_trans ho.2 (by decide)));have hen:=ent_has;unfold Ents at hen;go_enter Tryz.func198,Tryz.ntmps198
 go_wp2_with fail
 refine (kindPlain _ _).mono ?_;rintro e w' ⟨rfl,hw⟩;rw[hw];clear hw;rw[show decide ((2:Int)<=0/\(0:Int)<=17)=false by decide]
 go_wp2_with fail
 refine HH.out.mono ?_;rintro e w' ⟨rfl,hw⟩;rw[hw];clear hw
 cases hkn:known tb.data.toList
 ·rw[hkn] at hres;have HR:Hid (res=.error 3):=hres;clear hres;go_wp2;have hK2:Kp w (w.alloc (.cells #[.int .i64 0,.int .i64 0,.int .i64 0,.string ⟨#[]⟩,.slice none 0 0,.slice none 0 0,.slice none 0 0] 241)) (fun b=>b=sb):=(Kp.refl _ _).alloc _;have hB2:Blk (w.alloc (.cells #[.int .i64 0,.int .i64 0,.int .i64 0,.string ⟨#[]⟩,.slice none 0 0,.slice none 0 0,.slice none 0 0] 241)) sb 201 (rdArr rv bk lo):=hB.alloc _;refine bodyPost_ret (v:=.tuple #[.agg #[.int .i64 0,.int .i64 0,.int .i64 0,.string ⟨#[]⟩,.slice none 0 0,.slice none 0 0,.slice none 0 0],.int .i64 3]) (by simp[results,Tryz.results198,go_sem]) rfl ?_;rw[HR.out];exact⟨hK2,by decide,_,_,_,_,_,_,_,_,_,_,_,_,_,_,rfl,hB2⟩
 ·rw[hkn] at hres;have HR:Hid (res=.ok ([⟨99,0,tb.data.toList,[],[],[]⟩],[],texts ws)):=hres;clear hres;go_wp2;have hK2:Kp w (w.alloc (.cells #[.int .i64 2,.int .i64 0,.int .i64 0,.string tb,.slice none 0 0,.slice none 0 0,.slice none 0 0] 241)) (fun b=>b=sb):=(Kp.refl _ _).alloc _;have hB2:Blk (w.alloc (.cells #[.int .i64 2,.int .i64 0,.int .i64 0,.string tb,.slice none 0 0,.slice none 0 0,.slice none 0 0] 241)) sb 201 (rdArr rv bk lo):=hB.alloc _;refine bodyPost_ret (v:=.tuple #[.agg #[.int .i64 2,.int .i64 0,.int .i64 0,.string tb,.slice none 0 0,.slice none 0 0,.slice none 0 0],.int .i64 0]) (by simp[results,Tryz.results198,go_sem]) rfl ?_;rw[HR.out];exact⟨hK2,_,_,_,_,_,_,_,ws,rfl,rfl,itm_leaf 99 0 0 0 tb tb.data.toList (by simp) (by simp) (by simp) (fun _=>⟨rfl,ho.2⟩),rfl,h.to hK2 rv hB2 hT h.len h.ok⟩
end
section
open Go.RowKit
theorem bdQ_rec (w:World) (sb bk mb:Nat) (known:Tok->Bool) (ws:List ByteArray) (lo:Nat) (h:RdInv w sb bk mb known ws lo):
  Calls Tryz.prog 218 #[pt sb,.int .i64 32] w fun x w'=>Kp w w' (fun b=>b=sb)/\QIt w sb bk mb known lo x w' (.ok ([⟨114,0,[],[],[],[]⟩],[],texts ws)):=by
 obtain⟨rv,hB,hT⟩:=h.blk;have hsb:=hB.lt;go_enter Tryz.func218,Tryz.ntmps218;go_wp2;have hK2:Kp w (w.alloc (.cells #[.int .i64 8,.int .i64 0,.int .i64 0,.string ⟨#[]⟩,.slice none 0 0,.slice none 0 0,.slice none 0 0] 241)) (fun b=>b=sb):=(Kp.refl _ _).alloc _;have hB2:Blk (w.alloc (.cells #[.int .i64 8,.int .i64 0,.int .i64 0,.string ⟨#[]⟩,.slice none 0 0,.slice none 0 0,.slice none 0 0] 241)) sb 201 (rdArr rv bk lo):=hB.alloc _;refine bodyPost_ret (v:=.tuple #[.agg #[.int .i64 8,.int .i64 0,.int .i64 0,.string ⟨#[]⟩,.slice none 0 0,.slice none 0 0,.slice none 0 0],.int .i64 0]) (by simp[results,Tryz.results218,go_sem]) rfl ?_;exact⟨hK2,_,_,_,_,_,_,_,ws,rfl,rfl,itm_leaf 114 0 0 0 _ [] (by simp) (by simp) (by simp) (by simp),rfl,h.to hK2 rv hB2 hT h.len h.ok⟩
theorem bdQ_exit (w:World) (sb bk mb:Nat) (known:Tok->Bool) (ws:List ByteArray) (lo:Nat) (h:RdInv w sb bk mb known ws lo):
  Calls Tryz.prog 218 #[pt sb,.int .i64 33] w fun x w'=>Kp w w' (fun b=>b=sb)/\QIt w sb bk mb known lo x w' (.ok ([⟨120,0,[],[],[],[]⟩],[],texts ws)):=by
 obtain⟨rv,hB,hT⟩:=h.blk;have hsb:=hB.lt;go_enter Tryz.func218,Tryz.ntmps218;go_wp2;have hK2:Kp w (w.alloc (.cells #[.int .i64 9,.int .i64 0,.int .i64 0,.string ⟨#[]⟩,.slice none 0 0,.slice none 0 0,.slice none 0 0] 241)) (fun b=>b=sb):=(Kp.refl _ _).alloc _;have hB2:Blk (w.alloc (.cells #[.int .i64 9,.int .i64 0,.int .i64 0,.string ⟨#[]⟩,.slice none 0 0,.slice none 0 0,.slice none 0 0] 241)) sb 201 (rdArr rv bk lo):=hB.alloc _;refine bodyPost_ret (v:=.tuple #[.agg #[.int .i64 9,.int .i64 0,.int .i64 0,.string ⟨#[]⟩,.slice none 0 0,.slice none 0 0,.slice none 0 0],.int .i64 0]) (by simp[results,Tryz.results218,go_sem]) rfl ?_;exact⟨hK2,_,_,_,_,_,_,_,ws,rfl,rfl,itm_leaf 120 0 0 0 _ [] (by simp) (by simp) (by simp) (by simp),rfl,h.to hK2 rv hB2 hT h.len h.ok⟩
theorem bdQ_i (w:World) (sb bk mb:Nat) (known:Tok->Bool) (ws:List ByteArray) (lo:Nat) (h:RdInv w sb bk mb known ws lo) (hlo:0 < lo):
  Calls Tryz.prog 218 #[pt sb,.int .i64 31] w fun x w'=>Kp w w' (fun b=>b=sb)/\QIt w sb bk mb known lo x w' (.ok ([⟨105,0,[],[],[],[]⟩],[],texts ws)):=by
 obtain⟨rv,hB,hT⟩:=h.blk;have hsb:=hB.lt;have c2:w.cell? ⟨sb,2,none⟩=some (.int .i64 lo):=hB.cell rfl;go_enter Tryz.func218,Tryz.ntmps218;go_wp2;have hK2:Kp w (w.alloc (.cells #[.int .i64 7,.int .i64 0,.int .i64 0,.string ⟨#[]⟩,.slice none 0 0,.slice none 0 0,.slice none 0 0] 241)) (fun b=>b=sb):=(Kp.refl _ _).alloc _;have hB2:Blk (w.alloc (.cells #[.int .i64 7,.int .i64 0,.int .i64 0,.string ⟨#[]⟩,.slice none 0 0,.slice none 0 0,.slice none 0 0] 241)) sb 201 (rdArr rv bk lo):=hB.alloc _;refine bodyPost_ret (v:=.tuple #[.agg #[.int .i64 7,.int .i64 0,.int .i64 0,.string ⟨#[]⟩,.slice none 0 0,.slice none 0 0,.slice none 0 0],.int .i64 0]) (by simp[results,Tryz.results218,go_sem]) rfl ?_;exact⟨hK2,_,_,_,_,_,_,_,ws,rfl,rfl,itm_leaf 105 0 0 0 _ [] (by simp) (by simp) (by simp) (by simp),rfl,h.to hK2 rv hB2 hT h.len h.ok⟩
theorem bdQ_colon (w:World) (sb bk mb:Nat) (known:Tok->Bool) (ws:List ByteArray) (lo:Nat) (h:RdInv w sb bk mb known ws lo):
  Calls Tryz.prog 218 #[pt sb,.int .i64 18] w fun x w'=>Kp w w' (fun b=>b=sb)/\QIt w sb bk mb known lo x w' (.error 4):=by
 obtain⟨rv,hB,hT⟩:=h.blk;have hsb:=hB.lt;go_enter Tryz.func218,Tryz.ntmps218;go_wp2;have hK2:Kp w (w.alloc (.cells #[.int .i64 0,.int .i64 0,.int .i64 0,.string ⟨#[]⟩,.slice none 0 0,.slice none 0 0,.slice none 0 0] 241)) (fun b=>b=sb):=(Kp.refl _ _).alloc _;have hB2:Blk (w.alloc (.cells #[.int .i64 0,.int .i64 0,.int .i64 0,.string ⟨#[]⟩,.slice none 0 0,.slice none 0 0,.slice none 0 0] 241)) sb 201 (rdArr rv bk lo):=hB.alloc _;refine bodyPost_ret (v:=.tuple #[.agg #[.int .i64 0,.int .i64 0,.int .i64 0,.string ⟨#[]⟩,.slice none 0 0,.slice none 0 0,.slice none 0 0],.int .i64 4]) (by simp[results,Tryz.results218,go_sem]) rfl ?_;exact⟨hK2,by decide,_,_,_,_,_,_,_,_,_,_,_,_,_,_,rfl,hB2⟩
theorem bdQ_close (w:World) (sb bk mb:Nat) (known:Tok->Bool) (ws:List ByteArray) (lo:Nat) (h:RdInv w sb bk mb known ws lo):
  Calls Tryz.prog 218 #[pt sb,.int .i64 21] w fun x w'=>Kp w w' (fun b=>b=sb)/\QIt w sb bk mb known lo x w' (.error 4):=by
 obtain⟨rv,hB,hT⟩:=h.blk;have hsb:=hB.lt;go_enter Tryz.func218,Tryz.ntmps218;go_wp2;have hK2:Kp w (w.alloc (.cells #[.int .i64 0,.int .i64 0,.int .i64 0,.string ⟨#[]⟩,.slice none 0 0,.slice none 0 0,.slice none 0 0] 241)) (fun b=>b=sb):=(Kp.refl _ _).alloc _;have hB2:Blk (w.alloc (.cells #[.int .i64 0,.int .i64 0,.int .i64 0,.string ⟨#[]⟩,.slice none 0 0,.slice none 0 0,.slice none 0 0] 241)) sb 201 (rdArr rv bk lo):=hB.alloc _;refine bodyPost_ret (v:=.tuple #[.agg #[.int .i64 0,.int .i64 0,.int .i64 0,.string ⟨#[]⟩,.slice none 0 0,.slice none 0 0,.slice none 0 0],.int .i64 4]) (by simp[results,Tryz.results218,go_sem]) rfl ?_;exact⟨hK2,by decide,_,_,_,_,_,_,_,_,_,_,_,_,_,_,rfl,hB2⟩
theorem bdQ_i0 (w:World) (sb bk mb:Nat) (known:Tok->Bool) (ws:List ByteArray) (lo:Nat) (h:RdInv w sb bk mb known ws lo) (hlo:lo=0):
  Calls Tryz.prog 218 #[pt sb,.int .i64 31] w fun x w'=>Kp w w' (fun b=>b=sb)/\QIt w sb bk mb known lo x w' (.error 4):=by
 obtain⟨rv,hB,hT⟩:=h.blk;have hsb:=hB.lt;have c2:w.cell? ⟨sb,2,none⟩=some (.int .i64 0):=by have:w.cell? ⟨sb,2,none⟩=some (.int .i64 lo):=hB.cell rfl;rw[hlo] at this;exact this
 go_enter Tryz.func218,Tryz.ntmps218;go_wp2;have hK2:Kp w (w.alloc (.cells #[.int .i64 0,.int .i64 0,.int .i64 0,.string ⟨#[]⟩,.slice none 0 0,.slice none 0 0,.slice none 0 0] 241)) (fun b=>b=sb):=(Kp.refl _ _).alloc _;have hB2:Blk (w.alloc (.cells #[.int .i64 0,.int .i64 0,.int .i64 0,.string ⟨#[]⟩,.slice none 0 0,.slice none 0 0,.slice none 0 0] 241)) sb 201 (rdArr rv bk lo):=hB.alloc _;refine bodyPost_ret (v:=.tuple #[.agg #[.int .i64 0,.int .i64 0,.int .i64 0,.string ⟨#[]⟩,.slice none 0 0,.slice none 0 0,.slice none 0 0],.int .i64 4]) (by simp[results,Tryz.results218,go_sem]) rfl ?_;exact⟨hK2,by decide,_,_,_,_,_,_,_,_,_,_,_,_,_,_,rfl,hB2⟩
theorem itQ_bound (w:World) (sb bk mb:Nat) (known:Tok->Bool) (ws:List ByteArray) (lo:Nat) (tb:ByteArray) (K:Int) (hK:18<=K) (res:PRes) (h:RdInv w sb bk mb known ws lo)
  (hc:∀ w,RdInv w sb bk mb known ws lo->Calls Tryz.prog 218 #[pt sb,.int .i64 K] w fun x w'=>Kp w w' (fun b=>b=sb)/\QIt w sb bk mb known lo x w' res):
  Calls Tryz.prog 198 #[pt sb,.string tb,.int .i64 K] w fun x w'=>Kp w w' (fun b=>b=sb)/\QIt w sb bk mb known lo x w' res:=by
 obtain⟨rv,hB,hT⟩:=h.blk;have hsb:=hB.lt;have hcs:sb ≠ w.heap.size:=by omega
 have hka:=(Kp.refl w (fun _=>False)).alloc (.cells zIt7 241);have HC:=hide (hc _ (h.kp hka));have hZ0:=Blk.new w zIt7 241;clear hc hka;go_enter Tryz.func198,Tryz.ntmps198
 go_wp2_with fail
 refine (kindPlain _ _).mono ?_;rintro e w' ⟨rfl,hw⟩;rw[hw];clear hw;have hb:decide (2<=K/\K<=17)=false:=decide_eq_false (by omega);rw[hb]
 go_wp2_with fail
 refine HC.out.mono ?_;rintro x w2 ⟨hk2,hq⟩;have hZ:=hk2.blk hZ0 hcs.symm;have hkp:Kp w w2 (fun b=>b=sb):=((Kp.refl _ _).alloc _).trans hk2;have hsz2:w.heap.size+1<=w2.heap.size:=by have:=hk2.size;simpa using this
 obtain⟨y0,y1,y2,y3,y4,y5,y6⟩:=hZ.seven;obtain⟨z0,z1,z2,z3,z4,z5,z6⟩:=hZ.sevenF;rcases res with er|⟨xs,tt,r⟩
 ·obtain⟨her,k7,n7,pl7,nm,a1,m1,p1,a2,m2,p2,a3,m3,p3,rv2,rfl,hB1⟩:=hq;clear hk2 hZ0;go_wp2;have hC2:=hZ.set7 (.int .i64 k7) (.int .i64 n7) (.int .i64 pl7) (.string nm) (.slice a1 m1 p1) (.slice a2 m2 p2) (.slice a3 m3 p3);have hK2:=hkp.set7 (Nat.le_refl _) (.int .i64 k7) (.int .i64 n7) (.int .i64 pl7) (.string nm) (.slice a1 m1 p1) (.slice a2 m2 p2) (.slice a3 m3 p3);have hB2:=hB1.other7 hcs (.int .i64 k7) (.int .i64 n7) (.int .i64 pl7) (.string nm) (.slice a1 m1 p1) (.slice a2 m2 p2) (.slice a3 m3 p3);generalize (((((((w2.setCell ⟨w.heap.size,0,none⟩ (.int .i64 k7)).setCell ⟨w.heap.size,1,none⟩ (.int .i64 n7)).setCell ⟨w.heap.size,2,none⟩ (.int .i64 pl7)).setCell ⟨w.heap.size,3,none⟩ (.string nm)).setCell ⟨w.heap.size,4,none⟩ (.slice a1 m1 p1)).setCell ⟨w.heap.size,5,none⟩ (.slice a2 m2 p2)).setCell ⟨w.heap.size,6,none⟩ (.slice a3 m3 p3))=wf at hC2 hK2 hB2 ⊢;obtain⟨q0,q1,q2,q3,q4,q5,q6⟩:=hC2.seven;refine bodyPost_ret (v:=.tuple #[.agg #[.int .i64 k7,.int .i64 n7,.int .i64 pl7,.string nm,.slice a1 m1 p1,.slice a2 m2 p2,.slice a3 m3 p3],.int .i64 er]) (by simp[results,Tryz.results198,go_sem,q0,q1,q2,q3,q4,q5,q6]) rfl ?_;exact⟨hK2,her,_,_,_,_,_,_,_,_,_,_,_,_,_,_,rfl,hB2⟩
 ·obtain⟨x',n7,pl7,nm,tv,va,vb,ws2,rfl,rfl,hat,htx,hS2⟩:=hq;obtain⟨ws5,hr5,-⟩:=hat.toks;obtain⟨xs3,hr3,-⟩:=hat.a.out;obtain⟨xs4,hr4,-⟩:=hat.b.out;obtain⟨a3,p3,rfl⟩:=hr3.form;obtain⟨a4,p4,rfl⟩:=hr4.form;obtain⟨a5,p5,hv5⟩:=hr5.form;rw[List.length_map] at hv5;subst hv5;obtain⟨rv2,hB1,hT2⟩:=hS2.blk;have HAt:=hide hat;have HS2:=hide hS2;clear hk2 hZ0 hr3 hr4 hr5 hat hS2;go_wp2;have hk3:Kp w2 (((((((w2.setCell ⟨w.heap.size,0,none⟩ (.int .i64 (kindP x'.kind))).setCell ⟨w.heap.size,1,none⟩ (.int .i64 n7)).setCell ⟨w.heap.size,2,none⟩ (.int .i64 pl7)).setCell ⟨w.heap.size,3,none⟩ (.string nm)).setCell ⟨w.heap.size,4,none⟩ (.slice a5 ws5.length p5)).setCell ⟨w.heap.size,5,none⟩ (.slice a3 x'.a.length p3)).setCell ⟨w.heap.size,6,none⟩ (.slice a4 x'.b.length p4)) (fun b=>b=w.heap.size):=((((((((Kp.refl w2 (fun b=>b=w.heap.size)).set (a:=⟨w.heap.size,0,none⟩) (fun _=>rfl) _).set (a:=⟨w.heap.size,1,none⟩) (fun _=>rfl) _).set (a:=⟨w.heap.size,2,none⟩) (fun _=>rfl) _).set (a:=⟨w.heap.size,3,none⟩) (fun _=>rfl) _).set (a:=⟨w.heap.size,4,none⟩) (fun _=>rfl) _).set (a:=⟨w.heap.size,5,none⟩) (fun _=>rfl) _).set (a:=⟨w.heap.size,6,none⟩) (fun _=>rfl) _);have hC2:=hZ.set7 (.int .i64 (kindP x'.kind)) (.int .i64 n7) (.int .i64 pl7) (.string nm) (.slice a5 ws5.length p5) (.slice a3 x'.a.length p3) (.slice a4 x'.b.length p4);have hK2:=hkp.set7 (Nat.le_refl _) (.int .i64 (kindP x'.kind)) (.int .i64 n7) (.int .i64 pl7) (.string nm) (.slice a5 ws5.length p5) (.slice a3 x'.a.length p3) (.slice a4 x'.b.length p4);have hB2:=hB1.other7 hcs (.int .i64 (kindP x'.kind)) (.int .i64 n7) (.int .i64 pl7) (.string nm) (.slice a5 ws5.length p5) (.slice a3 x'.a.length p3) (.slice a4 x'.b.length p4);generalize (((((((w2.setCell ⟨w.heap.size,0,none⟩ (.int .i64 (kindP x'.kind))).setCell ⟨w.heap.size,1,none⟩ (.int .i64 n7)).setCell ⟨w.heap.size,2,none⟩ (.int .i64 pl7)).setCell ⟨w.heap.size,3,none⟩ (.string nm)).setCell ⟨w.heap.size,4,none⟩ (.slice a5 ws5.length p5)).setCell ⟨w.heap.size,5,none⟩ (.slice a3 x'.a.length p3)).setCell ⟨w.heap.size,6,none⟩ (.slice a4 x'.b.length p4))=wf at hC2 hK2 hB2 hk3 ⊢;obtain⟨q0,q1,q2,q3,q4,q5,q6⟩:=hC2.seven;refine bodyPost_ret (v:=.tuple #[.agg #[.int .i64 (kindP x'.kind),.int .i64 n7,.int .i64 pl7,.string nm,.slice a5 ws5.length p5,.slice a3 x'.a.length p3,.slice a4 x'.b.length p4],.int .i64 0]) (by simp[results,Tryz.results198,go_sem,q0,q1,q2,q3,q4,q5,q6]) rfl ?_;have hkc:=BD_keep (D:=New (w.alloc (.cells zIt7 241))) (D':=New w) hk3 (fun b _ hb=>by
   have hb:w.heap.size+1<=b:=by have:(w.alloc (.cells zIt7 241)).heap.size<=b:=hb;simpa using this
   exact⟨by show w.heap.size<=b;omega,by show ¬ b=w.heap.size;omega⟩)
  refine⟨hK2,x',n7,pl7,nm,_,_,_,ws2,rfl,rfl,HAt.out.mono hkc (fun _ _ h=>h.mono hkc),htx,?_⟩;have h2:=HS2.out;obtain⟨nn,DD,hm,hl⟩:=h2.book.look;have hne:∀ b t c,Blk w2 b t c->t ≠ 241->¬ b=w.heap.size:=fun b t c hb ht e=>by subst e;exact ht (hb.inj hZ).1
  have h1w:=h.sp.lt;exact⟨⟨rv2,hB2,TokAt_mono (fun b c hc=>⟨hc.1,hk3.blk hc.2 (hne b 9 c hc.2 (by decide))⟩) hT2⟩,h2.book.kp hk3 (hne bk _ _ h2.book.blk (by decide)) (fun e=>map_ne hm hZ e),h2.len,h2.ok,h2.sp.kp hk3 (by show ¬ (1:Nat)=w.heap.size;omega),h2.s1⟩
end
end Go.Proofs.YteainaiebcphlaaGreatDoor
