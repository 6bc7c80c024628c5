import Derived.Test.YteainaiebcphlaaGreatDoorY8
namespace Go.Proofs.YteainaiebcphlaaGreatDoor
set_option maxRecDepth 1000000
set_option maxHeartbeats 4000000
set_option linter.all false
section
open Go.RowKit
theorem pI_if2 {known:Tok->Bool} {g lo:Nat} {r:List Tok} {res:PRes} (h:pRead known (g+1) ⟨true,lo,[],kIf⟩ r=some res):
    ∃ res1,pRead known g ⟨false,lo,allEnds,[]⟩ r=some res1 /\
      ((∃ e,res1=.error e/\res=.error e)\/∃ a t1 r1,res1=.ok (a,t1,r1) /\
        ((¬ t1=kElse/\¬ t1=kThen/\res=.error 4)\/(t1=kThen/\res=.ok ([⟨63,0,[],a,[],[]⟩],[],r1)) \/
         (t1=kElse/\∃ res2,pRead known g ⟨false,lo,allEnds,[]⟩ r1=some res2 /\
           ((∃ e,res2=.error e/\res=.error e)\/∃ b t2 r2,res2=.ok (b,t2,r2)/\((¬ t2=kThen/\res=.error 4)\/(t2=kThen/\res=.ok ([⟨63,0,[],a,b,[]⟩],[],r2))))))):=by
  rcases pI_if h with⟨e,h1,h2⟩|⟨a,t1,r1,h1,h2⟩
  · obtain⟨res1,h3,h4⟩:=pEnds known [kElse,kThen] (sub_ends (by decide)) lo g _ _ h1
    refine⟨res1,h3,?_⟩;rcases res1 with e1|⟨a,t1,r1⟩
    · have h4:Except.error e=Except.error e1:=h4
      injection h4 with h4;exact .inl ⟨e1,rfl,by rw[h2,h4]⟩
    · right
      refine⟨a,t1,r1,rfl,.inl ?_⟩;have h5:([kElse,kThen].any (· == t1))=false:=by
        cases hh:[kElse,kThen].any (· == t1)
        · rfl
        · rw[convR_in hh] at h4;cases h4
      rw[convR_out h5] at h4;injection h4 with h4;refine⟨?_,?_,by rw[h2,h4]⟩
      · rintro rfl;revert h5;decide
      · rintro rfl;revert h5;decide
  · obtain⟨res1,h3,h4⟩:=pEnds known [kElse,kThen] (sub_ends (by decide)) lo g _ _ h1
    rcases res1 with e1|⟨a1,t11,r11⟩
    · cases h4
    · have h5:([kElse,kThen].any (· == t11))=true:=by
        cases hh:[kElse,kThen].any (· == t11)
        · rw[convR_out hh] at h4;cases h4
        · rfl
      rw[convR_in h5] at h4;injection h4 with h4;injection h4 with ha h4;injection h4 with ht hr;subst ha;subst ht;subst hr;refine⟨_,h3,.inr ⟨a,t1,r1,rfl,?_⟩⟩;rcases h2 with⟨rfl,h2⟩|⟨h6,h2⟩
      · right;right
        refine⟨rfl,?_⟩;rcases h2 with⟨e,h7,h8⟩|⟨b,t2,r2,h7,h8⟩
        · obtain⟨res2,h9,h10⟩:=pEnds known [kThen] (sub_ends (by decide)) lo g _ _ h7
          refine⟨res2,h9,?_⟩;rcases res2 with e2|⟨b,t2,r2⟩
          · have h10:Except.error e=Except.error e2:=h10
            injection h10 with h10;exact .inl ⟨e2,rfl,by rw[h8,h10]⟩
          · have h11:([kThen].any (· == t2))=false:=by
              cases hh:[kThen].any (· == t2)
              · rfl
              · rw[convR_in hh] at h10;cases h10
            rw[convR_out h11] at h10;injection h10 with h10;exact .inr ⟨b,t2,r2,rfl,.inl ⟨by rintro rfl;revert h11;decide,by rw[h8,h10]⟩⟩
        · obtain⟨res2,h9,h10⟩:=pEnds known [kThen] (sub_ends (by decide)) lo g _ _ h7
          rcases res2 with e2|⟨b2,t22,r22⟩
          · cases h10
          · have h11:([kThen].any (· == t22))=true:=by
              cases hh:[kThen].any (· == t22)
              · rw[convR_out hh] at h10;cases h10
              · rfl
            rw[convR_in h11] at h10;injection h10 with h10;injection h10 with hb h10;injection h10 with ht hr;subst hb;subst ht;subst hr;exact⟨_,h9,.inr ⟨b,t2,r2,rfl,.inr ⟨Eq.symm (show kThen=t2 by simpa using h11),h8⟩⟩⟩
      · right;left
        refine⟨?_,h2⟩;simp only[List.any_cons,List.any_nil,Bool.or_false,Bool.or_eq_true,beq_iff_eq] at h5;rcases h5 with h5|h5
        · exact absurd h5.symm h6
        · exact h5.symm
theorem pI_begin2 {known:Tok->Bool} {g lo:Nat} {r:List Tok} {res:PRes} (h:pRead known (g+1) ⟨true,lo,[],kBegin⟩ r=some res):
    ∃ res1,pRead known g ⟨false,lo,allEnds,[]⟩ r=some res1 /\
      ((∃ e,res1=.error e/\res=.error e)\/∃ a t1 r1,res1=.ok (a,t1,r1) /\
        ((¬ t1=kUntil/\¬ t1=kWhile/\res=.error 4)\/(t1=kUntil/\res=.ok ([⟨117,0,[],a,[],[]⟩],[],r1)) \/
         (t1=kWhile/\∃ res2,pRead known g ⟨false,lo,[kRepeat],[]⟩ r1=some res2 /\
           ((∃ e,res2=.error e/\res=.error e)\/∃ b t2 r2,res2=.ok (b,t2,r2)/\res=.ok ([⟨119,0,[],a,b,[]⟩],[],r2))))):=by
  rcases pI_begin h with⟨e,h1,h2⟩|⟨a,t1,r1,h1,h2⟩
  · obtain⟨res1,h3,h4⟩:=pEnds known [kUntil,kWhile] (sub_ends (by decide)) lo g _ _ h1
    refine⟨res1,h3,?_⟩;rcases res1 with e1|⟨a,t1,r1⟩
    · have h4:Except.error e=Except.error e1:=h4
      injection h4 with h4;exact .inl ⟨e1,rfl,by rw[h2,h4]⟩
    · right
      refine⟨a,t1,r1,rfl,.inl ?_⟩;have h5:([kUntil,kWhile].any (· == t1))=false:=by
        cases hh:[kUntil,kWhile].any (· == t1)
        · rfl
        · rw[convR_in hh] at h4;cases h4
      rw[convR_out h5] at h4;injection h4 with h4;refine⟨?_,?_,by rw[h2,h4]⟩
      · rintro rfl;revert h5;decide
      · rintro rfl;revert h5;decide
  · obtain⟨res1,h3,h4⟩:=pEnds known [kUntil,kWhile] (sub_ends (by decide)) lo g _ _ h1
    rcases res1 with e1|⟨a1,t11,r11⟩
    · cases h4
    · have h5:([kUntil,kWhile].any (· == t11))=true:=by
        cases hh:[kUntil,kWhile].any (· == t11)
        · rw[convR_out hh] at h4;cases h4
        · rfl
      rw[convR_in h5] at h4;injection h4 with h4;injection h4 with ha h4;injection h4 with ht hr;subst ha;subst ht;subst hr;refine⟨_,h3,.inr ⟨a,t1,r1,rfl,?_⟩⟩;rcases h2 with⟨rfl,h2⟩|⟨h6,h2⟩
      · right;right
        refine⟨rfl,?_⟩;rcases h2 with⟨e,h7,h8⟩|⟨b,t2,r2,h7,h8⟩
        · exact⟨_,h7,.inl ⟨e,rfl,h8⟩⟩
        · exact⟨_,h7,.inr ⟨b,t2,r2,rfl,h8⟩⟩
      · right;left
        refine⟨?_,h2⟩;simp only[List.any_cons,List.any_nil,Bool.or_false,Bool.or_eq_true,beq_iff_eq] at h5;rcases h5 with h5|h5
        · exact h5.symm
        · exact absurd h5.symm h6
theorem kind_no {t k:Tok} {K i:Int} (h:allEnds.any (· == t)=true) (hK:K=(kindN t:Int)) (hk:(kindN k:Int)=i) (hn:¬ t=k):(K == i)=false:=by
 rw[beq_eq_false_iff_ne,hK,<-hk];exact fun e=>hn (kind_same h (by omega))
theorem ifQ (g:Nat) (hQ:QBody g) (w:World) (sb bk mb:Nat) (known:Tok->Bool) (ws:List ByteArray) (lo:Nat) (res:PRes) (hres:pRead known (g+1) ⟨true,lo,[],kIf⟩ (texts ws)=some res) (h:RdInv w sb bk mb known ws lo):
  Calls Tryz.prog 238 #[pt sb] w fun x w'=>Kp w w' (fun b=>b=sb)/\QIt w sb bk mb known lo x w' res:=by
 obtain⟨rv,hB,hT⟩:=h.blk;have hsb:=hB.lt;have hcs:sb ≠ w.heap.size:=by omega
 have h1w:=h.sp.lt;have hZ0:=Blk.new w #[.int .i64 0,.int .i64 0,.int .i64 0,.string ⟨#[]⟩,.slice none 0 0,.slice none 0 0,.slice none 0 0] 241;have hk0:Kp w (w.alloc (.cells #[.int .i64 0,.int .i64 0,.int .i64 0,.string ⟨#[]⟩,.slice none 0 0,.slice none 0 0,.slice none 0 0] 241)) (fun b=>b=sb):=(Kp.refl w (fun b=>b=sb)).alloc _;have hS0:RdInv (w.alloc (.cells #[.int .i64 0,.int .i64 0,.int .i64 0,.string ⟨#[]⟩,.slice none 0 0,.slice none 0 0,.slice none 0 0] 241)) sb bk mb known ws lo:=h.kp ((Kp.refl w (fun _=>False)).alloc _);obtain⟨res1,hr1,hcase⟩:=pI_if2 hres;have HU:=hide (hQ _ sb bk mb known ws lo res1 hr1 hS0);have HC:=hide hcase;have HQ:=hide hQ;have HR1:=hide hr1;clear hQ hres hr1 hS0 hcase;go_enter Tryz.func238,Tryz.ntmps238
 go_wp2_with fail
 refine HU.out.mono ?_;rintro x w1 ⟨hk1,hq⟩;have hZ:=hk1.blk hZ0 hcs.symm;have hkp:=hk0.trans hk1;have hsz1:w.heap.size+1<=w1.heap.size:=by have:=hk1.size;simpa using this
 have hcase:=HC.out;clear HU HC hk0 hZ0;rcases res1 with er|⟨l,t1,r1⟩
 ·obtain⟨her,rv1,rfl,hB1⟩:=hq;have HR:Hid (res=.error er):=by
   rcases hcase with⟨e,h1,h2⟩|⟨_,_,_,h1,_⟩
   ·injection h1 with h1;unfold Hid;rw[h2,h1]
   ·cases h1
  have he0:(er == 0)=false:=by simpa using her
  clear hcase hk1;obtain⟨y0,y1,y2,y3,y4,y5,y6⟩:=hZ.seven;obtain⟨z0,z1,z2,z3,z4,z5,z6⟩:=hZ.sevenF;go_wp2;have hC2:=hZ.set7 (.int .i64 3) (.int .i64 0) (.int .i64 0) (.string ⟨#[]⟩) (.slice none 0 0) (.slice none 0 0) (.slice none 0 0);have hK2:=hkp.set7 (Nat.le_refl _) (.int .i64 3) (.int .i64 0) (.int .i64 0) (.string ⟨#[]⟩) (.slice none 0 0) (.slice none 0 0) (.slice none 0 0);have hk3:=Kp.own7 (w:=w1) w.heap.size (.int .i64 3) (.int .i64 0) (.int .i64 0) (.string ⟨#[]⟩) (.slice none 0 0) (.slice none 0 0) (.slice none 0 0);have hB2:=hB1.other7 hcs (.int .i64 3) (.int .i64 0) (.int .i64 0) (.string ⟨#[]⟩) (.slice none 0 0) (.slice none 0 0) (.slice none 0 0);generalize (((((((w1.setCell ⟨w.heap.size,0,none⟩ (.int .i64 3)).setCell ⟨w.heap.size,1,none⟩ (.int .i64 0)).setCell ⟨w.heap.size,2,none⟩ (.int .i64 0)).setCell ⟨w.heap.size,3,none⟩ (.string ⟨#[]⟩)).setCell ⟨w.heap.size,4,none⟩ (.slice none 0 0)).setCell ⟨w.heap.size,5,none⟩ (.slice none 0 0)).setCell ⟨w.heap.size,6,none⟩ (.slice none 0 0))=wf at hC2 hK2 hB2 hk3 ⊢;obtain⟨q0,q1,q2,q3,q4,q5,q6⟩:=hC2.seven;refine bodyPost_ret (v:=.tuple #[.agg #[.int .i64 3,.int .i64 0,.int .i64 0,.string ⟨#[]⟩,.slice none 0 0,.slice none 0 0,.slice none 0 0],.int .i64 er]) (by simp[results,Tryz.results238,go_sem,q0,q1,q2,q3,q4,q5,q6]) rfl ?_;rw[HR.out];exact⟨hK2,her,_,_,_,_,_,_,_,_,_,_,_,_,_,_,rfl,hB2⟩
 ·obtain⟨v1,ws1,rfl,hI1,htx,hS1⟩:=hq;have hte:=ok_ends _ _ _ _ _ _ HR1.out;obtain⟨xs1,hrow1,-⟩:=hI1.out;obtain⟨a5,p5,rfl⟩:=hrow1.form;obtain⟨rv1,hB1,-⟩:=hS1.blk;have hI1':Items (BD (fun b=>w.heap.size+1<=b) w1) (.slice a5 l.length p5) l:=hI1.mono (BD_sub (fun b _ hb=>by have:(w.alloc (.cells #[.int .i64 0,.int .i64 0,.int .i64 0,.string ⟨#[]⟩,.slice none 0 0,.slice none 0 0,.slice none 0 0] 241)).heap.size<=b:=hb;simpa using this));have HI1:=hide hI1';have HS:=hide hS1;clear hrow1 hI1 hI1' hS1;have hcase:_:=hcase;rcases hcase with⟨e,h1,_⟩|⟨a,t2,r2,h1,hcase⟩
  ·cases h1
  injection h1 with h1;injection h1 with h2 h1;injection h1 with h3 h4;subst h2;subst h3;subst h4;rcases hcase with⟨hn1,hn2,hre⟩|⟨rfl,hre⟩|⟨rfl,res2,hr2,hcase⟩
  ·have HR:=hide hre;obtain⟨T,hT⟩:∃ T:Int,T=(kindN t1:Int):=⟨_,rfl⟩;have b1:=kind_no hte hT (show (kindN kElse:Int)=23 by decide) hn1;have b2:=kind_no hte hT (show (kindN kThen:Int)=24 by decide) hn2;rw[<-hT];clear hT hre hk1;obtain⟨y0,y1,y2,y3,y4,y5,y6⟩:=hZ.seven;obtain⟨z0,z1,z2,z3,z4,z5,z6⟩:=hZ.sevenF;go_wp2;have hC2:=hZ.set7 (.int .i64 3) (.int .i64 0) (.int .i64 0) (.string ⟨#[]⟩) (.slice none 0 0) (.slice a5 l.length p5) (.slice none 0 0);have hK2:=hkp.set7 (Nat.le_refl _) (.int .i64 3) (.int .i64 0) (.int .i64 0) (.string ⟨#[]⟩) (.slice none 0 0) (.slice a5 l.length p5) (.slice none 0 0);have hk3:=Kp.own7 (w:=w1) w.heap.size (.int .i64 3) (.int .i64 0) (.int .i64 0) (.string ⟨#[]⟩) (.slice none 0 0) (.slice a5 l.length p5) (.slice none 0 0);have hB2:=hB1.other7 hcs (.int .i64 3) (.int .i64 0) (.int .i64 0) (.string ⟨#[]⟩) (.slice none 0 0) (.slice a5 l.length p5) (.slice none 0 0);generalize (((((((w1.setCell ⟨w.heap.size,0,none⟩ (.int .i64 3)).setCell ⟨w.heap.size,1,none⟩ (.int .i64 0)).setCell ⟨w.heap.size,2,none⟩ (.int .i64 0)).setCell ⟨w.heap.size,3,none⟩ (.string ⟨#[]⟩)).setCell ⟨w.heap.size,4,none⟩ (.slice none 0 0)).setCell ⟨w.heap.size,5,none⟩ (.slice a5 l.length p5)).setCell ⟨w.heap.size,6,none⟩ (.slice none 0 0))=wf at hC2 hK2 hB2 hk3 ⊢;obtain⟨q0,q1,q2,q3,q4,q5,q6⟩:=hC2.seven;refine bodyPost_ret (v:=.tuple #[.agg #[.int .i64 3,.int .i64 0,.int .i64 0,.string ⟨#[]⟩,.slice none 0 0,.slice a5 l.length p5,.slice none 0 0],.int .i64 4]) (by simp[results,Tryz.results238,go_sem,q0,q1,q2,q3,q4,q5,q6]) rfl ?_;rw[HR.out];exact⟨hK2,by decide,_,_,_,_,_,_,_,_,_,_,_,_,_,_,rfl,hB2⟩
  ·have HR:=hide hre;rw[show (kindN kThen:Int)=24 by decide];clear hre hk1;obtain⟨y0,y1,y2,y3,y4,y5,y6⟩:=hZ.seven;obtain⟨z0,z1,z2,z3,z4,z5,z6⟩:=hZ.sevenF;go_wp2;have hC2:=hZ.set7 (.int .i64 3) (.int .i64 0) (.int .i64 0) (.string ⟨#[]⟩) (.slice none 0 0) (.slice a5 l.length p5) (.slice none 0 0);have hK2:=hkp.set7 (Nat.le_refl _) (.int .i64 3) (.int .i64 0) (.int .i64 0) (.string ⟨#[]⟩) (.slice none 0 0) (.slice a5 l.length p5) (.slice none 0 0);have hk3:=Kp.own7 (w:=w1) w.heap.size (.int .i64 3) (.int .i64 0) (.int .i64 0) (.string ⟨#[]⟩) (.slice none 0 0) (.slice a5 l.length p5) (.slice none 0 0);have hB2:=hB1.other7 hcs (.int .i64 3) (.int .i64 0) (.int .i64 0) (.string ⟨#[]⟩) (.slice none 0 0) (.slice a5 l.length p5) (.slice none 0 0);generalize (((((((w1.setCell ⟨w.heap.size,0,none⟩ (.int .i64 3)).setCell ⟨w.heap.size,1,none⟩ (.int .i64 0)).setCell ⟨w.heap.size,2,none⟩ (.int .i64 0)).setCell ⟨w.heap.size,3,none⟩ (.string ⟨#[]⟩)).setCell ⟨w.heap.size,4,none⟩ (.slice none 0 0)).setCell ⟨w.heap.size,5,none⟩ (.slice a5 l.length p5)).setCell ⟨w.heap.size,6,none⟩ (.slice none 0 0))=wf at hC2 hK2 hB2 hk3 ⊢;obtain⟨q0,q1,q2,q3,q4,q5,q6⟩:=hC2.seven;refine bodyPost_ret (v:=.tuple #[.agg #[.int .i64 3,.int .i64 0,.int .i64 0,.string ⟨#[]⟩,.slice none 0 0,.slice a5 l.length p5,.slice none 0 0],.int .i64 0]) (by simp[results,Tryz.results238,go_sem,q0,q1,q2,q3,q4,q5,q6]) rfl ?_;rw[HR.out];have hkb:=BD_keep (D:=fun b=>w.heap.size+1<=b) (D':=New w) hk3 (fun b _ hb=>⟨by show w.heap.size<=b;omega,by show ¬ b=w.heap.size;omega⟩);exact⟨hK2,_,_,_,_,_,_,_,ws1,rfl,rfl,itm_long 63 _ _ _ _ (by simp) (HI1.out.mono hkb) (Items.nil _),htx,HS.out.other hk3 hZ h1w⟩
  ·rw[show (kindN kElse:Int)=23 by decide];have HU2:=hide (HQ.out _ sb bk mb known ws1 lo res2 (by rw[htx];exact hr2) HS.out)
   go_wp2_with fail
   refine HU2.out.mono ?_;rintro x w2 ⟨hk2,hq⟩;have hZ':=hk2.blk hZ hcs.symm;have hkp':=hkp.trans hk2;have hkk:=BD_keep (D:=fun b=>w.heap.size+1<=b) (D':=fun b=>w.heap.size+1<=b) hk2 (fun b _ hb=>⟨hb,by show ¬ b=sb;omega⟩);have HI1':=hide (HI1.out.mono hkk);clear hZ hkp HI1 HS HU2 hk1 hB1 hkk htx;have hZ:=hZ';have hkp:=hkp';clear hZ' hkp';rcases res2 with er|⟨l2,t2,r2⟩
   ·obtain⟨her,rv1,rfl,hB1⟩:=hq;have HR:Hid (res=.error er):=by
     rcases hcase with⟨e,h1,h2⟩|⟨_,_,_,h1,_⟩
     ·injection h1 with h1;unfold Hid;rw[h2,h1]
     ·cases h1
    have he0:(er == 0)=false:=by simpa using her
    clear hcase hk2;obtain⟨y0,y1,y2,y3,y4,y5,y6⟩:=hZ.seven;obtain⟨z0,z1,z2,z3,z4,z5,z6⟩:=hZ.sevenF;go_wp2;have hC2:=hZ.set7 (.int .i64 3) (.int .i64 0) (.int .i64 0) (.string ⟨#[]⟩) (.slice none 0 0) (.slice a5 l.length p5) (.slice none 0 0);have hK2:=hkp.set7 (Nat.le_refl _) (.int .i64 3) (.int .i64 0) (.int .i64 0) (.string ⟨#[]⟩) (.slice none 0 0) (.slice a5 l.length p5) (.slice none 0 0);have hk3:=Kp.own7 (w:=w2) w.heap.size (.int .i64 3) (.int .i64 0) (.int .i64 0) (.string ⟨#[]⟩) (.slice none 0 0) (.slice a5 l.length p5) (.slice none 0 0);have hB2:=hB1.other7 hcs (.int .i64 3) (.int .i64 0) (.int .i64 0) (.string ⟨#[]⟩) (.slice none 0 0) (.slice a5 l.length p5) (.slice none 0 0);generalize (((((((w2.setCell ⟨w.heap.size,0,none⟩ (.int .i64 3)).setCell ⟨w.heap.size,1,none⟩ (.int .i64 0)).setCell ⟨w.heap.size,2,none⟩ (.int .i64 0)).setCell ⟨w.heap.size,3,none⟩ (.string ⟨#[]⟩)).setCell ⟨w.heap.size,4,none⟩ (.slice none 0 0)).setCell ⟨w.heap.size,5,none⟩ (.slice a5 l.length p5)).setCell ⟨w.heap.size,6,none⟩ (.slice none 0 0))=wf at hC2 hK2 hB2 hk3 ⊢;obtain⟨q0,q1,q2,q3,q4,q5,q6⟩:=hC2.seven;refine bodyPost_ret (v:=.tuple #[.agg #[.int .i64 3,.int .i64 0,.int .i64 0,.string ⟨#[]⟩,.slice none 0 0,.slice a5 l.length p5,.slice none 0 0],.int .i64 er]) (by simp[results,Tryz.results238,go_sem,q0,q1,q2,q3,q4,q5,q6]) rfl ?_;rw[HR.out];exact⟨hK2,her,_,_,_,_,_,_,_,_,_,_,_,_,_,_,rfl,hB2⟩
   ·obtain⟨v2,ws2,rfl,hI2,htx,hS2⟩:=hq;have hte2:=ok_ends _ _ _ _ _ _ hr2;obtain⟨xs2,hrow2,-⟩:=hI2.out;obtain⟨a6,p6,rfl⟩:=hrow2.form;obtain⟨rv1,hB1,-⟩:=hS2.blk;have hI2':Items (BD (fun b=>w.heap.size+1<=b) w2) (.slice a6 l2.length p6) l2:=hI2.mono (BD_sub (fun b _ hb=>by have:w1.heap.size<=b:=hb;show w.heap.size+1<=b;omega));have HI2:=hide hI2';have HS:=hide hS2;clear hrow2 hI2 hI2' hS2 hr2;rcases hcase with⟨e,h1,_⟩|⟨b,t3,r3,h1,hcase⟩
    ·cases h1
    injection h1 with h1;injection h1 with h2 h1;injection h1 with h3 h4;subst h2;subst h3;subst h4;rcases hcase with⟨hn,hre⟩|⟨rfl,hre⟩
    ·have HR:=hide hre;obtain⟨T,hT⟩:∃ T:Int,T=(kindN t2:Int):=⟨_,rfl⟩;have b2:=kind_no hte2 hT (show (kindN kThen:Int)=24 by decide) hn;rw[<-hT];clear hT hre hk2;obtain⟨y0,y1,y2,y3,y4,y5,y6⟩:=hZ.seven;obtain⟨z0,z1,z2,z3,z4,z5,z6⟩:=hZ.sevenF;go_wp2;have hC2:=hZ.set7 (.int .i64 3) (.int .i64 0) (.int .i64 0) (.string ⟨#[]⟩) (.slice none 0 0) (.slice a5 l.length p5) (.slice a6 l2.length p6);have hK2:=hkp.set7 (Nat.le_refl _) (.int .i64 3) (.int .i64 0) (.int .i64 0) (.string ⟨#[]⟩) (.slice none 0 0) (.slice a5 l.length p5) (.slice a6 l2.length p6);have hk3:=Kp.own7 (w:=w2) w.heap.size (.int .i64 3) (.int .i64 0) (.int .i64 0) (.string ⟨#[]⟩) (.slice none 0 0) (.slice a5 l.length p5) (.slice a6 l2.length p6);have hB2:=hB1.other7 hcs (.int .i64 3) (.int .i64 0) (.int .i64 0) (.string ⟨#[]⟩) (.slice none 0 0) (.slice a5 l.length p5) (.slice a6 l2.length p6);generalize (((((((w2.setCell ⟨w.heap.size,0,none⟩ (.int .i64 3)).setCell ⟨w.heap.size,1,none⟩ (.int .i64 0)).setCell ⟨w.heap.size,2,none⟩ (.int .i64 0)).setCell ⟨w.heap.size,3,none⟩ (.string ⟨#[]⟩)).setCell ⟨w.heap.size,4,none⟩ (.slice none 0 0)).setCell ⟨w.heap.size,5,none⟩ (.slice a5 l.length p5)).setCell ⟨w.heap.size,6,none⟩ (.slice a6 l2.length p6))=wf at hC2 hK2 hB2 hk3 ⊢;obtain⟨q0,q1,q2,q3,q4,q5,q6⟩:=hC2.seven;refine bodyPost_ret (v:=.tuple #[.agg #[.int .i64 3,.int .i64 0,.int .i64 0,.string ⟨#[]⟩,.slice none 0 0,.slice a5 l.length p5,.slice a6 l2.length p6],.int .i64 4]) (by simp[results,Tryz.results238,go_sem,q0,q1,q2,q3,q4,q5,q6]) rfl ?_;rw[HR.out];exact⟨hK2,by decide,_,_,_,_,_,_,_,_,_,_,_,_,_,_,rfl,hB2⟩
    ·have HR:=hide hre;rw[show (kindN kThen:Int)=24 by decide];clear hre hk2;obtain⟨y0,y1,y2,y3,y4,y5,y6⟩:=hZ.seven;obtain⟨z0,z1,z2,z3,z4,z5,z6⟩:=hZ.sevenF;go_wp2;have hC2:=hZ.set7 (.int .i64 3) (.int .i64 0) (.int .i64 0) (.string ⟨#[]⟩) (.slice none 0 0) (.slice a5 l.length p5) (.slice a6 l2.length p6);have hK2:=hkp.set7 (Nat.le_refl _) (.int .i64 3) (.int .i64 0) (.int .i64 0) (.string ⟨#[]⟩) (.slice none 0 0) (.slice a5 l.length p5) (.slice a6 l2.length p6);have hk3:=Kp.own7 (w:=w2) w.heap.size (.int .i64 3) (.int .i64 0) (.int .i64 0) (.string ⟨#[]⟩) (.slice none 0 0) (.slice a5 l.length p5) (.slice a6 l2.length p6);have hB2:=hB1.other7 hcs (.int .i64 3) (.int .i64 0) (.int .i64 0) (.string ⟨#[]⟩) (.slice none 0 0) (.slice a5 l.length p5) (.slice a6 l2.length p6);generalize (((((((w2.setCell ⟨w.heap.size,0,none⟩ (.int .i64 3)).setCell ⟨w.heap.size,1,none⟩ (.int .i64 0)).setCell ⟨w.heap.size,2,none⟩ (.int .i64 0)).setCell ⟨w.heap.size,3,none⟩ (.string ⟨#[]⟩)).setCell ⟨w.heap.size,4,none⟩ (.slice none 0 0)).setCell ⟨w.heap.size,5,none⟩ (.slice a5 l.length p5)).setCell ⟨w.heap.size,6,none⟩ (.slice a6 l2.length p6))=wf at hC2 hK2 hB2 hk3 ⊢;obtain⟨q0,q1,q2,q3,q4,q5,q6⟩:=hC2.seven;refine bodyPost_ret (v:=.tuple #[.agg #[.int .i64 3,.int .i64 0,.int .i64 0,.string ⟨#[]⟩,.slice none 0 0,.slice a5 l.length p5,.slice a6 l2.length p6],.int .i64 0]) (by simp[results,Tryz.results238,go_sem,q0,q1,q2,q3,q4,q5,q6]) rfl ?_;rw[HR.out];have hkb:=BD_keep (D:=fun b=>w.heap.size+1<=b) (D':=New w) hk3 (fun b _ hb=>⟨by show w.heap.size<=b;omega,by show ¬ b=w.heap.size;omega⟩);exact⟨hK2,_,_,_,_,_,_,_,ws2,rfl,rfl,itm_long 63 _ _ _ _ (by simp) (HI1'.out.mono hkb) (HI2.out.mono hkb),htx,HS.out.other hk3 hZ h1w⟩
theorem beginQ (g:Nat) (hQ:QBody g) (w:World) (sb bk mb:Nat) (known:Tok->Bool) (ws:List ByteArray) (lo:Nat) (res:PRes) (hres:pRead known (g+1) ⟨true,lo,[],kBegin⟩ (texts ws)=some res) (h:RdInv w sb bk mb known ws lo):
  Calls Tryz.prog 239 #[pt sb] w fun x w'=>Kp w w' (fun b=>b=sb)/\QIt w sb bk mb known lo x w' res:=by
 obtain⟨rv,hB,hT⟩:=h.blk;have hsb:=hB.lt;have hcs:sb ≠ w.heap.size:=by omega
 have h1w:=h.sp.lt;have hZ0:=Blk.new w #[.int .i64 0,.int .i64 0,.int .i64 0,.string ⟨#[]⟩,.slice none 0 0,.slice none 0 0,.slice none 0 0] 241;have hk0:Kp w (w.alloc (.cells #[.int .i64 0,.int .i64 0,.int .i64 0,.string ⟨#[]⟩,.slice none 0 0,.slice none 0 0,.slice none 0 0] 241)) (fun b=>b=sb):=(Kp.refl w (fun b=>b=sb)).alloc _;have hS0:RdInv (w.alloc (.cells #[.int .i64 0,.int .i64 0,.int .i64 0,.string ⟨#[]⟩,.slice none 0 0,.slice none 0 0,.slice none 0 0] 241)) sb bk mb known ws lo:=h.kp ((Kp.refl w (fun _=>False)).alloc _);obtain⟨res1,hr1,hcase⟩:=pI_begin2 hres;have HU:=hide (hQ _ sb bk mb known ws lo res1 hr1 hS0);have HC:=hide hcase;have HQ:=hide hQ;have HR1:=hide hr1;clear hQ hres hr1 hS0 hcase;go_enter Tryz.func239,Tryz.ntmps239
 go_wp2_with fail
 refine HU.out.mono ?_;rintro x w1 ⟨hk1,hq⟩;have hZ:=hk1.blk hZ0 hcs.symm;have hkp:=hk0.trans hk1;have hsz1:w.heap.size+1<=w1.heap.size:=by have:=hk1.size;simpa using this
 have hcase:=HC.out;clear HU HC hk0 hZ0;rcases res1 with er|⟨l,t1,r1⟩
 ·obtain⟨her,rv1,rfl,hB1⟩:=hq;have HR:Hid (res=.error er):=by
   rcases hcase with⟨e,h1,h2⟩|⟨_,_,_,h1,_⟩
   ·injection h1 with h1;unfold Hid;rw[h2,h1]
   ·cases h1
  have he0:(er == 0)=false:=by simpa using her
  clear hcase hk1;obtain⟨y0,y1,y2,y3,y4,y5,y6⟩:=hZ.seven;obtain⟨z0,z1,z2,z3,z4,z5,z6⟩:=hZ.sevenF;go_wp2;have hC2:=hZ.set7 (.int .i64 0) (.int .i64 0) (.int .i64 0) (.string ⟨#[]⟩) (.slice none 0 0) (.slice none 0 0) (.slice none 0 0);have hK2:=hkp.set7 (Nat.le_refl _) (.int .i64 0) (.int .i64 0) (.int .i64 0) (.string ⟨#[]⟩) (.slice none 0 0) (.slice none 0 0) (.slice none 0 0);have hk3:=Kp.own7 (w:=w1) w.heap.size (.int .i64 0) (.int .i64 0) (.int .i64 0) (.string ⟨#[]⟩) (.slice none 0 0) (.slice none 0 0) (.slice none 0 0);have hB2:=hB1.other7 hcs (.int .i64 0) (.int .i64 0) (.int .i64 0) (.string ⟨#[]⟩) (.slice none 0 0) (.slice none 0 0) (.slice none 0 0);generalize (((((((w1.setCell ⟨w.heap.size,0,none⟩ (.int .i64 0)).setCell ⟨w.heap.size,1,none⟩ (.int .i64 0)).setCell ⟨w.heap.size,2,none⟩ (.int .i64 0)).setCell ⟨w.heap.size,3,none⟩ (.string ⟨#[]⟩)).setCell ⟨w.heap.size,4,none⟩ (.slice none 0 0)).setCell ⟨w.heap.size,5,none⟩ (.slice none 0 0)).setCell ⟨w.heap.size,6,none⟩ (.slice none 0 0))=wf at hC2 hK2 hB2 hk3 ⊢;obtain⟨q0,q1,q2,q3,q4,q5,q6⟩:=hC2.seven;refine bodyPost_ret (v:=.tuple #[.agg #[.int .i64 0,.int .i64 0,.int .i64 0,.string ⟨#[]⟩,.slice none 0 0,.slice none 0 0,.slice none 0 0],.int .i64 er]) (by simp[results,Tryz.results239,go_sem,q0,q1,q2,q3,q4,q5,q6]) rfl ?_;rw[HR.out];exact⟨hK2,her,_,_,_,_,_,_,_,_,_,_,_,_,_,_,rfl,hB2⟩
 ·obtain⟨v1,ws1,rfl,hI1,htx,hS1⟩:=hq;have hte:=ok_ends _ _ _ _ _ _ HR1.out;obtain⟨xs1,hrow1,-⟩:=hI1.out;obtain⟨a5,p5,rfl⟩:=hrow1.form;obtain⟨rv1,hB1,-⟩:=hS1.blk;have hI1':Items (BD (fun b=>w.heap.size+1<=b) w1) (.slice a5 l.length p5) l:=hI1.mono (BD_sub (fun b _ hb=>by have:(w.alloc (.cells #[.int .i64 0,.int .i64 0,.int .i64 0,.string ⟨#[]⟩,.slice none 0 0,.slice none 0 0,.slice none 0 0] 241)).heap.size<=b:=hb;simpa using this));have HI1:=hide hI1';have HS:=hide hS1;clear hrow1 hI1 hI1' hS1;have hcase:_:=hcase;rcases hcase with⟨e,h1,_⟩|⟨a,t2,r2,h1,hcase⟩
  ·cases h1
  injection h1 with h1;injection h1 with h2 h1;injection h1 with h3 h4;subst h2;subst h3;subst h4;rcases hcase with⟨hn1,hn2,hre⟩|⟨rfl,hre⟩|⟨rfl,res2,hr2,hcase⟩
  ·have HR:=hide hre;obtain⟨T,hT⟩:∃ T:Int,T=(kindN t1:Int):=⟨_,rfl⟩;have b1:=kind_no hte hT (show (kindN kUntil:Int)=26 by decide) hn1;have b2:=kind_no hte hT (show (kindN kWhile:Int)=27 by decide) hn2;rw[<-hT];clear hT hre hk1;obtain⟨y0,y1,y2,y3,y4,y5,y6⟩:=hZ.seven;obtain⟨z0,z1,z2,z3,z4,z5,z6⟩:=hZ.sevenF;go_wp2;have hC2:=hZ.set7 (.int .i64 0) (.int .i64 0) (.int .i64 0) (.string ⟨#[]⟩) (.slice none 0 0) (.slice none 0 0) (.slice none 0 0);have hK2:=hkp.set7 (Nat.le_refl _) (.int .i64 0) (.int .i64 0) (.int .i64 0) (.string ⟨#[]⟩) (.slice none 0 0) (.slice none 0 0) (.slice none 0 0);have hk3:=Kp.own7 (w:=w1) w.heap.size (.int .i64 0) (.int .i64 0) (.int .i64 0) (.string ⟨#[]⟩) (.slice none 0 0) (.slice none 0 0) (.slice none 0 0);have hB2:=hB1.other7 hcs (.int .i64 0) (.int .i64 0) (.int .i64 0) (.string ⟨#[]⟩) (.slice none 0 0) (.slice none 0 0) (.slice none 0 0);generalize (((((((w1.setCell ⟨w.heap.size,0,none⟩ (.int .i64 0)).setCell ⟨w.heap.size,1,none⟩ (.int .i64 0)).setCell ⟨w.heap.size,2,none⟩ (.int .i64 0)).setCell ⟨w.heap.size,3,none⟩ (.string ⟨#[]⟩)).setCell ⟨w.heap.size,4,none⟩ (.slice none 0 0)).setCell ⟨w.heap.size,5,none⟩ (.slice none 0 0)).setCell ⟨w.heap.size,6,none⟩ (.slice none 0 0))=wf at hC2 hK2 hB2 hk3 ⊢;obtain⟨q0,q1,q2,q3,q4,q5,q6⟩:=hC2.seven;refine bodyPost_ret (v:=.tuple #[.agg #[.int .i64 0,.int .i64 0,.int .i64 0,.string ⟨#[]⟩,.slice none 0 0,.slice none 0 0,.slice none 0 0],.int .i64 4]) (by simp[results,Tryz.results239,go_sem,q0,q1,q2,q3,q4,q5,q6]) rfl ?_;rw[HR.out];exact⟨hK2,by decide,_,_,_,_,_,_,_,_,_,_,_,_,_,_,rfl,hB2⟩
  ·have HR:=hide hre;rw[show (kindN kUntil:Int)=26 by decide];clear hre hk1;obtain⟨y0,y1,y2,y3,y4,y5,y6⟩:=hZ.seven;obtain⟨z0,z1,z2,z3,z4,z5,z6⟩:=hZ.sevenF;go_wp2;have hC2:=hZ.set7 (.int .i64 4) (.int .i64 0) (.int .i64 0) (.string ⟨#[]⟩) (.slice none 0 0) (.slice a5 l.length p5) (.slice none 0 0);have hK2:=hkp.set7 (Nat.le_refl _) (.int .i64 4) (.int .i64 0) (.int .i64 0) (.string ⟨#[]⟩) (.slice none 0 0) (.slice a5 l.length p5) (.slice none 0 0);have hk3:=Kp.own7 (w:=w1) w.heap.size (.int .i64 4) (.int .i64 0) (.int .i64 0) (.string ⟨#[]⟩) (.slice none 0 0) (.slice a5 l.length p5) (.slice none 0 0);have hB2:=hB1.other7 hcs (.int .i64 4) (.int .i64 0) (.int .i64 0) (.string ⟨#[]⟩) (.slice none 0 0) (.slice a5 l.length p5) (.slice none 0 0);generalize (((((((w1.setCell ⟨w.heap.size,0,none⟩ (.int .i64 4)).setCell ⟨w.heap.size,1,none⟩ (.int .i64 0)).setCell ⟨w.heap.size,2,none⟩ (.int .i64 0)).setCell ⟨w.heap.size,3,none⟩ (.string ⟨#[]⟩)).setCell ⟨w.heap.size,4,none⟩ (.slice none 0 0)).setCell ⟨w.heap.size,5,none⟩ (.slice a5 l.length p5)).setCell ⟨w.heap.size,6,none⟩ (.slice none 0 0))=wf at hC2 hK2 hB2 hk3 ⊢;obtain⟨q0,q1,q2,q3,q4,q5,q6⟩:=hC2.seven;refine bodyPost_ret (v:=.tuple #[.agg #[.int .i64 4,.int .i64 0,.int .i64 0,.string ⟨#[]⟩,.slice none 0 0,.slice a5 l.length p5,.slice none 0 0],.int .i64 0]) (by simp[results,Tryz.results239,go_sem,q0,q1,q2,q3,q4,q5,q6]) rfl ?_;rw[HR.out];have hkb:=BD_keep (D:=fun b=>w.heap.size+1<=b) (D':=New w) hk3 (fun b _ hb=>⟨by show w.heap.size<=b;omega,by show ¬ b=w.heap.size;omega⟩);exact⟨hK2,_,_,_,_,_,_,_,ws1,rfl,rfl,itm_long 117 _ _ _ _ (by simp) (HI1.out.mono hkb) (Items.nil _),htx,HS.out.other hk3 hZ h1w⟩
  ·rw[show (kindN kWhile:Int)=27 by decide];have HU2:=hide (upToQ g HQ.out _ sb bk mb known ws1 lo kRepeat 28 (by decide) (by decide) res2 (by rw[htx];exact hr2) HS.out)
   go_wp2_with fail
   refine HU2.out.mono ?_;rintro x w2 ⟨hk2,hq⟩;have hZ':=hk2.blk hZ hcs.symm;have hkp':=hkp.trans hk2;have hkk:=BD_keep (D:=fun b=>w.heap.size+1<=b) (D':=fun b=>w.heap.size+1<=b) hk2 (fun b _ hb=>⟨hb,by show ¬ b=sb;omega⟩);have HI1':=hide (HI1.out.mono hkk);clear hZ hkp HI1 HS HU2 hk1 hB1 hkk htx;have hZ:=hZ';have hkp:=hkp';clear hZ' hkp';rcases res2 with er|⟨l2,t2,r2⟩
   ·obtain⟨her,a6,m6,p6,rv1,rfl,hB1⟩:=hq;have HR:Hid (res=.error er):=by
     rcases hcase with⟨e,h1,h2⟩|⟨_,_,_,h1,_⟩
     ·injection h1 with h1;unfold Hid;rw[h2,h1]
     ·cases h1
    clear hcase hk2;obtain⟨y0,y1,y2,y3,y4,y5,y6⟩:=hZ.seven;obtain⟨z0,z1,z2,z3,z4,z5,z6⟩:=hZ.sevenF;go_wp2;have hC2:=hZ.set7 (.int .i64 5) (.int .i64 0) (.int .i64 0) (.string ⟨#[]⟩) (.slice none 0 0) (.slice a5 l.length p5) (.slice a6 m6 p6);have hK2:=hkp.set7 (Nat.le_refl _) (.int .i64 5) (.int .i64 0) (.int .i64 0) (.string ⟨#[]⟩) (.slice none 0 0) (.slice a5 l.length p5) (.slice a6 m6 p6);have hk3:=Kp.own7 (w:=w2) w.heap.size (.int .i64 5) (.int .i64 0) (.int .i64 0) (.string ⟨#[]⟩) (.slice none 0 0) (.slice a5 l.length p5) (.slice a6 m6 p6);have hB2:=hB1.other7 hcs (.int .i64 5) (.int .i64 0) (.int .i64 0) (.string ⟨#[]⟩) (.slice none 0 0) (.slice a5 l.length p5) (.slice a6 m6 p6);generalize (((((((w2.setCell ⟨w.heap.size,0,none⟩ (.int .i64 5)).setCell ⟨w.heap.size,1,none⟩ (.int .i64 0)).setCell ⟨w.heap.size,2,none⟩ (.int .i64 0)).setCell ⟨w.heap.size,3,none⟩ (.string ⟨#[]⟩)).setCell ⟨w.heap.size,4,none⟩ (.slice none 0 0)).setCell ⟨w.heap.size,5,none⟩ (.slice a5 l.length p5)).setCell ⟨w.heap.size,6,none⟩ (.slice a6 m6 p6))=wf at hC2 hK2 hB2 hk3 ⊢;obtain⟨q0,q1,q2,q3,q4,q5,q6⟩:=hC2.seven;refine bodyPost_ret (v:=.tuple #[.agg #[.int .i64 5,.int .i64 0,.int .i64 0,.string ⟨#[]⟩,.slice none 0 0,.slice a5 l.length p5,.slice a6 m6 p6],.int .i64 er]) (by simp[results,Tryz.results239,go_sem,q0,q1,q2,q3,q4,q5,q6]) rfl ?_;rw[HR.out];exact⟨hK2,her,_,_,_,_,_,_,_,_,_,_,_,_,_,_,rfl,hB2⟩
   ·obtain⟨v2,ws2,rfl,hI2,htx,hS2⟩:=hq;obtain⟨xs2,hrow2,-⟩:=hI2.out;obtain⟨a6,p6,rfl⟩:=hrow2.form;obtain⟨rv1,hB1,-⟩:=hS2.blk;have hI2':Items (BD (fun b=>w.heap.size+1<=b) w2) (.slice a6 l2.length p6) l2:=hI2.mono (BD_sub (fun b _ hb=>by have:w1.heap.size<=b:=hb;show w.heap.size+1<=b;omega));have HI2:=hide hI2';have HS:=hide hS2;clear hrow2 hI2 hI2' hS2 hr2;rcases hcase with⟨e,h1,_⟩|⟨b,t3,r3,h1,hre⟩
    ·cases h1
    injection h1 with h1;injection h1 with h2 h1;injection h1 with h3 h4;subst h2;subst h3;subst h4;have HR:=hide hre;clear hre hk2;obtain⟨y0,y1,y2,y3,y4,y5,y6⟩:=hZ.seven;obtain⟨z0,z1,z2,z3,z4,z5,z6⟩:=hZ.sevenF;go_wp2;have hC2:=hZ.set7 (.int .i64 5) (.int .i64 0) (.int .i64 0) (.string ⟨#[]⟩) (.slice none 0 0) (.slice a5 l.length p5) (.slice a6 l2.length p6);have hK2:=hkp.set7 (Nat.le_refl _) (.int .i64 5) (.int .i64 0) (.int .i64 0) (.string ⟨#[]⟩) (.slice none 0 0) (.slice a5 l.length p5) (.slice a6 l2.length p6);have hk3:=Kp.own7 (w:=w2) w.heap.size (.int .i64 5) (.int .i64 0) (.int .i64 0) (.string ⟨#[]⟩) (.slice none 0 0) (.slice a5 l.length p5) (.slice a6 l2.length p6);have hB2:=hB1.other7 hcs (.int .i64 5) (.int .i64 0) (.int .i64 0) (.string ⟨#[]⟩) (.slice none 0 0) (.slice a5 l.length p5) (.slice a6 l2.length p6);generalize (((((((w2.setCell ⟨w.heap.size,0,none⟩ (.int .i64 5)).setCell ⟨w.heap.size,1,none⟩ (.int .i64 0)).setCell ⟨w.heap.size,2,none⟩ (.int .i64 0)).setCell ⟨w.heap.size,3,none⟩ (.string ⟨#[]⟩)).setCell ⟨w.heap.size,4,none⟩ (.slice none 0 0)).setCell ⟨w.heap.size,5,none⟩ (.slice a5 l.length p5)).setCell ⟨w.heap.size,6,none⟩ (.slice a6 l2.length p6))=wf at hC2 hK2 hB2 hk3 ⊢;obtain⟨q0,q1,q2,q3,q4,q5,q6⟩:=hC2.seven;refine bodyPost_ret (v:=.tuple #[.agg #[.int .i64 5,.int .i64 0,.int .i64 0,.string ⟨#[]⟩,.slice none 0 0,.slice a5 l.length p5,.slice a6 l2.length p6],.int .i64 0]) (by simp[results,Tryz.results239,go_sem,q0,q1,q2,q3,q4,q5,q6]) rfl ?_;rw[HR.out];have hkb:=BD_keep (D:=fun b=>w.heap.size+1<=b) (D':=New w) hk3 (fun b _ hb=>⟨by show w.heap.size<=b;omega,by show ¬ b=w.heap.size;omega⟩);exact⟨hK2,_,_,_,_,_,_,_,ws2,rfl,rfl,itm_long 119 _ _ _ _ (by simp) (HI1'.out.mono hkb) (HI2.out.mono hkb),htx,HS.out.other hk3 hZ h1w⟩
end
section
open Go.RowKit
def BrQ (w:World) (sb bk mb:Nat) (known:Tok->Bool) (ws:List ByteArray) (lo:Nat) (v:Value) (wr:World):Prop:=
 ∃ ws' dn,Kp w wr (fun b=>b=sb)/\Blk wr w.heap.size 241 zIt7/\RdInv wr sb bk mb known ws' lo/\wr.ownsRow 0 9 1 v dn.length (dn.map Value.string)/\(∀ b,own v b->w.heap.size+1<=b)/\dn.length+ws'.length<=1000/\(∀ t∈dn,okW t) /\
  pBraces (texts ws)=consR (texts dn) (pBraces (texts ws'))
theorem itm_braces {M:Mem} {P:Value->List It->Prop} (tv:Value) (dn:List ByteArray) (hr:rowM M 9 tv (dn.map Value.string)) (ho:∀ t∈dn,okW t) (hl:dn.length<=1000) (hn:P (.slice none 0 0) []):PItm M P ⟨123,0,[],[],[],texts dn⟩ 0 0 ⟨#[]⟩ tv (.slice none 0 0) (.slice none 0 0):=
 ⟨by simp,(fun h=>by cases h),(fun h=>by cases h),(fun h=>by cases h),⟨dn,hr,fun _=>⟨rfl,ho,hl⟩⟩,hn,hn⟩
theorem kd_brace {t:ByteArray} {i:Nat} {k:Tok} (hs:spellL[i]? = some k) (hi:2<=i) (hn:¬ t.data.toList=k):(kdOf t.data.toList == (i:Int))=false:=by
 rw[beq_eq_false_iff_ne];intro e;have:=kdOf_at e hi;rw[hs] at this;exact hn (Option.some.inj this).symm
theorem bracesQ (w:World) (sb bk mb:Nat) (known:Tok->Bool) (ws:List ByteArray) (lo:Nat) (h:RdInv w sb bk mb known ws lo) (res:PRes) (hres:res=match pBraces (texts ws) with
      | .error e=>.error e
      | .ok (ts,r1)=>.ok ([⟨123,0,[],[],[],ts⟩],[],r1)):
    Calls Tryz.prog 241 #[pt sb] w fun x w'=>Kp w w' (fun b=>b=sb)/\QIt w sb bk mb known lo x w' res:=by
  obtain⟨rv,hB,hT⟩:=h.blk;have hsb:=hB.lt;have hcs:sb ≠ w.heap.size:=by omega
  have h1w:=h.sp.lt;obtain⟨i0,hi,hz0,hz1,hz2⟩:=info_parts Tryz.info9;have H0:BrQ w sb bk mb known ws lo (.slice none 0 0) (w.alloc (.cells #[.int .i64 0,.int .i64 0,.int .i64 0,.string ⟨#[]⟩,.slice none 0 0,.slice none 0 0,.slice none 0 0] 241)):=
    ⟨ws,[],(Kp.refl _ _).alloc _,Blk.new w _ _,h.kp ((Kp.refl _ _).alloc _),World.ownsRow_nil _ _ _ _,fun b hb=>by simp[own,Value.ownBlock] at hb,by have:=h.len;simp;omega,by simp,(consR_nil _).symm⟩
  have HH:=hide H0;have HRes:=hide hres;clear H0 hres hT hB h;go_enter Tryz.func241,Tryz.ntmps241;go_wp2
  go_loopw [4] (fun v wr=>BrQ w sb bk mb known ws lo v wr) (fun _ wr=>restOf wr sb)
  case atStart=>exact HH.out
  case round=>
    obtain⟨ws',dn,hkp,hZ,hS,hrow,hnew,hdl,hokd,hp⟩:=hrel;have hmeas:=hS.rest;obtain⟨rv,hB,hT⟩:=hS.blk;obtain⟨ao1,cap1,rfl⟩:=hT.form;have c0:wr.cell? ⟨sb,0,none⟩=some (.slice ao1 ws'.length cap1):=hB.cell rfl;obtain⟨ao,cap,rfl⟩:=row_slice hrow;obtain⟨y0,y1,y2,y3,y4,y5,y6⟩:=Blk.seven (show Blk wr w.heap.size 241 #[.int .i64 0,.int .i64 0,.int .i64 0,.string ⟨#[]⟩,.slice none 0 0,.slice none 0 0,.slice none 0 0] from hZ);obtain⟨z0,z1,z2,z3,z4,z5,z6⟩:=hZ.sevenF
    cases ws' with
    | nil=>
      have HR:Hid (res=.error 4):=by unfold Hid;rw[HRes.out,hp];rfl
      have hB1:=hB;clear hp HRes;go_wp2;have hC2:=hZ.set7 (.int .i64 0) (.int .i64 0) (.int .i64 0) (.string ⟨#[]⟩) (.slice none 0 0) (.slice none 0 0) (.slice none 0 0);have hK2:=hkp.set7 (Nat.le_refl _) (.int .i64 0) (.int .i64 0) (.int .i64 0) (.string ⟨#[]⟩) (.slice none 0 0) (.slice none 0 0) (.slice none 0 0);have hk3:=Kp.own7 (w:=wr) w.heap.size (.int .i64 0) (.int .i64 0) (.int .i64 0) (.string ⟨#[]⟩) (.slice none 0 0) (.slice none 0 0) (.slice none 0 0);have hB2:=hB1.other7 hcs (.int .i64 0) (.int .i64 0) (.int .i64 0) (.string ⟨#[]⟩) (.slice none 0 0) (.slice none 0 0) (.slice none 0 0);generalize (((((((wr.setCell ⟨w.heap.size,0,none⟩ (.int .i64 0)).setCell ⟨w.heap.size,1,none⟩ (.int .i64 0)).setCell ⟨w.heap.size,2,none⟩ (.int .i64 0)).setCell ⟨w.heap.size,3,none⟩ (.string ⟨#[]⟩)).setCell ⟨w.heap.size,4,none⟩ (.slice none 0 0)).setCell ⟨w.heap.size,5,none⟩ (.slice none 0 0)).setCell ⟨w.heap.size,6,none⟩ (.slice none 0 0))=wf at hC2 hK2 hB2 hk3 ⊢;obtain⟨q0,q1,q2,q3,q4,q5,q6⟩:=hC2.seven;refine bodyPost_ret (v:=.tuple #[.agg #[.int .i64 0,.int .i64 0,.int .i64 0,.string ⟨#[]⟩,.slice none 0 0,.slice none 0 0,.slice none 0 0],.int .i64 4]) (by simp[results,Tryz.results241,go_sem,q0,q1,q2,q3,q4,q5,q6]) rfl ?_;rw[HR.out];exact⟨hK2,by decide,_,_,_,_,_,_,_,_,_,_,_,_,_,_,rfl,hB2⟩
    | cons t ws'=>
      simp only[List.length_cons] at c0 hdl hmeas;have hok:=hS.ok t (by simp);have HS:=hide hS;have hZ0:=hZ;clear hS hT y0 y1 y2 y3 y4 y5 y6 z0 z1 z2 z3 z4 z5 z6
      go_wp2_with fail
      refine (nextM _ sb bk mb lo known t ws' HS.out).mono ?_;rintro e w1 ⟨rfl,hk1,hS1⟩;have hsp:=hS1.sp;have hZ:=hk1.blk hZ0 hcs.symm;have hkp1:=hkp.trans hk1;have hsz1:w.heap.size+1<=w1.heap.size:=hZ.lt;have hrow1:=hk1.row hrow (fun b hb e=>by subst e;exact own_ne hrow hB (by decide) hb);obtain⟨rv1,hB1,hT1⟩:=hS1.blk;obtain⟨y0,y1,y2,y3,y4,y5,y6⟩:=Blk.seven (show Blk w1 w.heap.size 241 #[.int .i64 0,.int .i64 0,.int .i64 0,.string ⟨#[]⟩,.slice none 0 0,.slice none 0 0,.slice none 0 0] from hZ);obtain⟨z0,z1,z2,z3,z4,z5,z6⟩:=hZ.sevenF
      go_wp2_with fail
      refine (kindQ _ _ hok hsp).mono ?_;rintro e w' ⟨rfl,hw⟩;rw[hw];clear hw;clear hkp hZ0 hrow hB HS c0 hsp;have hkp:=hkp1;rw[show texts (t :: ws')=t.data.toList :: texts ws' from rfl] at hp;by_cases hc:t.data.toList=kClose
      · rw[hc,show kdOf kClose=21 by decide]
        have HR:Hid (res=.ok ([⟨123,0,[],[],[],texts dn⟩],[],texts ws')):=by
          unfold Hid;rw[HRes.out,hp,hc];simp[pBraces,consR,show ¬ kClose=kOpen by decide]
        have HS1:=hide hS1;clear hp HRes hk1 hT1 hS1;go_wp2;have hC2:=hZ.set7 (.int .i64 10) (.int .i64 0) (.int .i64 0) (.string ⟨#[]⟩) (.slice ao dn.length cap) (.slice none 0 0) (.slice none 0 0);have hK2:=hkp.set7 (Nat.le_refl _) (.int .i64 10) (.int .i64 0) (.int .i64 0) (.string ⟨#[]⟩) (.slice ao dn.length cap) (.slice none 0 0) (.slice none 0 0);have hk3:=Kp.own7 (w:=w1) w.heap.size (.int .i64 10) (.int .i64 0) (.int .i64 0) (.string ⟨#[]⟩) (.slice ao dn.length cap) (.slice none 0 0) (.slice none 0 0);have hB2:=hB1.other7 hcs (.int .i64 10) (.int .i64 0) (.int .i64 0) (.string ⟨#[]⟩) (.slice ao dn.length cap) (.slice none 0 0) (.slice none 0 0);generalize (((((((w1.setCell ⟨w.heap.size,0,none⟩ (.int .i64 10)).setCell ⟨w.heap.size,1,none⟩ (.int .i64 0)).setCell ⟨w.heap.size,2,none⟩ (.int .i64 0)).setCell ⟨w.heap.size,3,none⟩ (.string ⟨#[]⟩)).setCell ⟨w.heap.size,4,none⟩ (.slice ao dn.length cap)).setCell ⟨w.heap.size,5,none⟩ (.slice none 0 0)).setCell ⟨w.heap.size,6,none⟩ (.slice none 0 0))=wf at hC2 hK2 hB2 hk3 ⊢;obtain⟨q0,q1,q2,q3,q4,q5,q6⟩:=hC2.seven;refine bodyPost_ret (v:=.tuple #[.agg #[.int .i64 10,.int .i64 0,.int .i64 0,.string ⟨#[]⟩,.slice ao dn.length cap,.slice none 0 0,.slice none 0 0],.int .i64 0]) (by simp[results,Tryz.results241,go_sem,q0,q1,q2,q3,q4,q5,q6]) rfl ?_;rw[HR.out];have hrow3:=hk3.row hrow1 (fun b hb e=>by have:w.heap.size+1<=b:=hnew b hb;omega);exact⟨hK2,_,_,_,_,_,_,_,ws',rfl,rfl,itm_braces _ dn (rowM.of (by simpa using hrow3) (fun b hb=>by have:=hnew b hb;show w.heap.size<=b;omega)) hokd (by omega) (Items.nil _),rfl,HS1.out.other hk3 hZ h1w⟩
      · have q1:=kd_brace (i:=21) (show spellL[21]? = some kClose by decide) (by decide) hc
        by_cases hop:t.data.toList=kOpen
        · rw[hop,show kdOf kOpen=20 by decide]
          have HR:Hid (res=.error 4):=by
            unfold Hid;rw[HRes.out,hp,hop];simp[pBraces,consR]
          clear hp HRes hk1 hT1 hS1 q1;go_wp2;have hC2:=hZ.set7 (.int .i64 0) (.int .i64 0) (.int .i64 0) (.string ⟨#[]⟩) (.slice none 0 0) (.slice none 0 0) (.slice none 0 0);have hK2:=hkp.set7 (Nat.le_refl _) (.int .i64 0) (.int .i64 0) (.int .i64 0) (.string ⟨#[]⟩) (.slice none 0 0) (.slice none 0 0) (.slice none 0 0);have hk3:=Kp.own7 (w:=w1) w.heap.size (.int .i64 0) (.int .i64 0) (.int .i64 0) (.string ⟨#[]⟩) (.slice none 0 0) (.slice none 0 0) (.slice none 0 0);have hB2:=hB1.other7 hcs (.int .i64 0) (.int .i64 0) (.int .i64 0) (.string ⟨#[]⟩) (.slice none 0 0) (.slice none 0 0) (.slice none 0 0);generalize (((((((w1.setCell ⟨w.heap.size,0,none⟩ (.int .i64 0)).setCell ⟨w.heap.size,1,none⟩ (.int .i64 0)).setCell ⟨w.heap.size,2,none⟩ (.int .i64 0)).setCell ⟨w.heap.size,3,none⟩ (.string ⟨#[]⟩)).setCell ⟨w.heap.size,4,none⟩ (.slice none 0 0)).setCell ⟨w.heap.size,5,none⟩ (.slice none 0 0)).setCell ⟨w.heap.size,6,none⟩ (.slice none 0 0))=wf at hC2 hK2 hB2 hk3 ⊢;obtain⟨q0,q1,q2,q3,q4,q5,q6⟩:=hC2.seven;refine bodyPost_ret (v:=.tuple #[.agg #[.int .i64 0,.int .i64 0,.int .i64 0,.string ⟨#[]⟩,.slice none 0 0,.slice none 0 0,.slice none 0 0],.int .i64 4]) (by simp[results,Tryz.results241,go_sem,q0,q1,q2,q3,q4,q5,q6]) rfl ?_;rw[HR.out];exact⟨hK2,by decide,_,_,_,_,_,_,_,_,_,_,_,_,_,_,rfl,hB2⟩
        · have q2:=kd_brace (i:=20) (show spellL[20]? = some kOpen by decide) (by decide) hop
          generalize kdOf t.data.toList=T at q1 q2 ⊢;have q1:(T == 21)=false:=q1;have q2:(T == 20)=false:=q2;have HP2:Hid (pBraces (texts ws)=consR (texts (dn ++ [t])) (pBraces (texts ws'))):=by
            unfold Hid;rw[hp];have:pBraces (t.data.toList :: texts ws')=consR [t.data.toList] (pBraces (texts ws')):=by
              conv=>lhs;unfold pBraces
              rw[if_neg hop,if_neg hc];rcases pBraces (texts ws') with e|⟨ts,r⟩ <;> rfl
            rw[this,consR_app];simp[texts]
          clear hp y0 y1 y2 y3 y4 y5 y6 z0 z1 z2 z3 z4 z5 z6 hc hop hk1
          go_wp2_with (first
            | (at_builtin;refine wpList_append_to _ rfl _ _ 47 rfl 9 i0 (.string ByteArray.empty) 1 16 Tryz.underlying47 hi hz0 hz1 hz2 rfl (by decide) _ _ _ rfl (hrow1.alloc _) ⟨w1.heap.size,0,none⟩ 1 1 [.string t] rfl rfl ?c1 ?c2 ?c3 ?c4 ?_)
            | go_in)
          case c1=>intro j u hj;match j,hj with|0,hj=>simp at hj;subst hj;simp[Addr.add]
          case c2=>intro u hu;simp at hu;subst hu;rfl
          case c3=>unfold maxLen;omega
          case c4=>omega
          intro v' w2 hown' hgrow hnx;have hkg:Kp w1 w2 (fun b=>own (.slice ao dn.length cap) b):=((Kp.refl w1 (fun b=>own (.slice ao dn.length cap) b)).alloc _).grown hgrow (fun b _ e=>e);have hnw:∀ b,b<=w.heap.size->¬ own (.slice ao dn.length cap) b:=fun b hb e=>by have:=hnew b e;omega
          have hZ2:=hkg.blk hZ (hnw _ (Nat.le_refl _));have hkp2:Kp w w2 (fun b=>b=sb):=(hkp.alloc _).grown hgrow (fun b hb e=>by have:=hnew b e;omega);have hB2:=hkg.blk hB1 (hnw sb (by omega));have hnew2:∀ b,own v' b->w.heap.size+1<=b:=fun b hb=>by
            rcases hnx b hb with h1|h1
            · exact hnew b h1
            · have:(w1.alloc (.cells #[.string t] 9)).heap.size=w1.heap.size+1:=by simp
              omega
          obtain⟨nn,DD,hm,hl⟩:=hS1.book.look;have hS2:RdInv w2 sb bk mb known ws' lo:=by
            refine⟨⟨rv1,hB2,TokAt_mono (fun b c hc=>⟨hc.1,hkg.blk hc.2 (hnw b (by have:b < sb:=hc.1;omega))⟩) hT1⟩,hS1.book.kp hkg (own_ne hrow1 hS1.book.blk (by decide)) (fun e=>by obtain⟨c,hc⟩:=row_blk hrow1 e;exact map_ne hm hc rfl),hS1.len,hS1.ok,hS1.sp.kp hkg (hnw 1 (by omega)),hS1.s1⟩
          have HN:BrQ w sb bk mb known ws lo v' w2:=⟨ws',dn ++ [t],hkp2,hZ2,hS2,by simpa using hown',hnew2,by simp;omega,by
            intro u hu;rcases List.mem_append.1 hu with h1|h1
            · exact hokd u h1
            · rw[List.mem_singleton.1 h1];exact hok,HP2.out⟩
          have hm2:=hS2.rest;clear hown' hgrow hnx hrow1 hkg hnw hZ2 hkp2 hB2 hnew2 hS2 hm hl hS1 hT1 hZ hkp hkp1;go_wp2
          go_roundw
          case rel=>exact HN
          case measure=>rw[hmeas,hm2];omega
end
end Go.Proofs.YteainaiebcphlaaGreatDoor
