import Derived.Test.YteainaiebcphlaaGreatDoorX9
namespace Go.Proofs.YteainaiebcphlaaGreatDoor
set_option maxRecDepth 1000000
set_option maxHeartbeats 4000000
set_option linter.all false
section
open Go.RowKit
theorem pI_if2 {known:Tok->Bool} {g lo:Nat} {r:List Tok} {res:PRes} (h:pRead known (g+1) ⟨true,lo,[],kIf⟩ r=some res):
    ∃ res1,pRead known g ⟨false,lo,allEnds,[]⟩ r=some res1 /\
      ((∃ e,res1=.error e/\res=.error e)\/∃ a t1 r1,res1=.ok (a,t1,r1) /\
        ((¬ t1=kElse/\¬ t1=kThen/\res=.error 4)\/(t1=kThen/\res=.ok ([⟨63,0,[],a,[],[]⟩],[],r1)) \/
         (t1=kElse/\∃ res2,pRead known g ⟨false,lo,allEnds,[]⟩ r1=some res2 /\
           ((∃ e,res2=.error e/\res=.error e)\/∃ b t2 r2,res2=.ok (b,t2,r2)/\((¬ t2=kThen/\res=.error 4)\/(t2=kThen/\res=.ok ([⟨63,0,[],a,b,[]⟩],[],r2))))))):=by
  rcases pI_if h with⟨e,h1,h2⟩|⟨a,t1,r1,h1,h2⟩
  · obtain⟨res1,h3,h4⟩:=pEnds known [kElse,kThen] (sub_ends (by decide)) lo g _ _ h1
    refine⟨res1,h3,?_⟩;rcases res1 with e1|⟨a,t1,r1⟩
    · have h4:Except.error e=Except.error e1:=h4
      injection h4 with h4;exact .inl ⟨e1,rfl,by rw[h2,h4]⟩
    · right
      refine⟨a,t1,r1,rfl,.inl ?_⟩;have h5:([kElse,kThen].any (· == t1))=false:=by
        cases hh:[kElse,kThen].any (· == t1)
        · rfl
        · rw[convR_in hh] at h4;cases h4
      rw[convR_out h5] at h4;injection h4 with h4;refine⟨?_,?_,by rw[h2,h4]⟩
      · rintro rfl;revert h5;decide
      · rintro rfl;revert h5;decide
  · obtain⟨res1,h3,h4⟩:=pEnds known [kElse,kThen] (sub_ends (by decide)) lo g _ _ h1
    rcases res1 with e1|⟨a1,t11,r11⟩
    · cases h4
    · have h5:([kElse,kThen].any (· == t11))=true:=by
        cases hh:[kElse,kThen].any (· == t11)
        · rw[convR_out hh] at h4;cases h4
        · rfl
      rw[convR_in h5] at h4;injection h4 with h4;injection h4 with ha h4;injection h4 with ht hr;subst ha;subst ht;subst hr;refine⟨_,h3,.inr ⟨a,t1,r1,rfl,?_⟩⟩;rcases h2 with⟨rfl,h2⟩|⟨h6,h2⟩
      · right;right
        refine⟨rfl,?_⟩;rcases h2 with⟨e,h7,h8⟩|⟨b,t2,r2,h7,h8⟩
        · obtain⟨res2,h9,h10⟩:=pEnds known [kThen] (sub_ends (by decide)) lo g _ _ h7
          refine⟨res2,h9,?_⟩;rcases res2 with e2|⟨b,t2,r2⟩
          · have h10:Except.error e=Except.error e2:=h10
            injection h10 with h10;exact .inl ⟨e2,rfl,by rw[h8,h10]⟩
          · have h11:([kThen].any (· == t2))=false:=by
              cases hh:[kThen].any (· == t2)
              · rfl
              · rw[convR_in hh] at h10;cases h10
            rw[convR_out h11] at h10;injection h10 with h10;exact .inr ⟨b,t2,r2,rfl,.inl ⟨by rintro rfl;revert h11;decide,by rw[h8,h10]⟩⟩
        · obtain⟨res2,h9,h10⟩:=pEnds known [kThen] (sub_ends (by decide)) lo g _ _ h7
          rcases res2 with e2|⟨b2,t22,r22⟩
          · cases h10
          · have h11:([kThen].any (· == t22))=true:=by
              cases hh:[kThen].any (· == t22)
              · rw[convR_out hh] at h10;cases h10
              · rfl
            rw[convR_in h11] at h10;injection h10 with h10;injection h10 with hb h10;injection h10 with ht hr;subst hb;subst ht;subst hr;exact⟨_,h9,.inr ⟨b,t2,r2,rfl,.inr ⟨Eq.symm (show kThen=t2 by simpa using h11),h8⟩⟩⟩
      · right;left
        refine⟨?_,h2⟩;simp only[List.any_cons,List.any_nil,Bool.or_false,Bool.or_eq_true,beq_iff_eq] at h5;rcases h5 with h5|h5
        · exact absurd h5.symm h6
        · exact h5.symm
theorem pI_begin2 {known:Tok->Bool} {g lo:Nat} {r:List Tok} {res:PRes} (h:pRead known (g+1) ⟨true,lo,[],kBegin⟩ r=some res):
    ∃ res1,pRead known g ⟨false,lo,allEnds,[]⟩ r=some res1 /\
      ((∃ e,res1=.error e/\res=.error e)\/∃ a t1 r1,res1=.ok (a,t1,r1) /\
        ((¬ t1=kUntil/\¬ t1=kWhile/\res=.error 4)\/(t1=kUntil/\res=.ok ([⟨117,0,[],a,[],[]⟩],[],r1)) \/
         (t1=kWhile/\∃ res2,pRead known g ⟨false,lo,[kRepeat],[]⟩ r1=some res2 /\
           ((∃ e,res2=.error e/\res=.error e)\/∃ b t2 r2,res2=.ok (b,t2,r2)/\res=.ok ([⟨119,0,[],a,b,[]⟩],[],r2))))):=by
  rcases pI_begin h with⟨e,h1,h2⟩|⟨a,t1,r1,h1,h2⟩
  · obtain⟨res1,h3,h4⟩:=pEnds known [kUntil,kWhile] (sub_ends (by decide)) lo g _ _ h1
    refine⟨res1,h3,?_⟩;rcases res1 with e1|⟨a,t1,r1⟩
    · have h4:Except.error e=Except.error e1:=h4
      injection h4 with h4;exact .inl ⟨e1,rfl,by rw[h2,h4]⟩
    · right
      refine⟨a,t1,r1,rfl,.inl ?_⟩;have h5:([kUntil,kWhile].any (· == t1))=false:=by
        cases hh:[kUntil,kWhile].any (· == t1)
        · rfl
        · rw[convR_in hh] at h4;cases h4
      rw[convR_out h5] at h4;injection h4 with h4;refine⟨?_,?_,by rw[h2,h4]⟩
      · rintro rfl;revert h5;decide
      · rintro rfl;revert h5;decide
  · obtain⟨res1,h3,h4⟩:=pEnds known [kUntil,kWhile] (sub_ends (by decide)) lo g _ _ h1
    rcases res1 with e1|⟨a1,t11,r11⟩
    · cases h4
    · have h5:([kUntil,kWhile].any (· == t11))=true:=by
        cases hh:[kUntil,kWhile].any (· == t11)
        · rw[convR_out hh] at h4;cases h4
        · rfl
      rw[convR_in h5] at h4;injection h4 with h4;injection h4 with ha h4;injection h4 with ht hr;subst ha;subst ht;subst hr;refine⟨_,h3,.inr ⟨a,t1,r1,rfl,?_⟩⟩;rcases h2 with⟨rfl,h2⟩|⟨h6,h2⟩
      · right;right
        refine⟨rfl,?_⟩;rcases h2 with⟨e,h7,h8⟩|⟨b,t2,r2,h7,h8⟩
        · exact⟨_,h7,.inl ⟨e,rfl,h8⟩⟩
        · exact⟨_,h7,.inr ⟨b,t2,r2,rfl,h8⟩⟩
      · right;left
        refine⟨?_,h2⟩;simp only[List.any_cons,List.any_nil,Bool.or_false,Bool.or_eq_true,beq_iff_eq] at h5;rcases h5 with h5|h5
        · exact h5.symm
        · exact absurd h5.symm h6
theorem kind_no {t k:Tok} {K i:Int} (h:allEnds.any (· == t)=true) (hK:K=(kindN t:Int)) (hk:(kindN k:Int)=i) (hn:¬ t=k):(K == i)=false:=by
 rw[beq_eq_false_iff_ne,hK,<-hk];exact fun e=>hn (kind_same h (by omega))
theorem ifQ (g:Nat) (hQ:QBody g) (w:World) (sb bk mb:Nat) (known:Tok->Bool) (ws:List ByteArray) (lo:Nat) (res:PRes) (hres:pRead known (g+1) ⟨true,lo,[],kIf⟩ (texts ws)=some res) (h:RdInv w sb bk mb known ws lo):
  Calls Tryz.prog 238 #[pt sb] w fun x w'=>Kp w w' (fun b=>b=sb)/\QIt w sb bk mb known lo x w' res:=by
 obtain⟨rv,hB,hT⟩:=h.blk;have hsb:=hB.lt;have hcs:sb ≠ w.heap.size:=by omega
 have h1w:=h.sp.lt;have hZ0:=Blk.new w #[.int .i64 0,.int .i64 0,.int .i64 0,.string ⟨#[]⟩,.slice none 0 0,.slice none 0 0,.slice none 0 0] 241;have hk0:Kp w (w.alloc (.cells #[.int .i64 0,.int .i64 0,.int .i64 0,.string ⟨#[]⟩,.slice none 0 0,.slice none 0 0,.slice none 0 0] 241)) (fun b=>b=sb):=(Kp.refl w (fun b=>b=sb)).alloc _;have hS0:RdInv (w.alloc (.cells #[.int .i64 0,.int .i64 0,.int .i64 0,.string ⟨#[]⟩,.slice none 0 0,.slice none 0 0,.slice none 0 0] 241)) sb bk mb known ws lo:=h.kp ((Kp.refl w (fun _=>False)).alloc _);obtain⟨res1,hr1,hcase⟩:=pI_if2 hres;have HU:=hide (hQ _ sb bk mb known ws lo res1 hr1 hS0);have HC:=hide hcase;have HQ:=hide hQ;have HR1:=hide hr1;clear hQ hres hr1 hS0 hcase;go_enter Tryz.func238,Tryz.ntmps238
 go_wp2_with fail
 refine HU.out.mono ?_;rintro x w1 ⟨hk1,hq⟩;have hZ:=hk1.blk hZ0 hcs.symm;have hkp:=hk0.trans hk1;have hsz1:w.heap.size+1<=w1.heap.size:=by have:=hk1.size;simpa using this
 have hcase:=HC.out;clear HU HC hk0 hZ0;rcases res1 with er|⟨l,t1,r1⟩
 ·obtain⟨her,rv1,rfl,hB1⟩:=hq;have HR:Hid (res=.error er):=by
   rcases hcase with⟨e,h1,h2⟩|⟨_,_,_,h1,_⟩
   ·injection h1 with h1;unfold Hid;rw[h2,h1]
   ·cases h1
  have he0:(er == 0)=false:=by simpa using her
  clear hcase hk1;obtain⟨y0,y1,y2,y3,y4,y5,y6⟩:=hZ.seven;obtain⟨z0,z1,z2,z3,z4,z5,z6⟩:=hZ.sevenF;go_wp2;have hC2:=hZ.set7 (.int .i64 3) (.int .i64 0) (.int .i64 0) (.string ⟨#[]⟩) (.slice none 0 0) (.slice none 0 0) (.slice none 0 0);have hK2:=hkp.set7 (Nat.le_refl _) (.int .i64 3) (.int .i64 0) (.int .i64 0) (.string ⟨#[]⟩) (.slice none 0 0) (.slice none 0 0) (.slice none 0 0);have hk3:=Kp.own7 (w:=w1) w.heap.size (.int .i64 3) (.int .i64 0) (.int .i64 0) (.string ⟨#[]⟩) (.slice none 0 0) (.slice none 0 0) (.slice none 0 0);have hB2:=hB1.other7 hcs (.int .i64 3) (.int .i64 0) (.int .i64 0) (.string ⟨#[]⟩) (.slice none 0 0) (.slice none 0 0) (.slice none 0 0);generalize (((((((w1.setCell ⟨w.heap.size,0,none⟩ (.int .i64 3)).setCell ⟨w.heap.size,1,none⟩ (.int .i64 0)).setCell ⟨w.heap.size,2,none⟩ (.int .i64 0)).setCell ⟨w.heap.size,3,none⟩ (.string ⟨#[]⟩)).setCell ⟨w.heap.size,4,none⟩ (.slice none 0 0)).setCell ⟨w.heap.size,5,none⟩ (.slice none 0 0)).setCell ⟨w.heap.size,6,none⟩ (.slice none 0 0))=wf at hC2 hK2 hB2 hk3 ⊢;obtain⟨q0,q1,q2,q3,q4,q5,q6⟩:=hC2.seven;refine bodyPost_ret (v:=.tuple #[.agg #[.int .i64 3,.int .i64 0,.int .i64 0,.string ⟨#[]⟩,.slice none 0 0,.slice none 0 0,.slice none 0 0],.int .i64 er]) (by simp[results,Tryz.results238,go_sem,q0,q1,q2,q3,q4,q5,q6]) rfl ?_;rw[HR.out];exact⟨hK2,her,_,_,_,_,_,_,_,_,_,_,_,_,_,_,rfl,hB2⟩
 ·obtain⟨v1,ws1,rfl,hI1,htx,hS1⟩:=hq;have hte:=ok_ends _ _ _ _ _ _ HR1.out;obtain⟨xs1,hrow1,-⟩:=hI1.out;obtain⟨a5,p5,rfl⟩:=hrow1.form;obtain⟨rv1,hB1,-⟩:=hS1.blk;have hI1':Items (BD (fun b=>w.heap.size+1<=b) w1) (.slice a5 l.length p5) l:=hI1.mono (BD_sub (fun b _ hb=>by have:(w.alloc (.cells #[.int .i64 0,.int .i64 0,.int .i64 0,.string ⟨#[]⟩,.slice none 0 0,.slice none 0 0,.slice none 0 0] 241)).heap.size<=b:=hb;simpa using this));have HI1:=hide hI1';have HS:=hide hS1;clear hrow1 hI1 hI1' hS1;have hcase:_:=hcase;rcases hcase with⟨e,h1,_⟩|⟨a,t2,r2,h1,hcase⟩
  ·cases h1
  injection h1 with h1;injection h1 with h2 h1;injection h1 with h3 h4;subst h2;subst h3;subst h4;rcases hcase with⟨hn1,hn2,hre⟩|⟨rfl,hre⟩|⟨rfl,res2,hr2,hcase⟩
  ·have HR:=hide hre;obtain⟨T,hT⟩:∃ T:Int,T=(kindN t1:Int):=⟨_,rfl⟩;have b1:=kind_no hte hT (show (kindN kElse:Int)=23 by decide) hn1;have b2:=kind_no hte hT (show (kindN kThen:Int)=24 by decide) hn2;rw[<-hT];clear hT hre hk1;obtain⟨y0,y1,y2,y3,y4,y5,y6⟩:=hZ.seven;obtain⟨z0,z1,z2,z3,z4,z5,z6⟩:=hZ.sevenF;go_wp2;have hC2:=hZ.set7 (.int .i64 3) (.int .i64 0) (.int .i64 0) (.string ⟨#[]⟩) (.slice none 0 0) (.slice a5 l.length p5) (.slice none 0 0);have hK2:=hkp.set7 (Nat.le_refl _) (.int .i64 3) (.int .i64 0) (.int .i64 0) (.string ⟨#[]⟩) (.slice none 0 0) (.slice a5 l.length p5) (.slice none 0 0);have hk3:=Kp.own7 (w:=w1) w.heap.size (.int .i64 3) (.int .i64 0) (.int .i64 0) (.string ⟨#[]⟩) (.slice none 0 0) (.slice a5 l.length p5) (.slice none 0 0);have hB2:=hB1.other7 hcs (.int .i64 3) (.int .i64 0) (.int .i64 0) (.string ⟨#[]⟩) (.slice none 0 0) (.slice a5 l.length p5) (.slice none 0 0);generalize (((((((w1.setCell ⟨w.heap.size,0,none⟩ (.int .i64 3)).setCell ⟨w.heap.size,1,none⟩ (.int .i64 0)).setCell ⟨w.heap.size,2,none⟩ (.int .i64 0)).setCell ⟨w.heap.size,3,none⟩ (.string ⟨#[]⟩)).setCell ⟨w.heap.size,4,none⟩ (.slice none 0 0)).setCell ⟨w.heap.size,5,none⟩ (.slice a5 l.length p5)).setCell ⟨w.heap.size,6,none⟩ (.slice none 0 0))=wf at hC2 hK2 hB2 hk3 ⊢;obtain⟨q0,q1,q2,q3,q4,q5,q6⟩:=hC2.seven;refine bodyPost_ret (v:=.tuple #[.agg #[.int .i64 3,.int .i64 0,.int .i64 0,.string ⟨#[]⟩,.slice none 0 0,.slice a5 l.length p5,.slice none 0 0],.int .i64 4]) (by simp[results,Tryz.results238,go_sem,q0,q1,q2,q3,q4,q5,q6]) rfl ?_;rw[HR.out];exact⟨hK2,by decide,_,_,_,_,_,_,_,_,_,_,_,_,_,_,rfl,hB2⟩
  ·have HR:=hide hre;rw[show (kindN kThen:Int)=24 by decide];clear hre hk1;obtain⟨y0,y1,y2,y3,y4,y5,y6⟩:=hZ.seven;obtain⟨z0,z1,z2,z3,z4,z5,z6⟩:=hZ.sevenF;go_wp2;have hC2:=hZ.set7 (.int .i64 3) (.int .i64 0) (.int .i64 0) (.string ⟨#[]⟩) (.slice none 0 0) (.slice a5 l.length p5) (.slice none 0 0);have hK2:=hkp.set7 (Nat.le_refl _) (.int .i64 3) (.int .i64 0) (.int .i64 0) (.string ⟨#[]⟩) (.slice none 0 0) (.slice a5 l.length p5) (.slice none 0 0);have hk3:=Kp.own7 (w:=w1) w.heap.size (.int .i64 3) (.int .i64 0) (.int .i64 0) (.string ⟨#[]⟩) (.slice none 0 0) (.slice a5 l.length p5) (.slice none 0 0);have hB2:=hB1.other7 hcs (.int .i64 3) (.int .i64 0) (.int .i64 0) (.string ⟨#[]⟩) (.slice none 0 0) (.slice a5 l.length p5) (.slice none 0 0);generalize (((((((w1.setCell ⟨w.heap.size,0,none⟩ (.int .i64 3)).setCell ⟨w.heap.size,1,none⟩ (.int .i64 0)).setCell ⟨w.heap.size,2,none⟩ (.int .i64 0)).setCell ⟨w.heap.size,3,none⟩ (.string ⟨#[]⟩)).setCell ⟨w.heap.size,4,none⟩ (.slice none 0 0)).setCell ⟨w.heap.size,5,none⟩ (.slice a5 l.length p5)).setCell ⟨w.heap.size,6,none⟩ (.slice none 0 0))=wf at hC2 hK2 hB2 hk3 ⊢;obtain⟨q0,q1,q2,q3,q4,q5,q6⟩:=hC2.seven;refine bodyPost_ret (v:=.tuple #[.agg #[.int .i64 3,.int .i64 0,.int .i64 0,.string ⟨#[]⟩,.slice none 0 0,.slice a5 l.length p5,.slice none 0 0],.int .i64 0]) (by simp[results,Tryz.results238,go_sem,q0,q1,q2,q3,q4,q5,q6]) rfl ?_;rw[HR.out];have hkb:=BD_keep (D:=fun b=>w.heap.size+1<=b) (D':=New w) hk3 (fun b _ hb=>⟨by show w.heap.size<=b;omega,by show ¬ b=w.heap.size;omega⟩);exact⟨hK2,_,_,_,_,_,_,_,ws1,rfl,rfl,itm_long 63 _ _ _ _ (by simp) (HI1.out.mono hkb) (Items.nil _),htx,HS.out.other hk3 hZ h1w⟩
  ·rw[show (kindN kElse:Int)=23 by decide];have HU2:=hide (HQ.out _ sb bk mb known ws1 lo res2 (by rw[htx];exact hr2) HS.out)
   go_wp2_with fail
   refine HU2.out.mono ?_;rintro x w2 ⟨hk2,hq⟩;have hZ':=hk2.blk hZ hcs.symm;have hkp':=hkp.trans hk2;have hkk:=BD_keep (D:=fun b=>w.heap.size+1<=b) (D':=fun b=>w.heap.size+1<=b) hk2 (fun b _ hb=>⟨hb,by show ¬ b=sb;omega⟩);have HI1':=hide (HI1.out.mono hkk);clear hZ hkp HI1 HS HU2 hk1 hB1 hkk htx;have hZ:=hZ';have hkp:=hkp';clear hZ' hkp';rcases res2 with er|⟨l2,t2,r2⟩
   ·obtain⟨her,rv1,rfl,hB1⟩:=hq;have HR:Hid (res=.error er):=by
     rcases hcase with⟨e,h1,h2⟩|⟨_,_,_,h1,_⟩
     ·injection h1 with h1;unfold Hid;rw[h2,h1]
     ·cases h1
    have he0:(er == 0)=false:=by simpa using her
    clear hcase hk2;obtain⟨y0,y1,y2,y3,y4,y5,y6⟩:=hZ.seven;obtain⟨z0,z1,z2,z3,z4,z5,z6⟩:=hZ.sevenF;go_wp2;have hC2:=hZ.set7 (.int .i64 3) (.int .i64 0) (.int .i64 0) (.string ⟨#[]⟩) (.slice none 0 0) (.slice a5 l.length p5) (.slice none 0 0);have hK2:=hkp.set7 (Nat.le_refl _) (.int .i64 3) (.int .i64 0) (.int .i64 0) (.string ⟨#[]⟩) (.slice none 0 0) (.slice a5 l.length p5) (.slice none 0 0);have hk3:=Kp.own7 (w:=w2) w.heap.size (.int .i64 3) (.int .i64 0) (.int .i64 0) (.string ⟨#[]⟩) (.slice none 0 0) (.slice a5 l.length p5) (.slice none 0 0);have hB2:=hB1.other7 hcs (.int .i64 3) (.int .i64 0) (.int .i64 0) (.string ⟨#[]⟩) (.slice none 0 0) (.slice a5 l.length p5) (.slice none 0 0);generalize (((((((w2.setCell ⟨w.heap.size,0,none⟩ (.int .i64 3)).setCell ⟨w.heap.size,1,none⟩ (.int .i64 0)).setCell ⟨w.heap.size,2,none⟩ (.int .i64 0)).setCell ⟨w.heap.size,3,none⟩ (.string ⟨#[]⟩)).setCell ⟨w.heap.size,4,none⟩ (.slice none 0 0)).setCell ⟨w.heap.size,5,none⟩ (.slice a5 l.length p5)).setCell ⟨w.heap.size,6,none⟩ (.slice none 0 0))=wf at hC2 hK2 hB2 hk3 ⊢;obtain⟨q0,q1,q2,q3,q4,q5,q6⟩:=hC2.seven;refine bodyPost_ret (v:=.tuple #[.agg #[.int .i64 3,.int .i64 0,.int .i64 0,.string ⟨#[]⟩,.slice none 0 0,.slice a5 l.length p5,.slice none 0 0],.int .i64 er]) (by simp[results,Tryz.results238,go_sem,q0,q1,q2,q3,q4,q5,q6]) rfl ?_;rw[HR.out];exact⟨hK2,her,_,_,_,_,_,_,_,_,_,_,_,_,_,_,rfl,hB2⟩
   ·obtain⟨v2,ws2,rfl,hI2,htx,hS2⟩:=hq;have hte2:=ok_ends _ _ _ _ _ _ hr2;obtain⟨xs2,hrow2,-⟩:=hI2.out;obtain⟨a6,p6,rfl⟩:=hrow2.form;obtain⟨rv1,hB1,-⟩:=hS2.blk;have hI2':Items (BD (fun b=>w.heap.size+1<=b) w2) (.slice a6 l2.length p6) l2:=hI2.mono (BD_sub (fun b _ hb=>by have:w1.heap.size<=b:=hb;show w.heap.size+1<=b;omega));have HI2:=hide hI2';have HS:=hide hS2;clear hrow2 hI2 hI2' hS2 hr2;rcases hcase with⟨e,h1,_⟩|⟨b,t3,r3,h1,hcase⟩
    ·cases h1
    injection h1 with h1;injection h1 with h2 h1;injection h1 with h3 h4;subst h2;subst h3;subst h4;rcases hcase with⟨hn,hre⟩|⟨rfl,hre⟩
    ·have HR:=hide hre;obtain⟨T,hT⟩:∃ T:Int,T=(kindN t2:Int):=⟨_,rfl⟩;have b2:=kind_no hte2 hT (show (kindN kThen:Int)=24 by decide) hn;rw[<-hT];clear hT hre hk2;obtain⟨y0,y1,y2,y3,y4,y5,y6⟩:=hZ.seven;obtain⟨z0,z1,z2,z3,z4,z5,z6⟩:=hZ.sevenF;go_wp2;have hC2:=hZ.set7 (.int .i64 3) (.int .i64 0) (.int .i64 0) (.string ⟨#[]⟩) (.slice none 0 0) (.slice a5 l.length p5) (.slice a6 l2.length p6);have hK2:=hkp.set7 (Nat.le_refl _) (.int .i64 3) (.int .i64 0) (.int .i64 0) (.string ⟨#[]⟩) (.slice none 0 0) (.slice a5 l.length p5) (.slice a6 l2.length p6);have hk3:=Kp.own7 (w:=w2) w.heap.size (.int .i64 3) (.int .i64 0) (.int .i64 0) (.string ⟨#[]⟩) (.slice none 0 0) (.slice a5 l.length p5) (.slice a6 l2.length p6);have hB2:=hB1.other7 hcs (.int .i64 3) (.int .i64 0) (.int .i64 0) (.string ⟨#[]⟩) (.slice none 0 0) (.slice a5 l.length p5) (.slice a6 l2.length p6);generalize (((((((w2.setCell ⟨w.heap.size,0,none⟩ (.int .i64 3)).setCell ⟨w.heap.size,1,none⟩ (.int .i64 0)).setCell ⟨w.heap.size,2,none⟩ (.int .i64 0)).setCell ⟨w.heap.size,3,none⟩ (.string ⟨#[]⟩)).setCell ⟨w.heap.size,4,none⟩ (.slice none 0 0)).setCell ⟨w.heap.size,5,none⟩ (.slice a5 l.length p5)).setCell ⟨w.heap.size,6,none⟩ (.slice a6 l2.length p6))=wf at hC2 hK2 hB2 hk3 ⊢;obtain⟨q0,q1,q2,q3,q4,q5,q6⟩:=hC2.seven;refine bodyPost_ret (v:=.tuple #[.agg #[.int .i64 3,.int .i64 0,.int .i64 0,.string ⟨#[]⟩,.slice none 0 0,.slice a5 l.length p5,.slice a6 l2.length p6],.int .i64 4]) (by simp[results,Tryz.results238,go_sem,q0,q1,q2,q3,q4,q5,q6]) rfl ?_;rw[HR.out];exact⟨hK2,by decide,_,_,_,_,_,_,_,_,_,_,_,_,_,_,rfl,hB2⟩
    ·have HR:=hide hre;rw[show (kindN kThen:Int)=24 by decide];clear hre hk2;obtain⟨y0,y1,y2,y3,y4,y5,y6⟩:=hZ.seven;obtain⟨z0,z1,z2,z3,z4,z5,z6⟩:=hZ.sevenF;go_wp2;have hC2:=hZ.set7 (.int .i64 3) (.int .i64 0) (.int .i64 0) (.string ⟨#[]⟩) (.slice none 0 0) (.slice a5 l.length p5) (.slice a6 l2.length p6);have hK2:=hkp.set7 (Nat.le_refl _) (.int .i64 3) (.int .i64 0) (.int .i64 0) (.string ⟨#[]⟩) (.slice none 0 0) (.slice a5 l.length p5) (.slice a6 l2.length p6);have hk3:=Kp.own7 (w:=w2) w.heap.size (.int .i64 3) (.int .i64 0) (.int .i64 0) (.string ⟨#[]⟩) (.slice none 0 0) (.slice a5 l.length p5) (.slice a6 l2.length p6);have hB2:=hB1.other7 hcs (.int .i64 3) (.int .i64 0) (.int .i64 0) (.string ⟨#[]⟩) (.slice none 0 0) (.slice a5 l.length p5) (.slice a6 l2.length p6);generalize (((((((w2.setCell ⟨w.heap.size,0,none⟩ (.int .i64 3)).setCell ⟨w.heap.size,1,none⟩ (.int .i64 0)).setCell ⟨w.heap.size,2,none⟩ (.int .i64 0)).setCell ⟨w.heap.size,3,none⟩ (.string ⟨#[]⟩)).setCell ⟨w.heap.size,4,none⟩ (.slice none 0 0)).setCell ⟨w.heap.size,5,none⟩ (.slice a5 l.length p5)).setCell ⟨w.heap.size,6,none⟩ (.slice a6 l2.length p6))=wf at hC2 hK2 hB2 hk3 ⊢;obtain⟨q0,q1,q2,q3,q4,q5,q6⟩:=hC2.seven;refine bodyPost_ret (v:=.tuple #[.agg #[.int .i64 3,.int .i64 0,.int .i64 0,.string ⟨#[]⟩,.slice none 0 0,.slice a5 l.length p5,.slice a6 l2.length p6],.int .i64 0]) (by simp[results,Tryz.results238,go_sem,q0,q1,q2,q3,q4,q5,q6]) rfl ?_;rw[HR.out];have hkb:=BD_keep (D:=fun b=>w.heap.size+1<=b) (D':=New w) hk3 (fun b _ hb=>⟨by show w.heap.size<=b;omega,by show ¬ b=w.heap.size;omega⟩);exact⟨hK2,_,_,_,_,_,_,_,ws2,rfl,rfl,itm_long 63 _ _ _ _ (by simp) (HI1'.out.mono hkb) (HI2.out.mono hkb),htx,HS.out.other hk3 hZ h1w⟩
theorem beginQ (g:Nat) (hQ:QBody g) (w:World) (sb bk mb:Nat) (known:Tok->Bool) (ws:List ByteArray) (lo:Nat) (res:PRes) (hres:pRead known (g+1) ⟨true,lo,[],kBegin⟩ (texts ws)=some res) (h:RdInv w sb bk mb known ws lo):
  Calls Tryz.prog 239 #[pt sb] w fun x w'=>Kp w w' (fun b=>b=sb)/\QIt w sb bk mb known lo x w' res:=by
 obtain⟨rv,hB,hT⟩:=h.blk;have hsb:=hB.lt;have hcs:sb ≠ w.heap.size:=by omega
 have h1w:=h.sp.lt;have hZ0:=Blk.new w #[.int .i64 0,.int .i64 0,.int .i64 0,.string ⟨#[]⟩,.slice none 0 0,.slice none 0 0,.slice none 0 0] 241;have hk0:Kp w (w.alloc (.cells #[.int .i64 0,.int .i64 0,.int .i64 0,.string ⟨#[]⟩,.slice none 0 0,.slice none 0 0,.slice none 0 0] 241)) (fun b=>b=sb):=(Kp.refl w (fun b=>b=sb)).alloc _;have hS0:RdInv (w.alloc (.cells #[.int .i64 0,.int .i64 0,.int .i64 0,.string ⟨#[]⟩,.slice none 0 0,.slice none 0 0,.slice none 0 0] 241)) sb bk mb known ws lo:=h.kp ((Kp.refl w (fun _=>False)).alloc _);obtain⟨res1,hr1,hcase⟩:=pI_begin2 hres;have HU:=hide (hQ _ sb bk mb known ws lo res1 hr1 hS0);have HC:=hide hcase;have HQ:=hide hQ;have HR1:=hide hr1;clear hQ hres hr1 hS0 hcase;go_enter Tryz.func239,Tryz.ntmps239
 go_wp2_with fail
 refine HU.out.mono ?_;rintro x w1 ⟨hk1,hq⟩;have hZ:=hk1.blk hZ0 hcs.symm;have hkp:=hk0.trans hk1;have hsz1:w.heap.size+1<=w1.heap.size:=by have:=hk1.size;simpa using this
 have hcase:=HC.out;clear HU HC hk0 hZ0;rcases res1 with er|⟨l,t1,r1⟩
 ·obtain⟨her,rv1,rfl,hB1⟩:=hq;have HR:Hid (res=.error er):=by
   rcases hcase with⟨e,h1,h2⟩|⟨_,_,_,h1,_⟩
   ·injection h1 with h1;unfold Hid;rw[h2,h1]
   ·cases h1
  have he0:(er == 0)=false:=by simpa using her
  clear hcase hk1;obtain⟨y0,y1,y2,y3,y4,y5,y6⟩:=hZ.seven;obtain⟨z0,z1,z2,z3,z4,z5,z6⟩:=hZ.sevenF;go_wp2;have hC2:=hZ.set7 (.int .i64 0) (.int .i64 0) (.int .i64 0) (.string ⟨#[]⟩) (.slice none 0 0) (.slice none 0 0) (.slice none 0 0);have hK2:=hkp.set7 (Nat.le_refl _) (.int .i64 0) (.int .i64 0) (.int .i64 0) (.string ⟨#[]⟩) (.slice none 0 0) (.slice none 0 0) (.slice none 0 0);have hk3:=Kp.own7 (w:=w1) w.heap.size (.int .i64 0) (.int .i64 0) (.int .i64 0) (.string ⟨#[]⟩) (.slice none 0 0) (.slice none 0 0) (.slice none 0 0);have hB2:=hB1.other7 hcs (.int .i64 0) (.int .i64 0) (.int .i64 0) (.string ⟨#[]⟩) (.slice none 0 0) (.slice none 0 0) (.slice none 0 0);generalize (((((((w1.setCell ⟨w.heap.size,0,none⟩ (.int .i64 0)).setCell ⟨w.heap.size,1,none⟩ (.int .i64 0)).setCell ⟨w.heap.size,2,none⟩ (.int .i64 0)).setCell ⟨w.heap.size,3,none⟩ (.string ⟨#[]⟩)).setCell ⟨w.heap.size,4,none⟩ (.slice none 0 0)).setCell ⟨w.heap.size,5,none⟩ (.slice none 0 0)).setCell ⟨w.heap.size,6,none⟩ (.slice none 0 0))=wf at hC2 hK2 hB2 hk3 ⊢;obtain⟨q0,q1,q2,q3,q4,q5,q6⟩:=hC2.seven;refine bodyPost_ret (v:=.tuple #[.agg #[.int .i64 0,.int .i64 0,.int .i64 0,.string ⟨#[]⟩,.slice none 0 0,.slice none 0 0,.slice none 0 0],.int .i64 er]) (by simp[results,Tryz.results239,go_sem,q0,q1,q2,q3,q4,q5,q6]) rfl ?_;rw[HR.out];exact⟨hK2,her,_,_,_,_,_,_,_,_,_,_,_,_,_,_,rfl,hB2⟩
 ·obtain⟨v1,ws1,rfl,hI1,htx,hS1⟩:=hq;have hte:=ok_ends _ _ _ _ _ _ HR1.out;obtain⟨xs1,hrow1,-⟩:=hI1.out;obtain⟨a5,p5,rfl⟩:=hrow1.form;obtain⟨rv1,hB1,-⟩:=hS1.blk;have hI1':Items (BD (fun b=>w.heap.size+1<=b) w1) (.slice a5 l.length p5) l:=hI1.mono (BD_sub (fun b _ hb=>by have:(w.alloc (.cells #[.int .i64 0,.int .i64 0,.int .i64 0,.string ⟨#[]⟩,.slice none 0 0,.slice none 0 0,.slice none 0 0] 241)).heap.size<=b:=hb;simpa using this));have HI1:=hide hI1';have HS:=hide hS1;clear hrow1 hI1 hI1' hS1;have hcase:_:=hcase;rcases hcase with⟨e,h1,_⟩|⟨a,t2,r2,h1,hcase⟩
  ·cases h1
  injection h1 with h1;injection h1 with h2 h1;injection h1 with h3 h4;subst h2;subst h3;subst h4;rcases hcase with⟨hn1,hn2,hre⟩|⟨rfl,hre⟩|⟨rfl,res2,hr2,hcase⟩
  ·have HR:=hide hre;obtain⟨T,hT⟩:∃ T:Int,T=(kindN t1:Int):=⟨_,rfl⟩;have b1:=kind_no hte hT (show (kindN kUntil:Int)=26 by decide) hn1;have b2:=kind_no hte hT (show (kindN kWhile:Int)=27 by decide) hn2;rw[<-hT];clear hT hre hk1;obtain⟨y0,y1,y2,y3,y4,y5,y6⟩:=hZ.seven;obtain⟨z0,z1,z2,z3,z4,z5,z6⟩:=hZ.sevenF;go_wp2;have hC2:=hZ.set7 (.int .i64 0) (.int .i64 0) (.int .i64 0) (.string ⟨#[]⟩) (.slice none 0 0) (.slice none 0 0) (.slice none 0 0);have hK2:=hkp.set7 (Nat.le_refl _) (.int .i64 0) (.int .i64 0) (.int .i64 0) (.string ⟨#[]⟩) (.slice none 0 0) (.slice none 0 0) (.slice none 0 0);have hk3:=Kp.own7 (w:=w1) w.heap.size (.int .i64 0) (.int .i64 0) (.int .i64 0) (.string ⟨#[]⟩) (.slice none 0 0) (.slice none 0 0) (.slice none 0 0);have hB2:=hB1.other7 hcs (.int .i64 0) (.int .i64 0) (.int .i64 0) (.string ⟨#[]⟩) (.slice none 0 0) (.slice none 0 0) (.slice none 0 0);generalize (((((((w1.setCell ⟨w.heap.size,0,none⟩ (.int .i64 0)).setCell ⟨w.heap.size,1,none⟩ (.int .i64 0)).setCell ⟨w.heap.size,2,none⟩ (.int .i64 0)).setCell ⟨w.heap.size,3,none⟩ (.string ⟨#[]⟩)).setCell ⟨w.heap.size,4,none⟩ (.slice none 0 0)).setCell ⟨w.heap.size,5,none⟩ (.slice none 0 0)).setCell ⟨w.heap.size,6,none⟩ (.slice none 0 0))=wf at hC2 hK2 hB2 hk3 ⊢;obtain⟨q0,q1,q2,q3,q4,q5,q6⟩:=hC2.seven;refine bodyPost_ret (v:=.tuple #[.agg #[.int .i64 0,.int .i64 0,.int .i64 0,.string ⟨#[]⟩,.slice none 0 0,.slice none 0 0,.slice none 0 0],.int .i64 4]) (by simp[results,Tryz.results239,go_sem,q0,q1,q2,q3,q4,q5,q6]) rfl ?_;rw[HR.out];exact⟨hK2,by decide,_,_,_,_,_,_,_,_,_,_,_,_,_,_,rfl,hB2⟩
  ·have HR:=hide hre;rw[show (kindN kUntil:Int)=26 by decide];clear hre hk1;obtain⟨y0,y1,y2,y3,y4,y5,y6⟩:=hZ.seven;obtain⟨z0,z1,z2,z3,z4,z5,z6⟩:=hZ.sevenF;go_wp2;have hC2:=hZ.set7 (.int .i64 4) (.int .i64 0) (.int .i64 0) (.string ⟨#[]⟩) (.slice none 0 0) (.slice a5 l.length p5) (.slice none 0 0);have hK2:=hkp.set7 (Nat.le_refl _) (.int .i64 4) (.int .i64 0) (.int .i64 0) (.string ⟨#[]⟩) (.slice none 0 0) (.slice a5 l.length p5) (.slice none 0 0);have hk3:=Kp.own7 (w:=w1) w.heap.size (.int .i64 4) (.int .i64 0) (.int .i64 0) (.string ⟨#[]⟩) (.slice none 0 0) (.slice a5 l.length p5) (.slice none 0 0);have hB2:=hB1.other7 hcs (.int .i64 4) (.int .i64 0) (.int .i64 0) (.string ⟨#[]⟩) (.slice none 0 0) (.slice a5 l.length p5) (.slice none 0 0);generalize (((((((w1.setCell ⟨w.heap.size,0,none⟩ (.int .i64 4)).setCell ⟨w.heap.size,1,none⟩ (.int .i64 0)).setCell ⟨w.heap.size,2,none⟩ (.int .i64 0)).setCell ⟨w.heap.size,3,none⟩ (.string ⟨#[]⟩)).setCell ⟨w.heap.size,4,none⟩ (.slice none 0 0)).setCell ⟨w.heap.size,5,none⟩ (.slice a5 l.length p5)).setCell ⟨w.heap.size,6,none⟩ (.slice none 0 0))=wf at hC2 hK2 hB2 hk3 ⊢;obtain⟨q0,q1,q2,q3,q4,q5,q6⟩:=hC2.seven;refine bodyPost_ret (v:=.tuple #[.agg #[.int .i64 4,.int .i64 0,.int .i64 0,.string ⟨#[]⟩,.slice none 0 0,.slice a5 l.length p5,.slice none 0 0],.int .i64 0]) (by simp[results,Tryz.results239,go_sem,q0,q1,q2,q3,q4,q5,q6]) rfl ?_;rw[HR.out];have hkb:=BD_keep (D:=fun b=>w.heap.size+1<=b) (D':=New w) hk3 (fun b _ hb=>⟨by show w.heap.size<=b;omega,by show ¬ b=w.heap.size;omega⟩);exact⟨hK2,_,_,_,_,_,_,_,ws1,rfl,rfl,itm_long 117 _ _ _ _ (by simp) (HI1.out.mono hkb) (Items.nil _),htx,HS.out.other hk3 hZ h1w⟩
  ·rw[show (kindN kWhile:Int)=27 by decide];have HU2:=hide (upToQ g HQ.out _ sb bk mb known ws1 lo kRepeat 28 (by decide) (by decide) res2 (by rw[htx];exact hr2) HS.out)
   go_wp2_with fail
   refine HU2.out.mono ?_;rintro x w2 ⟨hk2,hq⟩;have hZ':=hk2.blk hZ hcs.symm;have hkp':=hkp.trans hk2;have hkk:=BD_keep (D:=fun b=>w.heap.size+1<=b) (D':=fun b=>w.heap.size+1<=b) hk2 (fun b _ hb=>⟨hb,by show ¬ b=sb;omega⟩);have HI1':=hide (HI1.out.mono hkk);clear hZ hkp HI1 HS HU2 hk1 hB1 hkk htx;have hZ:=hZ';have hkp:=hkp';clear hZ' hkp';rcases res2 with er|⟨l2,t2,r2⟩
   ·obtain⟨her,a6,m6,p6,rv1,rfl,hB1⟩:=hq;have HR:Hid (res=.error er):=by
     rcases hcase with⟨e,h1,h2⟩|⟨_,_,_,h1,_⟩
     ·injection h1 with h1;unfold Hid;rw[h2,h1]
     ·cases h1
    clear hcase hk2;obtain⟨y0,y1,y2,y3,y4,y5,y6⟩:=hZ.seven;obtain⟨z0,z1,z2,z3,z4,z5,z6⟩:=hZ.sevenF;go_wp2;have hC2:=hZ.set7 (.int .i64 5) (.int .i64 0) (.int .i64 0) (.string ⟨#[]⟩) (.slice none 0 0) (.slice a5 l.length p5) (.slice a6 m6 p6);have hK2:=hkp.set7 (Nat.le_refl _) (.int .i64 5) (.int .i64 0) (.int .i64 0) (.string ⟨#[]⟩) (.slice none 0 0) (.slice a5 l.length p5) (.slice a6 m6 p6);have hk3:=Kp.own7 (w:=w2) w.heap.size (.int .i64 5) (.int .i64 0) (.int .i64 0) (.string ⟨#[]⟩) (.slice none 0 0) (.slice a5 l.length p5) (.slice a6 m6 p6);have hB2:=hB1.other7 hcs (.int .i64 5) (.int .i64 0) (.int .i64 0) (.string ⟨#[]⟩) (.slice none 0 0) (.slice a5 l.length p5) (.slice a6 m6 p6);generalize (((((((w2.setCell ⟨w.heap.size,0,none⟩ (.int .i64 5)).setCell ⟨w.heap.size,1,none⟩ (.int .i64 0)).setCell ⟨w.heap.size,2,none⟩ (.int .i64 0)).setCell ⟨w.heap.size,3,none⟩ (.string ⟨#[]⟩)).setCell ⟨w.heap.size,4,none⟩ (.slice none 0 0)).setCell ⟨w.heap.size,5,none⟩ (.slice a5 l.length p5)).setCell ⟨w.heap.size,6,none⟩ (.slice a6 m6 p6))=wf at hC2 hK2 hB2 hk3 ⊢;obtain⟨q0,q1,q2,q3,q4,q5,q6⟩:=hC2.seven;refine bodyPost_ret (v:=.tuple #[.agg #[.int .i64 5,.int .i64 0,.int .i64 0,.string ⟨#[]⟩,.slice none 0 0,.slice a5 l.length p5,.slice a6 m6 p6],.int .i64 er]) (by simp[results,Tryz.results239,go_sem,q0,q1,q2,q3,q4,q5,q6]) rfl ?_;rw[HR.out];exact⟨hK2,her,_,_,_,_,_,_,_,_,_,_,_,_,_,_,rfl,hB2⟩
   ·obtain⟨v2,ws2,rfl,hI2,htx,hS2⟩:=hq;obtain⟨xs2,hrow2,-⟩:=hI2.out;obtain⟨a6,p6,rfl⟩:=hrow2.form;obtain⟨rv1,hB1,-⟩:=hS2.blk;have hI2':Items (BD (fun b=>w.heap.size+1<=b) w2) (.slice a6 l2.length p6) l2:=hI2.mono (BD_sub (fun b _ hb=>by have:w1.heap.size<=b:=hb;show w.heap.size+1<=b;omega));have HI2:=hide hI2';have HS:=hide hS2;clear hrow2 hI2 hI2' hS2 hr2;rcases hcase with⟨e,h1,_⟩|⟨b,t3,r3,h1,hre⟩
    ·cases h1
    injection h1 with h1;injection h1 with h2 h1;injection h1 with h3 h4;subst h2;subst h3;subst h4;have HR:=hide hre;clear hre hk2;obtain⟨y0,y1,y2,y3,y4,y5,y6⟩:=hZ.seven;obtain⟨z0,z1,z2,z3,z4,z5,z6⟩:=hZ.sevenF;go_wp2;have hC2:=hZ.set7 (.int .i64 5) (.int .i64 0) (.int .i64 0) (.string ⟨#[]⟩) (.slice none 0 0) (.slice a5 l.length p5) (.slice a6 l2.length p6);have hK2:=hkp.set7 (Nat.le_refl _) (.int .i64 5) (.int .i64 0) (.int .i64 0) (.string ⟨#[]⟩) (.slice none 0 0) (.slice a5 l.length p5) (.slice a6 l2.length p6);have hk3:=Kp.own7 (w:=w2) w.heap.size (.int .i64 5) (.int .i64 0) (.int .i64 0) (.string ⟨#[]⟩) (.slice none 0 0) (.slice a5 l.length p5) (.slice a6 l2.length p6);have hB2:=hB1.other7 hcs (.int .i64 5) (.int .i64 0) (.int .i64 0) (.string ⟨#[]⟩) (.slice none 0 0) (.slice a5 l.length p5) (.slice a6 l2.length p6);generalize (((((((w2.setCell ⟨w.heap.size,0,none⟩ (.int .i64 5)).setCell ⟨w.heap.size,1,none⟩ (.int .i64 0)).setCell ⟨w.heap.size,2,none⟩ (.int .i64 0)).setCell ⟨w.heap.size,3,none⟩ (.string ⟨#[]⟩)).setCell ⟨w.heap.size,4,none⟩ (.slice none 0 0)).setCell ⟨w.heap.size,5,none⟩ (.slice a5 l.length p5)).setCell ⟨w.heap.size,6,none⟩ (.slice a6 l2.length p6))=wf at hC2 hK2 hB2 hk3 ⊢;obtain⟨q0,q1,q2,q3,q4,q5,q6⟩:=hC2.seven;refine bodyPost_ret (v:=.tuple #[.agg #[.int .i64 5,.int .i64 0,.int .i64 0,.string ⟨#[]⟩,.slice none 0 0,.slice a5 l.length p5,.slice a6 l2.length p6],.int .i64 0]) (by simp[results,Tryz.results239,go_sem,q0,q1,q2,q3,q4,q5,q6]) rfl ?_;rw[HR.out];have hkb:=BD_keep (D:=fun b=>w.heap.size+1<=b) (D':=New w) hk3 (fun b _ hb=>⟨by show w.heap.size<=b;omega,by show ¬ b=w.heap.size;omega⟩);exact⟨hK2,_,_,_,_,_,_,_,ws2,rfl,rfl,itm_long 119 _ _ _ _ (by simp) (HI1'.out.mono hkb) (HI2.out.mono hkb),htx,HS.out.other hk3 hZ h1w⟩
end
end Go.Proofs.YteainaiebcphlaaGreatDoor
