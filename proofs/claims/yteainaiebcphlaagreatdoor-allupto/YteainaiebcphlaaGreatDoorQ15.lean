import Derived.Test.YteainaiebcphlaaGreatDoorQ14
namespace Go.Proofs.YteainaiebcphlaaGreatDoor
set_option maxRecDepth 1000000
set_option maxHeartbeats 4000000
set_option linter.all false
open Go.Proofs.Tryz
open Go.RowKit
theorem PI {aA:Tok->Bool}{g lo:Nat}{r:List Tok}{res:fh}(h:aK aA (g+1) ⟨true,lo,[],FW⟩ r=some res):
    ∃gP,aK aA g ⟨false,lo,cB,[]⟩ r=some gP /\
      ((∃e,gP=.error e/\res=.error e)\/∃a t1 r1,gP=.ok (a,t1,r1) /\
        ((¬t1=eY/\¬t1=dF/\res=.error 4)\/(t1=dF/\res=.ok ([⟨63,0,[],a,[],[]⟩],[],r1)) \/
         (t1=eY/\∃gm,aK aA g ⟨false,lo,cB,[]⟩ r1=some gm /\
           ((∃e,gm=.error e/\res=.error e)\/∃b t2 r2,gm=.ok (b,t2,r2)/\((¬t2=dF/\res=.error 4)\/(t2=dF/\res=.ok ([⟨63,0,[],a,b,[]⟩],[],r2))))))):=by
  rcases Oj h with⟨e,h1,h2⟩|⟨a,t1,r1,h1,h2⟩
  · obtain⟨gP,h3,h4⟩:=rM aA [eY,dF] (jE (by decide)) lo g _ _ h1
    refine⟨gP,h3,?_⟩;rcases gP with e1|⟨a,t1,r1⟩
    · have h4:Except.error e=Except.error e1:=h4
      injection h4 with h4;exact .inl ⟨e1,rfl,by rw[h2,h4]⟩
    · right
      refine⟨a,t1,r1,rfl,.inl ?_⟩;have h5:([eY,dF].any (· == t1))=false:=by
        cases hh:[eY,dF].any (· == t1)
        · rfl
        · rw[jF hh] at h4;cases h4
      rw[iK h5] at h4;injection h4 with h4;refine⟨?_,?_,by rw[h2,h4]⟩
      · rintro rfl;revert h5;decide
      · rintro rfl;revert h5;decide
  · obtain⟨gP,h3,h4⟩:=rM aA [eY,dF] (jE (by decide)) lo g _ _ h1
    rcases gP with e1|⟨a1,t11,r11⟩
    · cases h4
    · have h5:([eY,dF].any (· == t11))=true:=by
        cases hh:[eY,dF].any (· == t11)
        · rw[iK hh] at h4;cases h4
        · rfl
      rw[jF h5] at h4;injection h4 with h4;injection h4 with ha h4;injection h4 with ht hr;subst ha ht hr;refine⟨_,h3,.inr ⟨a,t1,r1,rfl,?_⟩⟩;rcases h2 with⟨rfl,h2⟩|⟨h6,h2⟩
      · right;right
        refine⟨rfl,?_⟩;rcases h2 with⟨e,h7,h8⟩|⟨b,t2,r2,h7,h8⟩
        · obtain⟨gm,h9,h10⟩:=rM aA [dF] (jE (by decide)) lo g _ _ h7
          refine⟨gm,h9,?_⟩;rcases gm with e2|⟨b,t2,r2⟩
          · have h10:Except.error e=Except.error e2:=h10
            injection h10 with h10;exact .inl ⟨e2,rfl,by rw[h8,h10]⟩
          · have h11:([dF].any (· == t2))=false:=by
              cases hh:[dF].any (· == t2)
              · rfl
              · rw[jF hh] at h10;cases h10
            rw[iK h11] at h10;injection h10 with h10;exact .inr ⟨b,t2,r2,rfl,.inl ⟨by rintro rfl;revert h11;decide,by rw[h8,h10]⟩⟩
        · obtain⟨gm,h9,h10⟩:=rM aA [dF] (jE (by decide)) lo g _ _ h7
          rcases gm with e2|⟨b2,t22,r22⟩
          · cases h10
          · have h11:([dF].any (· == t22))=true:=by
              cases hh:[dF].any (· == t22)
              · rw[iK hh] at h10;cases h10
              · rfl
            rw[jF h11] at h10;injection h10 with h10;injection h10 with hb h10;injection h10 with ht hr;subst hb ht hr;exact⟨_,h9,.inr ⟨b,t2,r2,rfl,.inr ⟨Eq.symm (show dF=t2 by simpa using h11),h8⟩⟩⟩
      · right;left
        refine⟨?_,h2⟩;simp only[List.any_cons,List.any_nil,Bool.or_false,Bool.or_eq_true,beq_iff_eq] at h5;rcases h5 with h5|h5
        · exact ax h5.symm h6
        · exact h5.symm
theorem Ew {aA:Tok->Bool}{g lo:Nat}{r:List Tok}{res:fh}(h:aK aA (g+1) ⟨true,lo,[],jf⟩ r=some res):
    ∃gP,aK aA g ⟨false,lo,cB,[]⟩ r=some gP /\
      ((∃e,gP=.error e/\res=.error e)\/∃a t1 r1,gP=.ok (a,t1,r1) /\
        ((¬t1=fL/\¬t1=di/\res=.error 4)\/(t1=fL/\res=.ok ([⟨117,0,[],a,[],[]⟩],[],r1)) \/
         (t1=di/\∃gm,aK aA g ⟨false,lo,[gj],[]⟩ r1=some gm /\
           ((∃e,gm=.error e/\res=.error e)\/∃b t2 r2,gm=.ok (b,t2,r2)/\res=.ok ([⟨119,0,[],a,b,[]⟩],[],r2))))):=by
  rcases zL h with⟨e,h1,h2⟩|⟨a,t1,r1,h1,h2⟩
  · obtain⟨gP,h3,h4⟩:=rM aA [fL,di] (jE (by decide)) lo g _ _ h1
    refine⟨gP,h3,?_⟩;rcases gP with e1|⟨a,t1,r1⟩
    · have h4:Except.error e=Except.error e1:=h4
      injection h4 with h4;exact .inl ⟨e1,rfl,by rw[h2,h4]⟩
    · right
      refine⟨a,t1,r1,rfl,.inl ?_⟩;have h5:([fL,di].any (· == t1))=false:=by
        cases hh:[fL,di].any (· == t1)
        · rfl
        · rw[jF hh] at h4;cases h4
      rw[iK h5] at h4;injection h4 with h4;refine⟨?_,?_,by rw[h2,h4]⟩
      · rintro rfl;revert h5;decide
      · rintro rfl;revert h5;decide
  · obtain⟨gP,h3,h4⟩:=rM aA [fL,di] (jE (by decide)) lo g _ _ h1
    rcases gP with e1|⟨a1,t11,r11⟩
    · cases h4
    · have h5:([fL,di].any (· == t11))=true:=by
        cases hh:[fL,di].any (· == t11)
        · rw[iK hh] at h4;cases h4
        · rfl
      rw[jF h5] at h4;injection h4 with h4;injection h4 with ha h4;injection h4 with ht hr;subst ha ht hr;refine⟨_,h3,.inr ⟨a,t1,r1,rfl,?_⟩⟩;rcases h2 with⟨rfl,h2⟩|⟨h6,h2⟩
      · right;right
        refine⟨rfl,?_⟩;rcases h2 with⟨e,h7,h8⟩|⟨b,t2,r2,h7,h8⟩
        · exact⟨_,h7,.inl ⟨e,rfl,h8⟩⟩
        · exact⟨_,h7,.inr ⟨b,t2,r2,rfl,h8⟩⟩
      · right;left
        refine⟨?_,h2⟩;simp only[List.any_cons,List.any_nil,Bool.or_false,Bool.or_eq_true,beq_iff_eq] at h5;rcases h5 with h5|h5
        · exact h5.symm
        · exact ax h5.symm h6
theorem pN {t k:Tok}{K i:Int}(h:cB.any (· == t)=true)(hK:K=(cL t:Int))(hk:(cL k:Int)=i)(hn:¬t=k):(K==i)=false:=by
 rw[beq_eq_false_iff_ne,hK,<-hk];exact λe=>hn (xo h (by omega))
theorem ifQ (g:Nat)(hQ:tI g)(w:World)(sb bk mb:Nat)(aA:Tok->Bool)(ws:List ByteArray)(lo:Nat)(res:fh)(aG:aK aA (g+1) ⟨true,lo,[],FW⟩ (aD ws)=some res)(h:bW w sb bk mb aA ws lo):
  Calls prog 238 #[pt sb] w λx w'=>Kp w w' (λb=>b=sb)/\rE w sb bk mb aA lo x w' res:=by
 obtain⟨rv,hB,hT⟩:=h.blk;have hsb:=hB.lt;have hcs:sb≠w.heap.size:=by omega
 have Bf:=h.sp.lt;have lU:=aC.new w #[.int .i64 0,.int .i64 0,.int .i64 0,.string ⟨#[]⟩,.slice none 0 0,.slice none 0 0,.slice none 0 0] 241;have bC:Kp w (w.alloc (.cells #[.int .i64 0,.int .i64 0,.int .i64 0,.string ⟨#[]⟩,.slice none 0 0,.slice none 0 0,.slice none 0 0] 241)) (λb=>b=sb):=(Kp.refl w (λb=>b=sb)).alloc _;have Eu:bW (w.alloc (.cells #[.int .i64 0,.int .i64 0,.int .i64 0,.string ⟨#[]⟩,.slice none 0 0,.slice none 0 0,.slice none 0 0] 241)) sb bk mb aA ws lo:=h.kp ((Kp.refl w (λ_=>False)).alloc _);obtain⟨gP,hr1,dz⟩:=PI aG;have HU:=az (hQ _ sb bk mb aA ws lo gP hr1 Eu);have HC:=az dz;have HQ:=az hQ;have Ex:=az hr1;clear hQ aG hr1 Eu dz;go_enter func238,ntmps238
 go_wp2_with fail
 refine HU.out.mono ?_;rintro x w1 ⟨hk1,hq⟩;have hZ:=hk1.blk lU hcs.symm;have hkp:=bC.trans hk1;have hsz1:w.heap.size+1<=w1.heap.size:=by have:=hk1.size;simpa using this
 have dz:=HC.out;clear HU HC bC lU;rcases gP with er|⟨l,t1,r1⟩
 ·obtain⟨her,KA,rfl,cX⟩:=hq;have HR:Hid (res=.error er):=by
   rcases dz with⟨e,h1,h2⟩|⟨_,_,_,h1,_⟩
   ·injection h1 with h1;unfold Hid;rw[h2,h1]
   ·cases h1
  have Gw:(er==0)=false:=by simpa using her
  clear dz hk1;obtain⟨y0,y1,y2,y3,y4,y5,y6⟩:=hZ.seven;obtain⟨z0,z1,z2,z3,z4,z5,z6⟩:=hZ.fk;go_wp2;have bS:=hZ.dL (.int .i64 3) (.int .i64 0) (.int .i64 0) (.string ⟨#[]⟩) (.slice none 0 0) (.slice none 0 0) (.slice none 0 0);have hK2:=hkp.dL (ah _) (.int .i64 3) (.int .i64 0) (.int .i64 0) (.string ⟨#[]⟩) (.slice none 0 0) (.slice none 0 0) (.slice none 0 0);have hk3:=Kp.nZ (w:=w1) w.heap.size (.int .i64 3) (.int .i64 0) (.int .i64 0) (.string ⟨#[]⟩) (.slice none 0 0) (.slice none 0 0) (.slice none 0 0);have aX:=cX.dM hcs (.int .i64 3) (.int .i64 0) (.int .i64 0) (.string ⟨#[]⟩) (.slice none 0 0) (.slice none 0 0) (.slice none 0 0);generalize (((((((w1.setCell ⟨w.heap.size,0,none⟩ (.int .i64 3)).setCell ⟨w.heap.size,1,none⟩ (.int .i64 0)).setCell ⟨w.heap.size,2,none⟩ (.int .i64 0)).setCell ⟨w.heap.size,3,none⟩ (.string ⟨#[]⟩)).setCell ⟨w.heap.size,4,none⟩ (.slice none 0 0)).setCell ⟨w.heap.size,5,none⟩ (.slice none 0 0)).setCell ⟨w.heap.size,6,none⟩ (.slice none 0 0))=wf at bS hK2 aX hk3 ⊢;obtain⟨q0,q1,q2,q3,q4,q5,q6⟩:=bS.seven;refine bodyPost_ret (v:=.tuple #[.agg #[.int .i64 3,.int .i64 0,.int .i64 0,.string ⟨#[]⟩,.slice none 0 0,.slice none 0 0,.slice none 0 0],.int .i64 er]) (by simp[results,results238,go_sem,q0,q1,q2,q3,q4,q5,q6]) rfl ?_;rw[HR.out];exact⟨hK2,her,_,_,_,_,_,_,_,_,_,_,_,_,_,_,rfl,aX⟩
 ·obtain⟨v1,nX,rfl,Lm,htx,hS1⟩:=hq;have hte:=pK _ _ _ _ _ _ Ex.out;obtain⟨Ph,aZ,-⟩:=Lm.out;obtain⟨a5,p5,rfl⟩:=aZ.form;obtain⟨KA,cX,-⟩:=hS1.blk;have GV:cV (BD (λb=>w.heap.size+1<=b) w1) (.slice a5 l.length p5) l:=Lm.mono (mC (λb _ hb=>by have:(w.alloc (.cells #[.int .i64 0,.int .i64 0,.int .i64 0,.string ⟨#[]⟩,.slice none 0 0,.slice none 0 0,.slice none 0 0] 241)).heap.size<=b:=hb;simpa using this));have PK:=az GV;have HS:=az hS1;clear aZ Lm GV hS1;have dz:_:=dz;rcases dz with⟨e,h1,_⟩|⟨a,t2,r2,h1,dz⟩
  ·cases h1
  injection h1 with h1;injection h1 with h2 h1;injection h1 with h3 h4;subst h2 h3 h4;rcases dz with⟨Ej,hn2,hre⟩|⟨rfl,hre⟩|⟨rfl,gm,hr2,dz⟩
  ·have HR:=az hre;obtain⟨T,hT⟩:∃T:Int,T=(cL t1:Int):=⟨_,rfl⟩;have b1:=pN hte hT (show(cL eY:Int)=23 by decide) Ej;have b2:=pN hte hT (show(cL dF:Int)=24 by decide) hn2;rw[<-hT];clear hT hre hk1;obtain⟨y0,y1,y2,y3,y4,y5,y6⟩:=hZ.seven;obtain⟨z0,z1,z2,z3,z4,z5,z6⟩:=hZ.fk;go_wp2;have bS:=hZ.dL (.int .i64 3) (.int .i64 0) (.int .i64 0) (.string ⟨#[]⟩) (.slice none 0 0) (.slice a5 l.length p5) (.slice none 0 0);have hK2:=hkp.dL (ah _) (.int .i64 3) (.int .i64 0) (.int .i64 0) (.string ⟨#[]⟩) (.slice none 0 0) (.slice a5 l.length p5) (.slice none 0 0);have hk3:=Kp.nZ (w:=w1) w.heap.size (.int .i64 3) (.int .i64 0) (.int .i64 0) (.string ⟨#[]⟩) (.slice none 0 0) (.slice a5 l.length p5) (.slice none 0 0);have aX:=cX.dM hcs (.int .i64 3) (.int .i64 0) (.int .i64 0) (.string ⟨#[]⟩) (.slice none 0 0) (.slice a5 l.length p5) (.slice none 0 0);generalize (((((((w1.setCell ⟨w.heap.size,0,none⟩ (.int .i64 3)).setCell ⟨w.heap.size,1,none⟩ (.int .i64 0)).setCell ⟨w.heap.size,2,none⟩ (.int .i64 0)).setCell ⟨w.heap.size,3,none⟩ (.string ⟨#[]⟩)).setCell ⟨w.heap.size,4,none⟩ (.slice none 0 0)).setCell ⟨w.heap.size,5,none⟩ (.slice a5 l.length p5)).setCell ⟨w.heap.size,6,none⟩ (.slice none 0 0))=wf at bS hK2 aX hk3 ⊢;obtain⟨q0,q1,q2,q3,q4,q5,q6⟩:=bS.seven;refine bodyPost_ret (v:=.tuple #[.agg #[.int .i64 3,.int .i64 0,.int .i64 0,.string ⟨#[]⟩,.slice none 0 0,.slice a5 l.length p5,.slice none 0 0],.int .i64 4]) (by simp[results,results238,go_sem,q0,q1,q2,q3,q4,q5,q6]) rfl ?_;rw[HR.out];exact⟨hK2,by decide,_,_,_,_,_,_,_,_,_,_,_,_,_,_,rfl,aX⟩
  ·have HR:=az hre;rw[show(cL dF:Int)=24 by decide];clear hre hk1;obtain⟨y0,y1,y2,y3,y4,y5,y6⟩:=hZ.seven;obtain⟨z0,z1,z2,z3,z4,z5,z6⟩:=hZ.fk;go_wp2;have bS:=hZ.dL (.int .i64 3) (.int .i64 0) (.int .i64 0) (.string ⟨#[]⟩) (.slice none 0 0) (.slice a5 l.length p5) (.slice none 0 0);have hK2:=hkp.dL (ah _) (.int .i64 3) (.int .i64 0) (.int .i64 0) (.string ⟨#[]⟩) (.slice none 0 0) (.slice a5 l.length p5) (.slice none 0 0);have hk3:=Kp.nZ (w:=w1) w.heap.size (.int .i64 3) (.int .i64 0) (.int .i64 0) (.string ⟨#[]⟩) (.slice none 0 0) (.slice a5 l.length p5) (.slice none 0 0);have aX:=cX.dM hcs (.int .i64 3) (.int .i64 0) (.int .i64 0) (.string ⟨#[]⟩) (.slice none 0 0) (.slice a5 l.length p5) (.slice none 0 0);generalize (((((((w1.setCell ⟨w.heap.size,0,none⟩ (.int .i64 3)).setCell ⟨w.heap.size,1,none⟩ (.int .i64 0)).setCell ⟨w.heap.size,2,none⟩ (.int .i64 0)).setCell ⟨w.heap.size,3,none⟩ (.string ⟨#[]⟩)).setCell ⟨w.heap.size,4,none⟩ (.slice none 0 0)).setCell ⟨w.heap.size,5,none⟩ (.slice a5 l.length p5)).setCell ⟨w.heap.size,6,none⟩ (.slice none 0 0))=wf at bS hK2 aX hk3 ⊢;obtain⟨q0,q1,q2,q3,q4,q5,q6⟩:=bS.seven;refine bodyPost_ret (v:=.tuple #[.agg #[.int .i64 3,.int .i64 0,.int .i64 0,.string ⟨#[]⟩,.slice none 0 0,.slice a5 l.length p5,.slice none 0 0],.int .i64 0]) (by simp[results,results238,go_sem,q0,q1,q2,q3,q4,q5,q6]) rfl ?_;rw[HR.out];have hkb:=bU (D:=λb=>w.heap.size+1<=b) (D':=New w) hk3 (λb _ hb=>⟨by show w.heap.size<=b;omega,by show ¬b=w.heap.size;omega⟩);exact⟨hK2,_,_,_,_,_,_,_,nX,rfl,rfl,mI 63 _ _ _ _ (by simp) (PK.out.mono hkb) (cV.nil _),htx,HS.out.other hk3 hZ Bf⟩
  ·rw[show(cL eY:Int)=23 by decide];have TU:=az (HQ.out _ sb bk mb aA nX lo gm (by rw[htx];exact hr2) HS.out)
   go_wp2_with fail
   refine TU.out.mono ?_;rintro x w2 ⟨hk2,hq⟩;have TV:=hk2.blk hZ hcs.symm;have uv:=hkp.trans hk2;have hkk:=bU (D:=λb=>w.heap.size+1<=b) (D':=λb=>w.heap.size+1<=b) hk2 (λb _ hb=>⟨hb,by show ¬b=sb;omega⟩);have PL:=az (PK.out.mono hkk);clear hZ hkp PK HS TU hk1 cX hkk htx;have hZ:=TV;have hkp:=uv;clear TV uv;rcases gm with er|⟨l2,t2,r2⟩
   ·obtain⟨her,KA,rfl,cX⟩:=hq;have HR:Hid (res=.error er):=by
     rcases dz with⟨e,h1,h2⟩|⟨_,_,_,h1,_⟩
     ·injection h1 with h1;unfold Hid;rw[h2,h1]
     ·cases h1
    have Gw:(er==0)=false:=by simpa using her
    clear dz hk2;obtain⟨y0,y1,y2,y3,y4,y5,y6⟩:=hZ.seven;obtain⟨z0,z1,z2,z3,z4,z5,z6⟩:=hZ.fk;go_wp2;have bS:=hZ.dL (.int .i64 3) (.int .i64 0) (.int .i64 0) (.string ⟨#[]⟩) (.slice none 0 0) (.slice a5 l.length p5) (.slice none 0 0);have hK2:=hkp.dL (ah _) (.int .i64 3) (.int .i64 0) (.int .i64 0) (.string ⟨#[]⟩) (.slice none 0 0) (.slice a5 l.length p5) (.slice none 0 0);have hk3:=Kp.nZ (w:=w2) w.heap.size (.int .i64 3) (.int .i64 0) (.int .i64 0) (.string ⟨#[]⟩) (.slice none 0 0) (.slice a5 l.length p5) (.slice none 0 0);have aX:=cX.dM hcs (.int .i64 3) (.int .i64 0) (.int .i64 0) (.string ⟨#[]⟩) (.slice none 0 0) (.slice a5 l.length p5) (.slice none 0 0);generalize (((((((w2.setCell ⟨w.heap.size,0,none⟩ (.int .i64 3)).setCell ⟨w.heap.size,1,none⟩ (.int .i64 0)).setCell ⟨w.heap.size,2,none⟩ (.int .i64 0)).setCell ⟨w.heap.size,3,none⟩ (.string ⟨#[]⟩)).setCell ⟨w.heap.size,4,none⟩ (.slice none 0 0)).setCell ⟨w.heap.size,5,none⟩ (.slice a5 l.length p5)).setCell ⟨w.heap.size,6,none⟩ (.slice none 0 0))=wf at bS hK2 aX hk3 ⊢;obtain⟨q0,q1,q2,q3,q4,q5,q6⟩:=bS.seven;refine bodyPost_ret (v:=.tuple #[.agg #[.int .i64 3,.int .i64 0,.int .i64 0,.string ⟨#[]⟩,.slice none 0 0,.slice a5 l.length p5,.slice none 0 0],.int .i64 er]) (by simp[results,results238,go_sem,q0,q1,q2,q3,q4,q5,q6]) rfl ?_;rw[HR.out];exact⟨hK2,her,_,_,_,_,_,_,_,_,_,_,_,_,_,_,rfl,aX⟩
   ·obtain⟨v2,kF,rfl,yq,htx,fM⟩:=hq;have YZ:=pK _ _ _ _ _ _ hr2;obtain⟨xs2,hrow2,-⟩:=yq.out;obtain⟨a6,p6,rfl⟩:=hrow2.form;obtain⟨KA,cX,-⟩:=fM.blk;have GW:cV (BD (λb=>w.heap.size+1<=b) w2) (.slice a6 l2.length p6) l2:=yq.mono (mC (λb _ hb=>by have:w1.heap.size<=b:=hb;show w.heap.size+1<=b;omega));have TT:=az GW;have HS:=az fM;clear hrow2 yq GW fM hr2;rcases dz with⟨e,h1,_⟩|⟨b,t3,r3,h1,dz⟩
    ·cases h1
    injection h1 with h1;injection h1 with h2 h1;injection h1 with h3 h4;subst h2 h3 h4;rcases dz with⟨hn,hre⟩|⟨rfl,hre⟩
    ·have HR:=az hre;obtain⟨T,hT⟩:∃T:Int,T=(cL t2:Int):=⟨_,rfl⟩;have b2:=pN YZ hT (show(cL dF:Int)=24 by decide) hn;rw[<-hT];clear hT hre hk2;obtain⟨y0,y1,y2,y3,y4,y5,y6⟩:=hZ.seven;obtain⟨z0,z1,z2,z3,z4,z5,z6⟩:=hZ.fk;go_wp2;have bS:=hZ.dL (.int .i64 3) (.int .i64 0) (.int .i64 0) (.string ⟨#[]⟩) (.slice none 0 0) (.slice a5 l.length p5) (.slice a6 l2.length p6);have hK2:=hkp.dL (ah _) (.int .i64 3) (.int .i64 0) (.int .i64 0) (.string ⟨#[]⟩) (.slice none 0 0) (.slice a5 l.length p5) (.slice a6 l2.length p6);have hk3:=Kp.nZ (w:=w2) w.heap.size (.int .i64 3) (.int .i64 0) (.int .i64 0) (.string ⟨#[]⟩) (.slice none 0 0) (.slice a5 l.length p5) (.slice a6 l2.length p6);have aX:=cX.dM hcs (.int .i64 3) (.int .i64 0) (.int .i64 0) (.string ⟨#[]⟩) (.slice none 0 0) (.slice a5 l.length p5) (.slice a6 l2.length p6);generalize (((((((w2.setCell ⟨w.heap.size,0,none⟩ (.int .i64 3)).setCell ⟨w.heap.size,1,none⟩ (.int .i64 0)).setCell ⟨w.heap.size,2,none⟩ (.int .i64 0)).setCell ⟨w.heap.size,3,none⟩ (.string ⟨#[]⟩)).setCell ⟨w.heap.size,4,none⟩ (.slice none 0 0)).setCell ⟨w.heap.size,5,none⟩ (.slice a5 l.length p5)).setCell ⟨w.heap.size,6,none⟩ (.slice a6 l2.length p6))=wf at bS hK2 aX hk3 ⊢;obtain⟨q0,q1,q2,q3,q4,q5,q6⟩:=bS.seven;refine bodyPost_ret (v:=.tuple #[.agg #[.int .i64 3,.int .i64 0,.int .i64 0,.string ⟨#[]⟩,.slice none 0 0,.slice a5 l.length p5,.slice a6 l2.length p6],.int .i64 4]) (by simp[results,results238,go_sem,q0,q1,q2,q3,q4,q5,q6]) rfl ?_;rw[HR.out];exact⟨hK2,by decide,_,_,_,_,_,_,_,_,_,_,_,_,_,_,rfl,aX⟩
    ·have HR:=az hre;rw[show(cL dF:Int)=24 by decide];clear hre hk2;obtain⟨y0,y1,y2,y3,y4,y5,y6⟩:=hZ.seven;obtain⟨z0,z1,z2,z3,z4,z5,z6⟩:=hZ.fk;go_wp2;have bS:=hZ.dL (.int .i64 3) (.int .i64 0) (.int .i64 0) (.string ⟨#[]⟩) (.slice none 0 0) (.slice a5 l.length p5) (.slice a6 l2.length p6);have hK2:=hkp.dL (ah _) (.int .i64 3) (.int .i64 0) (.int .i64 0) (.string ⟨#[]⟩) (.slice none 0 0) (.slice a5 l.length p5) (.slice a6 l2.length p6);have hk3:=Kp.nZ (w:=w2) w.heap.size (.int .i64 3) (.int .i64 0) (.int .i64 0) (.string ⟨#[]⟩) (.slice none 0 0) (.slice a5 l.length p5) (.slice a6 l2.length p6);have aX:=cX.dM hcs (.int .i64 3) (.int .i64 0) (.int .i64 0) (.string ⟨#[]⟩) (.slice none 0 0) (.slice a5 l.length p5) (.slice a6 l2.length p6);generalize (((((((w2.setCell ⟨w.heap.size,0,none⟩ (.int .i64 3)).setCell ⟨w.heap.size,1,none⟩ (.int .i64 0)).setCell ⟨w.heap.size,2,none⟩ (.int .i64 0)).setCell ⟨w.heap.size,3,none⟩ (.string ⟨#[]⟩)).setCell ⟨w.heap.size,4,none⟩ (.slice none 0 0)).setCell ⟨w.heap.size,5,none⟩ (.slice a5 l.length p5)).setCell ⟨w.heap.size,6,none⟩ (.slice a6 l2.length p6))=wf at bS hK2 aX hk3 ⊢;obtain⟨q0,q1,q2,q3,q4,q5,q6⟩:=bS.seven;refine bodyPost_ret (v:=.tuple #[.agg #[.int .i64 3,.int .i64 0,.int .i64 0,.string ⟨#[]⟩,.slice none 0 0,.slice a5 l.length p5,.slice a6 l2.length p6],.int .i64 0]) (by simp[results,results238,go_sem,q0,q1,q2,q3,q4,q5,q6]) rfl ?_;rw[HR.out];have hkb:=bU (D:=λb=>w.heap.size+1<=b) (D':=New w) hk3 (λb _ hb=>⟨by show w.heap.size<=b;omega,by show ¬b=w.heap.size;omega⟩);exact⟨hK2,_,_,_,_,_,_,_,kF,rfl,rfl,mI 63 _ _ _ _ (by simp) (PL.out.mono hkb) (TT.out.mono hkb),htx,HS.out.other hk3 hZ Bf⟩
theorem PM (g:Nat)(hQ:tI g)(w:World)(sb bk mb:Nat)(aA:Tok->Bool)(ws:List ByteArray)(lo:Nat)(res:fh)(aG:aK aA (g+1) ⟨true,lo,[],jf⟩ (aD ws)=some res)(h:bW w sb bk mb aA ws lo):
  Calls prog 239 #[pt sb] w λx w'=>Kp w w' (λb=>b=sb)/\rE w sb bk mb aA lo x w' res:=by
 obtain⟨rv,hB,hT⟩:=h.blk;have hsb:=hB.lt;have hcs:sb≠w.heap.size:=by omega
 have Bf:=h.sp.lt;have lU:=aC.new w #[.int .i64 0,.int .i64 0,.int .i64 0,.string ⟨#[]⟩,.slice none 0 0,.slice none 0 0,.slice none 0 0] 241;have bC:Kp w (w.alloc (.cells #[.int .i64 0,.int .i64 0,.int .i64 0,.string ⟨#[]⟩,.slice none 0 0,.slice none 0 0,.slice none 0 0] 241)) (λb=>b=sb):=(Kp.refl w (λb=>b=sb)).alloc _;have Eu:bW (w.alloc (.cells #[.int .i64 0,.int .i64 0,.int .i64 0,.string ⟨#[]⟩,.slice none 0 0,.slice none 0 0,.slice none 0 0] 241)) sb bk mb aA ws lo:=h.kp ((Kp.refl w (λ_=>False)).alloc _);obtain⟨gP,hr1,dz⟩:=Ew aG;have HU:=az (hQ _ sb bk mb aA ws lo gP hr1 Eu);have HC:=az dz;have HQ:=az hQ;have Ex:=az hr1;clear hQ aG hr1 Eu dz;go_enter func239,ntmps239
 go_wp2_with fail
 refine HU.out.mono ?_;rintro x w1 ⟨hk1,hq⟩;have hZ:=hk1.blk lU hcs.symm;have hkp:=bC.trans hk1;have hsz1:w.heap.size+1<=w1.heap.size:=by have:=hk1.size;simpa using this
 have dz:=HC.out;clear HU HC bC lU;rcases gP with er|⟨l,t1,r1⟩
 ·obtain⟨her,KA,rfl,cX⟩:=hq;have HR:Hid (res=.error er):=by
   rcases dz with⟨e,h1,h2⟩|⟨_,_,_,h1,_⟩
   ·injection h1 with h1;unfold Hid;rw[h2,h1]
   ·cases h1
  have Gw:(er==0)=false:=by simpa using her
  clear dz hk1;obtain⟨y0,y1,y2,y3,y4,y5,y6⟩:=hZ.seven;obtain⟨z0,z1,z2,z3,z4,z5,z6⟩:=hZ.fk;go_wp2;have bS:=hZ.dL (.int .i64 0) (.int .i64 0) (.int .i64 0) (.string ⟨#[]⟩) (.slice none 0 0) (.slice none 0 0) (.slice none 0 0);have hK2:=hkp.dL (ah _) (.int .i64 0) (.int .i64 0) (.int .i64 0) (.string ⟨#[]⟩) (.slice none 0 0) (.slice none 0 0) (.slice none 0 0);have hk3:=Kp.nZ (w:=w1) w.heap.size (.int .i64 0) (.int .i64 0) (.int .i64 0) (.string ⟨#[]⟩) (.slice none 0 0) (.slice none 0 0) (.slice none 0 0);have aX:=cX.dM hcs (.int .i64 0) (.int .i64 0) (.int .i64 0) (.string ⟨#[]⟩) (.slice none 0 0) (.slice none 0 0) (.slice none 0 0);generalize (((((((w1.setCell ⟨w.heap.size,0,none⟩ (.int .i64 0)).setCell ⟨w.heap.size,1,none⟩ (.int .i64 0)).setCell ⟨w.heap.size,2,none⟩ (.int .i64 0)).setCell ⟨w.heap.size,3,none⟩ (.string ⟨#[]⟩)).setCell ⟨w.heap.size,4,none⟩ (.slice none 0 0)).setCell ⟨w.heap.size,5,none⟩ (.slice none 0 0)).setCell ⟨w.heap.size,6,none⟩ (.slice none 0 0))=wf at bS hK2 aX hk3 ⊢;obtain⟨q0,q1,q2,q3,q4,q5,q6⟩:=bS.seven;refine bodyPost_ret (v:=.tuple #[.agg #[.int .i64 0,.int .i64 0,.int .i64 0,.string ⟨#[]⟩,.slice none 0 0,.slice none 0 0,.slice none 0 0],.int .i64 er]) (by simp[results,results239,go_sem,q0,q1,q2,q3,q4,q5,q6]) rfl ?_;rw[HR.out];exact⟨hK2,her,_,_,_,_,_,_,_,_,_,_,_,_,_,_,rfl,aX⟩
 ·obtain⟨v1,nX,rfl,Lm,htx,hS1⟩:=hq;have hte:=pK _ _ _ _ _ _ Ex.out;obtain⟨Ph,aZ,-⟩:=Lm.out;obtain⟨a5,p5,rfl⟩:=aZ.form;obtain⟨KA,cX,-⟩:=hS1.blk;have GV:cV (BD (λb=>w.heap.size+1<=b) w1) (.slice a5 l.length p5) l:=Lm.mono (mC (λb _ hb=>by have:(w.alloc (.cells #[.int .i64 0,.int .i64 0,.int .i64 0,.string ⟨#[]⟩,.slice none 0 0,.slice none 0 0,.slice none 0 0] 241)).heap.size<=b:=hb;simpa using this));have PK:=az GV;have HS:=az hS1;clear aZ Lm GV hS1;have dz:_:=dz;rcases dz with⟨e,h1,_⟩|⟨a,t2,r2,h1,dz⟩
  ·cases h1
  injection h1 with h1;injection h1 with h2 h1;injection h1 with h3 h4;subst h2 h3 h4;rcases dz with⟨Ej,hn2,hre⟩|⟨rfl,hre⟩|⟨rfl,gm,hr2,dz⟩
  ·have HR:=az hre;obtain⟨T,hT⟩:∃T:Int,T=(cL t1:Int):=⟨_,rfl⟩;have b1:=pN hte hT (show(cL fL:Int)=26 by decide) Ej;have b2:=pN hte hT (show(cL di:Int)=27 by decide) hn2;rw[<-hT];clear hT hre hk1;obtain⟨y0,y1,y2,y3,y4,y5,y6⟩:=hZ.seven;obtain⟨z0,z1,z2,z3,z4,z5,z6⟩:=hZ.fk;go_wp2;have bS:=hZ.dL (.int .i64 0) (.int .i64 0) (.int .i64 0) (.string ⟨#[]⟩) (.slice none 0 0) (.slice none 0 0) (.slice none 0 0);have hK2:=hkp.dL (ah _) (.int .i64 0) (.int .i64 0) (.int .i64 0) (.string ⟨#[]⟩) (.slice none 0 0) (.slice none 0 0) (.slice none 0 0);have hk3:=Kp.nZ (w:=w1) w.heap.size (.int .i64 0) (.int .i64 0) (.int .i64 0) (.string ⟨#[]⟩) (.slice none 0 0) (.slice none 0 0) (.slice none 0 0);have aX:=cX.dM hcs (.int .i64 0) (.int .i64 0) (.int .i64 0) (.string ⟨#[]⟩) (.slice none 0 0) (.slice none 0 0) (.slice none 0 0);generalize (((((((w1.setCell ⟨w.heap.size,0,none⟩ (.int .i64 0)).setCell ⟨w.heap.size,1,none⟩ (.int .i64 0)).setCell ⟨w.heap.size,2,none⟩ (.int .i64 0)).setCell ⟨w.heap.size,3,none⟩ (.string ⟨#[]⟩)).setCell ⟨w.heap.size,4,none⟩ (.slice none 0 0)).setCell ⟨w.heap.size,5,none⟩ (.slice none 0 0)).setCell ⟨w.heap.size,6,none⟩ (.slice none 0 0))=wf at bS hK2 aX hk3 ⊢;obtain⟨q0,q1,q2,q3,q4,q5,q6⟩:=bS.seven;refine bodyPost_ret (v:=.tuple #[.agg #[.int .i64 0,.int .i64 0,.int .i64 0,.string ⟨#[]⟩,.slice none 0 0,.slice none 0 0,.slice none 0 0],.int .i64 4]) (by simp[results,results239,go_sem,q0,q1,q2,q3,q4,q5,q6]) rfl ?_;rw[HR.out];exact⟨hK2,by decide,_,_,_,_,_,_,_,_,_,_,_,_,_,_,rfl,aX⟩
  ·have HR:=az hre;rw[show(cL fL:Int)=26 by decide];clear hre hk1;obtain⟨y0,y1,y2,y3,y4,y5,y6⟩:=hZ.seven;obtain⟨z0,z1,z2,z3,z4,z5,z6⟩:=hZ.fk;go_wp2;have bS:=hZ.dL (.int .i64 4) (.int .i64 0) (.int .i64 0) (.string ⟨#[]⟩) (.slice none 0 0) (.slice a5 l.length p5) (.slice none 0 0);have hK2:=hkp.dL (ah _) (.int .i64 4) (.int .i64 0) (.int .i64 0) (.string ⟨#[]⟩) (.slice none 0 0) (.slice a5 l.length p5) (.slice none 0 0);have hk3:=Kp.nZ (w:=w1) w.heap.size (.int .i64 4) (.int .i64 0) (.int .i64 0) (.string ⟨#[]⟩) (.slice none 0 0) (.slice a5 l.length p5) (.slice none 0 0);have aX:=cX.dM hcs (.int .i64 4) (.int .i64 0) (.int .i64 0) (.string ⟨#[]⟩) (.slice none 0 0) (.slice a5 l.length p5) (.slice none 0 0);generalize (((((((w1.setCell ⟨w.heap.size,0,none⟩ (.int .i64 4)).setCell ⟨w.heap.size,1,none⟩ (.int .i64 0)).setCell ⟨w.heap.size,2,none⟩ (.int .i64 0)).setCell ⟨w.heap.size,3,none⟩ (.string ⟨#[]⟩)).setCell ⟨w.heap.size,4,none⟩ (.slice none 0 0)).setCell ⟨w.heap.size,5,none⟩ (.slice a5 l.length p5)).setCell ⟨w.heap.size,6,none⟩ (.slice none 0 0))=wf at bS hK2 aX hk3 ⊢;obtain⟨q0,q1,q2,q3,q4,q5,q6⟩:=bS.seven;refine bodyPost_ret (v:=.tuple #[.agg #[.int .i64 4,.int .i64 0,.int .i64 0,.string ⟨#[]⟩,.slice none 0 0,.slice a5 l.length p5,.slice none 0 0],.int .i64 0]) (by simp[results,results239,go_sem,q0,q1,q2,q3,q4,q5,q6]) rfl ?_;rw[HR.out];have hkb:=bU (D:=λb=>w.heap.size+1<=b) (D':=New w) hk3 (λb _ hb=>⟨by show w.heap.size<=b;omega,by show ¬b=w.heap.size;omega⟩);exact⟨hK2,_,_,_,_,_,_,_,nX,rfl,rfl,mI 117 _ _ _ _ (by simp) (PK.out.mono hkb) (cV.nil _),htx,HS.out.other hk3 hZ Bf⟩
  ·rw[show(cL di:Int)=27 by decide];have TU:=az (Gv g HQ.out _ sb bk mb aA nX lo gj 28 (by decide) (by decide) gm (by rw[htx];exact hr2) HS.out)
   go_wp2_with fail
   refine TU.out.mono ?_;rintro x w2 ⟨hk2,hq⟩;have TV:=hk2.blk hZ hcs.symm;have uv:=hkp.trans hk2;have hkk:=bU (D:=λb=>w.heap.size+1<=b) (D':=λb=>w.heap.size+1<=b) hk2 (λb _ hb=>⟨hb,by show ¬b=sb;omega⟩);have PL:=az (PK.out.mono hkk);clear hZ hkp PK HS TU hk1 cX hkk htx;have hZ:=TV;have hkp:=uv;clear TV uv;rcases gm with er|⟨l2,t2,r2⟩
   ·obtain⟨her,a6,m6,p6,KA,rfl,cX⟩:=hq;have HR:Hid (res=.error er):=by
     rcases dz with⟨e,h1,h2⟩|⟨_,_,_,h1,_⟩
     ·injection h1 with h1;unfold Hid;rw[h2,h1]
     ·cases h1
    clear dz hk2;obtain⟨y0,y1,y2,y3,y4,y5,y6⟩:=hZ.seven;obtain⟨z0,z1,z2,z3,z4,z5,z6⟩:=hZ.fk;go_wp2;have bS:=hZ.dL (.int .i64 5) (.int .i64 0) (.int .i64 0) (.string ⟨#[]⟩) (.slice none 0 0) (.slice a5 l.length p5) (.slice a6 m6 p6);have hK2:=hkp.dL (ah _) (.int .i64 5) (.int .i64 0) (.int .i64 0) (.string ⟨#[]⟩) (.slice none 0 0) (.slice a5 l.length p5) (.slice a6 m6 p6);have hk3:=Kp.nZ (w:=w2) w.heap.size (.int .i64 5) (.int .i64 0) (.int .i64 0) (.string ⟨#[]⟩) (.slice none 0 0) (.slice a5 l.length p5) (.slice a6 m6 p6);have aX:=cX.dM hcs (.int .i64 5) (.int .i64 0) (.int .i64 0) (.string ⟨#[]⟩) (.slice none 0 0) (.slice a5 l.length p5) (.slice a6 m6 p6);generalize (((((((w2.setCell ⟨w.heap.size,0,none⟩ (.int .i64 5)).setCell ⟨w.heap.size,1,none⟩ (.int .i64 0)).setCell ⟨w.heap.size,2,none⟩ (.int .i64 0)).setCell ⟨w.heap.size,3,none⟩ (.string ⟨#[]⟩)).setCell ⟨w.heap.size,4,none⟩ (.slice none 0 0)).setCell ⟨w.heap.size,5,none⟩ (.slice a5 l.length p5)).setCell ⟨w.heap.size,6,none⟩ (.slice a6 m6 p6))=wf at bS hK2 aX hk3 ⊢;obtain⟨q0,q1,q2,q3,q4,q5,q6⟩:=bS.seven;refine bodyPost_ret (v:=.tuple #[.agg #[.int .i64 5,.int .i64 0,.int .i64 0,.string ⟨#[]⟩,.slice none 0 0,.slice a5 l.length p5,.slice a6 m6 p6],.int .i64 er]) (by simp[results,results239,go_sem,q0,q1,q2,q3,q4,q5,q6]) rfl ?_;rw[HR.out];exact⟨hK2,her,_,_,_,_,_,_,_,_,_,_,_,_,_,_,rfl,aX⟩
   ·obtain⟨v2,kF,rfl,yq,htx,fM⟩:=hq;obtain⟨xs2,hrow2,-⟩:=yq.out;obtain⟨a6,p6,rfl⟩:=hrow2.form;obtain⟨KA,cX,-⟩:=fM.blk;have GW:cV (BD (λb=>w.heap.size+1<=b) w2) (.slice a6 l2.length p6) l2:=yq.mono (mC (λb _ hb=>by have:w1.heap.size<=b:=hb;show w.heap.size+1<=b;omega));have TT:=az GW;have HS:=az fM;clear hrow2 yq GW fM hr2;rcases dz with⟨e,h1,_⟩|⟨b,t3,r3,h1,hre⟩
    ·cases h1
    injection h1 with h1;injection h1 with h2 h1;injection h1 with h3 h4;subst h2 h3 h4;have HR:=az hre;clear hre hk2;obtain⟨y0,y1,y2,y3,y4,y5,y6⟩:=hZ.seven;obtain⟨z0,z1,z2,z3,z4,z5,z6⟩:=hZ.fk;go_wp2;have bS:=hZ.dL (.int .i64 5) (.int .i64 0) (.int .i64 0) (.string ⟨#[]⟩) (.slice none 0 0) (.slice a5 l.length p5) (.slice a6 l2.length p6);have hK2:=hkp.dL (ah _) (.int .i64 5) (.int .i64 0) (.int .i64 0) (.string ⟨#[]⟩) (.slice none 0 0) (.slice a5 l.length p5) (.slice a6 l2.length p6);have hk3:=Kp.nZ (w:=w2) w.heap.size (.int .i64 5) (.int .i64 0) (.int .i64 0) (.string ⟨#[]⟩) (.slice none 0 0) (.slice a5 l.length p5) (.slice a6 l2.length p6);have aX:=cX.dM hcs (.int .i64 5) (.int .i64 0) (.int .i64 0) (.string ⟨#[]⟩) (.slice none 0 0) (.slice a5 l.length p5) (.slice a6 l2.length p6);generalize (((((((w2.setCell ⟨w.heap.size,0,none⟩ (.int .i64 5)).setCell ⟨w.heap.size,1,none⟩ (.int .i64 0)).setCell ⟨w.heap.size,2,none⟩ (.int .i64 0)).setCell ⟨w.heap.size,3,none⟩ (.string ⟨#[]⟩)).setCell ⟨w.heap.size,4,none⟩ (.slice none 0 0)).setCell ⟨w.heap.size,5,none⟩ (.slice a5 l.length p5)).setCell ⟨w.heap.size,6,none⟩ (.slice a6 l2.length p6))=wf at bS hK2 aX hk3 ⊢;obtain⟨q0,q1,q2,q3,q4,q5,q6⟩:=bS.seven;refine bodyPost_ret (v:=.tuple #[.agg #[.int .i64 5,.int .i64 0,.int .i64 0,.string ⟨#[]⟩,.slice none 0 0,.slice a5 l.length p5,.slice a6 l2.length p6],.int .i64 0]) (by simp[results,results239,go_sem,q0,q1,q2,q3,q4,q5,q6]) rfl ?_;rw[HR.out];have hkb:=bU (D:=λb=>w.heap.size+1<=b) (D':=New w) hk3 (λb _ hb=>⟨by show w.heap.size<=b;omega,by show ¬b=w.heap.size;omega⟩);exact⟨hK2,_,_,_,_,_,_,_,kF,rfl,rfl,mI 119 _ _ _ _ (by simp) (PL.out.mono hkb) (TT.out.mono hkb),htx,HS.out.other hk3 hZ Bf⟩
def Y0 (w:World)(sb bk mb:Nat)(aA:Tok->Bool)(ws:List ByteArray)(lo:Nat)(v:Value)(wr:World):Prop:=
 ∃eZ dn,Kp w wr (λb=>b=sb)/\aC wr w.heap.size 241 ju/\bW wr sb bk mb aA eZ lo/\wr.ownsRow 0 9 1 v dn.length (dn.map Value.string)/\(∀b,own v b->w.heap.size+1<=b)/\dn.length+eZ.length<=1000/\(∀t∈dn,okW t) /\
  bh (aD ws)=fN (aD dn) (bh (aD eZ))
theorem BL {M:Mem}{P:Value->List It->Prop}(tv:Value)(dn:List ByteArray)(hr:lg M 9 tv (dn.map Value.string))(ho:∀t∈dn,okW t)(hl:dn.length<=1000)(hn:P (.slice none 0 0) []):wo M P ⟨123,0,[],[],[],aD dn⟩ 0 0 ⟨#[]⟩ tv (.slice none 0 0) (.slice none 0 0):=
 ⟨by simp,(λh=>by cases h),(λh=>by cases h),(λh=>by cases h),⟨dn,hr,λ_=>⟨rfl,ho,hl⟩⟩,hn,hn⟩
theorem zM {t:ByteArray}{i:Nat}{k:Tok}(hs:cG[i]? = some k)(hi:2<=i)(hn:¬t.data.toList=k):(fF t.data.toList==(i:Int))=false:=by
 rw[beq_eq_false_iff_ne];intro e;have:=j3 e hi;rw[hs] at this;exact hn (Option.some.inj this).symm
theorem Lp (w:World)(sb bk mb:Nat)(aA:Tok->Bool)(ws:List ByteArray)(lo:Nat)(h:bW w sb bk mb aA ws lo)(res:fh)(aG:res=match bh (aD ws) with
      | .error e=>.error e
      | .ok (ts,r1)=>.ok ([⟨123,0,[],[],[],ts⟩],[],r1)):
    Calls prog 241 #[pt sb] w λx w'=>Kp w w' (λb=>b=sb)/\rE w sb bk mb aA lo x w' res:=by
  obtain⟨rv,hB,hT⟩:=h.blk;have hsb:=hB.lt;have hcs:sb≠w.heap.size:=by omega
  have Bf:=h.sp.lt;obtain⟨i0,hi,hz0,hz1,hz2⟩:=info_parts Tryz.pL;have H0:Y0 w sb bk mb aA ws lo (.slice none 0 0) (w.alloc (.cells #[.int .i64 0,.int .i64 0,.int .i64 0,.string ⟨#[]⟩,.slice none 0 0,.slice none 0 0,.slice none 0 0] 241)):=
    ⟨ws,[],(Kp.refl _ _).alloc _,aC.new w _ _,h.kp ((Kp.refl _ _).alloc _),World.ownsRow_nil _ _ _ _,λb hb=>by simp[own,Value.ownBlock] at hb,by have:=h.len;simp;omega,by simp,(nj _).symm⟩
  have HH:=az H0;have sW:=az aG;clear H0 aG hT hB h;go_enter func241,ntmps241;go_wp2
  go_loopw [4] (λv wr=>Y0 w sb bk mb aA ws lo v wr) (λ_ wr=>ye wr sb)
  case atStart=>exact HH.out
  case round=>
    obtain⟨eZ,dn,hkp,hZ,hS,aJ,hnew,hdl,TW,hp⟩:=hrel;have oh:=hS.rest;obtain⟨rv,hB,hT⟩:=hS.blk;obtain⟨Kz,jd,rfl⟩:=hT.form;have c0:wr.cell? ⟨sb,0,none⟩=some (.slice Kz eZ.length jd):=hB.cell rfl;obtain⟨ao,cap,rfl⟩:=aB aJ;obtain⟨y0,y1,y2,y3,y4,y5,y6⟩:=aC.seven (show aC wr w.heap.size 241 #[.int .i64 0,.int .i64 0,.int .i64 0,.string ⟨#[]⟩,.slice none 0 0,.slice none 0 0,.slice none 0 0] from hZ);obtain⟨z0,z1,z2,z3,z4,z5,z6⟩:=hZ.fk
    cases eZ with
    | nil=>
      have HR:Hid (res=.error 4):=by unfold Hid;rw[sW.out,hp];rfl
      have cX:=hB;clear hp sW;go_wp2;have bS:=hZ.dL (.int .i64 0) (.int .i64 0) (.int .i64 0) (.string ⟨#[]⟩) (.slice none 0 0) (.slice none 0 0) (.slice none 0 0);have hK2:=hkp.dL (ah _) (.int .i64 0) (.int .i64 0) (.int .i64 0) (.string ⟨#[]⟩) (.slice none 0 0) (.slice none 0 0) (.slice none 0 0);have hk3:=Kp.nZ (w:=wr) w.heap.size (.int .i64 0) (.int .i64 0) (.int .i64 0) (.string ⟨#[]⟩) (.slice none 0 0) (.slice none 0 0) (.slice none 0 0);have aX:=cX.dM hcs (.int .i64 0) (.int .i64 0) (.int .i64 0) (.string ⟨#[]⟩) (.slice none 0 0) (.slice none 0 0) (.slice none 0 0);generalize (((((((wr.setCell ⟨w.heap.size,0,none⟩ (.int .i64 0)).setCell ⟨w.heap.size,1,none⟩ (.int .i64 0)).setCell ⟨w.heap.size,2,none⟩ (.int .i64 0)).setCell ⟨w.heap.size,3,none⟩ (.string ⟨#[]⟩)).setCell ⟨w.heap.size,4,none⟩ (.slice none 0 0)).setCell ⟨w.heap.size,5,none⟩ (.slice none 0 0)).setCell ⟨w.heap.size,6,none⟩ (.slice none 0 0))=wf at bS hK2 aX hk3 ⊢;obtain⟨q0,q1,q2,q3,q4,q5,q6⟩:=bS.seven;refine bodyPost_ret (v:=.tuple #[.agg #[.int .i64 0,.int .i64 0,.int .i64 0,.string ⟨#[]⟩,.slice none 0 0,.slice none 0 0,.slice none 0 0],.int .i64 4]) (by simp[results,results241,go_sem,q0,q1,q2,q3,q4,q5,q6]) rfl ?_;rw[HR.out];exact⟨hK2,by decide,_,_,_,_,_,_,_,_,_,_,_,_,_,_,rfl,aX⟩
    | cons t eZ=>
      simp only[aq] at c0 hdl oh;have hok:=hS.ok t (by simp);have HS:=az hS;have lU:=hZ;clear hS hT y0 y1 y2 y3 y4 y5 y6 z0 z1 z2 z3 z4 z5 z6
      go_wp2_with fail
      refine(N8 _ sb bk mb lo aA t eZ HS.out).mono ?_;rintro e w1 ⟨rfl,hk1,hS1⟩;have hsp:=hS1.sp;have hZ:=hk1.blk lU hcs.symm;have bg:=hkp.trans hk1;have hsz1:w.heap.size+1<=w1.heap.size:=hZ.lt;have aZ:=hk1.row aJ (λb hb e=>by subst e;exact aH aJ hB (by decide) hb);obtain⟨KA,cX,Ol⟩:=hS1.blk;obtain⟨y0,y1,y2,y3,y4,y5,y6⟩:=aC.seven (show aC w1 w.heap.size 241 #[.int .i64 0,.int .i64 0,.int .i64 0,.string ⟨#[]⟩,.slice none 0 0,.slice none 0 0,.slice none 0 0] from hZ);obtain⟨z0,z1,z2,z3,z4,z5,z6⟩:=hZ.fk
      go_wp2_with fail
      refine(zn _ _ hok hsp).mono ?_;rintro e w' ⟨rfl,hw⟩;rw[hw];clear hw;clear hkp lU aJ hB HS c0 hsp;have hkp:=bg;rw[show aD (t::eZ)=t.data.toList::aD eZ from rfl] at hp;by_cases hc:t.data.toList=dS
      · rw[hc,show fF dS=21 by decide]
        have HR:Hid (res=.ok ([⟨123,0,[],[],[],aD dn⟩],[],aD eZ)):=by
          unfold Hid;rw[sW.out,hp,hc];simp[bh,fN,show ¬dS=fu by decide]
        have SM:=az hS1;clear hp sW hk1 Ol hS1;go_wp2;have bS:=hZ.dL (.int .i64 10) (.int .i64 0) (.int .i64 0) (.string ⟨#[]⟩) (.slice ao dn.length cap) (.slice none 0 0) (.slice none 0 0);have hK2:=hkp.dL (ah _) (.int .i64 10) (.int .i64 0) (.int .i64 0) (.string ⟨#[]⟩) (.slice ao dn.length cap) (.slice none 0 0) (.slice none 0 0);have hk3:=Kp.nZ (w:=w1) w.heap.size (.int .i64 10) (.int .i64 0) (.int .i64 0) (.string ⟨#[]⟩) (.slice ao dn.length cap) (.slice none 0 0) (.slice none 0 0);have aX:=cX.dM hcs (.int .i64 10) (.int .i64 0) (.int .i64 0) (.string ⟨#[]⟩) (.slice ao dn.length cap) (.slice none 0 0) (.slice none 0 0);generalize (((((((w1.setCell ⟨w.heap.size,0,none⟩ (.int .i64 10)).setCell ⟨w.heap.size,1,none⟩ (.int .i64 0)).setCell ⟨w.heap.size,2,none⟩ (.int .i64 0)).setCell ⟨w.heap.size,3,none⟩ (.string ⟨#[]⟩)).setCell ⟨w.heap.size,4,none⟩ (.slice ao dn.length cap)).setCell ⟨w.heap.size,5,none⟩ (.slice none 0 0)).setCell ⟨w.heap.size,6,none⟩ (.slice none 0 0))=wf at bS hK2 aX hk3 ⊢;obtain⟨q0,q1,q2,q3,q4,q5,q6⟩:=bS.seven;refine bodyPost_ret (v:=.tuple #[.agg #[.int .i64 10,.int .i64 0,.int .i64 0,.string ⟨#[]⟩,.slice ao dn.length cap,.slice none 0 0,.slice none 0 0],.int .i64 0]) (by simp[results,results241,go_sem,q0,q1,q2,q3,q4,q5,q6]) rfl ?_;rw[HR.out];have hrow3:=hk3.row aZ (λb hb e=>by have:w.heap.size+1<=b:=hnew b hb;omega);exact⟨hK2,_,_,_,_,_,_,_,eZ,rfl,rfl,BL _ dn (lg.of (by simpa using hrow3) (λb hb=>by have:=hnew b hb;show w.heap.size<=b;omega)) TW (by omega) (cV.nil _),rfl,SM.out.other hk3 hZ Bf⟩
      · have q1:=zM (i:=21) (show cG[21]? = some dS by decide) (by decide) hc
        by_cases hop:t.data.toList=fu
        · rw[hop,show fF fu=20 by decide]
          have HR:Hid (res=.error 4):=by
            unfold Hid;rw[sW.out,hp,hop];simp[bh,fN]
          clear hp sW hk1 Ol hS1 q1;go_wp2;have bS:=hZ.dL (.int .i64 0) (.int .i64 0) (.int .i64 0) (.string ⟨#[]⟩) (.slice none 0 0) (.slice none 0 0) (.slice none 0 0);have hK2:=hkp.dL (ah _) (.int .i64 0) (.int .i64 0) (.int .i64 0) (.string ⟨#[]⟩) (.slice none 0 0) (.slice none 0 0) (.slice none 0 0);have hk3:=Kp.nZ (w:=w1) w.heap.size (.int .i64 0) (.int .i64 0) (.int .i64 0) (.string ⟨#[]⟩) (.slice none 0 0) (.slice none 0 0) (.slice none 0 0);have aX:=cX.dM hcs (.int .i64 0) (.int .i64 0) (.int .i64 0) (.string ⟨#[]⟩) (.slice none 0 0) (.slice none 0 0) (.slice none 0 0);generalize (((((((w1.setCell ⟨w.heap.size,0,none⟩ (.int .i64 0)).setCell ⟨w.heap.size,1,none⟩ (.int .i64 0)).setCell ⟨w.heap.size,2,none⟩ (.int .i64 0)).setCell ⟨w.heap.size,3,none⟩ (.string ⟨#[]⟩)).setCell ⟨w.heap.size,4,none⟩ (.slice none 0 0)).setCell ⟨w.heap.size,5,none⟩ (.slice none 0 0)).setCell ⟨w.heap.size,6,none⟩ (.slice none 0 0))=wf at bS hK2 aX hk3 ⊢;obtain⟨q0,q1,q2,q3,q4,q5,q6⟩:=bS.seven;refine bodyPost_ret (v:=.tuple #[.agg #[.int .i64 0,.int .i64 0,.int .i64 0,.string ⟨#[]⟩,.slice none 0 0,.slice none 0 0,.slice none 0 0],.int .i64 4]) (by simp[results,results241,go_sem,q0,q1,q2,q3,q4,q5,q6]) rfl ?_;rw[HR.out];exact⟨hK2,by decide,_,_,_,_,_,_,_,_,_,_,_,_,_,_,rfl,aX⟩
        · have q2:=zM (i:=20) (show cG[20]? = some fu by decide) (by decide) hop
          generalize fF t.data.toList=T at q1 q2 ⊢;have q1:(T==21)=false:=q1;have q2:(T==20)=false:=q2;have Gp:Hid (bh (aD ws)=fN (aD (dn++[t])) (bh (aD eZ))):=by
            unfold Hid;rw[hp];have:bh (t.data.toList::aD eZ)=fN [t.data.toList] (bh (aD eZ)):=by
              conv=>lhs;unfold bh
              rw[af hop,af hc];rcases bh (aD eZ) with e|⟨ts,r⟩ <;> rfl
            rw[this,nt];simp[aD]
          clear hp y0 y1 y2 y3 y4 y5 y6 z0 z1 z2 z3 z4 z5 z6 hc hop hk1
          go_wp2_with (first
            | (at_builtin;refine aP _ rfl _ _ 47 rfl 9 i0 (.string ByteArray.empty) 1 16 underlying47 hi hz0 hz1 hz2 rfl (by decide) _ _ _ rfl (aZ.alloc _) ⟨w1.heap.size,0,none⟩ 1 1 [.string t] rfl rfl ?c1 ?c2 ?c3 ?c4 ?_)
            | go_in)
          case c1=>intro j u hj;match j,hj with|0,hj=>simp at hj;subst hj;simp[Addr.add]
          case c2=>intro u hu;simp at hu;subst hu;rfl
          case c3=>unfold maxLen;omega
          case c4=>omega
          intro v' w2 hown' hgrow hnx;have hkg:Kp w1 w2 (λb=>own (.slice ao dn.length cap) b):=((Kp.refl w1 (λb=>own (.slice ao dn.length cap) b)).alloc _).grown hgrow (λb _ e=>e);have C0:∀b,b<=w.heap.size->¬own (.slice ao dn.length cap) b:=λb hb e=>by have:=hnew b e;omega
          have Ll:=hkg.blk hZ (C0 _ (ah _));have dR:Kp w w2 (λb=>b=sb):=(hkp.alloc _).grown hgrow (λb hb e=>by have:=hnew b e;omega);have aX:=hkg.blk cX (C0 sb (by omega));have hnew2:∀b,own v' b->w.heap.size+1<=b:=λb hb=>by
            rcases hnx b hb with h1|h1
            · exact hnew b h1
            · have:(w1.alloc (.cells #[.string t] 9)).heap.size=w1.heap.size+1:=by simp
              omega
          obtain⟨nn,DD,hm,hl⟩:=hS1.book.look;have fM:bW w2 sb bk mb aA eZ lo:=by
            refine⟨⟨KA,aX,cO (λb c hc=>⟨hc.1,hkg.blk hc.2 (C0 b (by have:b<sb:=hc.1;omega))⟩) Ol⟩,hS1.book.kp hkg (aH aZ hS1.book.blk (by decide)) (λe=>by obtain⟨c,hc⟩:=aV aZ e;exact dh hm hc rfl),hS1.len,hS1.ok,hS1.sp.kp hkg (C0 1 (by omega)),hS1.s1⟩
          have HN:Y0 w sb bk mb aA ws lo v' w2:=⟨eZ,dn++[t],dR,Ll,fM,by simpa using hown',hnew2,by simp;omega,by
            intro u hu;rcases List.mem_append.1 hu with h1|h1
            · exact TW u h1
            · rw[List.mem_singleton.1 h1];exact hok,Gp.out⟩
          have hm2:=fM.rest;clear hown' hgrow hnx aZ hkg C0 Ll dR aX hnew2 fM hm hl hS1 Ol hZ hkp bg;go_wp2
          go_roundw
          case rel=>exact HN
          case measure=>rw[oh,hm2];omega
end Go.Proofs.YteainaiebcphlaaGreatDoor
