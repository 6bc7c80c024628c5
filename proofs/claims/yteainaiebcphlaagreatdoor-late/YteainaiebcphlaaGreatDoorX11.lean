import Derived.Test.YteainaiebcphlaaGreatDoorX10
namespace Go.Proofs.YteainaiebcphlaaGreatDoor
set_option maxRecDepth 1000000
set_option maxHeartbeats 4000000
set_option linter.all false
section
open Go.RowKit
def BrQ (w:World) (sb bk mb:Nat) (known:Tok->Bool) (ws:List ByteArray) (lo:Nat) (v:Value) (wr:World):Prop:=
 ∃ ws' dn,Kp w wr (fun b=>b=sb)/\Blk wr w.heap.size 241 zIt7/\RdInv wr sb bk mb known ws' lo/\wr.ownsRow 0 9 1 v dn.length (dn.map Value.string)/\(∀ b,own v b->w.heap.size+1<=b)/\dn.length+ws'.length<=1000/\(∀ t∈dn,okW t) /\
  pBraces (texts ws)=consR (texts dn) (pBraces (texts ws'))
theorem itm_braces {M:Mem} {P:Value->List It->Prop} (tv:Value) (dn:List ByteArray) (hr:rowM M 9 tv (dn.map Value.string)) (ho:∀ t∈dn,okW t) (hl:dn.length<=1000) (hn:P (.slice none 0 0) []):PItm M P ⟨123,0,[],[],[],texts dn⟩ 0 0 ⟨#[]⟩ tv (.slice none 0 0) (.slice none 0 0):=
 ⟨by simp,(fun h=>by cases h),(fun h=>by cases h),(fun h=>by cases h),⟨dn,hr,fun _=>⟨rfl,ho,hl⟩⟩,hn,hn⟩
theorem kd_brace {t:ByteArray} {i:Nat} {k:Tok} (hs:spellL[i]? = some k) (hi:2<=i) (hn:¬ t.data.toList=k):(kdOf t.data.toList == (i:Int))=false:=by
 rw[beq_eq_false_iff_ne];intro e;have:=kdOf_at e hi;rw[hs] at this;exact hn (Option.some.inj this).symm
theorem bracesQ (w:World) (sb bk mb:Nat) (known:Tok->Bool) (ws:List ByteArray) (lo:Nat) (h:RdInv w sb bk mb known ws lo) (res:PRes) (hres:res=match pBraces (texts ws) with
      | .error e=>.error e
      | .ok (ts,r1)=>.ok ([⟨123,0,[],[],[],ts⟩],[],r1)):
    Calls Tryz.prog 241 #[pt sb] w fun x w'=>Kp w w' (fun b=>b=sb)/\QIt w sb bk mb known lo x w' res:=by
  obtain⟨rv,hB,hT⟩:=h.blk;have hsb:=hB.lt;have hcs:sb ≠ w.heap.size:=by omega
  have h1w:=h.sp.lt;obtain⟨i0,hi,hz0,hz1,hz2⟩:=info_parts Tryz.info9;have H0:BrQ w sb bk mb known ws lo (.slice none 0 0) (w.alloc (.cells #[.int .i64 0,.int .i64 0,.int .i64 0,.string ⟨#[]⟩,.slice none 0 0,.slice none 0 0,.slice none 0 0] 241)):=
    ⟨ws,[],(Kp.refl _ _).alloc _,Blk.new w _ _,h.kp ((Kp.refl _ _).alloc _),World.ownsRow_nil _ _ _ _,fun b hb=>by simp[own,Value.ownBlock] at hb,by have:=h.len;simp;omega,by simp,(consR_nil _).symm⟩
  have HH:=hide H0;have HRes:=hide hres;clear H0 hres hT hB h;go_enter Tryz.func241,Tryz.ntmps241;go_wp2
  go_loopw [4] (fun v wr=>BrQ w sb bk mb known ws lo v wr) (fun _ wr=>restOf wr sb)
  case atStart=>exact HH.out
  case round=>
    obtain⟨ws',dn,hkp,hZ,hS,hrow,hnew,hdl,hokd,hp⟩:=hrel;have hmeas:=hS.rest;obtain⟨rv,hB,hT⟩:=hS.blk;obtain⟨ao1,cap1,rfl⟩:=hT.form;have c0:wr.cell? ⟨sb,0,none⟩=some (.slice ao1 ws'.length cap1):=hB.cell rfl;obtain⟨ao,cap,rfl⟩:=row_slice hrow;obtain⟨y0,y1,y2,y3,y4,y5,y6⟩:=Blk.seven (show Blk wr w.heap.size 241 #[.int .i64 0,.int .i64 0,.int .i64 0,.string ⟨#[]⟩,.slice none 0 0,.slice none 0 0,.slice none 0 0] from hZ);obtain⟨z0,z1,z2,z3,z4,z5,z6⟩:=hZ.sevenF
    cases ws' with
    | nil=>
      have HR:Hid (res=.error 4):=by unfold Hid;rw[HRes.out,hp];rfl
      have hB1:=hB;clear hp HRes;go_wp2;have hC2:=hZ.set7 (.int .i64 0) (.int .i64 0) (.int .i64 0) (.string ⟨#[]⟩) (.slice none 0 0) (.slice none 0 0) (.slice none 0 0);have hK2:=hkp.set7 (Nat.le_refl _) (.int .i64 0) (.int .i64 0) (.int .i64 0) (.string ⟨#[]⟩) (.slice none 0 0) (.slice none 0 0) (.slice none 0 0);have hk3:=Kp.own7 (w:=wr) w.heap.size (.int .i64 0) (.int .i64 0) (.int .i64 0) (.string ⟨#[]⟩) (.slice none 0 0) (.slice none 0 0) (.slice none 0 0);have hB2:=hB1.other7 hcs (.int .i64 0) (.int .i64 0) (.int .i64 0) (.string ⟨#[]⟩) (.slice none 0 0) (.slice none 0 0) (.slice none 0 0);generalize (((((((wr.setCell ⟨w.heap.size,0,none⟩ (.int .i64 0)).setCell ⟨w.heap.size,1,none⟩ (.int .i64 0)).setCell ⟨w.heap.size,2,none⟩ (.int .i64 0)).setCell ⟨w.heap.size,3,none⟩ (.string ⟨#[]⟩)).setCell ⟨w.heap.size,4,none⟩ (.slice none 0 0)).setCell ⟨w.heap.size,5,none⟩ (.slice none 0 0)).setCell ⟨w.heap.size,6,none⟩ (.slice none 0 0))=wf at hC2 hK2 hB2 hk3 ⊢;obtain⟨q0,q1,q2,q3,q4,q5,q6⟩:=hC2.seven;refine bodyPost_ret (v:=.tuple #[.agg #[.int .i64 0,.int .i64 0,.int .i64 0,.string ⟨#[]⟩,.slice none 0 0,.slice none 0 0,.slice none 0 0],.int .i64 4]) (by simp[results,Tryz.results241,go_sem,q0,q1,q2,q3,q4,q5,q6]) rfl ?_;rw[HR.out];exact⟨hK2,by decide,_,_,_,_,_,_,_,_,_,_,_,_,_,_,rfl,hB2⟩
    | cons t ws'=>
      simp only[List.length_cons] at c0 hdl hmeas;have hok:=hS.ok t (by simp);have HS:=hide hS;have hZ0:=hZ;clear hS hT y0 y1 y2 y3 y4 y5 y6 z0 z1 z2 z3 z4 z5 z6
      go_wp2_with fail
      refine (nextM _ sb bk mb lo known t ws' HS.out).mono ?_;rintro e w1 ⟨rfl,hk1,hS1⟩;have hsp:=hS1.sp;have hZ:=hk1.blk hZ0 hcs.symm;have hkp1:=hkp.trans hk1;have hsz1:w.heap.size+1<=w1.heap.size:=hZ.lt;have hrow1:=hk1.row hrow (fun b hb e=>by subst e;exact own_ne hrow hB (by decide) hb);obtain⟨rv1,hB1,hT1⟩:=hS1.blk;obtain⟨y0,y1,y2,y3,y4,y5,y6⟩:=Blk.seven (show Blk w1 w.heap.size 241 #[.int .i64 0,.int .i64 0,.int .i64 0,.string ⟨#[]⟩,.slice none 0 0,.slice none 0 0,.slice none 0 0] from hZ);obtain⟨z0,z1,z2,z3,z4,z5,z6⟩:=hZ.sevenF
      go_wp2_with fail
      refine (kindQ _ _ hok hsp).mono ?_;rintro e w' ⟨rfl,hw⟩;rw[hw];clear hw;clear hkp hZ0 hrow hB HS c0 hsp;have hkp:=hkp1;rw[show texts (t :: ws')=t.data.toList :: texts ws' from rfl] at hp;by_cases hc:t.data.toList=kClose
      · rw[hc,show kdOf kClose=21 by decide]
        have HR:Hid (res=.ok ([⟨123,0,[],[],[],texts dn⟩],[],texts ws')):=by
          unfold Hid;rw[HRes.out,hp,hc];simp[pBraces,consR,show ¬ kClose=kOpen by decide]
        have HS1:=hide hS1;clear hp HRes hk1 hT1 hS1;go_wp2;have hC2:=hZ.set7 (.int .i64 10) (.int .i64 0) (.int .i64 0) (.string ⟨#[]⟩) (.slice ao dn.length cap) (.slice none 0 0) (.slice none 0 0);have hK2:=hkp.set7 (Nat.le_refl _) (.int .i64 10) (.int .i64 0) (.int .i64 0) (.string ⟨#[]⟩) (.slice ao dn.length cap) (.slice none 0 0) (.slice none 0 0);have hk3:=Kp.own7 (w:=w1) w.heap.size (.int .i64 10) (.int .i64 0) (.int .i64 0) (.string ⟨#[]⟩) (.slice ao dn.length cap) (.slice none 0 0) (.slice none 0 0);have hB2:=hB1.other7 hcs (.int .i64 10) (.int .i64 0) (.int .i64 0) (.string ⟨#[]⟩) (.slice ao dn.length cap) (.slice none 0 0) (.slice none 0 0);generalize (((((((w1.setCell ⟨w.heap.size,0,none⟩ (.int .i64 10)).setCell ⟨w.heap.size,1,none⟩ (.int .i64 0)).setCell ⟨w.heap.size,2,none⟩ (.int .i64 0)).setCell ⟨w.heap.size,3,none⟩ (.string ⟨#[]⟩)).setCell ⟨w.heap.size,4,none⟩ (.slice ao dn.length cap)).setCell ⟨w.heap.size,5,none⟩ (.slice none 0 0)).setCell ⟨w.heap.size,6,none⟩ (.slice none 0 0))=wf at hC2 hK2 hB2 hk3 ⊢;obtain⟨q0,q1,q2,q3,q4,q5,q6⟩:=hC2.seven;refine bodyPost_ret (v:=.tuple #[.agg #[.int .i64 10,.int .i64 0,.int .i64 0,.string ⟨#[]⟩,.slice ao dn.length cap,.slice none 0 0,.slice none 0 0],.int .i64 0]) (by simp[results,Tryz.results241,go_sem,q0,q1,q2,q3,q4,q5,q6]) rfl ?_;rw[HR.out];have hrow3:=hk3.row hrow1 (fun b hb e=>by have:w.heap.size+1<=b:=hnew b hb;omega);exact⟨hK2,_,_,_,_,_,_,_,ws',rfl,rfl,itm_braces _ dn (rowM.of (by simpa using hrow3) (fun b hb=>by have:=hnew b hb;show w.heap.size<=b;omega)) hokd (by omega) (Items.nil _),rfl,HS1.out.other hk3 hZ h1w⟩
      · have q1:=kd_brace (i:=21) (show spellL[21]? = some kClose by decide) (by decide) hc
        by_cases hop:t.data.toList=kOpen
        · rw[hop,show kdOf kOpen=20 by decide]
          have HR:Hid (res=.error 4):=by
            unfold Hid;rw[HRes.out,hp,hop];simp[pBraces,consR]
          clear hp HRes hk1 hT1 hS1 q1;go_wp2;have hC2:=hZ.set7 (.int .i64 0) (.int .i64 0) (.int .i64 0) (.string ⟨#[]⟩) (.slice none 0 0) (.slice none 0 0) (.slice none 0 0);have hK2:=hkp.set7 (Nat.le_refl _) (.int .i64 0) (.int .i64 0) (.int .i64 0) (.string ⟨#[]⟩) (.slice none 0 0) (.slice none 0 0) (.slice none 0 0);have hk3:=Kp.own7 (w:=w1) w.heap.size (.int .i64 0) (.int .i64 0) (.int .i64 0) (.string ⟨#[]⟩) (.slice none 0 0) (.slice none 0 0) (.slice none 0 0);have hB2:=hB1.other7 hcs (.int .i64 0) (.int .i64 0) (.int .i64 0) (.string ⟨#[]⟩) (.slice none 0 0) (.slice none 0 0) (.slice none 0 0);generalize (((((((w1.setCell ⟨w.heap.size,0,none⟩ (.int .i64 0)).setCell ⟨w.heap.size,1,none⟩ (.int .i64 0)).setCell ⟨w.heap.size,2,none⟩ (.int .i64 0)).setCell ⟨w.heap.size,3,none⟩ (.string ⟨#[]⟩)).setCell ⟨w.heap.size,4,none⟩ (.slice none 0 0)).setCell ⟨w.heap.size,5,none⟩ (.slice none 0 0)).setCell ⟨w.heap.size,6,none⟩ (.slice none 0 0))=wf at hC2 hK2 hB2 hk3 ⊢;obtain⟨q0,q1,q2,q3,q4,q5,q6⟩:=hC2.seven;refine bodyPost_ret (v:=.tuple #[.agg #[.int .i64 0,.int .i64 0,.int .i64 0,.string ⟨#[]⟩,.slice none 0 0,.slice none 0 0,.slice none 0 0],.int .i64 4]) (by simp[results,Tryz.results241,go_sem,q0,q1,q2,q3,q4,q5,q6]) rfl ?_;rw[HR.out];exact⟨hK2,by decide,_,_,_,_,_,_,_,_,_,_,_,_,_,_,rfl,hB2⟩
        · have q2:=kd_brace (i:=20) (show spellL[20]? = some kOpen by decide) (by decide) hop
          generalize kdOf t.data.toList=T at q1 q2 ⊢;have q1:(T == 21)=false:=q1;have q2:(T == 20)=false:=q2;have HP2:Hid (pBraces (texts ws)=consR (texts (dn ++ [t])) (pBraces (texts ws'))):=by
            unfold Hid;rw[hp];have:pBraces (t.data.toList :: texts ws')=consR [t.data.toList] (pBraces (texts ws')):=by
              conv=>lhs;unfold pBraces
              rw[if_neg hop,if_neg hc];rcases pBraces (texts ws') with e|⟨ts,r⟩ <;> rfl
            rw[this,consR_app];simp[texts]
          clear hp y0 y1 y2 y3 y4 y5 y6 z0 z1 z2 z3 z4 z5 z6 hc hop hk1
          go_wp2_with (first
            | (at_builtin;refine wpList_append_to _ rfl _ _ 47 rfl 9 i0 (.string ByteArray.empty) 1 16 Tryz.underlying47 hi hz0 hz1 hz2 rfl (by decide) _ _ _ rfl (hrow1.alloc _) ⟨w1.heap.size,0,none⟩ 1 1 [.string t] rfl rfl ?c1 ?c2 ?c3 ?c4 ?_)
            | go_in)
          case c1=>intro j u hj;match j,hj with|0,hj=>simp at hj;subst hj;simp[Addr.add]
          case c2=>intro u hu;simp at hu;subst hu;rfl
          case c3=>unfold maxLen;omega
          case c4=>omega
          intro v' w2 hown' hgrow hnx;have hkg:Kp w1 w2 (fun b=>own (.slice ao dn.length cap) b):=((Kp.refl w1 (fun b=>own (.slice ao dn.length cap) b)).alloc _).grown hgrow (fun b _ e=>e);have hnw:∀ b,b<=w.heap.size->¬ own (.slice ao dn.length cap) b:=fun b hb e=>by have:=hnew b e;omega
          have hZ2:=hkg.blk hZ (hnw _ (Nat.le_refl _));have hkp2:Kp w w2 (fun b=>b=sb):=(hkp.alloc _).grown hgrow (fun b hb e=>by have:=hnew b e;omega);have hB2:=hkg.blk hB1 (hnw sb (by omega));have hnew2:∀ b,own v' b->w.heap.size+1<=b:=fun b hb=>by
            rcases hnx b hb with h1|h1
            · exact hnew b h1
            · have:(w1.alloc (.cells #[.string t] 9)).heap.size=w1.heap.size+1:=by simp
              omega
          obtain⟨nn,DD,hm,hl⟩:=hS1.book.look;have hS2:RdInv w2 sb bk mb known ws' lo:=by
            refine⟨⟨rv1,hB2,TokAt_mono (fun b c hc=>⟨hc.1,hkg.blk hc.2 (hnw b (by have:b < sb:=hc.1;omega))⟩) hT1⟩,hS1.book.kp hkg (own_ne hrow1 hS1.book.blk (by decide)) (fun e=>by obtain⟨c,hc⟩:=row_blk hrow1 e;exact map_ne hm hc rfl),hS1.len,hS1.ok,hS1.sp.kp hkg (hnw 1 (by omega)),hS1.s1⟩
          have HN:BrQ w sb bk mb known ws lo v' w2:=⟨ws',dn ++ [t],hkp2,hZ2,hS2,by simpa using hown',hnew2,by simp;omega,by
            intro u hu;rcases List.mem_append.1 hu with h1|h1
            · exact hokd u h1
            · rw[List.mem_singleton.1 h1];exact hok,HP2.out⟩
          have hm2:=hS2.rest;clear hown' hgrow hnx hrow1 hkg hnw hZ2 hkp2 hB2 hnew2 hS2 hm hl hS1 hT1 hZ hkp hkp1;go_wp2
          go_roundw
          case rel=>exact HN
          case measure=>rw[hmeas,hm2];omega
end
section
open Go.RowKit
theorem bdQ_if (w:World) (sb bk mb:Nat) (known:Tok->Bool) (ws:List ByteArray) (lo:Nat) (res:PRes) (h:RdInv w sb bk mb known ws lo)
  (hc:∀ w,RdInv w sb bk mb known ws lo->Calls Tryz.prog 238 #[pt sb] w fun x w'=>Kp w w' (fun b=>b=sb)/\QIt w sb bk mb known lo x w' res):
  Calls Tryz.prog 218 #[pt sb,.int .i64 22] w fun x w'=>Kp w w' (fun b=>b=sb)/\QIt w sb bk mb known lo x w' res:=by
 obtain⟨rv,hB,hT⟩:=h.blk;have hsb:=hB.lt;have hcs:sb ≠ w.heap.size:=by omega
 have hka:=(Kp.refl w (fun _=>False)).alloc (.cells zIt7 241);have HC:=hide (hc _ (h.kp hka));have hZ0:=Blk.new w zIt7 241;clear hc hka;go_enter Tryz.func218,Tryz.ntmps218
 go_wp2_with fail
 refine HC.out.mono ?_;rintro x w2 ⟨hk2,hq⟩;have hZ:=hk2.blk hZ0 hcs.symm;have hkp:Kp w w2 (fun b=>b=sb):=((Kp.refl _ _).alloc _).trans hk2;have hsz2:w.heap.size+1<=w2.heap.size:=by have:=hk2.size;simpa using this
 obtain⟨y0,y1,y2,y3,y4,y5,y6⟩:=hZ.seven;obtain⟨z0,z1,z2,z3,z4,z5,z6⟩:=hZ.sevenF;rcases res with er|⟨xs,tt,r⟩
 ·obtain⟨her,k7,n7,pl7,nm,a1,m1,p1,a2,m2,p2,a3,m3,p3,rv2,rfl,hB1⟩:=hq;clear hk2 hZ0;go_wp2;have hC2:=hZ.set7 (.int .i64 k7) (.int .i64 n7) (.int .i64 pl7) (.string nm) (.slice a1 m1 p1) (.slice a2 m2 p2) (.slice a3 m3 p3);have hK2:=hkp.set7 (Nat.le_refl _) (.int .i64 k7) (.int .i64 n7) (.int .i64 pl7) (.string nm) (.slice a1 m1 p1) (.slice a2 m2 p2) (.slice a3 m3 p3);have hB2:=hB1.other7 hcs (.int .i64 k7) (.int .i64 n7) (.int .i64 pl7) (.string nm) (.slice a1 m1 p1) (.slice a2 m2 p2) (.slice a3 m3 p3);generalize (((((((w2.setCell ⟨w.heap.size,0,none⟩ (.int .i64 k7)).setCell ⟨w.heap.size,1,none⟩ (.int .i64 n7)).setCell ⟨w.heap.size,2,none⟩ (.int .i64 pl7)).setCell ⟨w.heap.size,3,none⟩ (.string nm)).setCell ⟨w.heap.size,4,none⟩ (.slice a1 m1 p1)).setCell ⟨w.heap.size,5,none⟩ (.slice a2 m2 p2)).setCell ⟨w.heap.size,6,none⟩ (.slice a3 m3 p3))=wf at hC2 hK2 hB2 ⊢;obtain⟨q0,q1,q2,q3,q4,q5,q6⟩:=hC2.seven;refine bodyPost_ret (v:=.tuple #[.agg #[.int .i64 k7,.int .i64 n7,.int .i64 pl7,.string nm,.slice a1 m1 p1,.slice a2 m2 p2,.slice a3 m3 p3],.int .i64 er]) (by simp[results,Tryz.results218,go_sem,q0,q1,q2,q3,q4,q5,q6]) rfl ?_;exact⟨hK2,her,_,_,_,_,_,_,_,_,_,_,_,_,_,_,rfl,hB2⟩
 ·obtain⟨x',n7,pl7,nm,tv,va,vb,ws2,rfl,rfl,hat,htx,hS2⟩:=hq;obtain⟨ws5,hr5,-⟩:=hat.toks;obtain⟨xs3,hr3,-⟩:=hat.a.out;obtain⟨xs4,hr4,-⟩:=hat.b.out;obtain⟨a3,p3,rfl⟩:=hr3.form;obtain⟨a4,p4,rfl⟩:=hr4.form;obtain⟨a5,p5,hv5⟩:=hr5.form;rw[List.length_map] at hv5;subst hv5;obtain⟨rv2,hB1,hT2⟩:=hS2.blk;have HAt:=hide hat;have HS2:=hide hS2;clear hk2 hZ0 hr3 hr4 hr5 hat hS2;go_wp2;have hk3:Kp w2 (((((((w2.setCell ⟨w.heap.size,0,none⟩ (.int .i64 (kindP x'.kind))).setCell ⟨w.heap.size,1,none⟩ (.int .i64 n7)).setCell ⟨w.heap.size,2,none⟩ (.int .i64 pl7)).setCell ⟨w.heap.size,3,none⟩ (.string nm)).setCell ⟨w.heap.size,4,none⟩ (.slice a5 ws5.length p5)).setCell ⟨w.heap.size,5,none⟩ (.slice a3 x'.a.length p3)).setCell ⟨w.heap.size,6,none⟩ (.slice a4 x'.b.length p4)) (fun b=>b=w.heap.size):=((((((((Kp.refl w2 (fun b=>b=w.heap.size)).set (a:=⟨w.heap.size,0,none⟩) (fun _=>rfl) _).set (a:=⟨w.heap.size,1,none⟩) (fun _=>rfl) _).set (a:=⟨w.heap.size,2,none⟩) (fun _=>rfl) _).set (a:=⟨w.heap.size,3,none⟩) (fun _=>rfl) _).set (a:=⟨w.heap.size,4,none⟩) (fun _=>rfl) _).set (a:=⟨w.heap.size,5,none⟩) (fun _=>rfl) _).set (a:=⟨w.heap.size,6,none⟩) (fun _=>rfl) _);have hC2:=hZ.set7 (.int .i64 (kindP x'.kind)) (.int .i64 n7) (.int .i64 pl7) (.string nm) (.slice a5 ws5.length p5) (.slice a3 x'.a.length p3) (.slice a4 x'.b.length p4);have hK2:=hkp.set7 (Nat.le_refl _) (.int .i64 (kindP x'.kind)) (.int .i64 n7) (.int .i64 pl7) (.string nm) (.slice a5 ws5.length p5) (.slice a3 x'.a.length p3) (.slice a4 x'.b.length p4);have hB2:=hB1.other7 hcs (.int .i64 (kindP x'.kind)) (.int .i64 n7) (.int .i64 pl7) (.string nm) (.slice a5 ws5.length p5) (.slice a3 x'.a.length p3) (.slice a4 x'.b.length p4);generalize (((((((w2.setCell ⟨w.heap.size,0,none⟩ (.int .i64 (kindP x'.kind))).setCell ⟨w.heap.size,1,none⟩ (.int .i64 n7)).setCell ⟨w.heap.size,2,none⟩ (.int .i64 pl7)).setCell ⟨w.heap.size,3,none⟩ (.string nm)).setCell ⟨w.heap.size,4,none⟩ (.slice a5 ws5.length p5)).setCell ⟨w.heap.size,5,none⟩ (.slice a3 x'.a.length p3)).setCell ⟨w.heap.size,6,none⟩ (.slice a4 x'.b.length p4))=wf at hC2 hK2 hB2 hk3 ⊢;obtain⟨q0,q1,q2,q3,q4,q5,q6⟩:=hC2.seven;refine bodyPost_ret (v:=.tuple #[.agg #[.int .i64 (kindP x'.kind),.int .i64 n7,.int .i64 pl7,.string nm,.slice a5 ws5.length p5,.slice a3 x'.a.length p3,.slice a4 x'.b.length p4],.int .i64 0]) (by simp[results,Tryz.results218,go_sem,q0,q1,q2,q3,q4,q5,q6]) rfl ?_;have hkc:=BD_keep (D:=New (w.alloc (.cells zIt7 241))) (D':=New w) hk3 (fun b _ hb=>by
   have hb:w.heap.size+1<=b:=by have:(w.alloc (.cells zIt7 241)).heap.size<=b:=hb;simpa using this
   exact⟨by show w.heap.size<=b;omega,by show ¬ b=w.heap.size;omega⟩)
  refine⟨hK2,x',n7,pl7,nm,_,_,_,ws2,rfl,rfl,HAt.out.mono hkc (fun _ _ h=>h.mono hkc),htx,?_⟩;have h2:=HS2.out;obtain⟨nn,DD,hm,hl⟩:=h2.book.look;have hne:∀ b t c,Blk w2 b t c->t ≠ 241->¬ b=w.heap.size:=fun b t c hb ht e=>by subst e;exact ht (hb.inj hZ).1
  have h1w:=h.sp.lt;exact⟨⟨rv2,hB2,TokAt_mono (fun b c hc=>⟨hc.1,hk3.blk hc.2 (hne b 9 c hc.2 (by decide))⟩) hT2⟩,h2.book.kp hk3 (hne bk _ _ h2.book.blk (by decide)) (fun e=>map_ne hm hZ e),h2.len,h2.ok,h2.sp.kp hk3 (by show ¬ (1:Nat)=w.heap.size;omega),h2.s1⟩
theorem bdQ_begin (w:World) (sb bk mb:Nat) (known:Tok->Bool) (ws:List ByteArray) (lo:Nat) (res:PRes) (h:RdInv w sb bk mb known ws lo)
  (hc:∀ w,RdInv w sb bk mb known ws lo->Calls Tryz.prog 239 #[pt sb] w fun x w'=>Kp w w' (fun b=>b=sb)/\QIt w sb bk mb known lo x w' res):
  Calls Tryz.prog 218 #[pt sb,.int .i64 25] w fun x w'=>Kp w w' (fun b=>b=sb)/\QIt w sb bk mb known lo x w' res:=by
 obtain⟨rv,hB,hT⟩:=h.blk;have hsb:=hB.lt;have hcs:sb ≠ w.heap.size:=by omega
 have hka:=(Kp.refl w (fun _=>False)).alloc (.cells zIt7 241);have HC:=hide (hc _ (h.kp hka));have hZ0:=Blk.new w zIt7 241;clear hc hka;go_enter Tryz.func218,Tryz.ntmps218
 go_wp2_with fail
 refine HC.out.mono ?_;rintro x w2 ⟨hk2,hq⟩;have hZ:=hk2.blk hZ0 hcs.symm;have hkp:Kp w w2 (fun b=>b=sb):=((Kp.refl _ _).alloc _).trans hk2;have hsz2:w.heap.size+1<=w2.heap.size:=by have:=hk2.size;simpa using this
 obtain⟨y0,y1,y2,y3,y4,y5,y6⟩:=hZ.seven;obtain⟨z0,z1,z2,z3,z4,z5,z6⟩:=hZ.sevenF;rcases res with er|⟨xs,tt,r⟩
 ·obtain⟨her,k7,n7,pl7,nm,a1,m1,p1,a2,m2,p2,a3,m3,p3,rv2,rfl,hB1⟩:=hq;clear hk2 hZ0;go_wp2;have hC2:=hZ.set7 (.int .i64 k7) (.int .i64 n7) (.int .i64 pl7) (.string nm) (.slice a1 m1 p1) (.slice a2 m2 p2) (.slice a3 m3 p3);have hK2:=hkp.set7 (Nat.le_refl _) (.int .i64 k7) (.int .i64 n7) (.int .i64 pl7) (.string nm) (.slice a1 m1 p1) (.slice a2 m2 p2) (.slice a3 m3 p3);have hB2:=hB1.other7 hcs (.int .i64 k7) (.int .i64 n7) (.int .i64 pl7) (.string nm) (.slice a1 m1 p1) (.slice a2 m2 p2) (.slice a3 m3 p3);generalize (((((((w2.setCell ⟨w.heap.size,0,none⟩ (.int .i64 k7)).setCell ⟨w.heap.size,1,none⟩ (.int .i64 n7)).setCell ⟨w.heap.size,2,none⟩ (.int .i64 pl7)).setCell ⟨w.heap.size,3,none⟩ (.string nm)).setCell ⟨w.heap.size,4,none⟩ (.slice a1 m1 p1)).setCell ⟨w.heap.size,5,none⟩ (.slice a2 m2 p2)).setCell ⟨w.heap.size,6,none⟩ (.slice a3 m3 p3))=wf at hC2 hK2 hB2 ⊢;obtain⟨q0,q1,q2,q3,q4,q5,q6⟩:=hC2.seven;refine bodyPost_ret (v:=.tuple #[.agg #[.int .i64 k7,.int .i64 n7,.int .i64 pl7,.string nm,.slice a1 m1 p1,.slice a2 m2 p2,.slice a3 m3 p3],.int .i64 er]) (by simp[results,Tryz.results218,go_sem,q0,q1,q2,q3,q4,q5,q6]) rfl ?_;exact⟨hK2,her,_,_,_,_,_,_,_,_,_,_,_,_,_,_,rfl,hB2⟩
 ·obtain⟨x',n7,pl7,nm,tv,va,vb,ws2,rfl,rfl,hat,htx,hS2⟩:=hq;obtain⟨ws5,hr5,-⟩:=hat.toks;obtain⟨xs3,hr3,-⟩:=hat.a.out;obtain⟨xs4,hr4,-⟩:=hat.b.out;obtain⟨a3,p3,rfl⟩:=hr3.form;obtain⟨a4,p4,rfl⟩:=hr4.form;obtain⟨a5,p5,hv5⟩:=hr5.form;rw[List.length_map] at hv5;subst hv5;obtain⟨rv2,hB1,hT2⟩:=hS2.blk;have HAt:=hide hat;have HS2:=hide hS2;clear hk2 hZ0 hr3 hr4 hr5 hat hS2;go_wp2;have hk3:Kp w2 (((((((w2.setCell ⟨w.heap.size,0,none⟩ (.int .i64 (kindP x'.kind))).setCell ⟨w.heap.size,1,none⟩ (.int .i64 n7)).setCell ⟨w.heap.size,2,none⟩ (.int .i64 pl7)).setCell ⟨w.heap.size,3,none⟩ (.string nm)).setCell ⟨w.heap.size,4,none⟩ (.slice a5 ws5.length p5)).setCell ⟨w.heap.size,5,none⟩ (.slice a3 x'.a.length p3)).setCell ⟨w.heap.size,6,none⟩ (.slice a4 x'.b.length p4)) (fun b=>b=w.heap.size):=((((((((Kp.refl w2 (fun b=>b=w.heap.size)).set (a:=⟨w.heap.size,0,none⟩) (fun _=>rfl) _).set (a:=⟨w.heap.size,1,none⟩) (fun _=>rfl) _).set (a:=⟨w.heap.size,2,none⟩) (fun _=>rfl) _).set (a:=⟨w.heap.size,3,none⟩) (fun _=>rfl) _).set (a:=⟨w.heap.size,4,none⟩) (fun _=>rfl) _).set (a:=⟨w.heap.size,5,none⟩) (fun _=>rfl) _).set (a:=⟨w.heap.size,6,none⟩) (fun _=>rfl) _);have hC2:=hZ.set7 (.int .i64 (kindP x'.kind)) (.int .i64 n7) (.int .i64 pl7) (.string nm) (.slice a5 ws5.length p5) (.slice a3 x'.a.length p3) (.slice a4 x'.b.length p4);have hK2:=hkp.set7 (Nat.le_refl _) (.int .i64 (kindP x'.kind)) (.int .i64 n7) (.int .i64 pl7) (.string nm) (.slice a5 ws5.length p5) (.slice a3 x'.a.length p3) (.slice a4 x'.b.length p4);have hB2:=hB1.other7 hcs (.int .i64 (kindP x'.kind)) (.int .i64 n7) (.int .i64 pl7) (.string nm) (.slice a5 ws5.length p5) (.slice a3 x'.a.length p3) (.slice a4 x'.b.length p4);generalize (((((((w2.setCell ⟨w.heap.size,0,none⟩ (.int .i64 (kindP x'.kind))).setCell ⟨w.heap.size,1,none⟩ (.int .i64 n7)).setCell ⟨w.heap.size,2,none⟩ (.int .i64 pl7)).setCell ⟨w.heap.size,3,none⟩ (.string nm)).setCell ⟨w.heap.size,4,none⟩ (.slice a5 ws5.length p5)).setCell ⟨w.heap.size,5,none⟩ (.slice a3 x'.a.length p3)).setCell ⟨w.heap.size,6,none⟩ (.slice a4 x'.b.length p4))=wf at hC2 hK2 hB2 hk3 ⊢;obtain⟨q0,q1,q2,q3,q4,q5,q6⟩:=hC2.seven;refine bodyPost_ret (v:=.tuple #[.agg #[.int .i64 (kindP x'.kind),.int .i64 n7,.int .i64 pl7,.string nm,.slice a5 ws5.length p5,.slice a3 x'.a.length p3,.slice a4 x'.b.length p4],.int .i64 0]) (by simp[results,Tryz.results218,go_sem,q0,q1,q2,q3,q4,q5,q6]) rfl ?_;have hkc:=BD_keep (D:=New (w.alloc (.cells zIt7 241))) (D':=New w) hk3 (fun b _ hb=>by
   have hb:w.heap.size+1<=b:=by have:(w.alloc (.cells zIt7 241)).heap.size<=b:=hb;simpa using this
   exact⟨by show w.heap.size<=b;omega,by show ¬ b=w.heap.size;omega⟩)
  refine⟨hK2,x',n7,pl7,nm,_,_,_,ws2,rfl,rfl,HAt.out.mono hkc (fun _ _ h=>h.mono hkc),htx,?_⟩;have h2:=HS2.out;obtain⟨nn,DD,hm,hl⟩:=h2.book.look;have hne:∀ b t c,Blk w2 b t c->t ≠ 241->¬ b=w.heap.size:=fun b t c hb ht e=>by subst e;exact ht (hb.inj hZ).1
  have h1w:=h.sp.lt;exact⟨⟨rv2,hB2,TokAt_mono (fun b c hc=>⟨hc.1,hk3.blk hc.2 (hne b 9 c hc.2 (by decide))⟩) hT2⟩,h2.book.kp hk3 (hne bk _ _ h2.book.blk (by decide)) (fun e=>map_ne hm hZ e),h2.len,h2.ok,h2.sp.kp hk3 (by show ¬ (1:Nat)=w.heap.size;omega),h2.s1⟩
theorem bdQ_do (w:World) (sb bk mb:Nat) (known:Tok->Bool) (ws:List ByteArray) (lo:Nat) (res:PRes) (h:RdInv w sb bk mb known ws lo)
  (hc:∀ w,RdInv w sb bk mb known ws lo->Calls Tryz.prog 240 #[pt sb] w fun x w'=>Kp w w' (fun b=>b=sb)/\QIt w sb bk mb known lo x w' res):
  Calls Tryz.prog 218 #[pt sb,.int .i64 29] w fun x w'=>Kp w w' (fun b=>b=sb)/\QIt w sb bk mb known lo x w' res:=by
 obtain⟨rv,hB,hT⟩:=h.blk;have hsb:=hB.lt;have hcs:sb ≠ w.heap.size:=by omega
 have hka:=(Kp.refl w (fun _=>False)).alloc (.cells zIt7 241);have HC:=hide (hc _ (h.kp hka));have hZ0:=Blk.new w zIt7 241;clear hc hka;go_enter Tryz.func218,Tryz.ntmps218
 go_wp2_with fail
 refine HC.out.mono ?_;rintro x w2 ⟨hk2,hq⟩;have hZ:=hk2.blk hZ0 hcs.symm;have hkp:Kp w w2 (fun b=>b=sb):=((Kp.refl _ _).alloc _).trans hk2;have hsz2:w.heap.size+1<=w2.heap.size:=by have:=hk2.size;simpa using this
 obtain⟨y0,y1,y2,y3,y4,y5,y6⟩:=hZ.seven;obtain⟨z0,z1,z2,z3,z4,z5,z6⟩:=hZ.sevenF;rcases res with er|⟨xs,tt,r⟩
 ·obtain⟨her,k7,n7,pl7,nm,a1,m1,p1,a2,m2,p2,a3,m3,p3,rv2,rfl,hB1⟩:=hq;clear hk2 hZ0;go_wp2;have hC2:=hZ.set7 (.int .i64 k7) (.int .i64 n7) (.int .i64 pl7) (.string nm) (.slice a1 m1 p1) (.slice a2 m2 p2) (.slice a3 m3 p3);have hK2:=hkp.set7 (Nat.le_refl _) (.int .i64 k7) (.int .i64 n7) (.int .i64 pl7) (.string nm) (.slice a1 m1 p1) (.slice a2 m2 p2) (.slice a3 m3 p3);have hB2:=hB1.other7 hcs (.int .i64 k7) (.int .i64 n7) (.int .i64 pl7) (.string nm) (.slice a1 m1 p1) (.slice a2 m2 p2) (.slice a3 m3 p3);generalize (((((((w2.setCell ⟨w.heap.size,0,none⟩ (.int .i64 k7)).setCell ⟨w.heap.size,1,none⟩ (.int .i64 n7)).setCell ⟨w.heap.size,2,none⟩ (.int .i64 pl7)).setCell ⟨w.heap.size,3,none⟩ (.string nm)).setCell ⟨w.heap.size,4,none⟩ (.slice a1 m1 p1)).setCell ⟨w.heap.size,5,none⟩ (.slice a2 m2 p2)).setCell ⟨w.heap.size,6,none⟩ (.slice a3 m3 p3))=wf at hC2 hK2 hB2 ⊢;obtain⟨q0,q1,q2,q3,q4,q5,q6⟩:=hC2.seven;refine bodyPost_ret (v:=.tuple #[.agg #[.int .i64 k7,.int .i64 n7,.int .i64 pl7,.string nm,.slice a1 m1 p1,.slice a2 m2 p2,.slice a3 m3 p3],.int .i64 er]) (by simp[results,Tryz.results218,go_sem,q0,q1,q2,q3,q4,q5,q6]) rfl ?_;exact⟨hK2,her,_,_,_,_,_,_,_,_,_,_,_,_,_,_,rfl,hB2⟩
 ·obtain⟨x',n7,pl7,nm,tv,va,vb,ws2,rfl,rfl,hat,htx,hS2⟩:=hq;obtain⟨ws5,hr5,-⟩:=hat.toks;obtain⟨xs3,hr3,-⟩:=hat.a.out;obtain⟨xs4,hr4,-⟩:=hat.b.out;obtain⟨a3,p3,rfl⟩:=hr3.form;obtain⟨a4,p4,rfl⟩:=hr4.form;obtain⟨a5,p5,hv5⟩:=hr5.form;rw[List.length_map] at hv5;subst hv5;obtain⟨rv2,hB1,hT2⟩:=hS2.blk;have HAt:=hide hat;have HS2:=hide hS2;clear hk2 hZ0 hr3 hr4 hr5 hat hS2;go_wp2;have hk3:Kp w2 (((((((w2.setCell ⟨w.heap.size,0,none⟩ (.int .i64 (kindP x'.kind))).setCell ⟨w.heap.size,1,none⟩ (.int .i64 n7)).setCell ⟨w.heap.size,2,none⟩ (.int .i64 pl7)).setCell ⟨w.heap.size,3,none⟩ (.string nm)).setCell ⟨w.heap.size,4,none⟩ (.slice a5 ws5.length p5)).setCell ⟨w.heap.size,5,none⟩ (.slice a3 x'.a.length p3)).setCell ⟨w.heap.size,6,none⟩ (.slice a4 x'.b.length p4)) (fun b=>b=w.heap.size):=((((((((Kp.refl w2 (fun b=>b=w.heap.size)).set (a:=⟨w.heap.size,0,none⟩) (fun _=>rfl) _).set (a:=⟨w.heap.size,1,none⟩) (fun _=>rfl) _).set (a:=⟨w.heap.size,2,none⟩) (fun _=>rfl) _).set (a:=⟨w.heap.size,3,none⟩) (fun _=>rfl) _).set (a:=⟨w.heap.size,4,none⟩) (fun _=>rfl) _).set (a:=⟨w.heap.size,5,none⟩) (fun _=>rfl) _).set (a:=⟨w.heap.size,6,none⟩) (fun _=>rfl) _);have hC2:=hZ.set7 (.int .i64 (kindP x'.kind)) (.int .i64 n7) (.int .i64 pl7) (.string nm) (.slice a5 ws5.length p5) (.slice a3 x'.a.length p3) (.slice a4 x'.b.length p4);have hK2:=hkp.set7 (Nat.le_refl _) (.int .i64 (kindP x'.kind)) (.int .i64 n7) (.int .i64 pl7) (.string nm) (.slice a5 ws5.length p5) (.slice a3 x'.a.length p3) (.slice a4 x'.b.length p4);have hB2:=hB1.other7 hcs (.int .i64 (kindP x'.kind)) (.int .i64 n7) (.int .i64 pl7) (.string nm) (.slice a5 ws5.length p5) (.slice a3 x'.a.length p3) (.slice a4 x'.b.length p4);generalize (((((((w2.setCell ⟨w.heap.size,0,none⟩ (.int .i64 (kindP x'.kind))).setCell ⟨w.heap.size,1,none⟩ (.int .i64 n7)).setCell ⟨w.heap.size,2,none⟩ (.int .i64 pl7)).setCell ⟨w.heap.size,3,none⟩ (.string nm)).setCell ⟨w.heap.size,4,none⟩ (.slice a5 ws5.length p5)).setCell ⟨w.heap.size,5,none⟩ (.slice a3 x'.a.length p3)).setCell ⟨w.heap.size,6,none⟩ (.slice a4 x'.b.length p4))=wf at hC2 hK2 hB2 hk3 ⊢;obtain⟨q0,q1,q2,q3,q4,q5,q6⟩:=hC2.seven;refine bodyPost_ret (v:=.tuple #[.agg #[.int .i64 (kindP x'.kind),.int .i64 n7,.int .i64 pl7,.string nm,.slice a5 ws5.length p5,.slice a3 x'.a.length p3,.slice a4 x'.b.length p4],.int .i64 0]) (by simp[results,Tryz.results218,go_sem,q0,q1,q2,q3,q4,q5,q6]) rfl ?_;have hkc:=BD_keep (D:=New (w.alloc (.cells zIt7 241))) (D':=New w) hk3 (fun b _ hb=>by
   have hb:w.heap.size+1<=b:=by have:(w.alloc (.cells zIt7 241)).heap.size<=b:=hb;simpa using this
   exact⟨by show w.heap.size<=b;omega,by show ¬ b=w.heap.size;omega⟩)
  refine⟨hK2,x',n7,pl7,nm,_,_,_,ws2,rfl,rfl,HAt.out.mono hkc (fun _ _ h=>h.mono hkc),htx,?_⟩;have h2:=HS2.out;obtain⟨nn,DD,hm,hl⟩:=h2.book.look;have hne:∀ b t c,Blk w2 b t c->t ≠ 241->¬ b=w.heap.size:=fun b t c hb ht e=>by subst e;exact ht (hb.inj hZ).1
  have h1w:=h.sp.lt;exact⟨⟨rv2,hB2,TokAt_mono (fun b c hc=>⟨hc.1,hk3.blk hc.2 (hne b 9 c hc.2 (by decide))⟩) hT2⟩,h2.book.kp hk3 (hne bk _ _ h2.book.blk (by decide)) (fun e=>map_ne hm hZ e),h2.len,h2.ok,h2.sp.kp hk3 (by show ¬ (1:Nat)=w.heap.size;omega),h2.s1⟩
theorem bdQ_open (w:World) (sb bk mb:Nat) (known:Tok->Bool) (ws:List ByteArray) (lo:Nat) (res:PRes) (h:RdInv w sb bk mb known ws lo)
  (hc:∀ w,RdInv w sb bk mb known ws lo->Calls Tryz.prog 241 #[pt sb] w fun x w'=>Kp w w' (fun b=>b=sb)/\QIt w sb bk mb known lo x w' res):
  Calls Tryz.prog 218 #[pt sb,.int .i64 20] w fun x w'=>Kp w w' (fun b=>b=sb)/\QIt w sb bk mb known lo x w' res:=by
 obtain⟨rv,hB,hT⟩:=h.blk;have hsb:=hB.lt;have hcs:sb ≠ w.heap.size:=by omega
 have hka:=(Kp.refl w (fun _=>False)).alloc (.cells zIt7 241);have HC:=hide (hc _ (h.kp hka));have hZ0:=Blk.new w zIt7 241;clear hc hka;go_enter Tryz.func218,Tryz.ntmps218
 go_wp2_with fail
 refine HC.out.mono ?_;rintro x w2 ⟨hk2,hq⟩;have hZ:=hk2.blk hZ0 hcs.symm;have hkp:Kp w w2 (fun b=>b=sb):=((Kp.refl _ _).alloc _).trans hk2;have hsz2:w.heap.size+1<=w2.heap.size:=by have:=hk2.size;simpa using this
 obtain⟨y0,y1,y2,y3,y4,y5,y6⟩:=hZ.seven;obtain⟨z0,z1,z2,z3,z4,z5,z6⟩:=hZ.sevenF;rcases res with er|⟨xs,tt,r⟩
 ·obtain⟨her,k7,n7,pl7,nm,a1,m1,p1,a2,m2,p2,a3,m3,p3,rv2,rfl,hB1⟩:=hq;clear hk2 hZ0;go_wp2;have hC2:=hZ.set7 (.int .i64 k7) (.int .i64 n7) (.int .i64 pl7) (.string nm) (.slice a1 m1 p1) (.slice a2 m2 p2) (.slice a3 m3 p3);have hK2:=hkp.set7 (Nat.le_refl _) (.int .i64 k7) (.int .i64 n7) (.int .i64 pl7) (.string nm) (.slice a1 m1 p1) (.slice a2 m2 p2) (.slice a3 m3 p3);have hB2:=hB1.other7 hcs (.int .i64 k7) (.int .i64 n7) (.int .i64 pl7) (.string nm) (.slice a1 m1 p1) (.slice a2 m2 p2) (.slice a3 m3 p3);generalize (((((((w2.setCell ⟨w.heap.size,0,none⟩ (.int .i64 k7)).setCell ⟨w.heap.size,1,none⟩ (.int .i64 n7)).setCell ⟨w.heap.size,2,none⟩ (.int .i64 pl7)).setCell ⟨w.heap.size,3,none⟩ (.string nm)).setCell ⟨w.heap.size,4,none⟩ (.slice a1 m1 p1)).setCell ⟨w.heap.size,5,none⟩ (.slice a2 m2 p2)).setCell ⟨w.heap.size,6,none⟩ (.slice a3 m3 p3))=wf at hC2 hK2 hB2 ⊢;obtain⟨q0,q1,q2,q3,q4,q5,q6⟩:=hC2.seven;refine bodyPost_ret (v:=.tuple #[.agg #[.int .i64 k7,.int .i64 n7,.int .i64 pl7,.string nm,.slice a1 m1 p1,.slice a2 m2 p2,.slice a3 m3 p3],.int .i64 er]) (by simp[results,Tryz.results218,go_sem,q0,q1,q2,q3,q4,q5,q6]) rfl ?_;exact⟨hK2,her,_,_,_,_,_,_,_,_,_,_,_,_,_,_,rfl,hB2⟩
 ·obtain⟨x',n7,pl7,nm,tv,va,vb,ws2,rfl,rfl,hat,htx,hS2⟩:=hq;obtain⟨ws5,hr5,-⟩:=hat.toks;obtain⟨xs3,hr3,-⟩:=hat.a.out;obtain⟨xs4,hr4,-⟩:=hat.b.out;obtain⟨a3,p3,rfl⟩:=hr3.form;obtain⟨a4,p4,rfl⟩:=hr4.form;obtain⟨a5,p5,hv5⟩:=hr5.form;rw[List.length_map] at hv5;subst hv5;obtain⟨rv2,hB1,hT2⟩:=hS2.blk;have HAt:=hide hat;have HS2:=hide hS2;clear hk2 hZ0 hr3 hr4 hr5 hat hS2;go_wp2;have hk3:Kp w2 (((((((w2.setCell ⟨w.heap.size,0,none⟩ (.int .i64 (kindP x'.kind))).setCell ⟨w.heap.size,1,none⟩ (.int .i64 n7)).setCell ⟨w.heap.size,2,none⟩ (.int .i64 pl7)).setCell ⟨w.heap.size,3,none⟩ (.string nm)).setCell ⟨w.heap.size,4,none⟩ (.slice a5 ws5.length p5)).setCell ⟨w.heap.size,5,none⟩ (.slice a3 x'.a.length p3)).setCell ⟨w.heap.size,6,none⟩ (.slice a4 x'.b.length p4)) (fun b=>b=w.heap.size):=((((((((Kp.refl w2 (fun b=>b=w.heap.size)).set (a:=⟨w.heap.size,0,none⟩) (fun _=>rfl) _).set (a:=⟨w.heap.size,1,none⟩) (fun _=>rfl) _).set (a:=⟨w.heap.size,2,none⟩) (fun _=>rfl) _).set (a:=⟨w.heap.size,3,none⟩) (fun _=>rfl) _).set (a:=⟨w.heap.size,4,none⟩) (fun _=>rfl) _).set (a:=⟨w.heap.size,5,none⟩) (fun _=>rfl) _).set (a:=⟨w.heap.size,6,none⟩) (fun _=>rfl) _);have hC2:=hZ.set7 (.int .i64 (kindP x'.kind)) (.int .i64 n7) (.int .i64 pl7) (.string nm) (.slice a5 ws5.length p5) (.slice a3 x'.a.length p3) (.slice a4 x'.b.length p4);have hK2:=hkp.set7 (Nat.le_refl _) (.int .i64 (kindP x'.kind)) (.int .i64 n7) (.int .i64 pl7) (.string nm) (.slice a5 ws5.length p5) (.slice a3 x'.a.length p3) (.slice a4 x'.b.length p4);have hB2:=hB1.other7 hcs (.int .i64 (kindP x'.kind)) (.int .i64 n7) (.int .i64 pl7) (.string nm) (.slice a5 ws5.length p5) (.slice a3 x'.a.length p3) (.slice a4 x'.b.length p4);generalize (((((((w2.setCell ⟨w.heap.size,0,none⟩ (.int .i64 (kindP x'.kind))).setCell ⟨w.heap.size,1,none⟩ (.int .i64 n7)).setCell ⟨w.heap.size,2,none⟩ (.int .i64 pl7)).setCell ⟨w.heap.size,3,none⟩ (.string nm)).setCell ⟨w.heap.size,4,none⟩ (.slice a5 ws5.length p5)).setCell ⟨w.heap.size,5,none⟩ (.slice a3 x'.a.length p3)).setCell ⟨w.heap.size,6,none⟩ (.slice a4 x'.b.length p4))=wf at hC2 hK2 hB2 hk3 ⊢;obtain⟨q0,q1,q2,q3,q4,q5,q6⟩:=hC2.seven;refine bodyPost_ret (v:=.tuple #[.agg #[.int .i64 (kindP x'.kind),.int .i64 n7,.int .i64 pl7,.string nm,.slice a5 ws5.length p5,.slice a3 x'.a.length p3,.slice a4 x'.b.length p4],.int .i64 0]) (by simp[results,Tryz.results218,go_sem,q0,q1,q2,q3,q4,q5,q6]) rfl ?_;have hkc:=BD_keep (D:=New (w.alloc (.cells zIt7 241))) (D':=New w) hk3 (fun b _ hb=>by
   have hb:w.heap.size+1<=b:=by have:(w.alloc (.cells zIt7 241)).heap.size<=b:=hb;simpa using this
   exact⟨by show w.heap.size<=b;omega,by show ¬ b=w.heap.size;omega⟩)
  refine⟨hK2,x',n7,pl7,nm,_,_,_,ws2,rfl,rfl,HAt.out.mono hkc (fun _ _ h=>h.mono hkc),htx,?_⟩;have h2:=HS2.out;obtain⟨nn,DD,hm,hl⟩:=h2.book.look;have hne:∀ b t c,Blk w2 b t c->t ≠ 241->¬ b=w.heap.size:=fun b t c hb ht e=>by subst e;exact ht (hb.inj hZ).1
  have h1w:=h.sp.lt;exact⟨⟨rv2,hB2,TokAt_mono (fun b c hc=>⟨hc.1,hk3.blk hc.2 (hne b 9 c hc.2 (by decide))⟩) hT2⟩,h2.book.kp hk3 (hne bk _ _ h2.book.blk (by decide)) (fun e=>map_ne hm hZ e),h2.len,h2.ok,h2.sp.kp hk3 (by show ¬ (1:Nat)=w.heap.size;omega),h2.s1⟩
theorem any_of_find {p:Tok->Bool} {L:List Tok} {j:Nat} (h:L.findIdx? p=some j):L.any p=true:=by
 obtain⟨hlt,hk,_⟩:=List.findIdx?_eq_some_iff_getElem.1 h;exact List.any_eq_true.2 ⟨_,List.getElem_mem hlt,hk⟩
theorem pOne_word {known:Tok->Bool} {lo:Nat} {t:Tok} (hn:numP t=none) (h:∀ x∈spellL,(x == t)=false):pOne known lo t=if known t=true then .ok ⟨99,0,t,[],[],[]⟩ else .error 3:=by
 have hp:plainL.any (· == t)=false:=by
  rw[List.any_eq_false];intro x hx;rw[h x (by simp[spellL,hx])];decide
 have hk:keptL.any (· == t)=false:=by
  rw[List.any_eq_false];intro x hx;rw[h x (by simp[spellL,hx])];decide
 have ne:∀ k,k∈spellL->¬ t=k:=fun k hk e=>by have:=h k hk;rw[e] at this;simp at this
 have b1:(t == kColon)=false:=by rw[beq_eq_false_iff_ne];exact ne _ (by decide)
 have b2:(t == kSemi)=false:=by rw[beq_eq_false_iff_ne];exact ne _ (by decide)
 have b3:(t == kClose)=false:=by rw[beq_eq_false_iff_ne];exact ne _ (by decide)
 unfold pOne;rw[hn];dsimp only;rw[if_neg (by rw[hp];decide),if_neg (fun e=>ne kI (by decide) e.1),if_neg (ne kRecurse (by decide)),if_neg (ne kExit (by decide)),if_neg (by unfold formD;rw[hk,b1,b2,b3];decide)]
theorem pOne_form {known:Tok->Bool} {lo:Nat} {t:Tok} (h:t=kColon\/t=kClose):pOne known lo t=.error 4:=by
 rcases h with rfl|rfl
 ·unfold pOne;rw[show numP kColon=none by decide];dsimp only;rw[if_neg (by decide),if_neg (fun e=>absurd e.1 (by decide)),if_neg (by decide),if_neg (by decide),if_pos (by decide)]
 ·unfold pOne;rw[show numP kClose=none by decide];dsimp only;rw[if_neg (by decide),if_neg (fun e=>absurd e.1 (by decide)),if_neg (by decide),if_neg (by decide),if_pos (by decide)]
theorem itemQ (G:Nat) (IH:∀ g,g < G->QBody g):QItem G:=by
  intro w sb bk mb known ws lo tb K res hres h ho hlw hK he
  cases G with
  | zero=>cases hres
  | succ g=>
  have hB:=IH g (by omega);have hKd:K=kdOf tb.data.toList:=by rw[hK,ByteArray.toList_eq];rfl
  have hne:tb.data.toList ≠ []:=by have:=ho.1;rw[ByteArray.toList_eq] at this;exact this
  clear hK;rcases kd_cases hne he with⟨n,hn,hk⟩|⟨hn,j,hp,hk,hj⟩|⟨hn,hk,hsp⟩|hc
  · rw[pI_num hn] at hres
    injection hres with hres;subst hres;rw[hKd,hk];exact itQ_num w sb bk mb known ws lo tb n (by rw[ByteArray.toList_eq];exact hn) h ho
  · rw[pI_plain hn (any_of_find hp)] at hres
    injection hres with hres;subst hres;exact itQ_plain w sb bk mb known ws lo tb j hj K (by rw[hKd,hk]) hp h
  · have hnl:¬ longT tb.data.toList:=by
      rintro (e|e|e|e)
      · have:=hsp kIf (by decide);rw[e] at this;simp at this
      · have:=hsp kBegin (by decide);rw[e] at this;simp at this
      · have:=hsp kDo (by decide);rw[e] at this;simp at this
      · have:=hsp kOpen (by decide);rw[e] at this;simp at this
    rw[pI_one _ _ _ _ _ hnl,pOne_word hn hsp] at hres;rw[hKd,hk];refine itQ_word w sb bk mb known ws lo tb h ho res ?_
    cases hkn:known tb.data.toList
    · rw[hkn] at hres;rw[if_neg (by decide)] at hres;injection hres with hres;rw[if_neg (by decide)];exact hres.symm
    · rw[hkn] at hres;rw[if_pos rfl] at hres;injection hres with hres;rw[if_pos rfl];exact hres.symm
  · have hbd:∀ (k:Int),K=k->18<=k->(∀ w,RdInv w sb bk mb known ws lo->Calls Tryz.prog 218 #[pt sb,.int .i64 k] w fun x w'=>Kp w w' (fun b=>b=sb)/\QIt w sb bk mb known lo x w' res) ->
        Calls Tryz.prog 198 #[pt sb,.string tb,.int .i64 K] w fun x w'=>Kp w w' (fun b=>b=sb)/\QIt w sb bk mb known lo x w' res:=by
      intro k hk h18 hc;rw[hk];exact itQ_bound w sb bk mb known ws lo tb k h18 res h hc
    rcases hc with hc|hc|hc|hc|hc|hc|hc|hc|hc
    all_goals rw[hc] at hres hKd
    · rw[pI_one _ _ _ _ _ (by unfold longT;decide),pOne_form (.inl rfl)] at hres
      injection hres with hres;subst hres;exact hbd 18 (by rw[hKd];decide) (by decide) (fun w h=>bdQ_colon w sb bk mb known ws lo h)
    · rw[pI_open] at hres
      exact hbd 20 (by rw[hKd];decide) (by decide) (fun w h=>bdQ_open w sb bk mb known ws lo res h (fun w h=>bracesQ w sb bk mb known ws lo h res (by
        rcases hp:pBraces (texts ws) with e|⟨ts,r⟩
        · rw[hp] at hres;injection hres with hres;exact hres.symm
        · rw[hp] at hres;injection hres with hres;exact hres.symm)))
    · rw[pI_one _ _ _ _ _ (by unfold longT;decide),pOne_form (.inr rfl)] at hres
      injection hres with hres;subst hres;exact hbd 21 (by rw[hKd];decide) (by decide) (fun w h=>bdQ_close w sb bk mb known ws lo h)
    · exact hbd 22 (by rw[hKd];decide) (by decide) (fun w h=>bdQ_if w sb bk mb known ws lo res h (fun w h=>ifQ g hB w sb bk mb known ws lo res hres h))
    · exact hbd 25 (by rw[hKd];decide) (by decide) (fun w h=>bdQ_begin w sb bk mb known ws lo res h (fun w h=>beginQ g hB w sb bk mb known ws lo res hres h))
    · exact hbd 29 (by rw[hKd];decide) (by decide) (fun w h=>bdQ_do w sb bk mb known ws lo res h (fun w h=>doQ g hB w sb bk mb known ws lo (by omega) res hres h))
    · by_cases hl:0 < lo
      · rw[pI_i hl] at hres
        injection hres with hres;subst hres;exact hbd 31 (by rw[hKd];decide) (by decide) (fun w h=>bdQ_i w sb bk mb known ws lo h hl)
      · have hl:lo=0:=by omega
        subst hl;rw[pI_i0] at hres;injection hres with hres;subst hres;exact hbd 31 (by rw[hKd];decide) (by decide) (fun w h=>bdQ_i0 w sb bk mb known ws 0 h rfl)
    · rw[pI_rec] at hres
      injection hres with hres;subst hres;exact hbd 32 (by rw[hKd];decide) (by decide) (fun w h=>bdQ_rec w sb bk mb known ws lo h)
    · rw[pI_exit] at hres
      injection hres with hres;subst hres;exact hbd 33 (by rw[hKd];decide) (by decide) (fun w h=>bdQ_exit w sb bk mb known ws lo h)
theorem readQ:∀ G,QItem G/\QBody G:=by
 intro G
 induction G using Nat.strongRecOn with
 | _ G ih=>exact⟨itemQ G (fun g hg=>(ih g hg).2),bodyQ G (fun g hg=>(ih g hg).1)⟩
end
end Go.Proofs.YteainaiebcphlaaGreatDoor
