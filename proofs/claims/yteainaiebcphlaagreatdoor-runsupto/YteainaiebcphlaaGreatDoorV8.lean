import Derived.Test.YteainaiebcphlaaGreatDoorV7
namespace Go.Proofs.YteainaiebcphlaaGreatDoor
set_option maxRecDepth 1000000
set_option maxHeartbeats 4000000
set_option linter.all false
section
open Go.RowKit
variable {K:Nat->Prop}
abbrev New (w:World):Nat->Prop:=fun b=>w.heap.size<=b
def PIt (K:Nat->Prop) (w:World) (sb yb:Nat) (rs:RS) (defs:List Def) (lv:Value) (ws:List ByteArray) (k lo:Nat) (x:Ending) (w':World):PRes->Prop
 | .ok (xs,_,r)=>∃ x' nm va vb vt k',xs=[x']/\x=.returned (.agg #[.int .u8 x'.kind,.int .i64 x'.n,.string nm,va,vb,vt])/\ItAt (BodyS (New w) w') (toksIn (New w) w') x' nm va vb vt/\r=(texts ws).drop k'/\k<=k'/\ScInv K w' sb yb rs defs lv ws k' 0 lo
 | .error er=>er ≠ 0/\∃ n0 n1 s a3 m3 p3 a4 m4 p4 a5 m5 p5 k',x=.returned (.agg #[.int .u8 n0,.int .i64 n1,.string s,.slice a3 m3 p3,.slice a4 m4 p4,.slice a5 m5 p5])/\k<=k'/\ScInv K w' sb yb rs defs lv ws k' er lo
def PBo (K:Nat->Prop) (w:World) (sb yb:Nat) (rs:RS) (defs:List Def) (lv:Value) (ws:List ByteArray) (k lo:Nat) (x:Ending) (w':World):PRes->Prop
 | .ok (xs,t',r)=>∃ v tb k',x=.returned (.tuple #[v,.string tb])/\tb.data.toList=t'/\BodyS (New w) w' v xs/\r=(texts ws).drop k'/\k<=k'/\ScInv K w' sb yb rs defs lv ws k' 0 lo
 | .error er=>er ≠ 0/\∃ k',x=.returned (.tuple #[.slice none 0 0,.string ⟨#[]⟩])/\k<=k'/\ScInv K w' sb yb rs defs lv ws k' er lo
def CItemP (K:Nat->Prop) (g:Nat):Prop:=∀ (w:World) (sb yb:Nat) (rs:RS) (defs:List Def) (lv:Value) (ws:List ByteArray) (k lo:Nat) (tb:ByteArray) (res:PRes),
 pRead (knownD defs) g ⟨true,lo,[],tb.data.toList⟩ ((texts ws).drop k)=some res->ScInv K w sb yb rs defs lv ws k 0 lo->lo < k ->
 Calls Tryz.prog 170 #[.pointer (some ⟨sb,0,none⟩),.string tb] w fun x w'=>Kp w w' (fun b=>b=sb)/\PIt K w sb yb rs defs lv ws k lo x w' res
def CBodyP (K:Nat->Prop) (g:Nat):Prop:=∀ (w:World) (sb yb:Nat) (rs:RS) (defs:List Def) (lv:Value) (ws:List ByteArray) (k lo:Nat) (gb:Nat) (es:List ByteArray) (res:PRes),
 pRead (knownD defs) g ⟨false,lo,texts es,[]⟩ ((texts ws).drop k)=some res->ScInv K w sb yb rs defs lv ws k 0 lo->lo<=k->Blk w gb 9 (es.map Value.string).toArray->es.length<=100 ->
 Calls Tryz.prog 138 #[.pointer (some ⟨sb,0,none⟩),.slice (some ⟨gb,0,none⟩) es.length es.length] w fun x w'=>Kp w w' (fun b=>b=sb)/\PBo K w sb yb rs defs lv ws k lo x w' res
theorem any_texts (es:List ByteArray) (t:ByteArray):(es.any fun x=>x.toList == t.toList)=(texts es).any (· == t.data.toList):=by
 simp only[texts,List.any_map,ByteArray.toList_eq];rfl
theorem Tryz.infoIt:(Tryz.prog.info? 227).map (fun i=>(i.zero,i.size,i.bytes))=some (some (.agg zItem),6,104):=by kernel_rfl
theorem addr_add (g j:Nat):(⟨g,0,none⟩:Addr).add j=⟨g,j,none⟩:=by unfold Addr.add;split <;> simp_all
theorem new_cells (w:World) (o:Obj) (c:Array Value) (t:TypeId):∀ (j:Nat) (u:Value),c.toList[j]? = some u->((w.alloc o).alloc (.cells c t)).cell? ((⟨w.heap.size+1,0,none⟩:Addr).add j)=some u:=by
 intro j u hj;have hb:=Blk.new (w.alloc o) c t;rw[show (w.alloc o).heap.size=w.heap.size+1 by simp] at hb;rw[addr_add];exact hb.cell (by simpa using hj)
theorem grown_keep {w2 w3:World} {o1 o2:Obj} {v:Value} (hg:((w2.alloc o1).alloc o2).grownBy w3 v.ownBlock) {b:Nat} {t:TypeId} {c:Array Value} (hb:Blk w2 b t c) (hn:¬ own v b):Blk w3 b t c:=
 ((hb.alloc o1).alloc o2).same (hg.block b (by have:=hb.lt;simp;omega) (fun e=>hn e.symm))
def BRel (K:Nat->Prop) (w:World) (sb yb:Nat) (rs:RS) (defs:List Def) (lv:Value) (ws:List ByteArray) (k lo:Nat) (es:List ByteArray) (G:Nat) (res:PRes) (v:Value) (wr:World):Prop:=
  ∃ k',k<=k'/\Kp w wr (fun b=>b=sb) /\
    ((∃ dn xs G' res',ScInv K wr sb yb rs defs lv ws k' 0 lo/\wr.ownsRow 0 227 6 v dn.length xs/\(∀ b,own v b->New w b)/\dn.length<=k'/\itsIn (BodyS (fun b=>New w b/\¬ own v b) wr) (toksIn (fun b=>New w b/\¬ own v b) wr) dn xs /\
        G'<=G/\pRead (knownD defs) G' ⟨false,lo,texts es,[]⟩ ((texts ws).drop k')=some res'/\res=consR dn res') \/
     (∃ er,er ≠ 0/\ScInv K wr sb yb rs defs lv ws k' er lo/\res=.error er))
theorem bodyP (G:Nat) (IH:∀ g,g < G->CItemP K g):CBodyP K G:=by
 intro w sb yb rs defs lv ws k lo gb es res hres h hlo hE he;obtain⟨i0,hi,hz0,hz1,hz2⟩:=info_parts Tryz.infoIt;have hsb:=h.blk.lt;have hln:=h.len;have hgs:¬ gb=sb:=by rintro rfl;exact absurd (hE.inj h.blk).1 (by decide)
 have HI:=hide IH;clear IH;have H0:BRel K w sb yb rs defs lv ws k lo es G res (.slice none 0 0) w:=by
  refine⟨k,Nat.le_refl _,Kp.refl _ _,.inl ⟨[],[],G,res,h,World.ownsRow_nil _ _ _ _,fun b hb=>by simp[own,Value.ownBlock] at hb,Nat.zero_le _,rfl,Nat.le_refl _,hres,(consR_nil _).symm⟩⟩
 have HH:=hide H0;clear H0 hres;go_enter Tryz.func138,Tryz.ntmps138;go_wp2
 go_loopw [6] (fun v wr=>BRel K w sb yb rs defs lv ws k lo es G res v wr) (fun _ wr=>ws.length - atOf wr sb)
 case atStart=>exact HH.out
 case round=>
  obtain⟨k',hkk,hkp,⟨dn,xs,G',res',hS,hrow,hnew,hdl,hits,hG,hp,hcons⟩|⟨er,her,hS,hreq⟩⟩:=hrel
  ·have HR:=hide hp;have HC:=hide hcons;have HT:=hide hits;clear hp hcons hits;have hmeas:atOf wr sb=k':=atOf_eq hS.blk;have hE1:=hkp.blk hE hgs;have hk':=hS.kle;obtain⟨ao,cap,rfl⟩:=row_slice hrow
   cases G' with
   | zero=>have:=HR.out;rw[pB0] at this;cases this
   | succ g=>
   by_cases hlt:k' < ws.length
   ·have HD:=hide (texts_drop ws k' hlt)
    go_wp2_with fail
    refine (nextS_ok _ sb yb lv ws k' lo hS.row hS.blk h.len hlt).mono ?_;rintro e w1 ⟨rfl,hB1,hk1⟩;have hS1:=hS.to hk1 hB1 (by omega);have hE2:=hk1.blk hE1 hgs;have c3:w1.cell? ⟨sb,3,none⟩=some (.int .i64 0):=hB1.cell rfl;generalize ht:ws[k']=t;rw[ht] at HD;clear ht
    go_wp2_with fail
    refine (amongR t gb es _ hE2 he).mono ?_;rintro e w2 ⟨rfl,hw⟩;rw[hw];clear hw;rw[any_texts]
    cases hany:(texts es).any (· == t.data.toList)
    ·have hitem:=pB_go _ _ _ _ _ _ hany _ (by have:=HR.out;rw[HD.out] at this;exact this);have hrow1:=hk1.row hrow (fun b hb e=>by subst e;exact own_ne hrow hS.blk (by decide) hb);have hkp1:=hkp.trans hk1;have hits1:itsIn (BodyS (fun b=>New w b/\¬ own (.slice ao dn.length cap) b) w1) (toksIn (fun b=>New w b/\¬ own (.slice ao dn.length cap) b) w1) dn xs:=
      itsIn_imp (fun _ _ h=>h.keep (Keeps.kp hk1 (NoB.one hS.blk (by decide) (by decide)) _)) (fun _ _ h=>toksIn_keep (Keeps.kp hk1 (NoB.one hS.blk (by decide) (by decide)) _) h) _ _ HT.out
     have hsz1:=hkp1.size;clear HT hS hB1 hE1 hE2 hrow hk1 hkp c3 HR HD;rcases hitem with⟨e,hit,hre⟩|⟨xs1,t1,r2,res2,hit,hp2,hre⟩
     ·have HRE:Hid (res=.error e):=by have:=HC.out;rw[hre] at this;exact this
      clear hre HC hits1
      go_wp2_with fail
      refine (HI.out g (by omega) _ _ _ _ _ _ _ _ _ _ _ hit hS1 (by omega)).mono ?_;clear hit;rintro x w2 ⟨hk2,her,n0,n1,s,a3,m3,p3,a4,m4,p4,a5,m5,p5,k2,rfl,hkk2,hS2⟩;have hrow2:=hk2.row hrow1 (fun b hb e=>by subst e;exact own_ne hrow1 hS1.blk (by decide) hb);have hkp2:=hkp1.trans hk2;have hsz2:=hkp2.size;clear hrow1 hS1 hk2 hkp1
      go_wp2_with (first
       | (at_builtin;refine wpList_append_to _ rfl _ _ 93 rfl 227 i0 (.agg zItem) 6 104 Tryz.underlying93 hi hz0 hz1 hz2 rfl (by decide) _ _ _ rfl ((hrow2.alloc _).alloc _) ⟨w2.heap.size+1,0,none⟩ 1 1 [.int .u8 n0,.int .i64 n1,.string s,.slice a3 m3 p3,.slice a4 m4 p4,.slice a5 m5 p5] rfl rfl ?c1 ?c2 ?c3 ?c4 ?_)
       | go_in)
      case c1=>exact new_cells _ _ _ _
      case c2=>intro u hu;simp at hu;rcases hu with rfl|rfl|rfl|rfl|rfl|rfl <;> rfl
      case c3=>unfold maxLen;omega
      case c4=>omega
      intro v' w3 hown' hgrow hnx;have hB3:=grown_keep hgrow hS2.blk (own_ne hrow2 hS2.blk (by decide));have hkp3:Kp w w3 (fun b=>b=sb):=((hkp2.alloc _).alloc _).grown hgrow (fun b hb e=>by have:=hnew b e;omega);have HN:BRel K w sb yb rs defs lv ws k lo es G res v' w3:=⟨k2,by omega,hkp3,.inr ⟨e,her,h.to hkp3 hB3 hS2.kle,HRE.out⟩⟩;have hm2:=atOf_eq hB3;clear hown' hgrow hnx hrow2 hkp2 hS2 hB3 hkp3;go_wp2
      go_roundw
      case rel=>exact HN
      case measure=>rw[hmeas,hm2];omega
     ·have HRE:Hid (res=consR (dn ++ xs1) res2):=by have:=HC.out;rw[hre,consR_app] at this;exact this
      have HP2:=hide hp2;clear hre HC hp2
      go_wp2_with fail
      refine (HI.out g (by omega) _ _ _ _ _ _ _ _ _ _ _ hit hS1 (by omega)).mono ?_;clear hit;rintro x w2 ⟨hk2,x',nm,va,vb,vt,k2,rfl,rfl,hat,rfl,hkk2,hS2⟩;obtain⟨xs3,hr3,-⟩:=hat.a.out;obtain⟨xs4,hr4,-⟩:=hat.b.out;obtain⟨ws5,hr5,-⟩:=hat.t;obtain⟨a3,p3,rfl⟩:=row_slice hr3;obtain⟨a4,p4,rfl⟩:=row_slice hr4;obtain⟨a5,p5,rfl⟩:=row_slice hr5;have hrow2:=hk2.row hrow1 (fun b hb e=>by subst e;exact own_ne hrow1 hS1.blk (by decide) hb);have hkp2:=hkp1.trans hk2;have hsz2:=hkp2.size;have hsz12:=hk2.size;have HIt1:=hide hits1;have HAt:=hide hat;have hb1:∀ b,own (.slice ao dn.length cap) b->b < w1.heap.size:=fun b hb=>own_lt hrow1 hb;have hB1:=hS1.blk;clear hrow1 hkp1 hr3 hr4 hr5 hits1 hat
      go_wp2_with (first
       | (at_builtin;refine wpList_append_to _ rfl _ _ 93 rfl 227 i0 (.agg zItem) 6 104 Tryz.underlying93 hi hz0 hz1 hz2 rfl (by decide) _ _ _ rfl ((hrow2.alloc _).alloc _) ⟨w2.heap.size+1,0,none⟩ 1 1 [.int .u8 x'.kind,.int .i64 x'.n,.string nm,.slice a3 x'.a.length p3,.slice a4 x'.b.length p4,.slice a5 ws5.length p5] rfl rfl ?d1 ?d2 ?d3 ?d4 ?_)
       | go_in)
      case d1=>exact new_cells _ _ _ _
      case d2=>intro u hu;simp at hu;rcases hu with rfl|rfl|rfl|rfl|rfl|rfl <;> rfl
      case d3=>unfold maxLen;omega
      case d4=>omega
      intro v' w3 hown' hgrow hnx;have hB3:=grown_keep hgrow hS2.blk (own_ne hrow2 hS2.blk (by decide));have hkp3:Kp w w3 (fun b=>b=sb):=((hkp2.alloc _).alloc _).grown hgrow (fun b hb e=>by have:=hnew b e;omega);have hnv:∀ b,b < w2.heap.size->¬ own (.slice ao dn.length cap) b->¬ own v' b:=fun b hb hn hv=>by
       rcases hnx b hv with h1|h1
       ·exact hn h1
       ·omega
      have hnew':∀ b,own v' b->New w b:=fun b hb=>by
       rcases hnx b hb with h1|h1
       ·exact hnew b h1
       ·show w.heap.size<=b;omega
      have hk1:Keeps (fun b=>New w b/\¬ own (.slice ao dn.length cap) b) (fun b=>New w b/\¬ own v' b) w1 w3:=fun b t' c hb hbl ht'=>by
       have h2:=(Keeps.kp hk2 (NoB.one hB1 (by decide) (by decide)) (fun _=>True) b t' c trivial hbl ht').1;exact⟨grown_keep hgrow h2 hb.2,hb.1,hnv b h2.lt hb.2⟩
      have hk3:Keeps (New w1) (fun b=>New w b/\¬ own v' b) w2 w3:=fun b t' c hb hbl ht'=>by
       have hn:¬ own (.slice ao dn.length cap) b:=fun hv=>by have:=hb1 b hv;have hb:w1.heap.size<=b:=hb;omega
       exact⟨grown_keep hgrow hbl hn,by have hb:w1.heap.size<=b:=hb;show w.heap.size<=b;omega,hnv b hbl.lt hn⟩
      have HN:BRel K w sb yb rs defs lv ws k lo es G res v' w3:=by
       refine⟨k2,by omega,hkp3,.inl ⟨dn ++ [x'],xs ++ [.int .u8 x'.kind,.int .i64 x'.n,.string nm,.slice a3 x'.a.length p3,.slice a4 x'.b.length p4,.slice a5 ws5.length p5],g,res2,h.to hkp3 hB3 hS2.kle,by simpa using hown',hnew',by simp;omega,?_,by omega,HP2.out,HRE.out⟩⟩;refine itsIn_app _ _ _ _ (itsIn_imp (fun _ _ h=>h.keep hk1) (fun _ _ h=>toksIn_keep hk1 h) _ _ HIt1.out) ?_;have hat:=HAt.out;exact⟨nm,_,_,_,[],rfl,hat.nm,hat.a.keep hk3,hat.b.keep hk3,toksIn_keep hk3 hat.t,hat.n,rfl⟩
      have hm2:=atOf_eq hB3;clear hown' hgrow hnx hrow2 hkp2 hS2 hB3 hkp3 hk1 hk3 hnv hnew' hb1 hk2 hB1;go_wp2
      go_roundw
      case rel=>exact HN
      case measure=>rw[hmeas,hm2];omega
    ·have hst:=pB_stop (knownD defs) g lo (texts es) t.data.toList ((texts ws).drop (k' + 1)) hany;have hres:res=.ok (dn,t.data.toList,(texts ws).drop (k' + 1)):=by
      have:=HR.out;rw[HD.out,hst] at this;injection this with this;rw[HC.out,<-this];simp[consR]
     have HRes:=hide hres;clear hres hst;have hrow1:=hk1.row hrow (fun b hb e=>by subst e;exact own_ne hrow hS.blk (by decide) hb);have hkeep:Keeps (fun b=>New w b/\¬ own (.slice ao dn.length cap) b) (New w) wr w1:=fun b t' c hb hbl ht'=>⟨(Keeps.kp hk1 (NoB.one hS.blk (by decide) (by decide)) (fun _=>True) b t' c trivial hbl ht').1,hb.1⟩;have hbody:BodyS (New w) w1 (.slice ao dn.length cap) dn:=BodyS.of hrow1 hnew (itsIn_imp (fun _ _ h=>h.keep hkeep) (fun _ _ h=>toksIn_keep hkeep h) _ _ HT.out);have hkp1:=hkp.trans hk1;clear hkeep hrow1 HT hrow hkp hk1 hS hE2 hE1;go_wp2;go_ret2;rw[HRes.out];exact⟨hkp1,_,t,k' + 1,rfl,rfl,hbody,rfl,by omega,hS1⟩
   ·have hkl:k'=ws.length:=by omega
    subst hkl;have hres:res=.error 4:=by
     have:=HR.out;rw[texts_end,pB_nil] at this;injection this with this;rw[HC.out,<-this];rfl
    have HRes:=hide hres;clear hres
    go_wp2_with fail
    refine (nextS_end _ sb yb lv _ _ lo hS.row hS.blk h.len).mono ?_;rintro e w1 ⟨rfl,hB1,hk1⟩;have hS1:=hS.to hk1 hB1 (Nat.le_refl _);have c3:w1.cell? ⟨sb,3,none⟩=some (.int .i64 4):=hB1.cell rfl;have hkp1:=hkp.trans hk1;clear HT hrow hkp hk1 hS hE1 hB1;go_wp2;go_ret2;rw[HRes.out];exact⟨hkp1,by decide,ws.length,rfl,by omega,hS1⟩
  ·have hk':=hS.kle;have he1:(er != 0)=true:=by simpa using her
   have HRes:=hide hreq;clear hreq
   go_wp2_with fail
   refine (nextS_err _ sb yb lv _ _ k' lo er he1 hS.row hS.blk h.len hS.kle).mono ?_;rintro e w1 ⟨rfl,hB1,hk1⟩;have hS1:=hS.to hk1 hB1 hk';have c3:w1.cell? ⟨sb,3,none⟩=some (.int .i64 er):=hB1.cell rfl;have hkp1:=hkp.trans hk1;clear hkp hk1 hS hB1;go_wp2;go_ret2;rw[HRes.out];exact⟨hkp1,her,k',rfl,by omega,hS1⟩
end
section
open Go.RowKit
variable {K:Nat->Prop}
theorem in0:In 0:=⟨by decide,by decide⟩
theorem ItAt.leaf {w w':World} (kind:Nat) (n:Int) (nm:ByteArray) (hn:In n):ItAt (BodyS (New w) w') (toksIn (New w) w') ⟨kind,n,nm.data.toList,[],[],[]⟩ nm (.slice none 0 0) (.slice none 0 0) (.slice none 0 0):=
 ⟨rfl,BodyS.nil _ _,BodyS.nil _ _,toksIn.nil _ _,⟨hn,by simp⟩⟩
theorem itP_num (w:World) (sb yb:Nat) (rs:RS) (defs:List Def) (lv:Value) (ws:List ByteArray) (k lo:Nat) (tb:ByteArray) (n:Int) (hnum:numP tb.toList=some n) (h:ScInv K w sb yb rs defs lv ws k 0 lo):
  Calls Tryz.prog 170 #[.pointer (some ⟨sb,0,none⟩),.string tb] w fun x w'=>Kp w w' (fun b=>b=sb)/\PIt K w sb yb rs defs lv ws k lo x w' (.ok ([⟨110,n,[],[],[],[]⟩],[],(texts ws).drop k)):=by
 have hsb:=h.blk.lt;have hln:=h.len;have hkl:=h.kle;go_enter Tryz.func170,Tryz.ntmps170
 go_wp2_with fail
 refine (numberR _ _).mono ?_;rintro e w' ⟨rfl,hw⟩;rw[hw,numV_some hnum];clear hw
 go_wp2_with fail
 refine (isPlainR _ _).mono ?_;rintro e w1 ⟨rfl,hk1⟩
 go_wp2_with fail
 refine (isKeptR _ _).mono ?_;rintro e w2 ⟨rfl,hk2⟩;have hkp:Kp w w2 (fun b=>b=sb):=(((Kp.refl _ _).alloc _).trans (hk1.mono (fun _ _ h=>h.elim))).trans (hk2.mono (fun _ _ h=>h.elim));have hC:Blk w2 w.heap.size 227 zItem:=hk2.blk (hk1.blk (Blk.new w _ _) (by simp)) (by simp);have hS:ScInv K w2 sb yb rs defs lv ws k 0 lo:=h.to hkp (hk2.blk (hk1.blk (h.blk.alloc _) (by simp)) (by simp)) h.kle;have hcs:¬ w.heap.size=sb:=by omega
 clear hk1 hk2;obtain⟨y0,y1,y2,y3,y4,y5⟩:=hC.six;obtain⟨z0,z1,z2,z3,z4,z5⟩:=hC.sixF;go_wp2;have hC2:=hC.set6 (.int .u8 110) (.int .i64 n) (.string ⟨#[]⟩) (.slice none 0 0) (.slice none 0 0) (.slice none 0 0);have hk2:=hkp.set6 (Nat.le_refl _) (.int .u8 110) (.int .i64 n) (.string ⟨#[]⟩) (.slice none 0 0) (.slice none 0 0) (.slice none 0 0);have hB2:=hS.blk.other6 (Ne.symm hcs) (.int .u8 110) (.int .i64 n) (.string ⟨#[]⟩) (.slice none 0 0) (.slice none 0 0) (.slice none 0 0);generalize ((((((w2.setCell ⟨w.heap.size,0,none⟩ (.int .u8 110)).setCell ⟨w.heap.size,1,none⟩ (.int .i64 n)).setCell ⟨w.heap.size,2,none⟩ (.string ⟨#[]⟩)).setCell ⟨w.heap.size,3,none⟩ (.slice none 0 0)).setCell ⟨w.heap.size,4,none⟩ (.slice none 0 0)).setCell ⟨w.heap.size,5,none⟩ (.slice none 0 0))=wf at hC2 hk2 hB2 ⊢;obtain⟨q0,q1,q2,q3,q4,q5⟩:=hC2.six;refine bodyPost_ret (v:=.agg #[.int .u8 110,.int .i64 n,.string ⟨#[]⟩,.slice none 0 0,.slice none 0 0,.slice none 0 0]) (by simp[results,Tryz.results170,go_sem,q0,q1,q2,q3,q4,q5]) rfl ?_;exact⟨hk2,_,_,_,_,_,k,rfl,rfl,ItAt.leaf 110 n ⟨#[]⟩ (numP_range hnum),rfl,Nat.le_refl _,h.to hk2 hB2 h.kle⟩
theorem itP_plain (w:World) (sb yb:Nat) (rs:RS) (defs:List Def) (lv:Value) (ws:List ByteArray) (k lo:Nat) (tb:ByteArray) (hnum:numP tb.toList=none) (hpl:plainL.any (· == tb.toList)=true) (h:ScInv K w sb yb rs defs lv ws k 0 lo):
  Calls Tryz.prog 170 #[.pointer (some ⟨sb,0,none⟩),.string tb] w fun x w'=>Kp w w' (fun b=>b=sb)/\PIt K w sb yb rs defs lv ws k lo x w' (.ok ([⟨112,0,tb.data.toList,[],[],[]⟩],[],(texts ws).drop k)):=by
 have hsb:=h.blk.lt;have hln:=h.len;have hkl:=h.kle;go_enter Tryz.func170,Tryz.ntmps170
 go_wp2_with fail
 refine (numberR _ _).mono ?_;rintro e w' ⟨rfl,hw⟩;rw[hw,numV_none hnum];clear hw
 go_wp2_with fail
 refine (isPlainR _ _).mono ?_;rintro e w1 ⟨rfl,hk1⟩
 go_wp2_with fail
 refine (isKeptR _ _).mono ?_;rintro e w2 ⟨rfl,hk2⟩;have hkp:Kp w w2 (fun b=>b=sb):=(((Kp.refl _ _).alloc _).trans (hk1.mono (fun _ _ h=>h.elim))).trans (hk2.mono (fun _ _ h=>h.elim));have hC:Blk w2 w.heap.size 227 zItem:=hk2.blk (hk1.blk (Blk.new w _ _) (by simp)) (by simp);have hS:ScInv K w2 sb yb rs defs lv ws k 0 lo:=h.to hkp (hk2.blk (hk1.blk (h.blk.alloc _) (by simp)) (by simp)) h.kle;have hcs:¬ w.heap.size=sb:=by omega
 clear hk1 hk2;obtain⟨y0,y1,y2,y3,y4,y5⟩:=hC.six;obtain⟨z0,z1,z2,z3,z4,z5⟩:=hC.sixF;go_wp2;have hC2:=hC.set6 (.int .u8 112) (.int .i64 0) (.string tb) (.slice none 0 0) (.slice none 0 0) (.slice none 0 0);have hk2:=hkp.set6 (Nat.le_refl _) (.int .u8 112) (.int .i64 0) (.string tb) (.slice none 0 0) (.slice none 0 0) (.slice none 0 0);have hB2:=hS.blk.other6 (Ne.symm hcs) (.int .u8 112) (.int .i64 0) (.string tb) (.slice none 0 0) (.slice none 0 0) (.slice none 0 0);generalize ((((((w2.setCell ⟨w.heap.size,0,none⟩ (.int .u8 112)).setCell ⟨w.heap.size,1,none⟩ (.int .i64 0)).setCell ⟨w.heap.size,2,none⟩ (.string tb)).setCell ⟨w.heap.size,3,none⟩ (.slice none 0 0)).setCell ⟨w.heap.size,4,none⟩ (.slice none 0 0)).setCell ⟨w.heap.size,5,none⟩ (.slice none 0 0))=wf at hC2 hk2 hB2 ⊢;obtain⟨q0,q1,q2,q3,q4,q5⟩:=hC2.six;refine bodyPost_ret (v:=.agg #[.int .u8 112,.int .i64 0,.string tb,.slice none 0 0,.slice none 0 0,.slice none 0 0]) (by simp[results,Tryz.results170,go_sem,q0,q1,q2,q3,q4,q5]) rfl ?_;exact⟨hk2,_,_,_,_,_,k,rfl,rfl,ItAt.leaf 112 0 tb in0,rfl,Nat.le_refl _,h.to hk2 hB2 h.kle⟩
theorem itP_i (w:World) (sb yb:Nat) (rs:RS) (defs:List Def) (lv:Value) (ws:List ByteArray) (k lo:Nat) (tb:ByteArray) (hnum:numP tb.toList=none) (hpl:plainL.any (· == tb.toList)=false) (b0:(tb.toList == [105,102])=false) (b1:(tb.toList == [98,101,103,105,110])=false) (b2:(tb.toList == [100,111])=false) (b3:(tb.toList == [105])=true) (hlo0:0 < lo) (h:ScInv K w sb yb rs defs lv ws k 0 lo):
  Calls Tryz.prog 170 #[.pointer (some ⟨sb,0,none⟩),.string tb] w fun x w'=>Kp w w' (fun b=>b=sb)/\PIt K w sb yb rs defs lv ws k lo x w' (.ok ([⟨105,0,[],[],[],[]⟩],[],(texts ws).drop k)):=by
 have hsb:=h.blk.lt;have hln:=h.len;have hkl:=h.kle;go_enter Tryz.func170,Tryz.ntmps170
 go_wp2_with fail
 refine (numberR _ _).mono ?_;rintro e w' ⟨rfl,hw⟩;rw[hw,numV_none hnum];clear hw
 go_wp2_with fail
 refine (isPlainR _ _).mono ?_;rintro e w1 ⟨rfl,hk1⟩
 go_wp2_with fail
 refine (isKeptR _ _).mono ?_;rintro e w2 ⟨rfl,hk2⟩;have hkp:Kp w w2 (fun b=>b=sb):=(((Kp.refl _ _).alloc _).trans (hk1.mono (fun _ _ h=>h.elim))).trans (hk2.mono (fun _ _ h=>h.elim));have hC:Blk w2 w.heap.size 227 zItem:=hk2.blk (hk1.blk (Blk.new w _ _) (by simp)) (by simp);have hS:ScInv K w2 sb yb rs defs lv ws k 0 lo:=h.to hkp (hk2.blk (hk1.blk (h.blk.alloc _) (by simp)) (by simp)) h.kle;have hcs:¬ w.heap.size=sb:=by omega
 clear hk1 hk2;have c4:w2.cell? ⟨sb,4,none⟩=some (.int .i64 lo):=hS.blk.cell rfl;obtain⟨y0,y1,y2,y3,y4,y5⟩:=hC.six;obtain⟨z0,z1,z2,z3,z4,z5⟩:=hC.sixF;go_wp2;have hC2:=hC.set6 (.int .u8 105) (.int .i64 0) (.string ⟨#[]⟩) (.slice none 0 0) (.slice none 0 0) (.slice none 0 0);have hk2:=hkp.set6 (Nat.le_refl _) (.int .u8 105) (.int .i64 0) (.string ⟨#[]⟩) (.slice none 0 0) (.slice none 0 0) (.slice none 0 0);have hB2:=hS.blk.other6 (Ne.symm hcs) (.int .u8 105) (.int .i64 0) (.string ⟨#[]⟩) (.slice none 0 0) (.slice none 0 0) (.slice none 0 0);generalize ((((((w2.setCell ⟨w.heap.size,0,none⟩ (.int .u8 105)).setCell ⟨w.heap.size,1,none⟩ (.int .i64 0)).setCell ⟨w.heap.size,2,none⟩ (.string ⟨#[]⟩)).setCell ⟨w.heap.size,3,none⟩ (.slice none 0 0)).setCell ⟨w.heap.size,4,none⟩ (.slice none 0 0)).setCell ⟨w.heap.size,5,none⟩ (.slice none 0 0))=wf at hC2 hk2 hB2 ⊢;obtain⟨q0,q1,q2,q3,q4,q5⟩:=hC2.six;refine bodyPost_ret (v:=.agg #[.int .u8 105,.int .i64 0,.string ⟨#[]⟩,.slice none 0 0,.slice none 0 0,.slice none 0 0]) (by simp[results,Tryz.results170,go_sem,q0,q1,q2,q3,q4,q5]) rfl ?_;exact⟨hk2,_,_,_,_,_,k,rfl,rfl,ItAt.leaf 105 0 ⟨#[]⟩ in0,rfl,Nat.le_refl _,h.to hk2 hB2 h.kle⟩
theorem itP_rec (w:World) (sb yb:Nat) (rs:RS) (defs:List Def) (lv:Value) (ws:List ByteArray) (k lo:Nat) (tb:ByteArray) (hnum:numP tb.toList=none) (hpl:plainL.any (· == tb.toList)=false) (b0:(tb.toList == [105,102])=false) (b1:(tb.toList == [98,101,103,105,110])=false) (b2:(tb.toList == [100,111])=false) (b3:(tb.toList == [105])=false) (b4:(tb.toList == [114,101,99,117,114,115,101])=true) (h:ScInv K w sb yb rs defs lv ws k 0 lo):
  Calls Tryz.prog 170 #[.pointer (some ⟨sb,0,none⟩),.string tb] w fun x w'=>Kp w w' (fun b=>b=sb)/\PIt K w sb yb rs defs lv ws k lo x w' (.ok ([⟨114,0,[],[],[],[]⟩],[],(texts ws).drop k)):=by
 have hsb:=h.blk.lt;have hln:=h.len;have hkl:=h.kle;go_enter Tryz.func170,Tryz.ntmps170
 go_wp2_with fail
 refine (numberR _ _).mono ?_;rintro e w' ⟨rfl,hw⟩;rw[hw,numV_none hnum];clear hw
 go_wp2_with fail
 refine (isPlainR _ _).mono ?_;rintro e w1 ⟨rfl,hk1⟩
 go_wp2_with fail
 refine (isKeptR _ _).mono ?_;rintro e w2 ⟨rfl,hk2⟩;have hkp:Kp w w2 (fun b=>b=sb):=(((Kp.refl _ _).alloc _).trans (hk1.mono (fun _ _ h=>h.elim))).trans (hk2.mono (fun _ _ h=>h.elim));have hC:Blk w2 w.heap.size 227 zItem:=hk2.blk (hk1.blk (Blk.new w _ _) (by simp)) (by simp);have hS:ScInv K w2 sb yb rs defs lv ws k 0 lo:=h.to hkp (hk2.blk (hk1.blk (h.blk.alloc _) (by simp)) (by simp)) h.kle;have hcs:¬ w.heap.size=sb:=by omega
 clear hk1 hk2;have c4:w2.cell? ⟨sb,4,none⟩=some (.int .i64 lo):=hS.blk.cell rfl;obtain⟨y0,y1,y2,y3,y4,y5⟩:=hC.six;obtain⟨z0,z1,z2,z3,z4,z5⟩:=hC.sixF;go_wp2;have hC2:=hC.set6 (.int .u8 114) (.int .i64 0) (.string ⟨#[]⟩) (.slice none 0 0) (.slice none 0 0) (.slice none 0 0);have hk2:=hkp.set6 (Nat.le_refl _) (.int .u8 114) (.int .i64 0) (.string ⟨#[]⟩) (.slice none 0 0) (.slice none 0 0) (.slice none 0 0);have hB2:=hS.blk.other6 (Ne.symm hcs) (.int .u8 114) (.int .i64 0) (.string ⟨#[]⟩) (.slice none 0 0) (.slice none 0 0) (.slice none 0 0);generalize ((((((w2.setCell ⟨w.heap.size,0,none⟩ (.int .u8 114)).setCell ⟨w.heap.size,1,none⟩ (.int .i64 0)).setCell ⟨w.heap.size,2,none⟩ (.string ⟨#[]⟩)).setCell ⟨w.heap.size,3,none⟩ (.slice none 0 0)).setCell ⟨w.heap.size,4,none⟩ (.slice none 0 0)).setCell ⟨w.heap.size,5,none⟩ (.slice none 0 0))=wf at hC2 hk2 hB2 ⊢;obtain⟨q0,q1,q2,q3,q4,q5⟩:=hC2.six;refine bodyPost_ret (v:=.agg #[.int .u8 114,.int .i64 0,.string ⟨#[]⟩,.slice none 0 0,.slice none 0 0,.slice none 0 0]) (by simp[results,Tryz.results170,go_sem,q0,q1,q2,q3,q4,q5]) rfl ?_;exact⟨hk2,_,_,_,_,_,k,rfl,rfl,ItAt.leaf 114 0 ⟨#[]⟩ in0,rfl,Nat.le_refl _,h.to hk2 hB2 h.kle⟩
theorem itP_exit (w:World) (sb yb:Nat) (rs:RS) (defs:List Def) (lv:Value) (ws:List ByteArray) (k lo:Nat) (tb:ByteArray) (hnum:numP tb.toList=none) (hpl:plainL.any (· == tb.toList)=false) (b0:(tb.toList == [105,102])=false) (b1:(tb.toList == [98,101,103,105,110])=false) (b2:(tb.toList == [100,111])=false) (b3:(tb.toList == [105])=false) (b4:(tb.toList == [114,101,99,117,114,115,101])=false) (b5:(tb.toList == [101,120,105,116])=true) (h:ScInv K w sb yb rs defs lv ws k 0 lo):
  Calls Tryz.prog 170 #[.pointer (some ⟨sb,0,none⟩),.string tb] w fun x w'=>Kp w w' (fun b=>b=sb)/\PIt K w sb yb rs defs lv ws k lo x w' (.ok ([⟨120,0,[],[],[],[]⟩],[],(texts ws).drop k)):=by
 have hsb:=h.blk.lt;have hln:=h.len;have hkl:=h.kle;go_enter Tryz.func170,Tryz.ntmps170
 go_wp2_with fail
 refine (numberR _ _).mono ?_;rintro e w' ⟨rfl,hw⟩;rw[hw,numV_none hnum];clear hw
 go_wp2_with fail
 refine (isPlainR _ _).mono ?_;rintro e w1 ⟨rfl,hk1⟩
 go_wp2_with fail
 refine (isKeptR _ _).mono ?_;rintro e w2 ⟨rfl,hk2⟩;have hkp:Kp w w2 (fun b=>b=sb):=(((Kp.refl _ _).alloc _).trans (hk1.mono (fun _ _ h=>h.elim))).trans (hk2.mono (fun _ _ h=>h.elim));have hC:Blk w2 w.heap.size 227 zItem:=hk2.blk (hk1.blk (Blk.new w _ _) (by simp)) (by simp);have hS:ScInv K w2 sb yb rs defs lv ws k 0 lo:=h.to hkp (hk2.blk (hk1.blk (h.blk.alloc _) (by simp)) (by simp)) h.kle;have hcs:¬ w.heap.size=sb:=by omega
 clear hk1 hk2;have c4:w2.cell? ⟨sb,4,none⟩=some (.int .i64 lo):=hS.blk.cell rfl;obtain⟨y0,y1,y2,y3,y4,y5⟩:=hC.six;obtain⟨z0,z1,z2,z3,z4,z5⟩:=hC.sixF;go_wp2;have hC2:=hC.set6 (.int .u8 120) (.int .i64 0) (.string ⟨#[]⟩) (.slice none 0 0) (.slice none 0 0) (.slice none 0 0);have hk2:=hkp.set6 (Nat.le_refl _) (.int .u8 120) (.int .i64 0) (.string ⟨#[]⟩) (.slice none 0 0) (.slice none 0 0) (.slice none 0 0);have hB2:=hS.blk.other6 (Ne.symm hcs) (.int .u8 120) (.int .i64 0) (.string ⟨#[]⟩) (.slice none 0 0) (.slice none 0 0) (.slice none 0 0);generalize ((((((w2.setCell ⟨w.heap.size,0,none⟩ (.int .u8 120)).setCell ⟨w.heap.size,1,none⟩ (.int .i64 0)).setCell ⟨w.heap.size,2,none⟩ (.string ⟨#[]⟩)).setCell ⟨w.heap.size,3,none⟩ (.slice none 0 0)).setCell ⟨w.heap.size,4,none⟩ (.slice none 0 0)).setCell ⟨w.heap.size,5,none⟩ (.slice none 0 0))=wf at hC2 hk2 hB2 ⊢;obtain⟨q0,q1,q2,q3,q4,q5⟩:=hC2.six;refine bodyPost_ret (v:=.agg #[.int .u8 120,.int .i64 0,.string ⟨#[]⟩,.slice none 0 0,.slice none 0 0,.slice none 0 0]) (by simp[results,Tryz.results170,go_sem,q0,q1,q2,q3,q4,q5]) rfl ?_;exact⟨hk2,_,_,_,_,_,k,rfl,rfl,ItAt.leaf 120 0 ⟨#[]⟩ in0,rfl,Nat.le_refl _,h.to hk2 hB2 h.kle⟩
theorem itP_i0 (w:World) (sb yb:Nat) (rs:RS) (defs:List Def) (lv:Value) (ws:List ByteArray) (k lo:Nat) (tb:ByteArray) (hnum:numP tb.toList=none) (hpl:plainL.any (· == tb.toList)=false) (b0:(tb.toList == [105,102])=false) (b1:(tb.toList == [98,101,103,105,110])=false) (b2:(tb.toList == [100,111])=false) (b3:(tb.toList == [105])=true) (hlo0:lo=0) (hkept:keptL.any (· == tb.toList)=true) (b4:(tb.toList == [114,101,99,117,114,115,101])=false)  (b5:(tb.toList == [101,120,105,116])=false)  (b6:(tb.toList == [123])=false) (h:ScInv K w sb yb rs defs lv ws k 0 lo):
  Calls Tryz.prog 170 #[.pointer (some ⟨sb,0,none⟩),.string tb] w fun x w'=>Kp w w' (fun b=>b=sb)/\PIt K w sb yb rs defs lv ws k lo x w' (.error 4):=by
 have hsb:=h.blk.lt;have hln:=h.len;have hkl:=h.kle;go_enter Tryz.func170,Tryz.ntmps170
 go_wp2_with fail
 refine (numberR _ _).mono ?_;rintro e w' ⟨rfl,hw⟩;rw[hw,numV_none hnum];clear hw
 go_wp2_with fail
 refine (isPlainR _ _).mono ?_;rintro e w1 ⟨rfl,hk1⟩
 go_wp2_with fail
 refine (isKeptR _ _).mono ?_;rintro e w2 ⟨rfl,hk2⟩;have hkp:Kp w w2 (fun b=>b=sb):=(((Kp.refl _ _).alloc _).trans (hk1.mono (fun _ _ h=>h.elim))).trans (hk2.mono (fun _ _ h=>h.elim));have hC:Blk w2 w.heap.size 227 zItem:=hk2.blk (hk1.blk (Blk.new w _ _) (by simp)) (by simp);have hS:ScInv K w2 sb yb rs defs lv ws k 0 lo:=h.to hkp (hk2.blk (hk1.blk (h.blk.alloc _) (by simp)) (by simp)) h.kle;have hcs:¬ w.heap.size=sb:=by omega
 clear hk1 hk2;have c4:w2.cell? ⟨sb,4,none⟩=some (.int .i64 0):=by have:=hS.blk.cell (o:=4) (v:=.int .i64 lo) rfl;rw[hlo0] at this;exact this
 clear hlo0
 go_wp2_with fail
 refine (failS _ sb yb lv k lo 4 hS.blk).mono ?_;rintro e w3 ⟨rfl,hB3,hk3⟩
 replace hC:=hk3.blk hC hcs
 replace hkp:=hkp.trans hk3
 replace hS:=h.to hkp hB3 h.kle
 clear hB3 hk3;obtain⟨y0,y1,y2,y3,y4,y5⟩:=hC.six;obtain⟨z0,z1,z2,z3,z4,z5⟩:=hC.sixF;go_wp2;have hC2:=hC.set6 (.int .u8 99) (.int .i64 0) (.string tb) (.slice none 0 0) (.slice none 0 0) (.slice none 0 0);have hk2:=hkp.set6 (Nat.le_refl _) (.int .u8 99) (.int .i64 0) (.string tb) (.slice none 0 0) (.slice none 0 0) (.slice none 0 0);have hB2:=hS.blk.other6 (Ne.symm hcs) (.int .u8 99) (.int .i64 0) (.string tb) (.slice none 0 0) (.slice none 0 0) (.slice none 0 0);generalize ((((((w3.setCell ⟨w.heap.size,0,none⟩ (.int .u8 99)).setCell ⟨w.heap.size,1,none⟩ (.int .i64 0)).setCell ⟨w.heap.size,2,none⟩ (.string tb)).setCell ⟨w.heap.size,3,none⟩ (.slice none 0 0)).setCell ⟨w.heap.size,4,none⟩ (.slice none 0 0)).setCell ⟨w.heap.size,5,none⟩ (.slice none 0 0))=wf at hC2 hk2 hB2 ⊢;obtain⟨q0,q1,q2,q3,q4,q5⟩:=hC2.six;refine bodyPost_ret (v:=.agg #[.int .u8 99,.int .i64 0,.string tb,.slice none 0 0,.slice none 0 0,.slice none 0 0]) (by simp[results,Tryz.results170,go_sem,q0,q1,q2,q3,q4,q5]) rfl ?_;exact⟨hk2,by decide,_,_,_,_,_,_,_,_,_,_,_,_,k,rfl,Nat.le_refl _,h.to hk2 hB2 h.kle⟩
theorem itP_kept (w:World) (sb yb:Nat) (rs:RS) (defs:List Def) (lv:Value) (ws:List ByteArray) (k lo:Nat) (tb:ByteArray) (hnum:numP tb.toList=none) (hpl:plainL.any (· == tb.toList)=false) (b0:(tb.toList == [105,102])=false) (b1:(tb.toList == [98,101,103,105,110])=false) (b2:(tb.toList == [100,111])=false) (b3:(tb.toList == [105])=false) (b4:(tb.toList == [114,101,99,117,114,115,101])=false) (b5:(tb.toList == [101,120,105,116])=false) (b6:(tb.toList == [123])=false) (hkept:keptL.any (· == tb.toList)=true) (h:ScInv K w sb yb rs defs lv ws k 0 lo):
  Calls Tryz.prog 170 #[.pointer (some ⟨sb,0,none⟩),.string tb] w fun x w'=>Kp w w' (fun b=>b=sb)/\PIt K w sb yb rs defs lv ws k lo x w' (.error 4):=by
 have hsb:=h.blk.lt;have hln:=h.len;have hkl:=h.kle;go_enter Tryz.func170,Tryz.ntmps170
 go_wp2_with fail
 refine (numberR _ _).mono ?_;rintro e w' ⟨rfl,hw⟩;rw[hw,numV_none hnum];clear hw
 go_wp2_with fail
 refine (isPlainR _ _).mono ?_;rintro e w1 ⟨rfl,hk1⟩
 go_wp2_with fail
 refine (isKeptR _ _).mono ?_;rintro e w2 ⟨rfl,hk2⟩;have hkp:Kp w w2 (fun b=>b=sb):=(((Kp.refl _ _).alloc _).trans (hk1.mono (fun _ _ h=>h.elim))).trans (hk2.mono (fun _ _ h=>h.elim));have hC:Blk w2 w.heap.size 227 zItem:=hk2.blk (hk1.blk (Blk.new w _ _) (by simp)) (by simp);have hS:ScInv K w2 sb yb rs defs lv ws k 0 lo:=h.to hkp (hk2.blk (hk1.blk (h.blk.alloc _) (by simp)) (by simp)) h.kle;have hcs:¬ w.heap.size=sb:=by omega
 clear hk1 hk2;have c4:w2.cell? ⟨sb,4,none⟩=some (.int .i64 lo):=hS.blk.cell rfl
 go_wp2_with fail
 refine (failS _ sb yb lv k lo 4 hS.blk).mono ?_;rintro e w3 ⟨rfl,hB3,hk3⟩
 replace hC:=hk3.blk hC hcs
 replace hkp:=hkp.trans hk3
 replace hS:=h.to hkp hB3 h.kle
 clear hB3 hk3;obtain⟨y0,y1,y2,y3,y4,y5⟩:=hC.six;obtain⟨z0,z1,z2,z3,z4,z5⟩:=hC.sixF;go_wp2;have hC2:=hC.set6 (.int .u8 99) (.int .i64 0) (.string tb) (.slice none 0 0) (.slice none 0 0) (.slice none 0 0);have hk2:=hkp.set6 (Nat.le_refl _) (.int .u8 99) (.int .i64 0) (.string tb) (.slice none 0 0) (.slice none 0 0) (.slice none 0 0);have hB2:=hS.blk.other6 (Ne.symm hcs) (.int .u8 99) (.int .i64 0) (.string tb) (.slice none 0 0) (.slice none 0 0) (.slice none 0 0);generalize ((((((w3.setCell ⟨w.heap.size,0,none⟩ (.int .u8 99)).setCell ⟨w.heap.size,1,none⟩ (.int .i64 0)).setCell ⟨w.heap.size,2,none⟩ (.string tb)).setCell ⟨w.heap.size,3,none⟩ (.slice none 0 0)).setCell ⟨w.heap.size,4,none⟩ (.slice none 0 0)).setCell ⟨w.heap.size,5,none⟩ (.slice none 0 0))=wf at hC2 hk2 hB2 ⊢;obtain⟨q0,q1,q2,q3,q4,q5⟩:=hC2.six;refine bodyPost_ret (v:=.agg #[.int .u8 99,.int .i64 0,.string tb,.slice none 0 0,.slice none 0 0,.slice none 0 0]) (by simp[results,Tryz.results170,go_sem,q0,q1,q2,q3,q4,q5]) rfl ?_;exact⟨hk2,by decide,_,_,_,_,_,_,_,_,_,_,_,_,k,rfl,Nat.le_refl _,h.to hk2 hB2 h.kle⟩
theorem itP_colon (w:World) (sb yb:Nat) (rs:RS) (defs:List Def) (lv:Value) (ws:List ByteArray) (k lo:Nat) (tb:ByteArray) (hnum:numP tb.toList=none) (hpl:plainL.any (· == tb.toList)=false) (b0:(tb.toList == [105,102])=false) (b1:(tb.toList == [98,101,103,105,110])=false) (b2:(tb.toList == [100,111])=false) (b3:(tb.toList == [105])=false) (b4:(tb.toList == [114,101,99,117,114,115,101])=false) (b5:(tb.toList == [101,120,105,116])=false) (b6:(tb.toList == [123])=false) (hkept:keptL.any (· == tb.toList)=false) (d1:(tb.toList == [58])=true) (h:ScInv K w sb yb rs defs lv ws k 0 lo):
  Calls Tryz.prog 170 #[.pointer (some ⟨sb,0,none⟩),.string tb] w fun x w'=>Kp w w' (fun b=>b=sb)/\PIt K w sb yb rs defs lv ws k lo x w' (.error 4):=by
 have hsb:=h.blk.lt;have hln:=h.len;have hkl:=h.kle;go_enter Tryz.func170,Tryz.ntmps170
 go_wp2_with fail
 refine (numberR _ _).mono ?_;rintro e w' ⟨rfl,hw⟩;rw[hw,numV_none hnum];clear hw
 go_wp2_with fail
 refine (isPlainR _ _).mono ?_;rintro e w1 ⟨rfl,hk1⟩
 go_wp2_with fail
 refine (isKeptR _ _).mono ?_;rintro e w2 ⟨rfl,hk2⟩;have hkp:Kp w w2 (fun b=>b=sb):=(((Kp.refl _ _).alloc _).trans (hk1.mono (fun _ _ h=>h.elim))).trans (hk2.mono (fun _ _ h=>h.elim));have hC:Blk w2 w.heap.size 227 zItem:=hk2.blk (hk1.blk (Blk.new w _ _) (by simp)) (by simp);have hS:ScInv K w2 sb yb rs defs lv ws k 0 lo:=h.to hkp (hk2.blk (hk1.blk (h.blk.alloc _) (by simp)) (by simp)) h.kle;have hcs:¬ w.heap.size=sb:=by omega
 clear hk1 hk2;have c4:w2.cell? ⟨sb,4,none⟩=some (.int .i64 lo):=hS.blk.cell rfl
 go_wp2_with fail
 refine (failS _ sb yb lv k lo 4 hS.blk).mono ?_;rintro e w3 ⟨rfl,hB3,hk3⟩
 replace hC:=hk3.blk hC hcs
 replace hkp:=hkp.trans hk3
 replace hS:=h.to hkp hB3 h.kle
 clear hB3 hk3;obtain⟨y0,y1,y2,y3,y4,y5⟩:=hC.six;obtain⟨z0,z1,z2,z3,z4,z5⟩:=hC.sixF;go_wp2;have hC2:=hC.set6 (.int .u8 99) (.int .i64 0) (.string tb) (.slice none 0 0) (.slice none 0 0) (.slice none 0 0);have hk2:=hkp.set6 (Nat.le_refl _) (.int .u8 99) (.int .i64 0) (.string tb) (.slice none 0 0) (.slice none 0 0) (.slice none 0 0);have hB2:=hS.blk.other6 (Ne.symm hcs) (.int .u8 99) (.int .i64 0) (.string tb) (.slice none 0 0) (.slice none 0 0) (.slice none 0 0);generalize ((((((w3.setCell ⟨w.heap.size,0,none⟩ (.int .u8 99)).setCell ⟨w.heap.size,1,none⟩ (.int .i64 0)).setCell ⟨w.heap.size,2,none⟩ (.string tb)).setCell ⟨w.heap.size,3,none⟩ (.slice none 0 0)).setCell ⟨w.heap.size,4,none⟩ (.slice none 0 0)).setCell ⟨w.heap.size,5,none⟩ (.slice none 0 0))=wf at hC2 hk2 hB2 ⊢;obtain⟨q0,q1,q2,q3,q4,q5⟩:=hC2.six;refine bodyPost_ret (v:=.agg #[.int .u8 99,.int .i64 0,.string tb,.slice none 0 0,.slice none 0 0,.slice none 0 0]) (by simp[results,Tryz.results170,go_sem,q0,q1,q2,q3,q4,q5]) rfl ?_;exact⟨hk2,by decide,_,_,_,_,_,_,_,_,_,_,_,_,k,rfl,Nat.le_refl _,h.to hk2 hB2 h.kle⟩
theorem itP_semi (w:World) (sb yb:Nat) (rs:RS) (defs:List Def) (lv:Value) (ws:List ByteArray) (k lo:Nat) (tb:ByteArray) (hnum:numP tb.toList=none) (hpl:plainL.any (· == tb.toList)=false) (b0:(tb.toList == [105,102])=false) (b1:(tb.toList == [98,101,103,105,110])=false) (b2:(tb.toList == [100,111])=false) (b3:(tb.toList == [105])=false) (b4:(tb.toList == [114,101,99,117,114,115,101])=false) (b5:(tb.toList == [101,120,105,116])=false) (b6:(tb.toList == [123])=false) (hkept:keptL.any (· == tb.toList)=false) (d1:(tb.toList == [58])=false) (d2:(tb.toList == [59])=true) (h:ScInv K w sb yb rs defs lv ws k 0 lo):
  Calls Tryz.prog 170 #[.pointer (some ⟨sb,0,none⟩),.string tb] w fun x w'=>Kp w w' (fun b=>b=sb)/\PIt K w sb yb rs defs lv ws k lo x w' (.error 4):=by
 have hsb:=h.blk.lt;have hln:=h.len;have hkl:=h.kle;go_enter Tryz.func170,Tryz.ntmps170
 go_wp2_with fail
 refine (numberR _ _).mono ?_;rintro e w' ⟨rfl,hw⟩;rw[hw,numV_none hnum];clear hw
 go_wp2_with fail
 refine (isPlainR _ _).mono ?_;rintro e w1 ⟨rfl,hk1⟩
 go_wp2_with fail
 refine (isKeptR _ _).mono ?_;rintro e w2 ⟨rfl,hk2⟩;have hkp:Kp w w2 (fun b=>b=sb):=(((Kp.refl _ _).alloc _).trans (hk1.mono (fun _ _ h=>h.elim))).trans (hk2.mono (fun _ _ h=>h.elim));have hC:Blk w2 w.heap.size 227 zItem:=hk2.blk (hk1.blk (Blk.new w _ _) (by simp)) (by simp);have hS:ScInv K w2 sb yb rs defs lv ws k 0 lo:=h.to hkp (hk2.blk (hk1.blk (h.blk.alloc _) (by simp)) (by simp)) h.kle;have hcs:¬ w.heap.size=sb:=by omega
 clear hk1 hk2;have c4:w2.cell? ⟨sb,4,none⟩=some (.int .i64 lo):=hS.blk.cell rfl
 go_wp2_with fail
 refine (failS _ sb yb lv k lo 4 hS.blk).mono ?_;rintro e w3 ⟨rfl,hB3,hk3⟩
 replace hC:=hk3.blk hC hcs
 replace hkp:=hkp.trans hk3
 replace hS:=h.to hkp hB3 h.kle
 clear hB3 hk3;obtain⟨y0,y1,y2,y3,y4,y5⟩:=hC.six;obtain⟨z0,z1,z2,z3,z4,z5⟩:=hC.sixF;go_wp2;have hC2:=hC.set6 (.int .u8 99) (.int .i64 0) (.string tb) (.slice none 0 0) (.slice none 0 0) (.slice none 0 0);have hk2:=hkp.set6 (Nat.le_refl _) (.int .u8 99) (.int .i64 0) (.string tb) (.slice none 0 0) (.slice none 0 0) (.slice none 0 0);have hB2:=hS.blk.other6 (Ne.symm hcs) (.int .u8 99) (.int .i64 0) (.string tb) (.slice none 0 0) (.slice none 0 0) (.slice none 0 0);generalize ((((((w3.setCell ⟨w.heap.size,0,none⟩ (.int .u8 99)).setCell ⟨w.heap.size,1,none⟩ (.int .i64 0)).setCell ⟨w.heap.size,2,none⟩ (.string tb)).setCell ⟨w.heap.size,3,none⟩ (.slice none 0 0)).setCell ⟨w.heap.size,4,none⟩ (.slice none 0 0)).setCell ⟨w.heap.size,5,none⟩ (.slice none 0 0))=wf at hC2 hk2 hB2 ⊢;obtain⟨q0,q1,q2,q3,q4,q5⟩:=hC2.six;refine bodyPost_ret (v:=.agg #[.int .u8 99,.int .i64 0,.string tb,.slice none 0 0,.slice none 0 0,.slice none 0 0]) (by simp[results,Tryz.results170,go_sem,q0,q1,q2,q3,q4,q5]) rfl ?_;exact⟨hk2,by decide,_,_,_,_,_,_,_,_,_,_,_,_,k,rfl,Nat.le_refl _,h.to hk2 hB2 h.kle⟩
theorem itP_close (w:World) (sb yb:Nat) (rs:RS) (defs:List Def) (lv:Value) (ws:List ByteArray) (k lo:Nat) (tb:ByteArray) (hnum:numP tb.toList=none) (hpl:plainL.any (· == tb.toList)=false) (b0:(tb.toList == [105,102])=false) (b1:(tb.toList == [98,101,103,105,110])=false) (b2:(tb.toList == [100,111])=false) (b3:(tb.toList == [105])=false) (b4:(tb.toList == [114,101,99,117,114,115,101])=false) (b5:(tb.toList == [101,120,105,116])=false) (b6:(tb.toList == [123])=false) (hkept:keptL.any (· == tb.toList)=false) (d1:(tb.toList == [58])=false) (d2:(tb.toList == [59])=false) (d3:(tb.toList == [125])=true) (h:ScInv K w sb yb rs defs lv ws k 0 lo):
  Calls Tryz.prog 170 #[.pointer (some ⟨sb,0,none⟩),.string tb] w fun x w'=>Kp w w' (fun b=>b=sb)/\PIt K w sb yb rs defs lv ws k lo x w' (.error 4):=by
 have hsb:=h.blk.lt;have hln:=h.len;have hkl:=h.kle;go_enter Tryz.func170,Tryz.ntmps170
 go_wp2_with fail
 refine (numberR _ _).mono ?_;rintro e w' ⟨rfl,hw⟩;rw[hw,numV_none hnum];clear hw
 go_wp2_with fail
 refine (isPlainR _ _).mono ?_;rintro e w1 ⟨rfl,hk1⟩
 go_wp2_with fail
 refine (isKeptR _ _).mono ?_;rintro e w2 ⟨rfl,hk2⟩;have hkp:Kp w w2 (fun b=>b=sb):=(((Kp.refl _ _).alloc _).trans (hk1.mono (fun _ _ h=>h.elim))).trans (hk2.mono (fun _ _ h=>h.elim));have hC:Blk w2 w.heap.size 227 zItem:=hk2.blk (hk1.blk (Blk.new w _ _) (by simp)) (by simp);have hS:ScInv K w2 sb yb rs defs lv ws k 0 lo:=h.to hkp (hk2.blk (hk1.blk (h.blk.alloc _) (by simp)) (by simp)) h.kle;have hcs:¬ w.heap.size=sb:=by omega
 clear hk1 hk2;have c4:w2.cell? ⟨sb,4,none⟩=some (.int .i64 lo):=hS.blk.cell rfl
 go_wp2_with fail
 refine (failS _ sb yb lv k lo 4 hS.blk).mono ?_;rintro e w3 ⟨rfl,hB3,hk3⟩
 replace hC:=hk3.blk hC hcs
 replace hkp:=hkp.trans hk3
 replace hS:=h.to hkp hB3 h.kle
 clear hB3 hk3;obtain⟨y0,y1,y2,y3,y4,y5⟩:=hC.six;obtain⟨z0,z1,z2,z3,z4,z5⟩:=hC.sixF;go_wp2;have hC2:=hC.set6 (.int .u8 99) (.int .i64 0) (.string tb) (.slice none 0 0) (.slice none 0 0) (.slice none 0 0);have hk2:=hkp.set6 (Nat.le_refl _) (.int .u8 99) (.int .i64 0) (.string tb) (.slice none 0 0) (.slice none 0 0) (.slice none 0 0);have hB2:=hS.blk.other6 (Ne.symm hcs) (.int .u8 99) (.int .i64 0) (.string tb) (.slice none 0 0) (.slice none 0 0) (.slice none 0 0);generalize ((((((w3.setCell ⟨w.heap.size,0,none⟩ (.int .u8 99)).setCell ⟨w.heap.size,1,none⟩ (.int .i64 0)).setCell ⟨w.heap.size,2,none⟩ (.string tb)).setCell ⟨w.heap.size,3,none⟩ (.slice none 0 0)).setCell ⟨w.heap.size,4,none⟩ (.slice none 0 0)).setCell ⟨w.heap.size,5,none⟩ (.slice none 0 0))=wf at hC2 hk2 hB2 ⊢;obtain⟨q0,q1,q2,q3,q4,q5⟩:=hC2.six;refine bodyPost_ret (v:=.agg #[.int .u8 99,.int .i64 0,.string tb,.slice none 0 0,.slice none 0 0,.slice none 0 0]) (by simp[results,Tryz.results170,go_sem,q0,q1,q2,q3,q4,q5]) rfl ?_;exact⟨hk2,by decide,_,_,_,_,_,_,_,_,_,_,_,_,k,rfl,Nat.le_refl _,h.to hk2 hB2 h.kle⟩
theorem itP_word (w:World) (sb yb:Nat) (rs:RS) (defs:List Def) (lv:Value) (ws:List ByteArray) (k lo:Nat) (tb:ByteArray) (hnum:numP tb.toList=none) (hpl:plainL.any (· == tb.toList)=false) (b0:(tb.toList == [105,102])=false) (b1:(tb.toList == [98,101,103,105,110])=false) (b2:(tb.toList == [100,111])=false) (b3:(tb.toList == [105])=false) (b4:(tb.toList == [114,101,99,117,114,115,101])=false) (b5:(tb.toList == [101,120,105,116])=false) (b6:(tb.toList == [123])=false) (hkept:keptL.any (· == tb.toList)=false) (d1:(tb.toList == [58])=false) (d2:(tb.toList == [59])=false) (d3:(tb.toList == [125])=false) (hf:findI defs tb.data.toList < 0) (h:ScInv K w sb yb rs defs lv ws k 0 lo):
  Calls Tryz.prog 170 #[.pointer (some ⟨sb,0,none⟩),.string tb] w fun x w'=>Kp w w' (fun b=>b=sb)/\PIt K w sb yb rs defs lv ws k lo x w' (.error 3):=by
 have hsb:=h.blk.lt;have hln:=h.len;have hkl:=h.kle;go_enter Tryz.func170,Tryz.ntmps170
 go_wp2_with fail
 refine (numberR _ _).mono ?_;rintro e w' ⟨rfl,hw⟩;rw[hw,numV_none hnum];clear hw
 go_wp2_with fail
 refine (isPlainR _ _).mono ?_;rintro e w1 ⟨rfl,hk1⟩
 go_wp2_with fail
 refine (isKeptR _ _).mono ?_;rintro e w2 ⟨rfl,hk2⟩;have hkp:Kp w w2 (fun b=>b=sb):=(((Kp.refl _ _).alloc _).trans (hk1.mono (fun _ _ h=>h.elim))).trans (hk2.mono (fun _ _ h=>h.elim));have hC:Blk w2 w.heap.size 227 zItem:=hk2.blk (hk1.blk (Blk.new w _ _) (by simp)) (by simp);have hS:ScInv K w2 sb yb rs defs lv ws k 0 lo:=h.to hkp (hk2.blk (hk1.blk (h.blk.alloc _) (by simp)) (by simp)) h.kle;have hcs:¬ w.heap.size=sb:=by omega
 clear hk1 hk2;have c4:w2.cell? ⟨sb,4,none⟩=some (.int .i64 lo):=hS.blk.cell rfl;have c0:w2.cell? ⟨sb,0,none⟩=some (.pointer (some ⟨yb,0,none⟩)):=hS.blk.cell rfl
 go_wp2_with fail
 refine (findS _ _ _ _ _ hS.yblk hS.dr).mono ?_;rintro e w' ⟨rfl,hw⟩;rw[hw];clear hw
 go_wp2_with fail
 refine (failS _ sb yb lv k lo 3 hS.blk).mono ?_;rintro e w3 ⟨rfl,hB3,hk3⟩
 replace hC:=hk3.blk hC hcs
 replace hkp:=hkp.trans hk3
 replace hS:=h.to hkp hB3 h.kle
 clear hB3 hk3;obtain⟨y0,y1,y2,y3,y4,y5⟩:=hC.six;obtain⟨z0,z1,z2,z3,z4,z5⟩:=hC.sixF;go_wp2;have hC2:=hC.set6 (.int .u8 99) (.int .i64 0) (.string tb) (.slice none 0 0) (.slice none 0 0) (.slice none 0 0);have hk2:=hkp.set6 (Nat.le_refl _) (.int .u8 99) (.int .i64 0) (.string tb) (.slice none 0 0) (.slice none 0 0) (.slice none 0 0);have hB2:=hS.blk.other6 (Ne.symm hcs) (.int .u8 99) (.int .i64 0) (.string tb) (.slice none 0 0) (.slice none 0 0) (.slice none 0 0);generalize ((((((w3.setCell ⟨w.heap.size,0,none⟩ (.int .u8 99)).setCell ⟨w.heap.size,1,none⟩ (.int .i64 0)).setCell ⟨w.heap.size,2,none⟩ (.string tb)).setCell ⟨w.heap.size,3,none⟩ (.slice none 0 0)).setCell ⟨w.heap.size,4,none⟩ (.slice none 0 0)).setCell ⟨w.heap.size,5,none⟩ (.slice none 0 0))=wf at hC2 hk2 hB2 ⊢;obtain⟨q0,q1,q2,q3,q4,q5⟩:=hC2.six;refine bodyPost_ret (v:=.agg #[.int .u8 99,.int .i64 0,.string tb,.slice none 0 0,.slice none 0 0,.slice none 0 0]) (by simp[results,Tryz.results170,go_sem,q0,q1,q2,q3,q4,q5]) rfl ?_;exact⟨hk2,by decide,_,_,_,_,_,_,_,_,_,_,_,_,k,rfl,Nat.le_refl _,h.to hk2 hB2 h.kle⟩
theorem itP_call (w:World) (sb yb:Nat) (rs:RS) (defs:List Def) (lv:Value) (ws:List ByteArray) (k lo:Nat) (tb:ByteArray) (hnum:numP tb.toList=none) (hpl:plainL.any (· == tb.toList)=false) (b0:(tb.toList == [105,102])=false) (b1:(tb.toList == [98,101,103,105,110])=false) (b2:(tb.toList == [100,111])=false) (b3:(tb.toList == [105])=false) (b4:(tb.toList == [114,101,99,117,114,115,101])=false) (b5:(tb.toList == [101,120,105,116])=false) (b6:(tb.toList == [123])=false) (hkept:keptL.any (· == tb.toList)=false) (d1:(tb.toList == [58])=false) (d2:(tb.toList == [59])=false) (d3:(tb.toList == [125])=false) (hf:¬ findI defs tb.data.toList < 0) (h:ScInv K w sb yb rs defs lv ws k 0 lo):
  Calls Tryz.prog 170 #[.pointer (some ⟨sb,0,none⟩),.string tb] w fun x w'=>Kp w w' (fun b=>b=sb)/\PIt K w sb yb rs defs lv ws k lo x w' (.ok ([⟨99,0,tb.data.toList,[],[],[]⟩],[],(texts ws).drop k)):=by
 have hsb:=h.blk.lt;have hln:=h.len;have hkl:=h.kle;go_enter Tryz.func170,Tryz.ntmps170
 go_wp2_with fail
 refine (numberR _ _).mono ?_;rintro e w' ⟨rfl,hw⟩;rw[hw,numV_none hnum];clear hw
 go_wp2_with fail
 refine (isPlainR _ _).mono ?_;rintro e w1 ⟨rfl,hk1⟩
 go_wp2_with fail
 refine (isKeptR _ _).mono ?_;rintro e w2 ⟨rfl,hk2⟩;have hkp:Kp w w2 (fun b=>b=sb):=(((Kp.refl _ _).alloc _).trans (hk1.mono (fun _ _ h=>h.elim))).trans (hk2.mono (fun _ _ h=>h.elim));have hC:Blk w2 w.heap.size 227 zItem:=hk2.blk (hk1.blk (Blk.new w _ _) (by simp)) (by simp);have hS:ScInv K w2 sb yb rs defs lv ws k 0 lo:=h.to hkp (hk2.blk (hk1.blk (h.blk.alloc _) (by simp)) (by simp)) h.kle;have hcs:¬ w.heap.size=sb:=by omega
 clear hk1 hk2;have c4:w2.cell? ⟨sb,4,none⟩=some (.int .i64 lo):=hS.blk.cell rfl;have c0:w2.cell? ⟨sb,0,none⟩=some (.pointer (some ⟨yb,0,none⟩)):=hS.blk.cell rfl
 go_wp2_with fail
 refine (findS _ _ _ _ _ hS.yblk hS.dr).mono ?_;rintro e w' ⟨rfl,hw⟩;rw[hw];clear hw;obtain⟨y0,y1,y2,y3,y4,y5⟩:=hC.six;obtain⟨z0,z1,z2,z3,z4,z5⟩:=hC.sixF;go_wp2;have hC2:=hC.set6 (.int .u8 99) (.int .i64 0) (.string tb) (.slice none 0 0) (.slice none 0 0) (.slice none 0 0);have hk2:=hkp.set6 (Nat.le_refl _) (.int .u8 99) (.int .i64 0) (.string tb) (.slice none 0 0) (.slice none 0 0) (.slice none 0 0);have hB2:=hS.blk.other6 (Ne.symm hcs) (.int .u8 99) (.int .i64 0) (.string tb) (.slice none 0 0) (.slice none 0 0) (.slice none 0 0);generalize ((((((w2.setCell ⟨w.heap.size,0,none⟩ (.int .u8 99)).setCell ⟨w.heap.size,1,none⟩ (.int .i64 0)).setCell ⟨w.heap.size,2,none⟩ (.string tb)).setCell ⟨w.heap.size,3,none⟩ (.slice none 0 0)).setCell ⟨w.heap.size,4,none⟩ (.slice none 0 0)).setCell ⟨w.heap.size,5,none⟩ (.slice none 0 0))=wf at hC2 hk2 hB2 ⊢;obtain⟨q0,q1,q2,q3,q4,q5⟩:=hC2.six;refine bodyPost_ret (v:=.agg #[.int .u8 99,.int .i64 0,.string tb,.slice none 0 0,.slice none 0 0,.slice none 0 0]) (by simp[results,Tryz.results170,go_sem,q0,q1,q2,q3,q4,q5]) rfl ?_;exact⟨hk2,_,_,_,_,_,k,rfl,rfl,ItAt.leaf 99 0 tb in0,rfl,Nat.le_refl _,h.to hk2 hB2 h.kle⟩
theorem itP_open (w:World) (sb yb:Nat) (rs:RS) (defs:List Def) (lv:Value) (ws:List ByteArray) (k lo:Nat) (tb:ByteArray) (hnum:numP tb.toList=none) (hpl:plainL.any (· == tb.toList)=false) (b0:(tb.toList == [105,102])=false) (b1:(tb.toList == [98,101,103,105,110])=false) (b2:(tb.toList == [100,111])=false) (b3:(tb.toList == [105])=false) (b4:(tb.toList == [114,101,99,117,114,115,101])=false) (b5:(tb.toList == [101,120,105,116])=false) (b6:(tb.toList == [123])=true) (res:PRes) (hres:res=match pBraces ((texts ws).drop k) with | .error e=>.error e | .ok (ts,r1)=>.ok ([⟨123,0,[],[],[],ts⟩],[],r1)) (h:ScInv K w sb yb rs defs lv ws k 0 lo):
  Calls Tryz.prog 170 #[.pointer (some ⟨sb,0,none⟩),.string tb] w fun x w'=>Kp w w' (fun b=>b=sb)/\PIt K w sb yb rs defs lv ws k lo x w' (res):=by
 have hsb:=h.blk.lt;have hln:=h.len;have hkl:=h.kle;go_enter Tryz.func170,Tryz.ntmps170
 go_wp2_with fail
 refine (numberR _ _).mono ?_;rintro e w' ⟨rfl,hw⟩;rw[hw,numV_none hnum];clear hw
 go_wp2_with fail
 refine (isPlainR _ _).mono ?_;rintro e w1 ⟨rfl,hk1⟩
 go_wp2_with fail
 refine (isKeptR _ _).mono ?_;rintro e w2 ⟨rfl,hk2⟩;have hkp:Kp w w2 (fun b=>b=sb):=(((Kp.refl _ _).alloc _).trans (hk1.mono (fun _ _ h=>h.elim))).trans (hk2.mono (fun _ _ h=>h.elim));have hC:Blk w2 w.heap.size 227 zItem:=hk2.blk (hk1.blk (Blk.new w _ _) (by simp)) (by simp);have hS:ScInv K w2 sb yb rs defs lv ws k 0 lo:=h.to hkp (hk2.blk (hk1.blk (h.blk.alloc _) (by simp)) (by simp)) h.kle;have hcs:¬ w.heap.size=sb:=by omega
 clear hk1 hk2;have c4:w2.cell? ⟨sb,4,none⟩=some (.int .i64 lo):=hS.blk.cell rfl;have HR:=hide hres;clear hres
 go_wp2_with fail
 refine (bracesS _ sb yb rs defs lv ws k lo hS).mono ?_;rintro x w3 ⟨hk3,hp⟩;have hCl:=hC.lt
 replace hC:=hk3.blk hC hcs
 have hszz:=hkp.size
 replace hkp:=hkp.trans hk3
 cases hpb:pBraces ((texts ws).drop k) with
 | error er=>
  rw[hpb] at hp HR;obtain⟨her,ao,n,cap,k2,rfl,hkk,hS3⟩:=hp
  replace hS:=hS3
  clear hS3 hk3 hpb;obtain⟨y0,y1,y2,y3,y4,y5⟩:=hC.six;obtain⟨z0,z1,z2,z3,z4,z5⟩:=hC.sixF;go_wp2;have hC2:=hC.set6 (.int .u8 123) (.int .i64 0) (.string ⟨#[]⟩) (.slice none 0 0) (.slice none 0 0) (.slice ao n cap);have hk2:=hkp.set6 (Nat.le_refl _) (.int .u8 123) (.int .i64 0) (.string ⟨#[]⟩) (.slice none 0 0) (.slice none 0 0) (.slice ao n cap);have hB2:=hS.blk.other6 (Ne.symm hcs) (.int .u8 123) (.int .i64 0) (.string ⟨#[]⟩) (.slice none 0 0) (.slice none 0 0) (.slice ao n cap);generalize ((((((w3.setCell ⟨w.heap.size,0,none⟩ (.int .u8 123)).setCell ⟨w.heap.size,1,none⟩ (.int .i64 0)).setCell ⟨w.heap.size,2,none⟩ (.string ⟨#[]⟩)).setCell ⟨w.heap.size,3,none⟩ (.slice none 0 0)).setCell ⟨w.heap.size,4,none⟩ (.slice none 0 0)).setCell ⟨w.heap.size,5,none⟩ (.slice ao n cap))=wf at hC2 hk2 hB2 ⊢;obtain⟨q0,q1,q2,q3,q4,q5⟩:=hC2.six;refine bodyPost_ret (v:=.agg #[.int .u8 123,.int .i64 0,.string ⟨#[]⟩,.slice none 0 0,.slice none 0 0,.slice ao n cap]) (by simp[results,Tryz.results170,go_sem,q0,q1,q2,q3,q4,q5]) rfl ?_;rw[HR.out];exact⟨hk2,her,_,_,_,_,_,_,_,_,_,_,_,_,k2,rfl,hkk,h.to hk2 hB2 hS.kle⟩
 | ok p=>
  obtain⟨bs,r⟩:=p;rw[hpb] at hp HR;obtain⟨vt,k2,rfl,ht,hbl,rfl,hkk,hS3⟩:=hp;obtain⟨ws5,hr5,ht2⟩:=ht;obtain⟨a5,p5,rfl⟩:=row_slice hr5
  replace hS:=hS3
  have HT5:Hid (toksIn (New w2) w3 (.slice a5 ws5.length p5) bs):=⟨ws5,hr5,ht2⟩;clear hS3 hk3 hpb hr5 ht2;obtain⟨y0,y1,y2,y3,y4,y5⟩:=hC.six;obtain⟨z0,z1,z2,z3,z4,z5⟩:=hC.sixF;go_wp2;have hC2:=hC.set6 (.int .u8 123) (.int .i64 0) (.string ⟨#[]⟩) (.slice none 0 0) (.slice none 0 0) (.slice a5 ws5.length p5);have hk2:=hkp.set6 (Nat.le_refl _) (.int .u8 123) (.int .i64 0) (.string ⟨#[]⟩) (.slice none 0 0) (.slice none 0 0) (.slice a5 ws5.length p5);have hB2:=hS.blk.other6 (Ne.symm hcs) (.int .u8 123) (.int .i64 0) (.string ⟨#[]⟩) (.slice none 0 0) (.slice none 0 0) (.slice a5 ws5.length p5);have hkeep:Keeps (New w2) (New w) w3 ((((((w3.setCell ⟨w.heap.size,0,none⟩ (.int .u8 123)).setCell ⟨w.heap.size,1,none⟩ (.int .i64 0)).setCell ⟨w.heap.size,2,none⟩ (.string ⟨#[]⟩)).setCell ⟨w.heap.size,3,none⟩ (.slice none 0 0)).setCell ⟨w.heap.size,4,none⟩ (.slice none 0 0)).setCell ⟨w.heap.size,5,none⟩ (.slice a5 ws5.length p5)):=fun b t' c hb hbl _=>by
   have hb:w2.heap.size<=b:=hb;have hC0:w.heap.size < w2.heap.size:=hCl;exact⟨hbl.other6 (by omega) _ _ _ _ _ _,by show w.heap.size<=b;omega⟩
  generalize ((((((w3.setCell ⟨w.heap.size,0,none⟩ (.int .u8 123)).setCell ⟨w.heap.size,1,none⟩ (.int .i64 0)).setCell ⟨w.heap.size,2,none⟩ (.string ⟨#[]⟩)).setCell ⟨w.heap.size,3,none⟩ (.slice none 0 0)).setCell ⟨w.heap.size,4,none⟩ (.slice none 0 0)).setCell ⟨w.heap.size,5,none⟩ (.slice a5 ws5.length p5))=wf at hC2 hk2 hB2 hkeep ⊢;obtain⟨q0,q1,q2,q3,q4,q5⟩:=hC2.six;refine bodyPost_ret (v:=.agg #[.int .u8 123,.int .i64 0,.string ⟨#[]⟩,.slice none 0 0,.slice none 0 0,.slice a5 ws5.length p5]) (by simp[results,Tryz.results170,go_sem,q0,q1,q2,q3,q4,q5]) rfl ?_;rw[HR.out];exact⟨hk2,_,⟨#[]⟩,_,_,_,k2,rfl,rfl,⟨rfl,BodyS.nil _ _,BodyS.nil _ _,toksIn_keep hkeep HT5.out,⟨in0,hbl⟩⟩,rfl,hkk,h.to hk2 hB2 hS.kle⟩
end
end Go.Proofs.YteainaiebcphlaaGreatDoor
