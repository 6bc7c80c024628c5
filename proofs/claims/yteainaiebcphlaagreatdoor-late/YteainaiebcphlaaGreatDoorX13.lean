import Derived.Test.YteainaiebcphlaaGreatDoorX12
import Derived.Carry
import Derived.Test.YteainaiebcphlaaGreatDoorX8
import Derived.Test.YteainaiebcphlaaGreatDoorX7
namespace Go.Proofs.YteainaiebcphlaaGreatDoor
set_option maxRecDepth 1000000
set_option maxHeartbeats 4000000
set_option linter.all false
section
open Go.RowKit
theorem seven (a0 a1 a2 a3 a4 a5 a6:Value) (rest:List Value) (i j:Nat):(a0 :: a1 :: a2 :: a3 :: a4 :: a5 :: a6 :: rest)[(i+1) * 7+j]? = rest[i * 7+j]?:=by
 rw[show (i+1) * 7+j=i * 7+j+1+1+1+1+1+1+1 by omega];rfl
theorem itemsL_at {M:Mem} {P:Value->List It->Prop}:∀ (l:List It) (xs:List Value),itemsL M P l xs->∀ i (h:i < l.length),∃ n pl nm tv va vb,PItm M P l[i] n pl nm tv va vb /\
  xs[i * 7]? = some (.int .i64 (kindP l[i].kind))/\xs[i * 7+1]? = some (.int .i64 n)/\xs[i * 7+2]? = some (.int .i64 pl)/\xs[i * 7+3]? = some (.string nm)/\xs[i * 7+4]? = some tv/\xs[i * 7+5]? = some va/\xs[i * 7+6]? = some vb
 | [],_,_,i,h=>absurd h (by simp)
 | x :: l,xs,⟨n,pl,nm,tv,va,vb,rest,h1,h2,h3⟩,0,h=>by
  subst h1;exact⟨n,pl,nm,tv,va,vb,h2,by simp,by simp,by simp,by simp,by simp,by simp,by simp⟩
 | x :: l,xs,⟨n,pl,nm,tv,va,vb,rest,h1,h2,h3⟩,i+1,h=>by
  subst h1;obtain⟨n',pl',nm',tv',va',vb',k0,k1⟩:=itemsL_at l rest h3 i (by simpa using h);refine⟨n',pl',nm',tv',va',vb',k0,?_⟩;have e0:=seven (.int .i64 (kindP x.kind)) (.int .i64 n) (.int .i64 pl) (.string nm) tv va vb rest i 0;simp only[Nat.add_zero] at e0;rw[e0,seven,seven,seven,seven,seven,seven];exact k1
theorem actR_form {M:Mem} {R:Nat->Fr->Prop} {bk ob:Nat} {P:Nat->Value->List It->Prop} {x:It} {c:Value} (h:actR M R bk ob P x c):∃ n f cp,c=.func (.func n) f cp:=by
 unfold actR at h;rcases h with⟨_,_,ab,nb,rfl,_⟩|⟨_,ab,act,j,rfl,_⟩|⟨_,h⟩|⟨_,b1,b2,va,vb,rfl,_⟩|⟨_,b1,va,rfl,_⟩|⟨_,b1,b2,va,vb,rfl,_⟩|⟨_,b1,va,rfl,_⟩|⟨_,rfl⟩|⟨_,ab,db,bb,wb,rfl,_⟩|⟨_,rfl⟩|⟨_,ab,db,sb,tb,tv,ws,rfl,_⟩
 ·exact⟨_,_,_,rfl⟩
 ·exact⟨_,_,_,rfl⟩
 ·exact callR_form h
 all_goals exact⟨_,_,_,rfl⟩
def okI (kn:Tok->Prop) (x:It):Prop:=(x.kind=99->kn x.name)/\((x.kind=63\/x.kind=117\/x.kind=119\/x.kind=100)->∃ G lo,wb kn G lo x.a)/\((x.kind=63\/x.kind=119)->∃ G lo,wb kn G lo x.b)
theorem okI_of {kn:Tok->Prop} {l:List It} (h:∃ G lo,wb kn G lo l) {x:It} (hx:x∈l):okI kn x:=by
 obtain⟨G,lo,h⟩:=h
 cases G with
 | zero=>have h:l=[]:=h;subst h;cases hx
 | succ G=>
  rcases h x hx with⟨q,_⟩|⟨q,q1,q2⟩|⟨q,q1,_⟩
  ·refine⟨fun k=>?_,fun k=>?_,fun k=>?_⟩
   ·rcases q with q|q|q|q|q|q|q
    all_goals first
     | exact q.2
     | (exfalso;omega)
   ·exfalso;omega
   ·exfalso;omega
  ·exact⟨fun k=>by exfalso;omega,fun _=>⟨G,lo,q1⟩,fun _=>⟨G,lo,q2⟩⟩
  ·exact⟨fun k=>by exfalso;omega,fun _=>⟨G,true,q1⟩,fun k=>by exfalso;omega⟩
section
variable {R:Nat->Fr->Prop} {kn:Tok->Prop} {bo:Tok->Option (List It)} {bk lf:Nat} {mk pk:Option Nat} {J:(Nat->Prop)->(Tok->Prop)->World->Prop}
theorem actF (g:Nat) (hC:JC R kn bo bk lf mk pk J) (hF:FActs R kn bo bk lf mk pk J g) (E:Nat->Prop) (S:Tok->Prop) (w:World) (hJ:J E S w) (hU:Up E w) (ob:Nat) (x:It) (n pl:Int) (nm:ByteArray) (a1 a2 a3:Option Addr) (m1 m2 m3 p1 p2 p3:Nat) (h:PItm (BD E w) (itemsIn (BD E w) g) x n pl nm (.slice a1 m1 p1) (.slice a2 m2 p2) (.slice a3 m3 p3)) (ho:okI kn x):
  Calls Tryz.prog 183 #[.agg #[pt bk,pt ob,.int .i64 (lf:Int),.map mk,.map pk],it7 (kindP x.kind) n pl nm (.slice a1 m1 p1) (.slice a2 m2 p2) (.slice a3 m3 p3)] w fun e w'=>∃ c,e=.returned c/\Kp w w' (Ft mk pk)/\actR (BD E w') R bk ob (Acts (BD E w') R bk) x c/\J E (fun t=>S t\/Bd bo lf [x] t) w':=by
 have lift:¬ x.kind=99->¬ (x.kind=63\/x.kind=117\/x.kind=119\/x.kind=100)->∀ (e:Ending) (w':World),(∃ c,e=.returned c/\Kp w w' (fun _=>False)/\actR (BD E w') R bk ob (fun _ _ _=>False) x c)->∃ c,e=.returned c/\Kp w w' (Ft mk pk)/\actR (BD E w') R bk ob (Acts (BD E w') R bk) x c/\J E (fun t=>S t\/Bd bo lf [x] t) w':=by
  rintro k1 k2 e w' ⟨c,h1,h2,h3⟩;refine⟨c,h1,h2.ft mk pk,actR_mono (fun _ _ _ h=>h) (fun _ _ h=>h) (fun _ _ _ h=>h.elim) h3,?_⟩;rw[show (fun t=>S t\/Bd bo lf [x] t)=S by funext t;exact propext ⟨fun q=>q.elim id (fun q=>absurd q (Bd.none k1 k2 t)),.inl⟩];exact hC.kp hJ h2
 rcases h.kd with hk|hk|hk|hk|hk|hk|hk|hk|hk|hk|hk
 ·obtain⟨rfl,hn⟩:=h.num hk;have lift:=lift (by omega) (by omega);rw[hk];exact (fa_num w hU bk ob x hk hn pl nm a1 a2 a3 m1 m2 m3 p1 p2 p3 _).mono lift
 ·obtain⟨j,hj,hp⟩:=h.pln hk;have lift:=lift (by omega) (by omega);rw[hk];exact (fa_plain w hU bk ob x hk j hj n pl hp nm a1 a2 a3 m1 m2 m3 p1 p2 p3 _).mono lift
 ·obtain⟨hn,hs⟩:=h.name hk;rw[hk];exact fa_call hC E S w hJ hU ob x hk (ho.1 hk) n pl nm hn hs a1 a2 a3 m1 m2 m3 p1 p2 p3
 ·rw[hk];exact fa_if g hC hF E S w hJ hU ob x hk n pl nm a1 a2 a3 m1 m2 m3 p1 p2 p3 h.a (ho.2.1 (by omega)) h.b (ho.2.2 (by omega))
 ·rw[hk];exact fa_until g hC hF E S w hJ hU ob x hk n pl nm a1 a2 a3 m1 m2 m3 p1 p2 p3 h.a (ho.2.1 (by omega))
 ·rw[hk];exact fa_while g hC hF E S w hJ hU ob x hk n pl nm a1 a2 a3 m1 m2 m3 p1 p2 p3 h.a (ho.2.1 (by omega)) h.b (ho.2.2 (by omega))
 ·rw[hk];exact fa_do g hC hF E S w hJ hU ob x hk n pl nm a1 a2 a3 m1 m2 m3 p1 p2 p3 h.a (ho.2.1 (by omega))
 ·have lift:=lift (by omega) (by omega);rw[hk];exact (fa_i w hU bk ob x hk n pl nm a1 a2 a3 m1 m2 m3 p1 p2 p3 _).mono lift
 ·have lift:=lift (by omega) (by omega);rw[hk];exact (fa_rec w hU bk ob x hk n pl nm a1 a2 a3 m1 m2 m3 p1 p2 p3 _).mono lift
 ·have lift:=lift (by omega) (by omega);rw[hk];exact (fa_exit w hU bk ob x hk n pl nm a1 a2 a3 m1 m2 m3 p1 p2 p3 _).mono lift
 ·obtain⟨ws,h1,h2⟩:=h.toks;obtain⟨h3,h4,h5⟩:=h2 hk;have lift:=lift (by omega) (by omega);rw[hk];exact (fa_braces w hU bk ob x hk n pl nm a1 a2 a3 m1 m2 m3 p1 p2 p3 ws h1 h3 h4 h5 (fun _ _ _=>False)).mono lift
def FL (R:Nat->Fr->Prop) (bo:Tok->Option (List It)) (bk lf:Nat) (mk pk:Option Nat) (J:(Nat->Prop)->(Tok->Prop)->World->Prop) (E:Nat->Prop) (S:Tok->Prop) (w:World) (ob:Nat) (l:List It) (v:Value) (k:Nat) (wr:World):Prop:=
 ∃ cs,Kp w wr (Ft mk pk)/\Blk wr w.heap.size 206 #[pt bk,pt ob,.int .i64 (lf:Int),.map mk,.map pk]/\wr.ownsRow 0 243 1 v cs.length cs/\(∀ b,own v b->w.heap.size+1<=b) /\
  actsL (actR (BD (fun b=>E b/\¬ own v b) wr) R bk ob (Acts (BD (fun b=>E b/\¬ own v b) wr) R bk)) (l.take k) cs/\J (fun b=>E b/\¬ own v b) (fun t=>S t\/Bd bo lf (l.take k) t) wr
theorem Tryz.infoAct:(Tryz.prog.info? 243).map (fun i=>(i.zero,i.size,i.bytes))=some (some .nilFunc,1,8):=by kernel_rfl
theorem actsF (g:Nat) (hC:JC R kn bo bk lf mk pk J) (hF:FActs R kn bo bk lf mk pk J g):FActs R kn bo bk lf mk pk J (g+1):=by
 intro E S w ob v l hJ hU hI hl;obtain⟨xs,hrow,hits,hll⟩:=hI;obtain⟨ao,cap,rfl⟩:=hrow.form;obtain⟨i0,hi,hz0,hz1,hz2⟩:=info_parts Tryz.infoAct;have hmf:=mkFunc;have H0:FL R bo bk lf mk pk J E S w ob l (.slice none 0 0) 0 (w.alloc (.cells #[pt bk,pt ob,.int .i64 (lf:Int),.map mk,.map pk] 206)):=by
  refine⟨[],((Kp.refl _ _).alloc _).ft mk pk,Blk.new w _ _,World.ownsRow_nil _ _ _ _,fun b hb=>by simp[own,Value.ownBlock] at hb,rfl,?_⟩;rw[show (fun t=>S t\/Bd bo lf (l.take 0) t)=S by funext t;exact propext ⟨fun q=>q.elim id (fun ⟨_,q,_⟩=>absurd q (InC.nil _)),.inl⟩];exact hC.fr E _ S w _ _ hJ ((Kp.refl w (fun _=>False)).alloc _) (fun _ e=>e.elim) (fun b _ hb=>⟨⟨hb,by simp[own,Value.ownBlock]⟩,by simp⟩)
 have HF:=hide hF;have HI:=hide hits;have HR:=hide hrow;have HC:=hide hC;have HJ:=hide hJ;have HU:=hide hU;have HL:=hide hl;have HH:=hide H0;clear hF hits hrow hC hJ hU hl H0;go_enter Tryz.func156,Tryz.ntmps156;go_wp2
 go_loopw [5,10] (fun v i wr=>∃ k:Nat,k<=l.length/\i=.int .i64 k/\FL R bo bk lf mk pk J E S w ob l v k wr) (fun _ i _=>l.length - (intOf i).toNat)
 case atStart=>exact⟨0,Nat.zero_le _,rfl,HH.out⟩
 case round=>
  obtain⟨k,hk,rfl,cs,hkp,hB,hrow,hnew,hA,hJr⟩:=hrel;have hcl:cs.length=k:=by rw[actsL_len _ _ hA];simp;omega
  obtain⟨ao2,cap2,hv2⟩:=row_slice hrow;rw[hcl] at hv2 hrow;subst hv2;have HCL:=hide hcl;clear hcl;have hownlt:∀ b,own (.slice ao2 k cap2) b->b < wr.heap.size:=fun b hb=>own_lt hrow hb;by_cases hlt:k < l.length
  ·have hki:∀ b t c,BD E w b t c->BD (fun b=>E b/\¬ own (.slice ao2 k cap2) b) wr b t c:=fun b t c hb=>⟨⟨hb.1,fun e=>by have:=hnew b e;have:=hb.2.lt;omega⟩,HC.out.blk HJ.out hkp hb.2⟩;have hrw:wr.ownsRow 0 241 7 (.slice ao l.length cap) l.length xs:=(rowZ_mono (fun b c h=>hki b _ c h) HR.out).row;obtain⟨gd,cap',hv,hcell⟩:=row_cell hrw (by omega);injection hv with hv h2 h3;subst hv;subst h3;clear h2;obtain⟨n7,pl7,nm7,tv,va,vb,hit,x0,x1,x2,x3,x4,x5,x6⟩:=itemsL_at _ _ HI.out k hlt;have d0:=hcell _ _ x0;have d1:=hcell _ _ x1;have d2:=hcell _ _ x2;have d3:=hcell _ _ x3;have d4:=hcell _ _ x4;have d5:=hcell _ _ x5;have d6:=hcell _ _ x6;obtain⟨ws5,hr5,-⟩:=hit.toks;have hra:=hit.a;have hrb:=hit.b;obtain⟨a5,p5,hv5⟩:=hr5.form;rw[List.length_map] at hv5;subst hv5;have hfa:∃ a m p,va=.slice a m p:=by
    cases g with
    | zero=>exact hra.elim
    | succ g=>obtain⟨_,hq,_⟩:=hra;obtain⟨a,p,hv⟩:=hq.form;exact⟨a,_,p,hv⟩
   have hfb:∃ a m p,vb=.slice a m p:=by
    cases g with
    | zero=>exact hrb.elim
    | succ g=>obtain⟨_,hq,_⟩:=hrb;obtain⟨a,p,hv⟩:=hq.form;exact⟨a,_,p,hv⟩
   obtain⟨a6,m6,p6,rfl⟩:=hfa;obtain⟨a7,m7,p7,rfl⟩:=hfb;have s0:wr.cell? ⟨w.heap.size,0,none⟩=some (pt bk):=hB.cell rfl;have s1:wr.cell? ⟨w.heap.size,1,none⟩=some (pt ob):=hB.cell rfl;have s2:wr.cell? ⟨w.heap.size,2,none⟩=some (.int .i64 (lf:Int)):=hB.cell rfl;have s3:wr.cell? ⟨w.heap.size,3,none⟩=some (.map mk):=hB.cell rfl;have s4:wr.cell? ⟨w.heap.size,4,none⟩=some (.map pk):=hB.cell rfl;have hbl:=hB.lt;have HIT:=hide (hit.mono hki (fun v l h=>itemsIn_mono hki g v l h));clear hcell x0 x1 x2 x3 x4 x5 x6 hit hr5 hra hrb hrw hki;have hk7:=(Kp.refl wr (fun _=>False)).alloc (.cells #[.int .i64 (kindP l[k].kind),.int .i64 n7,.int .i64 pl7,.string nm7,.slice a5 ws5.length p5,.slice a6 m6 p6,.slice a7 m7 p7] 241);have hka7:=BD_keep hk7 (D:=fun b=>E b/\¬ own (.slice ao2 k cap2) b) (D':=fun b=>E b/\¬ own (.slice ao2 k cap2) b) (fun b _ hb=>⟨hb,by simp⟩);have hU7:Up (fun b=>E b/\¬ own (.slice ao2 k cap2) b) (wr.alloc (.cells #[.int .i64 (kindP l[k].kind),.int .i64 n7,.int .i64 pl7,.string nm7,.slice a5 ws5.length p5,.slice a6 m6 p6,.slice a7 m7 p7] 241)):=fun b hb=>by
    have h8:=hk7.size;have h9:=hkp.size;exact⟨HU.out b (by omega),fun e=>by have:=hownlt b e;omega⟩
   have HA7:=hide (actF g HC.out HF.out _ _ _ (HC.out.kp hJr hk7) hU7 ob l[k] n7 pl7 nm7 a5 a6 a7 ws5.length m6 m7 p5 p6 p7 (HIT.out.mono hka7 (fun v l h=>itemsIn_mono hka7 g v l h)) (okI_of HL.out (List.getElem_mem hlt)));have HJR:=hide hJr;clear hka7 hU7 hk7 hJr
   go_wp2_with fail
   refine HA7.out.mono ?_;rintro e w1 ⟨c,rfl,hk1,hR,hJ1⟩;obtain⟨fn,ff,fc,rfl⟩:=actR_form hR;have HRr:=hide hR;have hsA:wr.heap.size+1<=w1.heap.size:=by have:=hk1.size;simpa using this
   have hkr:Kp wr w1 (Ft mk pk):=(((Kp.refl wr (fun _=>False)).alloc _).ft mk pk).trans hk1;have hnF:∀ b,own (.slice ao2 k cap2) b->¬ Ft mk pk b:=fun b hb e=>by obtain⟨c,hc⟩:=row_blk hrow hb;exact HC.out.mp _ _ _ HJR.out b _ c e hc
   have hrow1:=hkr.row hrow hnF;have hB1:=HC.out.blk HJR.out hkr hB;have hkw1:=hkp.trans hkr;have hszw:=hkp.size;have HA1:Hid (actsL (actR (BD (fun b=>E b/\¬ own (.slice ao2 k cap2) b) w1) R bk ob (Acts (BD (fun b=>E b/\¬ own (.slice ao2 k cap2) b) w1) R bk)) (l.take k) cs):=by
    have hq:=HC.out.keep HJR.out hkr;exact actsL_imp (fun _ _ h=>actR_mono hq (fun _ _ h=>h) (fun _ _ _ h=>h.mono hq (fun _ _ h=>h)) h) _ _ hA
   have HJ1:=hide hJ1;clear hR HA7 hA d0 d1 d2 d3 d4 d5 d6 s0 s1 s2 s3 s4 hrow hB HIT hJ1 hnF HJR
   go_wp2_with (first
    | (at_builtin;refine wpList_append_to _ rfl _ _ 109 rfl 243 i0 .nilFunc 1 8 Tryz.underlying109 hi hz0 hz1 hz2 rfl (by decide) _ _ _ rfl (hrow1.alloc _) ⟨w1.heap.size,0,none⟩ 1 1 [.func (.func fn) ff fc] rfl rfl ?c1 ?c2 ?c3 ?c4 ?_)
    | go_in)
   case c1=>intro j u hj;match j,hj with|0,hj=>simp at hj;subst hj;simp[Addr.add]
   case c2=>intro u hu;simp at hu;subst hu;rfl
   case c3=>unfold maxLen;omega
   case c4=>omega
   intro v' w3 hown' hgrow hnx;have hnx:∀ b,own v' b->own (.slice ao2 k cap2) b\/w1.heap.size+1<=b:=fun b hb=>by
    rcases hnx b hb with h1|h1
    ·exact .inl h1
    ·right;have:(w1.alloc (.cells #[.func (.func fn) ff fc] 243)).heap.size=w1.heap.size+1:=by simp
     omega
   have hkg:Kp w1 w3 (fun b=>own (.slice ao2 k cap2) b):=((Kp.refl w1 (fun b=>own (.slice ao2 k cap2) b)).alloc _).grown hgrow (fun b _ e=>e);have hn0:∀ b,b<=w.heap.size->¬ own (.slice ao2 k cap2) b:=fun b hb e=>by have:=hnew b e;omega
   have hkw3:Kp w w3 (Ft mk pk):=by
    have:=((hkw1.mono (T:=fun b=>Ft mk pk b\/own (.slice ao2 k cap2) b) (fun _ _ e=>.inl e)).trans (hkg.mono (fun _ _ e=>.inr e)));exact this.mono (fun b hb e=>e.elim id (fun e=>absurd e (hn0 b (by omega))))
   have hB3:=hkg.blk hB1 (hn0 _ (Nat.le_refl _));have hnew':∀ b,own v' b->w.heap.size+1<=b:=fun b hb=>by
    rcases hnx b hb with h1|h1
    ·exact hnew b h1
    ·omega
   have hEE:∀ b,b < w1.heap.size->(E b/\¬ own (.slice ao2 k cap2) b)->(E b/\¬ own v' b)/\¬ own (.slice ao2 k cap2) b:=fun b hb h=>⟨⟨h.1,fun e=>by
    rcases hnx b e with h1|h1
    ·exact h.2 h1
    ·omega⟩,h.2⟩
   have hka:=BD_keep (D:=fun b=>E b/\¬ own (.slice ao2 k cap2) b) (D':=fun b=>E b/\¬ own v' b) hkg hEE;have hTK:l.take (k+1)=l.take k ++ [l[k]]:=by rw[List.take_succ_eq_append_getElem hlt]
   have HN:FL R bo bk lf mk pk J E S w ob l v' (k+1) w3:=by
    refine⟨cs ++ [.func (.func fn) ff fc],hkw3,hB3,by simp only[List.length_append,List.length_singleton];rw[HCL.out];exact hown',hnew',?_,?_⟩
    ·rw[hTK];exact actsL_app _ _ _ _ (actsL_imp (fun _ _ h=>actR_mono hka (fun _ _ h=>h) (fun _ _ _ h=>h.mono hka (fun _ _ h=>h)) h) _ _ HA1.out) ⟨_,[],rfl,actR_mono hka (fun _ _ h=>h) (fun _ _ _ h=>h.mono hka (fun _ _ h=>h)) HRr.out,rfl⟩
    ·rw[show (fun t=>S t\/Bd bo lf (l.take (k+1)) t)=(fun t=>(S t\/Bd bo lf (l.take k) t)\/Bd bo lf [l[k]] t) by funext t;rw[hTK,or_assoc];exact propext (or_congr_right Bd.snoc)];exact HC.out.fr _ _ _ w1 w3 _ HJ1.out hkg (fun b hb _=>row_blk hrow1 hb) hEE
   have HNN:=hide HN;clear hTK HN hka hB3 hkw3 hn0 hkg hnx hgrow hown' HA1 HRr hrow1 hB1 hkw1 hk1 hkr hnew' hnew hEE HJ1;go_wp2
   go_roundw
   case rel=>exact⟨k+1,by omega,by go_num,HNN.out⟩
   case measure=>simp[intOf];omega
  ·have hkl:k=l.length:=by omega
   subst hkl;have hTK:l.take l.length=l:=List.take_length;rw[hTK] at hA hJr;have HAa:=hide hA;have HJr:=hide hJr;clear hA hTK hJr;go_wp2;go_ret;have hsub:=BD_sub (w:=wr) (D:=fun b=>E b/\¬ own (.slice ao2 l.length cap2) b) (D':=E) (fun b _ h=>h.1);have hr2:wr.ownsRow 0 243 1 (.slice ao2 l.length cap2) cs.length cs:=by rw[HCL.out];exact hrow
   exact⟨ao2,cap2,rfl,hkp,Acts.of (rowM.of hr2 (fun b hb=>HU.out b (by have:=hnew b hb;omega))) (actsL_imp (fun _ _ h=>actR_mono hsub (fun _ _ h=>h) (fun _ _ _ h=>h.mono hsub (fun _ _ h=>h)) h) _ _ HAa.out),HC.out.fr _ _ _ wr wr (fun _=>False) HJr.out (Kp.refl _ _) (fun _ e=>e.elim) (fun b _ h=>⟨h.1,fun e=>e⟩)⟩
theorem actsAll (hC:JC R kn bo bk lf mk pk J):∀ g,FActs R kn bo bk lf mk pk J g
 | 0=>fun _ _ _ _ _ _ _ _ h=>h.elim
 | g+1=>actsF g hC (actsAll hC g)
end
end
section
open Go.RowKit
theorem callZ (w:World) (E:Nat->Prop) (hU:Up E w) (bk ob:Nat) (mk pk:Option Nat) (nm:ByteArray) (hs:nm.size<=1000):
  Calls Tryz.prog 200 #[.agg #[pt bk,pt ob,.int .i64 ((0:Nat):Int),.map mk,.map pk],.string nm] w fun e w'=>∃ c,e=.returned c/\Kp w w' (fun _=>False)/\callS (BD E w') bk nm.data.toList c:=by
 have hmf:=mkFunc;go_enter Tryz.func200,Tryz.ntmps200;go_wp2;go_ret;refine⟨_,rfl,?_,?_⟩
 ·exact (((((Kp.refl _ _).alloc _).alloc _).alloc _).alloc _).alloc _
 ·exact⟨_,_,_,_,nm,rfl,⟨hU.at 4,Blk.new4 w _ _ _ _ _ _⟩,⟨hU.at 3,(Blk.new3 w _ _ _ _ _).alloc _⟩,⟨hU.at 1,(((Blk.new1 w _ _ _).alloc _).alloc _).alloc _⟩,⟨hU.at 2,((Blk.new2 w _ _ _ _).alloc _).alloc _⟩,rfl,hs⟩
theorem JC0 (R:Nat->Fr->Prop) (kn:Tok->Prop) (bo:Tok->Option (List It)) (bk:Nat):JC R kn bo bk 0 none none (fun _ _ _=>True) where
 fr:=fun _ _ _ _ _ _ _ _ _ _=>trivial
 mp:=fun _ _ _ _ k _ _ h=>by rcases h with h|h <;> cases h
 call:=fun E _ w ob nm _ hU _ hs=>(callZ w E hU bk ob none none nm hs).mono (by
  rintro e w' ⟨c,h1,h2,h3⟩;exact⟨c,h1,h2.ft _ _,.inl h3,trivial⟩)
theorem Kp.noFt {w w':World} (h:Kp w w' (Ft none none)):Kp w w' (fun _=>False):=h.mono (fun _ _ e=>by rcases e with e|e <;> cases e)
end
section
open Go.RowKit
theorem pRead_le {known:Tok->Bool} {g g':Nat} (hg:g<=g') {j:PJ} {r:List Tok} {res:PRes} (h:pRead known g j r=some res):pRead known g' j r=some res:=by
 induction hg with
 | refl=>exact h
 | step _ ih=>exact pRead_mono _ _ _ _ _ ih
def PTot (known:Tok->Bool) (j:PJ) (r:List Tok):Prop:=∃ g res,pRead known g j r=some res
theorem pItem_total (known:Tok->Bool) (n:Nat) (hb:∀ (r:List Tok),r.length<=n->∀ lo ends t,PTot known ⟨false,lo,ends,t⟩ r) (r:List Tok) (hr:r.length<=n) (lo:Nat) (ends:List Tok) (t:Tok):PTot known ⟨true,lo,ends,t⟩ r:=by
 by_cases k1:t=kIf
 ·obtain⟨g1,res1,h1⟩:=hb r hr lo [kElse,kThen] []
  cases res1 with
  | error e=>
   refine⟨g1+1,.error e,?_⟩;unfold pRead;rw[if_neg (by simp)];dsimp only;rw[if_pos k1,h1]
  | ok q=>
   obtain⟨a,t1,r1⟩:=q;obtain⟨_,_,_,hl1⟩:=pRead_calls _ _ _ _ _ _ _ h1;by_cases k2:t1=kElse
   ·obtain⟨g2,res2,h2⟩:=hb r1 (by omega) lo [kThen] [];have h1':=pRead_le (g':=g1+g2) (by omega) h1;have h2':=pRead_le (g':=g1+g2) (by omega) h2
    cases res2 with
    | error e=>
     refine⟨g1+g2+1,.error e,?_⟩;unfold pRead;rw[if_neg (by simp)];dsimp only;rw[if_pos k1,h1'];dsimp only;rw[if_pos k2,h2']
    | ok q2=>
     obtain⟨b,t2,r2⟩:=q2;refine⟨g1+g2+1,.ok ([⟨63,0,[],a,b,[]⟩],[],r2),?_⟩;unfold pRead;rw[if_neg (by simp)];dsimp only;rw[if_pos k1,h1'];dsimp only;rw[if_pos k2,h2']
   ·refine⟨g1+1,.ok ([⟨63,0,[],a,[],[]⟩],[],r1),?_⟩;unfold pRead;rw[if_neg (by simp)];dsimp only;rw[if_pos k1,h1];dsimp only;rw[if_neg k2]
 by_cases k3:t=kBegin
 ·obtain⟨g1,res1,h1⟩:=hb r hr lo [kUntil,kWhile] []
  cases res1 with
  | error e=>
   refine⟨g1+1,.error e,?_⟩;unfold pRead;rw[if_neg (by simp)];dsimp only;rw[if_neg k1,if_pos k3,h1]
  | ok q=>
   obtain⟨a,t1,r1⟩:=q;obtain⟨_,_,_,hl1⟩:=pRead_calls _ _ _ _ _ _ _ h1;by_cases k2:t1=kWhile
   ·obtain⟨g2,res2,h2⟩:=hb r1 (by omega) lo [kRepeat] [];have h1':=pRead_le (g':=g1+g2) (by omega) h1;have h2':=pRead_le (g':=g1+g2) (by omega) h2
    cases res2 with
    | error e=>
     refine⟨g1+g2+1,.error e,?_⟩;unfold pRead;rw[if_neg (by simp)];dsimp only;rw[if_neg k1,if_pos k3,h1'];dsimp only;rw[if_pos k2,h2']
    | ok q2=>
     obtain⟨b,t2,r2⟩:=q2;refine⟨g1+g2+1,.ok ([⟨119,0,[],a,b,[]⟩],[],r2),?_⟩;unfold pRead;rw[if_neg (by simp)];dsimp only;rw[if_neg k1,if_pos k3,h1'];dsimp only;rw[if_pos k2,h2']
   ·refine⟨g1+1,.ok ([⟨117,0,[],a,[],[]⟩],[],r1),?_⟩;unfold pRead;rw[if_neg (by simp)];dsimp only;rw[if_neg k1,if_pos k3,h1];dsimp only;rw[if_neg k2]
 by_cases k4:t=kDo
 ·obtain⟨g1,res1,h1⟩:=hb r hr (lo+1) [kLoop] []
  cases res1 with
  | error e=>
   refine⟨g1+1,.error e,?_⟩;unfold pRead;rw[if_neg (by simp)];dsimp only;rw[if_neg k1,if_neg k3,if_pos k4,h1]
  | ok q=>
   obtain⟨a,t1,r1⟩:=q;refine⟨g1+1,.ok ([⟨100,0,[],a,[],[]⟩],[],r1),?_⟩;unfold pRead;rw[if_neg (by simp)];dsimp only;rw[if_neg k1,if_neg k3,if_pos k4,h1]
 ·refine⟨1,?_⟩;unfold pRead;rw[if_neg (by simp)];dsimp only;rw[if_neg k1,if_neg k3,if_neg k4]
  repeat' split
  all_goals exact⟨_,rfl⟩
theorem pRead_total (known:Tok->Bool):∀ n,(∀ (r:List Tok),r.length<=n->∀ lo ends t,PTot known ⟨false,lo,ends,t⟩ r)/\(∀ (r:List Tok),r.length<=n->∀ lo ends t,PTot known ⟨true,lo,ends,t⟩ r):=by
 intro n
 induction n with
 | zero=>
  have hb:∀ (r:List Tok),r.length<=0->∀ lo ends t,PTot known ⟨false,lo,ends,t⟩ r:=by
   intro r hr lo ends t;have:r=[]:=List.eq_nil_of_length_eq_zero (by omega);subst this;refine⟨1,.error 4,?_⟩;unfold pRead;rfl
  exact⟨hb,fun r hr lo ends t=>pItem_total known 0 hb r hr lo ends t⟩
 | succ n ih=>
  have hb:∀ (r:List Tok),r.length<=n+1->∀ lo ends t,PTot known ⟨false,lo,ends,t⟩ r:=by
   intro r hr lo ends t
   cases r with
   | nil=>refine⟨1,.error 4,?_⟩;unfold pRead;rfl
   | cons t1 r1=>
    have hr1:r1.length<=n:=by simp at hr;omega
    by_cases he:ends.any (· == t1)=true
    ·refine⟨1,.ok ([],t1,r1),?_⟩;unfold pRead;rw[if_pos rfl];dsimp only;rw[if_pos he]
    ·obtain⟨g1,res1,h1⟩:=ih.2 r1 hr1 lo [] t1
     cases res1 with
     | error e=>
      refine⟨g1+1,.error e,?_⟩;unfold pRead;rw[if_pos rfl];dsimp only;rw[if_neg he,h1]
     | ok q=>
      obtain⟨xs,t2,r2⟩:=q;obtain⟨_,_,_,hl2⟩:=pRead_calls _ _ _ _ _ _ _ h1;obtain⟨g2,res2,h2⟩:=ih.1 r2 (by omega) lo ends t;have h1':=pRead_le (g':=g1+g2) (by omega) h1;have h2':=pRead_le (g':=g1+g2) (by omega) h2
      cases res2 with
      | error e=>
       refine⟨g1+g2+1,.error e,?_⟩;unfold pRead;rw[if_pos rfl];dsimp only;rw[if_neg he,h1'];dsimp only;rw[h2']
      | ok q2=>
       obtain⟨ys,t3,r3⟩:=q2;refine⟨g1+g2+1,.ok (xs ++ ys,t3,r3),?_⟩;unfold pRead;rw[if_pos rfl];dsimp only;rw[if_neg he,h1'];dsimp only;rw[h2']
  refine⟨hb,fun r hr lo ends t=>?_⟩;exact pItem_total known (n+1) hb r hr lo ends t
theorem pDef_total (s:St) (r:List Tok):∃ g res,pDef g s r=some res:=by
 cases r with
 | nil=>exact⟨0,_,rfl⟩
 | cons t r=>
  obtain⟨g,res,h⟩:=(pRead_total s.known r.length).1 r (Nat.le_refl _) 0 [kSemi] [];refine⟨g,?_⟩;unfold pDef;dsimp only
  split
  ·exact⟨_,rfl⟩
  split
  ·exact⟨_,rfl⟩
  rw[h]
  cases res with
  | error e=>exact⟨_,rfl⟩
  | ok q=>exact⟨_,rfl⟩
def kn (known:Tok->Bool) (t:Tok):Prop:=known t=true
theorem pOne_ok {known:Tok->Bool} {lo:Nat} {t:Tok} {x:It} (h:pOne known lo t=.ok x) (sub:Bool->List It->Prop):okIt (kn known) sub (decide (0 < lo)) x:=by
 unfold pOne at h
 split at h
 ·rename_i n hn
  injection h with h;subst h;exact .inl ⟨.inl ⟨rfl,numP_range hn⟩,rfl,rfl⟩
 split at h
 ·rename_i hp
  injection h with h;subst h;refine .inl ⟨.inr (.inr (.inr (.inr (.inl ⟨rfl,?_⟩)))),rfl,rfl⟩;rw[List.findIdx?_isSome];exact hp
 split at h
 ·rename_i hp
  injection h with h;subst h;exact .inl ⟨.inr (.inr (.inr (.inr (.inr (.inr ⟨rfl,decide_eq_true hp.2⟩))))),rfl,rfl⟩
 split at h
 ·injection h with h;subst h;exact .inl ⟨.inr (.inl rfl),rfl,rfl⟩
 split at h
 ·injection h with h;subst h;exact .inl ⟨.inr (.inr (.inl rfl)),rfl,rfl⟩
 split at h
 ·cases h
 split at h
 ·rename_i hp
  injection h with h;subst h;exact .inl ⟨.inr (.inr (.inr (.inr (.inr (.inl ⟨rfl,hp⟩))))),rfl,rfl⟩
 ·cases h
theorem wb_one {known:Tok->Prop} {lo:Bool} {x:It} {g:Nat} (h:okIt known (wb known g) lo x):wb known (g+1) lo [x]:=by
 intro y hy;simp at hy;rw[hy];exact h
theorem braces_toks:∀ (r:List Tok) (ts r':List Tok),pBraces r=.ok (ts,r')->ts.length<=r.length
 | [],_,_,h=>by cases h
 | t :: r,ts,r',h=>by
  unfold pBraces at h
  split at h
  ·cases h
  split at h
  ·injection h with h;injection h with h1 h2;subst h1;simp
  split at h
  ·cases h
  ·rename_i ts1 r1 h1
   injection h with h;injection h with h2 h3;subst h2;have:=braces_toks r _ _ h1;simp;omega
theorem pRead_wb (known:Tok->Bool):∀ (g:Nat) (j:PJ) (r:List Tok) (xs:List It) (t:Tok) (r':List Tok),r.length<=1000->pRead known g j r=some (.ok (xs,t,r'))->∃ G,wb (kn known) G (decide (0 < j.loops)) xs:=by
 intro g
 induction g with
 | zero=>intro j r xs t r' _ h;cases h
 | succ g ih=>
  intro j r xs t r' hlen h;unfold pRead at h
  cases hj:j.item with
  | false=>
   rw[if_pos hj] at h
   split at h
   ·cases h
   ·simp at hlen
    split at h
    ·injection h with h;injection h with h;injection h with h1 h2;subst h1;exact⟨0,rfl⟩
    ·split at h
     ·cases h
     ·cases h
     ·rename_i xs1 t2 r2 h1
      obtain⟨_,_,_,hl1⟩:=pRead_calls _ _ _ _ _ _ _ h1;obtain⟨G1,k1⟩:=ih _ _ _ _ _ (by omega) h1
      split at h
      ·cases h
      ·cases h
      ·rename_i ys t3 r3 h2
       obtain⟨G2,k2⟩:=ih _ _ _ _ _ (by omega) h2;injection h with h;injection h with h;injection h with e1 e2;subst e1;exact⟨_,wb_app k1 k2⟩
  | true=>
   rw[if_neg (by rw[hj];decide)] at h
   split at h
   ·split at h
    ·cases h
    ·cases h
    ·rename_i a t1 r1 h1
     obtain⟨_,_,_,hl1⟩:=pRead_calls _ _ _ _ _ _ _ h1;obtain⟨G1,k1⟩:=ih _ _ _ _ _ hlen h1
     split at h
     ·split at h
      ·cases h
      ·cases h
      ·rename_i b t2 r2 h2
       obtain⟨G2,k2⟩:=ih _ _ _ _ _ (by omega) h2;injection h with h;injection h with h;injection h with e1 e2;subst e1;exact⟨G1+G2+1,wb_one (.inr (.inl ⟨.inl rfl,wb_le (by omega) k1,wb_le (by omega) k2⟩))⟩
     ·injection h with h;injection h with h;injection h with e1 e2;subst e1;exact⟨G1+1,wb_one (.inr (.inl ⟨.inl rfl,k1,wb_nil _ _ _⟩))⟩
   ·split at h
    ·split at h
     ·cases h
     ·cases h
     ·rename_i a t1 r1 h1
      obtain⟨_,_,_,hl1⟩:=pRead_calls _ _ _ _ _ _ _ h1;obtain⟨G1,k1⟩:=ih _ _ _ _ _ hlen h1
      split at h
      ·split at h
       ·cases h
       ·cases h
       ·rename_i b t2 r2 h2
        obtain⟨G2,k2⟩:=ih _ _ _ _ _ (by omega) h2;injection h with h;injection h with h;injection h with e1 e2;subst e1;exact⟨G1+G2+1,wb_one (.inr (.inl ⟨.inr (.inr rfl),wb_le (by omega) k1,wb_le (by omega) k2⟩))⟩
      ·injection h with h;injection h with h;injection h with e1 e2;subst e1;exact⟨G1+1,wb_one (.inr (.inl ⟨.inr (.inl rfl),k1,wb_nil _ _ _⟩))⟩
    ·split at h
     ·split at h
      ·cases h
      ·cases h
      ·rename_i a t1 r1 h1
       obtain⟨_,_,_,hl1⟩:=pRead_calls _ _ _ _ _ _ _ h1;obtain⟨G1,k1⟩:=ih _ _ _ _ _ hlen h1;injection h with h;injection h with h;injection h with e1 e2;subst e1;have k1':wb (kn known) G1 true a:=by simpa using k1
       exact⟨G1+1,wb_one (.inr (.inr ⟨rfl,k1',rfl⟩))⟩
     ·split at h
      ·split at h
       ·cases h
       ·rename_i ts r1 hbr
        have:=braces_toks _ _ _ hbr;injection h with h;injection h with h;injection h with e1 e2;subst e1;exact⟨1,wb_one (.inl ⟨.inr (.inr (.inr (.inl ⟨rfl,by show ts.length<=1000;omega⟩))),rfl,rfl⟩)⟩
      ·split at h
       ·cases h
       ·rename_i x h1
        injection h with h;injection h with h;injection h with e1 e2;subst e1;exact⟨1,wb_one (pOne_ok h1 _)⟩
theorem pDef_wb {g:Nat} {s:St} {r:List Tok} {nm:Tok} {b:List It} {r1:List Tok} (hl:r.length<=1000) (h:pDef g s r=some (.ok (nm,b,r1))):∃ G,wb (knows s) G false b:=by
 cases r with
 | nil=>cases h
 | cons t r=>
  unfold pDef at h;dsimp only at h
  split at h
  ·cases h
  split at h
  ·cases h
  split at h
  ·cases h
  ·cases h
  ·rename_i b' t' r' hr
   injection h with h;injection h with h;injection h with e1 e2;injection e2 with e2 e3;subst e2;exact pRead_wb _ _ _ _ _ _ _ (by simp at hl;omega) hr
end
section
open Go.RowKit
variable {K:Nat->Prop}
def xLoop (g:Nat) (f:Fr) (lp:List Int) (l:List It) (s:St):Option (St × Bool):=match s.rs with
 | b :: m :: r=>xRun g (jDo f lp b m l) { s with rs:=r }
 | _=>some (s.err 6,true)
end
section
open Go.RowKit
variable {K:Nat->Prop}
theorem row_slice_len {w:World} {e:TypeId} {z:Nat} {v:Value} {n:Nat} {xs:List Value} (h:w.ownsRow 0 e z v n xs):n<=9223372036854775807:=by
 rcases h.2 with⟨_,h0⟩|⟨_,_,_,_,_,_,h1,h2,_⟩
 ·omega
 ·unfold maxLen at h2;omega
end
section
open Go.RowKit
variable {K:Nat->Prop}
theorem enter_tail {g:Nat} {f:Fr} {s1 s':St} {left:Bool} (h:(match (some s1:Option St) with
      | none=>none
      | some s1=>match xRun g (jBody f [] f.body) { s1 with depth:=s1.depth+1 } with
        | none=>none
        | some (s2,_)=>some ({ s2 with depth:=s2.depth - 1 },false))=some (s',left)):∃ s2 left2,xRun g (jBody f [] f.body) { s1 with depth:=s1.depth+1 }=some (s2,left2)/\s'={ s2 with depth:=s2.depth - 1 }:=by
  dsimp only at h
  split at h
  · cases h
  · rename_i s2 left2 hx
    injection h with h;injection h with h1 h2;exact⟨s2,left2,hx,h1.symm⟩
end
section
open Go.RowKit
variable {K:Nat->Prop}
theorem xBody_e:∀ (g:Nat) (f:Fr) (lp:List Int) (l:List It) (s s':St),s.e=0->xRun g (jBody f lp l) s=some (s',false)->s'.e=0
 | 0,_,_,_,_,_,_,h=>by cases h
 | g+1,f,lp,[],s,s',he,h=>by rw[x_nil] at h;injection h with h;injection h with h1 h2;subst h1;exact he
 | g+1,f,lp,x :: l,s,s',he,h=>by
  rw[x_cons] at h
  split at h
  ·cases h
  ·split at h
   ·injection h with h;injection h with h1 h2;cases h2
   ·rename_i s1 left1 _ hc
    exact xBody_e g f lp l s1 s' (by simp at hc;exact hc.2) h
end
end Go.Proofs.YteainaiebcphlaaGreatDoor
