import Derived.Test.YteainaiebcphlaaGreatDoorQ11
import Derived.Test.YteainaiebcphlaaGreatDoorQ7
import Derived.Laws.AppendOwnNone
import Derived.Deep.RegionWith
import Derived.Test.YteainaiebcphlaaGreatDoorQ9
namespace Go.Proofs.YteainaiebcphlaaGreatDoor
set_option maxRecDepth 1000000
set_option maxHeartbeats 4000000
set_option linter.all false
open Go.Proofs.Tryz
section
open Go.RowKit
variable {K:Nat->Prop}
theorem Bq (w:World)(r:Option Nat):w.grownBy w r:=⟨rfl,rfl,rfl,ah _,λ_ _ _=>rfl⟩
section
variable {P:Program}(w:World)
theorem fR {ops:Array Oper}{rest:List Oper}{o:Oper}{a:Act}{Q:Exit->Act->World->Prop}(hgd:o.guard=none)(s x:Operand)(t:TypeId)
  (ho:o.op=.call {callee:=.builtin .append,args:=#[s,x],argTypes:=#[t,t]})
  (e:TypeId) (i:TypeInfo) (z:Value) (bytes:Nat) (ht:P.underlying t=some (.slice e)) (hi:P.info? e=some i) (hz:i.zero=some z)
  (hsize:i.size=1) (hby:i.bytes=bytes) (hzs:z.cells.size=1)
  (v:Value) (n:Nat) (xs:List Value) (hs:a.eval s=v) (hown:w.ownsRow 0 e 1 v n xs)
  (v2:Value) (m:Nat) (news:List Value) (hx:a.eval x=v2) (hown2:w.ownsRow 0 e 1 v2 m news) (h1:∀u∈news,u.oneCell'=true)
  (h63:n+m<=maxLen) (hbytes:(n+m)*bytes<=140737488355328)
  (h:∀v' w',w'.ownsRow 0 e 1 v' (n+m) (xs++news)->w.grownBy w' v.ownBlock->(∀k,own v' k->own v k\/w.heap.size<=k)->wpList P ops Q rest (a.put o.dst v') w'):wpList P ops Q (o::rest) a w:=by
 rcases hown2.2 with⟨rfl,h0⟩|⟨g,cap,cur,rfl,_,hgg,hnc,hcm,hcs,htk⟩
 ·subst h0;have hn:news=[]:=List.eq_nil_of_length_eq_zero (by simpa using hown2.1);subst hn;refine wpList_append_own_none hgd s x t ho 0 e i 1 ht hi v n xs hs hown hx ?_;refine h v w ?_ (Bq _ _) (λk hk=>.inl hk)
  simpa using hown
 ·refine aP w hgd s x t ho e i z 1 bytes ht hi hz hsize hby hzs (by decide) v n xs hs hown ⟨g,0,none⟩ m cap news hx hown2.1 ?_ h1 h63 hbytes h;intro j u hj;rw[qp];have hb:aC w g e cur:=hgg;refine hb.cell ?_;rw[<-htk,List.getElem?_take] at hj
  split at hj
  ·simpa using hj
  ·cases hj
end
theorem nC (ws:List ByteArray):∀u∈ws.map Value.string,u.oneCell'=true:=by
 intro u hu;obtain⟨x,_,rfl⟩:=List.mem_map.1 hu;rfl
theorem rP (l:List It):bz 0 l=none:=by cases l <;> rfl
theorem Br (g:Nat):bz (g+1) []=some []:=rfl
theorem zz {g:Nat}{x:It}{r:List It}{names:List Tok}(h:bz (g+1) (x::r)=some names):
  ∃a b c,bz g x.a=some a/\bz g x.b=some b/\bz g r=some c/\names=(if x.kind=99 then [x.name] else [])++a++b++c:=by
 rw[bz] at h
 split at h
 ·rename_i a b c h1 h2 h3
  injection h with h;exact⟨a,b,c,h1,h2,h3,h.symm⟩
 ·cases h
def GA (w wr:World)(v:Value)(dn:List Tok):Prop:=∃ws,aD ws=dn/\wr.ownsRow 0 9 1 v ws.length (ws.map Value.string)/\(∀b,own v b->New w b)
def Bt (K:Nat->Prop)(G:Nat):Prop:=∀(l:List It) (names:List Tok) (w:World) (v:Value),bz G l=some names->names.length<=1000->kZ K w v l ->
 Calls prog 210 #[v] w λe w'=>∃v',e=.returned v'/\Kp w w' (λ_=>False)/\GA w w' v' names
theorem K9 {k:Nat}(hk:¬k=99):((k:Int)==99)=false:=by simpa using (by omega:¬((k:Int)=99))
theorem Pp (G:Nat)(IH:∀g,g<G->Bt K g):Bt K G:=by
 intro l names w v hc hlen hbody;obtain⟨i0,hi,hz0,hz1,hz2⟩:=info_parts Tryz.pL;obtain⟨xs,aJ,-,hits⟩:=hbody.out;have hmax:l.length<=9223372036854775807:=by
  rcases aJ.2 with⟨_,h0⟩|⟨_,_,_,_,_,_,h1,h2,_⟩
  ·omega
  ·unfold maxLen at h2;omega
 obtain⟨ao,cap,rfl⟩:=aB aJ;have HI:=az IH;have HIT:=az hits;have wq:=az aJ;clear IH hits aJ hbody;have H0:Hid (∃(k:Nat) (g:Nat) (dn rest:List Tok),k<=l.length/\(Value.int .i64 0)=.int .i64 k/\g<=G/\bz g (l.drop k)=some rest/\names=dn++rest/\GA w w (.slice none 0 0) dn/\Kp w w (λ_=>False)):=
  ⟨0,G,[],names,Nat.zero_le _,rfl,ah _,hc,rfl,⟨[],rfl,World.ownsRow_nil _ _ _ _,λb hb=>by simp[own,Value.ownBlock] at hb⟩,Kp.refl _ _⟩
 clear hc;go_enter func210,ntmps210;go_wp2
 go_loopw [3,4] (λv i wr=>∃(k:Nat) (g:Nat) (dn rest:List Tok),k<=l.length/\i=.int .i64 k/\g<=G/\bz g (l.drop k)=some rest/\names=dn++rest/\GA w wr v dn/\Kp w wr (λ_=>False)) (λ_ i _=>l.length-(intOf i).toNat)
 case atStart=>exact H0.out
 case round=>
  obtain⟨k,g,dn,rest,hk,rfl,hgG,hcr,hnm,⟨ws,hws,hwr,hnew⟩,hkp⟩:=hrel;have HN:=az hnm;have HW:=az hws;have HC:=az hcr;have hdl:dn.length=ws.length:=by rw[<-hws];simp[aD]
  have hnl:names.length=dn.length+rest.length:=by rw[hnm];simp
  clear hnm hws hcr;obtain⟨Kz,jd,rfl⟩:=aB hwr;by_cases hlt:k<l.length
  ·cases g with
   | zero=>have:=HC.out;rw[rP] at this;cases this
   | succ g=>
   have hd:l.drop k=l[k]::l.drop (k+1):=List.drop_eq_getElem_cons hlt;obtain⟨a,b,c,ha,hb,hc,hrest⟩:=zz (by have:=HC.out;rw[hd] at this;exact this);have hrl:rest.length=(if l[k].kind=99 then 1 else 0)+a.length+b.length+c.length:=by rw[hrest];simp only[List.length_append];split <;> simp
   have HR:=az hrest;clear hrest;have hkeep:aF (nK K) (nK K) w wr:=aF.cI hkp _;obtain⟨gb,ady,hvb,hcell⟩:=bE wq.out (by omega);injection hvb with e1 e2 e3;subst e1;clear e2 e3;obtain⟨nm,va,vb,vt,hat,x0,x1,x2,x3,x4,x5⟩:=tS _ _ HIT.out k hlt;have HK:Hid (∀w',Kp w w' (λ_=>False)->∀j u,xs[j]? = some u->w'.cell? ⟨gb,j,none⟩=some u):=λw' kz j u hj=>by
    obtain⟨cc,hcc⟩:=aV wq.out (b:=gb) rfl;have h1:=hcell j u hj;have hb2:=kz.blk hcc (by simp);unfold aC at hcc hb2;simp only[World.cell?,hcc] at h1;simp only[World.cell?,hb2];exact h1
   have hkc:=HK.out wr hkp;have y0:=hkc _ _ x0;have y2:=hkc _ _ x2;have y3:=hkc _ _ x3;have y4:=hkc _ _ x4;clear hkc;have CX:=az hat;obtain⟨xsa,SJ,-⟩:=hat.a.out;obtain⟨Tv,hrb,-⟩:=hat.b.out;obtain⟨aa,pa,Tw⟩:=aB SJ;obtain⟨ab,pb,Yy⟩:=aB hrb;subst Tw Yy;have zg:=az x3;have Od:=az x4;clear x0 x1 x2 x3 x4 x5 hcell hat hkeep hd SJ hrb;have hta:a.length<=1000:=by split at hrl <;> omega
   have htb:b.length<=1000:=by split at hrl <;> omega
   by_cases Ei:l[k].kind=99
   ·rw[Ei] at y0;rw[ag Ei] at hrl
    go_wp2_with (first
     | (at_builtin;refine aP _ rfl _ _ 47 rfl 9 i0 (.string ByteArray.empty) 1 16 underlying47 hi hz0 hz1 hz2 rfl (by decide) _ _ _ rfl (hwr.alloc _) ⟨wr.heap.size,0,none⟩ 1 1 [.string nm] rfl rfl ?c1 ?c2 ?c3 ?c4 ?_)
     | go_in)
    case c1=>intro j u hj;match j,hj with|0,hj=>simp at hj;subst hj;simp[Addr.add]
    case c2=>intro u hu;simp at hu;subst hu;rfl
    case c3=>unfold maxLen;omega
    case c4=>omega
    intro v' w1 hown' hgrow hnx;obtain⟨Pq,Bu,rfl⟩:=aB hown';have sQ:Kp w w1 (λ_=>False):=(hkp.alloc _).grown hgrow (λq hq e=>by have:=hnew q e;have:w.heap.size<=q:=this;omega);have hsz:=hkp.size;have rQ:∀q,own (.slice Pq (ws.length+1) Bu) q->New w q:=λq hq=>by
     rcases hnx q hq with h1|h1
     ·exact hnew q h1
     ·show w.heap.size<=q;omega
    obtain⟨Bg,tT⟩:∃Bg,Bg=ws++[nm]:=⟨_,rfl⟩;have hl0:Bg.length=ws.length+1:=by rw[tT];simp
    have Bv:w1.ownsRow 0 9 1 (.slice Pq Bg.length Bu) Bg.length (Bg.map Value.string):=by rw[hl0,tT];simpa using hown'
    rw[<-hl0] at rQ;have wu:=az tT;have La:=az hl0;have y3b:w1.cell? ⟨gb,k*6+3,none⟩=some (.slice aa l[k].a.length pa):=HK.out w1 sQ _ _ zg.out;rw[<-hl0];clear hl0 hown' hgrow hnx hkp hnew hwr y0 y2 y3 y4 tT
    go_wp2_with fail
    refine(HI.out g (by omega) _ _ _ _ ha hta (CX.out.a.keep (aF.cI sQ _))).mono ?_;rintro e w2 ⟨v1,rfl,hk2,nX,Bw,hr1,Ej⟩;have Yz:w2.cell? ⟨gb,k*6+4,none⟩=some (.slice ab l[k].b.length pb):=(HK.out w2 (sQ.trans hk2) _ _ Od.out)
    go_wp2_with fail
    refine(HI.out g (by omega) _ _ _ _ hb htb (CX.out.b.keep (aF.cI (sQ.trans hk2) _))).mono ?_;rintro e w3 ⟨v2,rfl,hk3,kF,sS,hr2,hn2⟩;have YA:=hk2.size;have YB:=hk3.size;have dO:=(sQ.trans hk2).trans hk3;have cZ:=hk3.row (hk2.row Bv (by simp)) (by simp);have Bx:=hk3.row hr1 (by simp);have ld:nX.length=a.length:=by rw[<-Bw];simp[aD]
    have hl2:kF.length=b.length:=by rw[<-sS];simp[aD]
    have hb0:∀q,own (.slice Pq Bg.length Bu) q->q<w1.heap.size:=λq hq=>bw Bv hq;have CY:=az Bw;have wz:=az sS;have GC:=az ld;have GF:=az hl2;clear ld hl2 Bv hr1 sQ Bw sS Yz hk2;obtain⟨a1,p1,rfl⟩:=aB Bx;obtain⟨a2,p2,rfl⟩:=aB hr2
    go_wp2_with (first
     | (at_builtin;refine fR _ rfl _ _ 47 rfl 9 i0 (.string ByteArray.empty) 16 underlying47 hi hz0 hz1 hz2 rfl _ _ _ rfl cZ _ _ _ rfl Bx (nC _) ?e3 ?e4 ?_)
     | go_in)
    case e3=>have:=La.out;have:=GC.out;have:=GF.out;unfold maxLen;omega
    case e4=>have:=La.out;have:=GC.out;have:=GF.out;omega
    intro v3 w4 hr3 hg4 tU;have fH:Kp w w4 (λ_=>False):=dO.grown hg4 (λq hq e=>by have:=rQ q e;have:w.heap.size<=q:=this;omega);have GG:w4.ownsRow 0 9 1 (.slice a2 kF.length p2) kF.length (kF.map Value.string):=iY hr2 (λq c hq hc=>hc.same (hg4.block q hc.lt (λe=>by have h1:=hb0 q e.symm;have h2:w2.heap.size<=q:=hn2 q hq;omega)));have tV:∀q,own v3 q->New w q:=λq hq=>by
     rcases tU q hq with h1|h1
     ·exact rQ q h1
     ·have:=dO.size;show w.heap.size<=q;omega
    obtain⟨ao3,YC,rfl⟩:=aB hr3;clear hr2 cZ Bx hg4 tU dO hb0 rQ hk3 Ej hn2
    go_wp2_with (first
     | (at_builtin;refine fR _ rfl _ _ 47 rfl 9 i0 (.string ByteArray.empty) 16 underlying47 hi hz0 hz1 hz2 rfl _ _ _ rfl hr3 _ _ _ rfl GG (nC _) ?f3 ?f4 ?_)
     | go_in)
    case f3=>have:=La.out;have:=GC.out;have:=GF.out;unfold maxLen;omega
    case f4=>have:=La.out;have:=GC.out;have:=GF.out;omega
    intro v5 w5 js Oe tW;have oN:Kp w w5 (λ_=>False):=fH.grown Oe (λq hq e=>by have:=tV q e;have:w.heap.size<=q:=this;omega);have zA:∀q,own v5 q->New w q:=λq hq=>by
     rcases tW q hq with h1|h1
     ·exact tV q h1
     ·have:=fH.size;show w.heap.size<=q;omega
    have Pt:Hid (∃(k':Nat) (g:Nat) (dn rest:List Tok),k'<=l.length/\Value.int .i64 ((k:Int)+1)=.int .i64 k'/\g<=G/\bz g (l.drop k')=some rest/\names=dn++rest/\GA w w5 v5 dn/\Kp w w5 (λ_=>False)):=by
     refine⟨k+1,g,aD (Bg++nX++kF),c,by omega,rfl,by omega,hc,?_,⟨Bg++nX++kF,rfl,?_,zA⟩,oN⟩
     ·rw[HN.out,HR.out,<-HW.out,<-CY.out,<-wz.out];rw[wu.out];simp[aD,Ei,CX.out.nm]
     ·simpa [Nat.add_assoc] using js
    clear js Oe tW fH oN tV zA GG hr3 CY wz hc ha hb;go_wp2
    go_roundw
    case rel=>exact Pt.out
    case measure=>simp[intOf];omega
   ·have y0':((l[k].kind:Int)==99)=false:=K9 Ei;rw[af Ei] at hrl;obtain⟨Bg,tT⟩:∃Bg,Bg=ws:=⟨_,rfl⟩;obtain⟨Pq,Lb⟩:∃Pq,Pq=Kz:=⟨_,rfl⟩;obtain⟨Bu,CZ⟩:∃Bu,Bu=jd:=⟨_,rfl⟩;rw[<-tT,<-Lb,<-CZ] at hwr;have Bv:=hwr;rw[<-tT,<-Lb,<-CZ] at hnew;have rQ:=hnew;have sQ:=hkp;have hl0:Bg.length=ws.length:=by rw[tT]
    have wu:=az tT;have La:=az hl0;rw[<-tT,<-Lb,<-CZ];clear hl0 hwr hnew hkp y2 y4 tT Lb CZ
    go_wp2_with fail
    refine(HI.out g (by omega) _ _ _ _ ha hta (CX.out.a.keep (aF.cI sQ _))).mono ?_;rintro e w2 ⟨v1,rfl,hk2,nX,Bw,hr1,Ej⟩;have Yz:w2.cell? ⟨gb,k*6+4,none⟩=some (.slice ab l[k].b.length pb):=(HK.out w2 (sQ.trans hk2) _ _ Od.out)
    go_wp2_with fail
    refine(HI.out g (by omega) _ _ _ _ hb htb (CX.out.b.keep (aF.cI (sQ.trans hk2) _))).mono ?_;rintro e w3 ⟨v2,rfl,hk3,kF,sS,hr2,hn2⟩;have YA:=hk2.size;have YB:=hk3.size;have dO:=(sQ.trans hk2).trans hk3;have cZ:=hk3.row (hk2.row Bv (by simp)) (by simp);have Bx:=hk3.row hr1 (by simp);have ld:nX.length=a.length:=by rw[<-Bw];simp[aD]
    have hl2:kF.length=b.length:=by rw[<-sS];simp[aD]
    have hb0:∀q,own (.slice Pq Bg.length Bu) q->q<wr.heap.size:=λq hq=>bw Bv hq;have CY:=az Bw;have wz:=az sS;have GC:=az ld;have GF:=az hl2;clear ld hl2 Bv hr1 sQ Bw sS Yz hk2;obtain⟨a1,p1,rfl⟩:=aB Bx;obtain⟨a2,p2,rfl⟩:=aB hr2
    go_wp2_with (first
     | (at_builtin;refine fR _ rfl _ _ 47 rfl 9 i0 (.string ByteArray.empty) 16 underlying47 hi hz0 hz1 hz2 rfl _ _ _ rfl cZ _ _ _ rfl Bx (nC _) ?e3 ?e4 ?_)
     | go_in)
    case e3=>have:=La.out;have:=GC.out;have:=GF.out;unfold maxLen;omega
    case e4=>have:=La.out;have:=GC.out;have:=GF.out;omega
    intro v3 w4 hr3 hg4 tU;have fH:Kp w w4 (λ_=>False):=dO.grown hg4 (λq hq e=>by have:=rQ q e;have:w.heap.size<=q:=this;omega);have GG:w4.ownsRow 0 9 1 (.slice a2 kF.length p2) kF.length (kF.map Value.string):=iY hr2 (λq c hq hc=>hc.same (hg4.block q hc.lt (λe=>by have h1:=hb0 q e.symm;have h2:w2.heap.size<=q:=hn2 q hq;omega)));have tV:∀q,own v3 q->New w q:=λq hq=>by
     rcases tU q hq with h1|h1
     ·exact rQ q h1
     ·have:=dO.size;show w.heap.size<=q;omega
    obtain⟨ao3,YC,rfl⟩:=aB hr3;clear hr2 cZ Bx hg4 tU dO hb0 rQ hk3 Ej hn2
    go_wp2_with (first
     | (at_builtin;refine fR _ rfl _ _ 47 rfl 9 i0 (.string ByteArray.empty) 16 underlying47 hi hz0 hz1 hz2 rfl _ _ _ rfl hr3 _ _ _ rfl GG (nC _) ?f3 ?f4 ?_)
     | go_in)
    case f3=>have:=La.out;have:=GC.out;have:=GF.out;unfold maxLen;omega
    case f4=>have:=La.out;have:=GC.out;have:=GF.out;omega
    intro v5 w5 js Oe tW;have oN:Kp w w5 (λ_=>False):=fH.grown Oe (λq hq e=>by have:=tV q e;have:w.heap.size<=q:=this;omega);have zA:∀q,own v5 q->New w q:=λq hq=>by
     rcases tW q hq with h1|h1
     ·exact tV q h1
     ·have:=fH.size;show w.heap.size<=q;omega
    have Pt:Hid (∃(k':Nat) (g:Nat) (dn rest:List Tok),k'<=l.length/\Value.int .i64 ((k:Int)+1)=.int .i64 k'/\g<=G/\bz g (l.drop k')=some rest/\names=dn++rest/\GA w w5 v5 dn/\Kp w w5 (λ_=>False)):=by
     refine⟨k+1,g,aD (Bg++nX++kF),c,by omega,rfl,by omega,hc,?_,⟨Bg++nX++kF,rfl,?_,zA⟩,oN⟩
     ·rw[HN.out,HR.out,<-HW.out,<-CY.out,<-wz.out];rw[wu.out];simp[aD,Ei]
     ·simpa [Nat.add_assoc] using js
    clear js Oe tW fH oN tV zA GG hr3 CY wz hc ha hb;go_wp2
    go_roundw
    case rel=>exact Pt.out
    case measure=>simp[intOf];omega
  ·have HE:Hid (names=dn):=by
    have:=HC.out;rw[List.drop_of_length_le (by omega)] at this
    cases g with
    | zero=>rw[rP] at this;cases this
    | succ g=>rw[Br] at this;injection this with this;have h2:=HN.out;rw[<-this] at h2;unfold Hid;simpa using h2
   go_wp2;go_ret;exact⟨_,rfl,hkp,ws,by rw[HE.out];exact HW.out,hwr,hnew⟩
end
section
open Go.RowKit
variable {K:Nat->Prop}
theorem GH:∀G,Bt K G:=by
 intro G
 induction G using Nat.strongRecOn with
 | ind G ih=>exact Pp G ih
abbrev xx (ay:List Def)(g n:Nat):List Tok->Option (List Tok):=kO (λt=>match dx ay t with
      | none=>none
      | some b=>cJ ay g n b)
theorem rR (ay:List Def)(g:Nat)(l:List It):cJ ay g 0 l=some []:=rfl
theorem rS {ay:List Def}{g n:Nat}{l:List It}{res:List Tok}(h:cJ ay g (n+1) l=some res):∃names,bz g l=some names/\xx ay g n names=some res:=by
 rw[cJ] at h
 split at h
 ·cases h
 ·rename_i names hn
  exact⟨names,hn,h⟩
theorem tX {ay:List Def}{g n:Nat}{t:Tok}{r res:List Tok}(h:xx ay g n (t::r)=some res):∃b x y,dx ay t=some b/\cJ ay g n b=some x/\xx ay g n r=some y/\res=t::x++y:=by
 unfold xx at h;rw[kO] at h
 split at h
 ·rename_i x y hx hy
  injection h with h
  split at hx
  ·cases hx
  ·rename_i b hb
   exact⟨b,x,y,hb,hx,hy,h.symm⟩
 ·cases h
theorem rT {ay:List Def}{t:Tok}{b:List It}(h:dx ay t=some b):∃k,∃hk:k<ay.length,cR ay t=k/\ay[k].body=b/\ay[k].name=t:=by
 unfold dx at h
 cases hf:ay.find? (λd=>d.name==t) with
 | none=>rw[hf] at h;cases h
 | some d=>
  rw[hf] at h;injection h with h;obtain⟨h1,k,hk,hk2,hk3⟩:=List.find?_eq_some_iff_getElem.1 hf;have hk2:ay[k]=d:=hk2;refine⟨k,hk,?_,by rw[hk2];exact h,?_⟩
  ·exact tY hk (λi hi=>by simpa using hk3 i hi) (by rw[hk2];exact h1)
  ·rw[hk2];simpa using h1
def td (K:Nat->Prop)(w0:World)(yb:Nat)(ay:List Def)(g n:Nat):Prop:=∀(l:List It) (res:List Tok) (w:World) (v vo:Value) (ws:List ByteArray),cJ ay g n l=some res->kZ K w0 v l->Kp w0 w (λ_=>False) ->
 w.ownsRow 0 9 1 vo ws.length (ws.map Value.string)->(∀b,own vo b->New w0 b)->ws.length+res.length<=4000000000000->(∀g names,bz g l=some names->names.length<=1000) ->
 Calls prog 188 #[.pointer (some ⟨yb,0,none⟩),v,.int .i64 n,vo] w λe w'=>∃v' eZ,e=.returned v'/\Kp w0 w' (λ_=>False)/\w'.ownsRow 0 9 1 v' eZ.length (eZ.map Value.string)/\(∀b,own v' b->New w0 b)/\(∀b,own v' b->own vo b\/w.heap.size<=b)/\(∀b,b<w.heap.size->¬own vo b->w'.heap[b]? = w.heap[b]?)/\w.heap.size<=w'.heap.size/\aD eZ=aD ws++res
theorem GI (w0:World)(yb:Nat)(ay:List Def)(g:Nat):td K w0 yb ay g 0:=by
 intro l res w v vo ws aG hb hkp aJ hnew hlen hcb;rw[rR] at aG;injection aG with aG;subst aG;obtain⟨ao,cap,rfl⟩:=aB aJ;obtain⟨xs,hr,-⟩:=hb.out;obtain⟨ab,cb,rfl⟩:=aB hr;clear hr hb hcb;go_enter func188,ntmps188;go_wp2;go_ret;exact⟨_,ws,rfl,hkp,aJ,hnew,λb hb=>.inl hb,λ_ _ _=>rfl,ah _,by simp⟩
theorem ji.cI {w w':World}{dv:Value}{ay:List Def}(h:ji K w dv ay)(hk:Kp w w' (λ_=>False)):ji K w' dv ay:=h.kp hk (λ_ _ _ h=>h.elim) (λ_ _ h=>h.elim)
structure GJ (w0 w w1 wr:World)(vo v9 vk:Value)(ws wA:List ByteArray)(ay:List Def)(g n k:Nat)(res:List Tok):Prop where
 ex:∃wh done rest,wr.ownsRow 0 9 1 vk wh.length (wh.map Value.string)/\aD wh=aD ws++done/\xx ay g n ((aD wA).drop k)=some rest/\res=done++rest
 kp:Kp w0 wr (λ_=>False)
 new:∀b,own vk b->New w0 b
 nx:∀b,own vk b->own vo b\/w.heap.size<=b
 old:∀b,b<w.heap.size->¬own vo b->wr.heap[b]? = w.heap[b]?
 r9:wr.ownsRow 0 9 1 v9 wA.length (wA.map Value.string)
 ap:∀b,own v9 b->¬own vk b
 sz:w1.heap.size<=wr.heap.size
theorem Lc (w0:World)(yb:Nat)(rs:RS)(ay:List Def)(g n:Nat)(hn3:n<=3)(hy:aC w0 yb 67 rs.arr)(hd:ji K w0 rs.d.dv ay)(hcb0:∀d∈ay,∀g names,bz g d.body=some names->names.length<=1000)
  (IH:td K w0 yb ay g n):td K w0 yb ay g (n+1):=by
 intro l res w v vo ws aG hb hkp aJ hnew hlen hcb;obtain⟨names,Bz,Og⟩:=rS aG;have hnl:=hcb g names Bz;obtain⟨i0,hi,hz0,hz1,hz2⟩:=info_parts Tryz.pL;obtain⟨ao,cap,rfl⟩:=aB aJ;have yj:=hb.keep (aF.cI hkp _);obtain⟨xs,hr,-⟩:=hb.out;obtain⟨ab,cb,rfl⟩:=aB hr;have HI:=az IH;have HF:=az Og;have HCB:=az hcb0;clear hr hb hcb aG Og IH hcb0;go_enter func188,ntmps188
 go_wp2_with fail
 refine(GH g _ _ _ _ Bz hnl yj).mono ?_;rintro e w1 ⟨v9,rfl,hk1,wA,Pv,YD,hn9⟩;obtain⟨a9,p9,rfl⟩:=aB YD;have hl9:wA.length<=1000:=by rw[<-Pv] at hnl;simpa [aD] using hnl
 have H0:GJ w0 w w1 w1 (.slice ao ws.length cap) (.slice a9 wA.length p9) (.slice ao ws.length cap) ws wA ay g n 0 res:=by
  refine⟨⟨ws,[],res,hk1.row aJ (by simp),by simp,by rw[Pv];exact HF.out,rfl⟩,hkp.trans hk1,hnew,λb hb=>.inl hb,λb hb hn=>hk1.block b hb (by simp),YD,λb hb hb2=>?_,ah _⟩;have h1:=hn9 b hb;have h2:=bw aJ hb2;have h1:w.heap.size<=b:=h1;omega
 have HH:=az H0;have adB:=hk1.size;clear H0 aJ hnew hk1 YD hn9 yj Bz hnl Pv HF;go_wp2
 go_loopw [3,10] (λvk i wr=>∃k:Nat,k<=wA.length/\i=.int .i64 k/\GJ w0 w w1 wr (.slice ao ws.length cap) (.slice a9 wA.length p9) vk ws wA ay g n k res) (λ_ i _=>wA.length-(intOf i).toNat)
 case atStart=>exact⟨0,Nat.zero_le _,rfl,HH.out⟩
 case round=>
  obtain⟨k,hk,rfl,H⟩:=hrel;obtain⟨wh,done,rest,GK,htk,mh,hrs⟩:=H.ex;obtain⟨ak,pk,rfl⟩:=aB GK;have HR:=az hrs;have HT:=az htk;clear hrs htk;have hlr:res.length=done.length+rest.length:=by rw[HR.out];simp
  have hlk:wh.length=ws.length+done.length:=by have:=congrArg List.length HT.out;simpa [aD] using this
  by_cases hlt:k<wA.length
  ·obtain⟨t,ht⟩:∃t,t=wA[k]:=⟨_,rfl⟩;rw[jJ wA k hlt,<-ht] at mh;obtain⟨b,x,y,l8,Tx,hfy,hrest⟩:=tX mh;obtain⟨kd,kG,SK,hbd,hnd⟩:=rT l8;have YE:rest.length=1+x.length+y.length:=by rw[hrest];simp;omega
   have HRT:=az hrest;have YF:=az hlr;have YG:=az hlk;clear hlr hlk hrest mh;obtain⟨g9,p9',YH,Ty⟩:=bE H.r9 (by omega);injection YH with e1 e2 e3;subst e1;clear e2 e3;have c9:wr.cell? ⟨g9,k,none⟩=some (.string t):=Ty k _ (by rw[ht];simp[hlt]);have HTk:=az ht;clear ht Ty;obtain⟨nmd,vbd,vtd,hat,z0,z1,z2,z3,z4,z5⟩:∃nm vb vt,xy K w0 ay[kd] nm vb vt/\True/\True/\(∀wx,Kp w0 wx (λ_=>False)->∃gd fq,rs.d.dv=.slice (some ⟨gd,0,none⟩) ay.length fq/\wx.cell? ⟨gd,kd*6+2,none⟩=some vb)/\True/\True/\True:=by
    obtain⟨FX,hrd,Pw⟩:=hd.ex;obtain⟨nm,vb,vt,h1,h2,h3,h4,h5,h6,h7⟩:=kP _ _ Pw kd kG;refine⟨nm,vb,vt,h1,trivial,trivial,λwx YI=>?_,trivial,trivial,trivial⟩;obtain⟨gd,fq,rU,hcd⟩:=bE (YI.row hrd (by simp)) (by omega);exact⟨gd,fq,rU,hcd _ _ h4⟩
   clear z0 z1 z3 z4 z5;have HBD:Hid (kZ K w0 vbd b):=by have:=hat.body;rw[hbd] at this;exact this
   obtain⟨Tv,hrb,-⟩:=HBD.out.out;obtain⟨abd,pbd,rfl⟩:=aB hrb;have YJ:Hid (∀g names,bz g b=some names->names.length<=1000):=by
    have:=HCB.out ay[kd] (List.getElem_mem kG);rw[hbd] at this;exact this
   clear hat hrb l8;have hdl:=hd.len
   go_wp2_with (first
    | (at_builtin;refine aP _ rfl _ _ 47 rfl 9 i0 (.string ByteArray.empty) 1 16 underlying47 hi hz0 hz1 hz2 rfl (by decide) _ _ _ rfl (GK.alloc _) ⟨wr.heap.size,0,none⟩ 1 1 [.string t] rfl rfl ?c1 ?c2 ?c3 ?c4 ?_)
    | go_in)
   case c1=>intro j u hj;match j,hj with|0,hj=>simp at hj;subst hj;simp[Addr.add]
   case c2=>intro u hu;simp at hu;subst hu;rfl
   case c3=>have:=YF.out;have:=YG.out;unfold maxLen;omega
   case c4=>have:=YF.out;have:=YG.out;omega
   intro v2 w2 hown2 hgrow hnx;have hsr:=H.kp.size;have hk2:Kp w0 w2 (λ_=>False):=(H.kp.alloc _).grown hgrow (λq hq e=>by have:=H.new q e;have:w0.heap.size<=q:=this;omega);obtain⟨a2,p2,rfl⟩:=aB hown2;obtain⟨gd,fq,rU,cd⟩:=z2 w2 hk2;have hy2:=hk2.blk hy (by simp);have hd2:ji K w2 rs.d.dv ay:=hd.kp hk2 (λ_ _ _ h=>h.elim) (λ_ _ h=>h.elim);have cy:w2.cell? ⟨yb,17,none⟩=some (.slice (some ⟨gd,0,none⟩) ay.length fq):=by rw[<-rU];exact hy2.cell rfl
   have YK:w2.ownsRow 0 9 1 (.slice (some ⟨g9,0,none⟩) wA.length p9) wA.length (wA.map Value.string):=iY H.r9 (λq c hq hc=>(hc.alloc _).same (hgrow.block q (by have:=hc.lt;simp;omega) (λe=>H.ap q hq e.symm)));have c9':w2.cell? ⟨g9,k,none⟩=some (.string t):=by
    obtain⟨g9',adF,YH,Ty⟩:=bE YK (by omega);injection YH with e1 e2 e3;injection e1 with e1;injection e1 with e1;rw[e1];exact Ty k _ (by rw[HTk.out];simp[hlt])
   have YL:Hid (Calls prog 89 #[.pointer (some ⟨yb,0,none⟩),.string t] w2.drew λe w'=>e=.returned (.int .i64 kd)/\w'=w2.drew):=by
    have:=pM w2.drew yb rs ay t hy2.drew (hd2.cI (Kp.refl _ _).drew);rw[SK] at this;exact this
   have hwn:IntKind.i64.wrap (n:Int)=(n:Int):=by
    rcases (show n=0\/n=1\/n=2\/n=3 by omega) with rfl|rfl|rfl|rfl <;> rfl
   obtain⟨kF,sS⟩:∃kF,kF=wh++[t]:=⟨_,rfl⟩;have hl2:kF.length=wh.length+1:=by rw[sS];simp
   have hrow2:w2.drew.ownsRow 0 9 1 (.slice a2 (wh.length+1) p2) kF.length (kF.map Value.string):=by have h1:=hown2.drew;rw[hl2,sS];simpa using h1
   have hnew2:∀q,own (.slice a2 (wh.length+1) p2) q->New w0 q:=λq hq=>by
    rcases hnx q hq with h1|h1
    ·exact H.new q h1
    ·show w0.heap.size<=q;omega
   have YM:Hid (Calls prog 188 #[.pointer (some ⟨yb,0,none⟩),.slice abd b.length pbd,.int .i64 n,.slice a2 (wh.length+1) p2] w2.drew λe w'=>∃v' eZ,e=.returned v'/\Kp w0 w' (λ_=>False)/\w'.ownsRow 0 9 1 v' eZ.length (eZ.map Value.string)/\(∀b,own v' b->New w0 b)/\(∀b,own v' b->own (.slice a2 (wh.length+1) p2) b\/w2.drew.heap.size<=b)/\(∀b,b<w2.drew.heap.size->¬own (.slice a2 (wh.length+1) p2) b->w'.heap[b]? = w2.drew.heap[b]?)/\w2.drew.heap.size<=w'.heap.size/\aD eZ=aD kF++x):=
    HI.out b x w2.drew (.slice abd b.length pbd) (.slice a2 (wh.length+1) p2) kF Tx HBD.out hk2.drew hrow2 hnew2 (by have:=YF.out;have:=YG.out;omega) YJ.out
   have wz:=az sS;have zB:∀q,own (.slice a2 (wh.length+1) p2) q->own (.slice ak wh.length pk) q\/wr.heap.size+1<=q:=λq hq=>by simpa using hnx q hq
   have adG:wr.heap.size+1<=w2.heap.size:=by simpa using hgrow.size
   have zC:∀q,q<wr.heap.size->¬own (.slice ak wh.length pk) q->w2.heap[q]? = wr.heap[q]?:=λq hq hn=>by
    rw[hgrow.block q (by simp;omega) (λe=>hn e.symm),Below.heap_alloc _ _ _ hq]
   have YN:∀q,own (.slice (some ⟨g9,0,none⟩) wA.length p9) q->q<wr.heap.size:=λq hq=>bw H.r9 hq;clear c9 z2 hgrow sS hl2 hown2 hnx HI hd2 hy2 hrow2;go_wp2
   go_region_with (first
    | (go_at_call 89;refine YL.out.mono ?_;rintro e w' ⟨rfl,hw⟩;rw[hw];clear hw)
    | (go_at_call 188;refine YM.out.mono ?_;rintro e w5 ⟨v5,gF,rfl,fS,js,XQ,GL,SL,hs5,sU⟩))
   all_goals
    obtain⟨a5,p5,rfl⟩:=aB js;have Ld:=az sU;have HN:GJ w0 w w1 w5 (.slice ao ws.length cap) (.slice (some ⟨g9,0,none⟩) wA.length p9) (.slice a5 gF.length p5) ws wA ay g n (k+1) res:=by
     have hs5:w2.heap.size<=w5.heap.size:=hs5;have hno:∀q,q<wr.heap.size->¬own (.slice ak wh.length pk) q->¬own (.slice a2 (wh.length+1) p2) q:=λq hq hn h2=>by
      rcases zB q h2 with h3|h3
      ·exact hn h3
      ·omega
     have hkeep:∀q,q<wr.heap.size->¬own (.slice ak wh.length pk) q->w5.heap[q]? = wr.heap[q]?:=λq hq hn=>
      (SL q (by show q<w2.heap.size;omega) (hno q hq hn)).trans (zC q hq hn)
     have adH:=H.sz;refine⟨⟨gF,done++(t.data.toList::x),y,js,?_,hfy,?_⟩,fS,XQ,λq hq=>?_,λq hq hn=>?_,?_,λq hq hq5=>?_,by omega⟩
     ·rw[Ld.out,wz.out];have:=HT.out;simp only[aD,List.map_append,List.map_cons,List.map_nil] at this ⊢;rw[this];simp
     ·rw[HR.out,HRT.out];simp
     ·rcases GL q hq with h1|h1
      ·rcases zB q h1 with h2|h2
       ·exact H.nx q h2
       ·right;omega
      ·right;have h1:w2.heap.size<=q:=h1;omega
     ·have hq':q<wr.heap.size:=by omega
      have hnk:¬own (.slice ak wh.length pk) q:=λh2=>by
       rcases H.nx q h2 with h3|h3
       ·exact hn h3
       ·omega
      rw[hkeep q hq' hnk];exact H.old q hq hn
     ·exact iY H.r9 (λq c hq hc=>hc.same (hkeep q hc.lt (H.ap q hq)))
     ·have YO:=YN q hq;rcases GL q hq5 with h1|h1
      ·exact hno q YO (H.ap q hq) h1
      ·have h1:w2.heap.size<=q:=h1;omega
    clear fS js XQ GL SL hs5 sU;go_wp2
    go_roundw
    case rel=>exact⟨k+1,by omega,by go_num,HN⟩
    case measure=>simp[intOf];omega
  ·have hkl:k=wA.length:=by omega
   subst hkl;rw[nD] at mh;injection mh with mh;have HE:Hid (aD wh=aD ws++res):=by
    unfold Hid;rw[HT.out,HR.out,<-mh];simp
   clear mh hlr hlk;go_wp2;go_ret;exact⟨_,wh,rfl,H.kp,GK,H.new,H.nx,H.old,by have:=H.sz;omega,HE.out⟩
end
section
open Go.RowKit
variable {K:Nat->Prop}
def qB (l:List It):Prop:=∀g names,bz g l=some names->names.length<=1000
def Tz:Nat->Nat
 | 0=>0
 | n+1=>1000*(1+Tz n)
theorem Px (n:Nat)(h:n<=3):Tz n<=4000000000000:=by
 rcases (show n=0\/n=1\/n=2\/n=3 by omega) with rfl|rfl|rfl|rfl <;> decide
theorem zD {ay:List Def}{g n B:Nat}(hB:∀b x,(∃t,dx ay t=some b)->cJ ay g n b=some x->x.length<=B):∀(names res:List Tok),xx ay g n names=some res->res.length<=names.length*(1+B)
 | [],res,h=>by injection h with h;subst h;simp
 | t::r,res,h=>by
  obtain⟨b,x,y,h1,h2,h3,h4⟩:=tX h;have:=zD hB r y h3;have h5:=hB b x ⟨t,h1⟩ h2;rw[h4];simp only[List.length_append,aq,Nat.add_mul,Nat.one_mul];omega
theorem tZ {ay:List Def}{g:Nat}(hcb:∀d∈ay,qB d.body):∀(n:Nat) (l:List It) (res:List Tok),qB l->cJ ay g n l=some res->res.length<=Tz n
 | 0,l,res,_,h=>by rw[rR] at h;injection h with h;subst h;simp
 | n+1,l,res,hl,h=>by
  obtain⟨names,h1,h2⟩:=rS h;have h3:=hl g names h1;have h4:=zD (B:=Tz n) (λb x hb hx=>by
   obtain⟨t,ht⟩:=hb;obtain⟨k,hk,_,h5,_⟩:=rT ht;exact tZ hcb n b x (by rw[<-h5];exact hcb _ (List.getElem_mem hk)) hx) names res h2
  show res.length<=1000*(1+Tz n);exact ai h4 (Nat.mul_le_mul_right _ h3)
theorem xz (w0:World)(yb:Nat)(rs:RS)(ay:List Def)(g:Nat)(hy:aC w0 yb 67 rs.arr)(hd:ji K w0 rs.d.dv ay)(hcb:∀d∈ay,qB d.body):∀n,n<=4->td K w0 yb ay g n
 | 0,_=>GI w0 yb ay g
 | n+1,h=>Lc w0 yb rs ay g n (by omega) hy hd hcb (xz w0 yb rs ay g hy hd hcb n (by omega))
theorem bP.om {w w':World}{yb:Nat}{rs:RS}{s:St}{ay:List Def}(h:bP K w yb rs s)(hk:Kp w w' (λb=>own rs.d.dv b))(hd:ji K w' rs.d.dv ay)(hcb:∀d∈ay,qB d.body):bP K w' yb rs {s with ay:=ay}/\fG yb w w' rs rs:=by
 obtain⟨ns,hi,hns⟩:=h.inv;obtain⟨xs,hr,_⟩:=h.dr.ex;have hg:=h.good;refine⟨⟨⟨ns,⟨hk.blk hi.blk (aH hr hi.blk (by decide)),hk.row hi.row (λb hb hd=>?_),hi.len⟩,hns⟩,h.e,h.st,h.mem,h.out,h.ids,h.hot,h.blt,h.dp,hd,⟨hg.g,hg.s0,hg.s1,hg.s2,hg.d0,hg.d1,hg.b0,hg.b1,hcb⟩⟩,⟨hk.mono (λb _ hb=>.inr (.inr hb)),λb hb=>.inl hb⟩⟩;obtain⟨c,hc⟩:=aV hi.row hb;exact ax (aQ hr hd hc) (by decide)
structure TA (K:Nat->Prop)(w:World)(rs:RS)(ay:List Def)(k:Nat)(hk:k<ay.length)(gd fq:Nat)(xs:List Value)(nm:ByteArray)(vb vt:Value):Prop where
 dv:rs.d.dv=.slice (some ⟨gd,0,none⟩) ay.length fq
 row:w.ownsRow 0 95 6 rs.d.dv ay.length xs
 its:gG K w ay xs
 at_:xy K w ay[k] nm vb vt
 x0:xs[k*6]? = some (.string nm)
 x1:xs[k*6+1]? = some (.int .i64 ay[k].id)
 x2:xs[k*6+2]? = some vb
 x3:xs[k*6+3]? = some (.int .i64 ay[k].count)
 x4:xs[k*6+4]? = some (.bool ay[k].bF)
 x5:xs[k*6+5]? = some vt
 cell:∀j u,xs[j]? = some u->w.cell? ⟨gd,j,none⟩=some u
 free:∀j,w.frozen? ⟨gd,j,none⟩=false
 blk:∃c,aC w gd 95 c
theorem ji.cells {w:World}{rs:RS}{ay:List Def}(h:ji K w rs.d.dv ay)(k:Nat)(hk:k<ay.length):∃gd fq xs nm vb vt,TA K w rs ay k hk gd fq xs nm vb vt:=by
 obtain⟨xs,hr,hx⟩:=h.ex;obtain⟨nm,vb,vt,h1,h2⟩:=kP _ _ hx k hk;obtain⟨gd,fq,hv,hc⟩:=bE hr (by omega);obtain⟨c,hcb⟩:=aV hr (b:=gd) (by rw[hv];rfl);exact⟨gd,fq,xs,nm,vb,vt,hv,hr,hx,h1,h2.1,h2.2.1,h2.2.2.1,h2.2.2.2.1,h2.2.2.2.2.1,h2.2.2.2.2.2,hc,λj=>hcb.free j,⟨c,hcb⟩⟩
theorem Oh (w:World)(yb:Nat)(rs:RS)(s:St)(k:Nat)(h:bP K w yb rs s)(hk:k<s.ay.length):
  Calls prog 55 #[.pointer (some ⟨yb,0,none⟩),.int .i64 k] w λe w'=>e=.returned (.tuple #[])/\bP K w' yb rs {s with ay:=s.ay.set k (cP s.ay[k])}/\fG yb w w' rs rs/\Kp w w' (λb=>own rs.d.dv b):=by
 obtain⟨gd,fq,xs,nm,vb,vt,hD⟩:=h.dr.cells k hk;obtain⟨cb,hcb⟩:=hD.blk;have hlen:=h.dr.len;have cy:w.cell? ⟨yb,17,none⟩=some (.slice (some ⟨gd,0,none⟩) s.ay.length fq):=by rw[<-hD.dv];exact h.blk.cell rfl
 have Yw:¬yb=gd:=by rintro rfl;exact ax (hcb.inj h.blk).1 (by decide)
 have k3:=hD.cell _ _ hD.x3;have k4:=hD.cell _ _ hD.x4;have k5:=hD.cell _ _ hD.x5;have f3:=hD.free (k*6+3);have f4:=hD.free (k*6+4);have f5:=hD.free (k*6+5);obtain⟨Le,hrt,hwt⟩:=hD.at_.built;obtain⟨a5,p5,rfl⟩:=aB hrt;have HD:=az hD;clear hrt hwt hD;go_enter func55,ntmps55;go_wp2
 go_end0
 have hD:=HD.out;have hgd:own rs.d.dv gd:=by rw[hD.dv];rfl
 have hkp:Kp w (((w.setCell ⟨gd,k*6+4,none⟩ (.bool false)).setCell ⟨gd,k*6+5,none⟩ (.slice none 0 0)).setCell ⟨gd,k*6+3,none⟩ (.int .i64 0)) (λb=>own rs.d.dv b):=
  (((Kp.refl w _).set (a:=⟨gd,k*6+4,none⟩) (λ_=>hgd) _).set (a:=⟨gd,k*6+5,none⟩) (λ_=>hgd) _).set (a:=⟨gd,k*6+3,none⟩) (λ_=>hgd) _
 have hkeep:aF (nK K) (nK K) w (((w.setCell ⟨gd,k*6+4,none⟩ (.bool false)).setCell ⟨gd,k*6+5,none⟩ (.slice none 0 0)).setCell ⟨gd,k*6+3,none⟩ (.int .i64 0)):=
  aF.kp hkp (λb t c hb hbl=>by have:=aQ hD.row hb hbl;subst this;exact⟨by decide,by decide⟩) _
 have aJ:=eU (eU (eU hD.row hgd (k*6+4) (.bool false)) hgd (k*6+5) (.slice none 0 0)) hgd (k*6+3) (.int .i64 0);have jK:=iN (cP s.ay[k]) nm vb (.slice none 0 0) ⟨hD.at_.nm,hD.at_.body.keep hkeep,ek.nil _ _⟩ _ _ (eV hkeep _ _ hD.its) k hk;have e1:(cP s.ay[k]).id=s.ay[k].id:=rfl;have e2:(cP s.ay[k]).count=0:=rfl;have e3:(cP s.ay[k]).bF=false:=rfl;rw[e1,e2,e3,dU hD.x0,dU hD.x1,dU hD.x2,List.set_comm _ _ (show k*6+3≠k*6+4 by omega),List.set_comm _ _ (show k*6+3≠k*6+5 by omega)] at jK;have hN:=h.om hkp (ay:=s.ay.set k (cP s.ay[k])) ⟨⟨_,by simpa using aJ,jK⟩,by simpa using h.dr.len,λb hb=>aj (h.dr.old b hb) hkp.size⟩ (λd hd=>by
  rcases List.mem_or_eq_of_mem_set hd with h1|h1
  ·exact h.good.cb d h1
  ·rw[h1];intro g names hn;exact h.good.cb s.ay[k] (List.getElem_mem hk) g names hn)
 exact⟨rfl,hN.1,hN.2,hkp⟩
theorem TB (w:World)(yb:Nat)(rs:RS)(s:St)(k:Nat)(h:bP K w yb rs s)(hk:k<s.ay.length):
  Calls prog 55 #[.pointer (some ⟨yb,0,none⟩),.int .i64 k] w λe w'=>e=.returned (.tuple #[])/\bP K w' yb rs {s with ay:=s.ay.set k (cP s.ay[k])}/\fG yb w w' rs rs:=by
 refine(Oh w yb rs s k h hk).mono ?_;rintro e w' ⟨h1,h2,h3,_⟩;exact⟨h1,h2,h3⟩
theorem oO {s:St}{k:Nat}{d':Def}(hg:cC s)(hk:k<s.ay.length)(hb:d'.body=s.ay[k].body):∀d∈s.ay.set k d',qB d.body:=by
 intro d hd;rcases List.mem_or_eq_of_mem_set hd with h1|h1
 ·exact hg.cb d h1
 ·rw[h1,hb];intro g names hn;exact hg.cb s.ay[k] (List.getElem_mem hk) g names hn
theorem zE (w:World)(yb:Nat)(rs:RS)(s:St)(k:Nat)(h:bP K w yb rs s)(hk:k<s.ay.length)(hf:s.ay[k].bF=true):
  Calls prog 173 #[.pointer (some ⟨yb,0,none⟩),.int .i64 k] w λe w'=>e=.returned (.tuple #[])/\w'=w:=by
 obtain⟨gd,fq,xs,nm,vb,vt,hD⟩:=h.dr.cells k hk;have hlen:=h.dr.len;have cy:w.cell? ⟨yb,17,none⟩=some (.slice (some ⟨gd,0,none⟩) s.ay.length fq):=by rw[<-hD.dv];exact h.blk.cell rfl
 have k4:=hD.cell _ _ hD.x4;rw[hf] at k4;clear hD hf;go_enter func173,ntmps173;go_wp2;refine bodyPost_ret (results_none rfl _ _ _) rfl ?_;exact⟨rfl,rfl⟩
theorem zF (w:World)(yb:Nat)(rs:RS)(s:St)(k:Nat)(h:bP K w yb rs s)(hk:k<s.ay.length)(hf:s.ay[k].bF=false)(hc:wrap64 (s.ay[k].count+1)<s.hot):
  Calls prog 173 #[.pointer (some ⟨yb,0,none⟩),.int .i64 k] w λe w'=>e=.returned (.tuple #[])/\bP K w' yb rs {s with ay:=s.ay.set k {s.ay[k] with count:=wrap64 (s.ay[k].count+1)}}/\fG yb w w' rs rs:=by
 obtain⟨gd,fq,xs,nm,vb,vt,hD⟩:=h.dr.cells k hk;obtain⟨cb,hcb⟩:=hD.blk;have hlen:=h.dr.len;have cy:w.cell? ⟨yb,17,none⟩=some (.slice (some ⟨gd,0,none⟩) s.ay.length fq):=by rw[<-hD.dv];exact h.blk.cell rfl
 have ch:w.cell? ⟨yb,19,none⟩=some (.int .i64 s.hot):=by rw[<-h.hot];exact h.blk.cell rfl
 have Yw:¬yb=gd:=by rintro rfl;exact ax (hcb.inj h.blk).1 (by decide)
 have k3:=hD.cell _ _ hD.x3;have k4:=hD.cell _ _ hD.x4;have f3:=hD.free (k*6+3);have HF:=az hf;rw[hf] at k4;have HD:=az hD;clear hf hD;generalize hcn:wrap64 (s.ay[k].count+1)=cn at hc ⊢;go_enter func173,ntmps173;go_wp2
 go_quiet (fail)
 go_wp2
 go_end0
 have hD:=HD.out;have hgd:own rs.d.dv gd:=by rw[hD.dv];rfl
 have hkp:Kp w (w.setCell ⟨gd,k*6+3,none⟩ (.int .i64 cn)) (λb=>own rs.d.dv b):=(Kp.refl w _).set (a:=⟨gd,k*6+3,none⟩) (λ_=>hgd) _;have hkeep:aF (nK K) (nK K) w (w.setCell ⟨gd,k*6+3,none⟩ (.int .i64 cn)):=
  aF.kp hkp (λb t c hb hbl=>by have:=aQ hD.row hb hbl;subst this;exact⟨by decide,by decide⟩) _
 have aJ:=eU hD.row hgd (k*6+3) (.int .i64 cn);have jK:=iN {s.ay[k] with count:=cn} nm vb vt ⟨hD.at_.nm,hD.at_.body.keep hkeep,aM hkeep hD.at_.built⟩ _ _ (eV hkeep _ _ hD.its) k hk;have e4:(xs.set (k*6+3) (.int .i64 cn))[k*6+4]? = some (.bool s.ay[k].bF):=by rw[List.getElem?_set_ne (by omega)];exact hD.x4
 have e5:(xs.set (k*6+3) (.int .i64 cn))[k*6+5]? = some vt:=by rw[List.getElem?_set_ne (by omega)];exact hD.x5
 dsimp only at jK;rw[dU hD.x0,dU hD.x1,dU hD.x2,dU e4,dU e5] at jK;have hN:=h.om hkp ⟨⟨_,by simpa using aJ,jK⟩,by simpa using h.dr.len,λb hb=>aj (h.dr.old b hb) hkp.size⟩ (oO h.good hk rfl);have hdr:Kp w ((w.setCell ⟨gd,k*6+3,none⟩ (.int .i64 cn)).drewN nq) (λb=>own rs.d.dv b):=hkp.drewN _;exact⟨rfl,h.om hdr ((hN.1.dr).cI ((Kp.refl _ _).drewN _)) (oO h.good hk rfl)⟩
theorem BF (w:World)(yb:Nat)(rs:RS)(s:St)(k g:Nat)(h:bP K w yb rs s)(hk:k<s.ay.length)(hf:s.ay[k].bF=false)(hc:s.hot<=wrap64 (s.ay[k].count+1))(bs:List Tok)
  (hbs:cJ (s.ay.set k {s.ay[k] with count:=wrap64 (s.ay[k].count+1),bF:=true}) g s.built.toNat s.ay[k].body=some bs):
  Calls prog 173 #[.pointer (some ⟨yb,0,none⟩),.int .i64 k] w λe w'=>e=.returned (.tuple #[])/\bP K w' yb rs {s with ay:=s.ay.set k {s.ay[k] with count:=wrap64 (s.ay[k].count+1),bF:=true,built:=bs}}/\fG yb w w' rs rs:=by
 obtain⟨gd,fq,xs,nm,vb,vt,hD⟩:=h.dr.cells k hk;obtain⟨cb,hcb⟩:=hD.blk;have hlen:=h.dr.len;have cy:w.cell? ⟨yb,17,none⟩=some (.slice (some ⟨gd,0,none⟩) s.ay.length fq):=by rw[<-hD.dv];exact h.blk.cell rfl
 have ch:w.cell? ⟨yb,19,none⟩=some (.int .i64 s.hot):=by rw[<-h.hot];exact h.blk.cell rfl
 have cbu:w.cell? ⟨yb,20,none⟩=some (.int .i64 s.built):=by rw[<-h.blt];exact h.blk.cell rfl
 have Yw:¬yb=gd:=by rintro rfl;exact ax (hcb.inj h.blk).1 (by decide)
 have k2:=hD.cell _ _ hD.x2;have k3:=hD.cell _ _ hD.x3;have k4:=hD.cell _ _ hD.x4;have k5:=hD.cell _ _ hD.x5;have f3:=hD.free (k*6+3);have f4:=hD.free (k*6+4);have f5:=hD.free (k*6+5);obtain⟨Tv,hrb,-⟩:=hD.at_.body.out;obtain⟨ab,pb,hvb⟩:=aB hrb;obtain⟨Le,hrt,hwt⟩:=hD.at_.built;obtain⟨a5,p5,hvt⟩:=aB hrt;subst hvb hvt;rw[hf] at k4;generalize hcn:wrap64 (s.ay[k].count+1)=cn at hc hbs ⊢;have hgd:own rs.d.dv gd:=by rw[hD.dv];rfl
 obtain⟨w2,hw2⟩:∃w2,w2=(w.setCell ⟨gd,k*6+3,none⟩ (.int .i64 cn)).setCell ⟨gd,k*6+4,none⟩ (.bool true):=⟨_,rfl⟩;have dR:Kp w w2 (λb=>own rs.d.dv b):=by rw[hw2];exact((Kp.refl w _).set (a:=⟨gd,k*6+3,none⟩) (λ_=>hgd) _).set (a:=⟨gd,k*6+4,none⟩) (λ_=>hgd) _
 have ua:aF (nK K) (nK K) w w2:=aF.kp dR (λb t c hb hbl=>by have:=aQ hD.row hb hbl;subst this;exact⟨by decide,by decide⟩) _;have hrow2:w2.ownsRow 0 95 6 rs.d.dv s.ay.length ((xs.set (k*6+3) (.int .i64 cn)).set (k*6+4) (.bool true)):=by rw[hw2];exact eU (eU hD.row hgd (k*6+3) (.int .i64 cn)) hgd (k*6+4) (.bool true)
 have GM:gG K w2 (s.ay.set k {s.ay[k] with count:=cn,bF:=true}) ((xs.set (k*6+3) (.int .i64 cn)).set (k*6+4) (.bool true)):=by
  have jK:=iN {s.ay[k] with count:=cn,bF:=true} nm (.slice ab s.ay[k].body.length pb) (.slice a5 Le.length p5) ⟨hD.at_.nm,hD.at_.body.keep ua,aM ua hD.at_.built⟩ _ _ (eV ua _ _ hD.its) k hk;have e5:((xs.set (k*6+3) (.int .i64 cn)).set (k*6+4) (.bool true))[k*6+5]? = some (.slice a5 Le.length p5):=by rw[List.getElem?_set_ne (by omega),List.getElem?_set_ne (by omega)];exact hD.x5
  dsimp only at jK;rw[dU hD.x0,dU hD.x1,dU hD.x2,dU e5] at jK;exact jK
 have TC:=h.om dR (ay:=s.ay.set k {s.ay[k] with count:=cn,bF:=true}) ⟨⟨_,by simpa using hrow2,GM⟩,by simpa using h.dr.len,λb hb=>aj (h.dr.old b hb) dR.size⟩ (oO h.good hk rfl);have hb0:=h.good.b0;have hb1:=h.good.b1;have Py:qB s.ay[k].body:=h.good.cb s.ay[k] (List.getElem_mem hk);have TD:bs.length<=4000000000000:=by
  have h1:=tZ (oO (d':={s.ay[k] with count:=cn,bF:=true}) h.good hk rfl) _ _ _ Py hbs;exact ai h1 (Px _ (by omega))
 have YM:Hid (∀wx,Kp w2 wx (λ_=>False)->Calls prog 188 #[.pointer (some ⟨yb,0,none⟩),.slice ab s.ay[k].body.length pb,.int .i64 s.built,.slice none 0 0] wx λe w'=>∃v' eZ,e=.returned v'/\Kp w2 w' (λ_=>False)/\w'.ownsRow 0 9 1 v' eZ.length (eZ.map Value.string)/\(aD eZ=bs/\∀b,own v' b->nK K b)/\w'.cell? ⟨gd,k*6+5,none⟩=some (.slice a5 Le.length p5)/\w'.frozen? ⟨gd,k*6+5,none⟩=false/\w'.cell? ⟨yb,17,none⟩=some (.slice (some ⟨gd,0,none⟩) s.ay.length fq)):=λwx YI=>by
  have h1:=xz w2 yb rs _ g TC.1.blk TC.1.dr (oO (d':={s.ay[k] with count:=cn,bF:=true}) h.good hk rfl) s.built.toNat (by omega) s.ay[k].body bs wx (.slice ab s.ay[k].body.length pb) (.slice none 0 0) [] hbs (hD.at_.body.keep ua) YI (World.ownsRow_nil _ _ _ _) (λb hb=>by simp[own,Value.ownBlock] at hb) (by simpa using TD) Py;have e:((s.built.toNat:Nat):Int)=s.built:=by omega
  rw[e] at h1;refine h1.mono ?_;rintro e w' ⟨v',eZ,h2,h3,h4,C0,_,_,_,h5⟩;obtain⟨c2,hc2⟩:=aV hrow2 hgd;have hc3:=h3.blk hc2 (by simp);have e5:((xs.set (k*6+3) (.int .i64 cn)).set (k*6+4) (.bool true))[k*6+5]? = some (.slice a5 Le.length p5):=by rw[List.getElem?_set_ne (by omega),List.getElem?_set_ne (by omega)];exact hD.x5
  obtain⟨gd',TE,hv',hcl⟩:=bE (h3.row hrow2 (by simp)) (by omega);rw[hD.dv] at hv';injection hv' with e1 e2 e3;injection e1 with e1;injection e1 with e1;exact⟨v',eZ,h2,h3,h4,⟨by simpa [aD] using h5,λb hb hK=>by have q1:=h.dr.old b hK;have q2:=dR.size;have q3:w2.heap.size<=b:=C0 b hb;omega⟩,by rw[e1];exact hcl _ _ e5,hc3.free _,by rw[<-hD.dv];exact(h3.blk TC.1.blk (by simp)).cell rfl⟩
 have HD:=az hD;have wz:=az hw2;have vY:=az GM;have kH:=az hrow2;have HN2:=az TC;have yl:=az dR;clear hrb hrt hwt hf hD TC dR hrow2 GM ua hbs TD Py hw2;go_enter func173,ntmps173;go_wp2
 go_quiet (fail)
 go_wp2
 go_region_with (go_at_call 188;refine(YM.out _ (by rw[wz.out];exact⟨rfl,rfl,rfl,ah _,λ_ _ _=>rfl⟩)).mono ?_;rintro e w5 ⟨v5,gF,rfl,fS,js,sU,kk5,ff5,cc5⟩;obtain⟨av,pv,rfl⟩:=aB js;have Ld:=az sU;clear sU)
 all_goals
  go_wp2
  go_end0
  have hgd:own rs.d.dv gd:=by rw[HD.out.dv];rfl
  have oN:Kp w2 (w5.setCell ⟨gd,k*6+5,none⟩ (.slice av gF.length pv)) (λb=>own rs.d.dv b):=(fS.mono (λ_ _ h=>h.elim)).set (a:=⟨gd,k*6+5,none⟩) (λ_=>hgd) _;have hkp:Kp w (w5.setCell ⟨gd,k*6+5,none⟩ (.slice av gF.length pv)) (λb=>own rs.d.dv b):=yl.out.trans oN;have qC:aF (nK K) (nK K) w2 (w5.setCell ⟨gd,k*6+5,none⟩ (.slice av gF.length pv)):=aF.kp oN (λb t c hb hbl=>by have:=aQ kH.out hb hbl;subst this;exact⟨by decide,by decide⟩) _;have xA:=eU (fS.row kH.out (by simp)) hgd (k*6+5) (.slice av gF.length pv);have YP:(w5.setCell ⟨gd,k*6+5,none⟩ (.slice av gF.length pv)).ownsRow 0 9 1 (.slice av gF.length pv) gF.length (gF.map Value.string):=by
   obtain⟨c2,hc2⟩:=aV kH.out hgd;exact ownsRow_setCell_other js (a:=⟨gd,k*6+5,none⟩) (aH js (fS.blk hc2 (by simp)) (by decide)) _
  have hD:=HD.out;obtain⟨sV,Ek,KB,hat',y0,y1,y2,y3,y4,y5⟩:=kP _ _ (eV qC _ _ vY.out) k (by simpa using hk);have jK:=iN {s.ay[k] with count:=cn,bF:=true,built:=bs} sV Ek (.slice av gF.length pv) ⟨by rw[hat'.nm];simp,by have:=hat'.body;simpa using this,⟨gF,YP,Ld.out.1,Ld.out.2⟩⟩ _ _ (eV qC _ _ vY.out) k (by simpa using hk);simp only[List.getElem_set_self] at y1 y3 y4;dsimp only at jK;rw[dU y0,dU y1,dU y2,dU y3,dU y4,List.set_set] at jK;exact⟨rfl,h.om hkp ⟨⟨_,by simpa using xA,jK⟩,by simpa using h.dr.len,λb hb=>aj (h.dr.old b hb) hkp.size⟩ (oO h.good hk rfl)⟩
end
section
open Go.RowKit
def fW (l:List It)(n:Nat):Prop:=∀g names,bz g l=some names->names.length<=n
theorem fW.mono {l:List It}{n m:Nat}(h:fW l n)(hm:n<=m):fW l m:=λg names hg=>ai (h g names hg) hm
theorem fW.nil:fW [] 0:=by
 intro g names h
 cases g with
 | zero=>cases h
 | succ g=>simp only[bz] at h;injection h with h;subst h;simp
theorem jL {g:Nat}{x:It}{l:List It}{names:List Tok}(h:bz (g+1) (x::l)=some names):∃a b c,bz g x.a=some a/\bz g x.b=some b/\bz g l=some c/\names=(if x.kind=99 then [x.name] else [])++a++b++c:=by
 simp only[bz] at h
 split at h
 ·rename_i a b c h1 h2 h3
  injection h with h;exact⟨a,b,c,h1,h2,h3,h.symm⟩
 ·cases h
theorem fW.one {x:It}{na nb:Nat}(ha:fW x.a na)(hb:fW x.b nb):fW [x] (1+na+nb):=by
 intro g names h
 cases g with
 | zero=>cases h
 | succ g=>
  obtain⟨a,b,c,h1,h2,h3,h4⟩:=jL h;have q1:=ha _ _ h1;have q2:=hb _ _ h2;have q3:=fW.nil _ _ h3;rw[h4];simp only[List.length_append]
  split <;> simp <;> omega
theorem fW.El {x:It}{na nb:Nat}(hk:¬x.kind=99)(ha:fW x.a na)(hb:fW x.b nb):fW [x] (na+nb):=by
 intro g names h
 cases g with
 | zero=>cases h
 | succ g=>
  obtain⟨a,b,c,h1,h2,h3,h4⟩:=jL h;have q1:=ha _ _ h1;have q2:=hb _ _ h2;have q3:=fW.nil _ _ h3;rw[h4,af hk];simp only[List.length_append,List.length_nil];omega
theorem xB:∀(l l':List It) (g:Nat) (names:List Tok),bz g (l++l')=some names->∃n1 n2 g',bz g l=some n1/\bz g' l'=some n2/\names=n1++n2
 | [],l',g,names,h=>by
  cases g with
  | zero=>cases h
  | succ g=>exact⟨[],names,g+1,rfl,h,rfl⟩
 | x::l,l',g,names,h=>by
  cases g with
  | zero=>cases h
  | succ g=>
   obtain⟨a,b,c,h1,h2,h3,h4⟩:=jL (l:=l++l') h;obtain⟨n1,n2,g',h5,h6,h7⟩:=xB l l' g c h3;refine⟨(if x.kind=99 then [x.name] else [])++a++b++n1,n2,g',?_,h6,by rw[h4,h7];simp⟩;simp only[bz,h1,h2,h5]
theorem fW.app {l l':List It}{n n':Nat}(h:fW l n)(h':fW l' n'):fW (l++l') (n+n'):=by
 intro g names hg;obtain⟨n1,n2,g',h1,h2,h3⟩:=xB l l' g names hg;rw[h3,List.length_append];exact Nat.add_le_add (h _ _ h1) (h' _ _ h2)
theorem ue:∀(r:List Tok) (ts r':List Tok),bh r=.ok (ts,r')->r'.length<=r.length
 | [],_,_,h=>by cases h
 | t::r,ts,r',h=>by
  unfold bh at h
  split at h
  ·cases h
  split at h
  ·injection h with h;injection h with h1 h2;subst h2;simp
  split at h
  ·cases h
  ·rename_i ts1 r1 h1
   injection h with h;injection h with h2 h3;subst h3;have:=ue r _ _ h1;simp;omega
theorem uf {aA:Tok->Bool}{lo:Nat}{t:Tok}{x:It}(h:jg aA lo t=.ok x):x.a=[]/\x.b=[]:=by
 unfold jg at h
 repeat' split at h
 all_goals first
  | (cases h;done)
  | (injection h with h;subst h;exact⟨rfl,rfl⟩)
def YQ (item:Bool)(r:List Tok)(xs:List It)(r':List Tok):Prop:=∃n,fW xs n/\r'.length+n<=r.length+(if item=true then 1 else 0)/\r'.length<=r.length
theorem eW (aA:Tok->Bool):∀(g:Nat) (j:PJ) (r:List Tok) (xs:List It) (t:Tok) (r':List Tok),aK aA g j r=some (.ok (xs,t,r'))->YQ j.item r xs r':=by
 intro g
 induction g with
 | zero=>intro j r xs t r' h;cases h
 | succ g ih=>
  intro j r xs t r' h;unfold aK at h
  cases hj:j.item with
  | false=>
   rw[ag hj] at h
   split at h
   ·cases h
   ·rename_i t1 r1
    split at h
    ·injection h with h;injection h with h;injection h with h1 h2;injection h2 with h2 h3;subst h1 h3;exact⟨0,fW.nil,by simp,by simp⟩
    ·split at h
     ·cases h
     ·cases h
     ·rename_i Ph t2 r2 h1
      have k1:=ih _ _ _ _ _ h1
      split at h
      ·cases h
      ·cases h
      ·rename_i ys t3 r3 h2
       have k2:=ih _ _ _ _ _ h2;injection h with h;injection h with h;injection h with e1 e2;injection e2 with e2 e3;subst e1 e3;obtain⟨n1,c1,d1,YR⟩:=k1;obtain⟨n2,c2,d2,e2'⟩:=k2;rw[hj] at d2;simp only[if_true] at d1;simp only[Bool.false_eq_true,if_false] at d2;exact⟨n1+n2,c1.app c2,by simp;omega,by first|omega|(simp;omega)⟩
  | true=>
   rw[af (by rw[hj];decide)] at h
   split at h
   ·split at h
    ·cases h
    ·cases h
    ·rename_i a t1 r1 h1
     obtain⟨n1,c1,d1,YR⟩:=ih _ _ _ _ _ h1;simp only[Bool.false_eq_true,if_false] at d1
     split at h
     ·split at h
      ·cases h
      ·cases h
      ·rename_i b t2 r2 h2
       obtain⟨n2,c2,d2,e2'⟩:=ih _ _ _ _ _ h2;simp only[Bool.false_eq_true,if_false] at d2;injection h with h;injection h with h;injection h with e1 e2;injection e2 with e2 e3;subst e1 e3;exact⟨n1+n2,fW.El (by simp) c1 c2,by simp;omega,by first|omega|(simp;omega)⟩
     ·injection h with h;injection h with h;injection h with e1 e2;injection e2 with e2 e3;subst e1 e3;exact⟨n1+0,fW.El (by simp) c1 fW.nil,by simp;omega,by first|omega|(simp;omega)⟩
   ·split at h
    ·split at h
     ·cases h
     ·cases h
     ·rename_i a t1 r1 h1
      obtain⟨n1,c1,d1,YR⟩:=ih _ _ _ _ _ h1;simp only[Bool.false_eq_true,if_false] at d1
      split at h
      ·split at h
       ·cases h
       ·cases h
       ·rename_i b t2 r2 h2
        obtain⟨n2,c2,d2,e2'⟩:=ih _ _ _ _ _ h2;simp only[Bool.false_eq_true,if_false] at d2;injection h with h;injection h with h;injection h with e1 e2;injection e2 with e2 e3;subst e1 e3;exact⟨n1+n2,fW.El (by simp) c1 c2,by simp;omega,by first|omega|(simp;omega)⟩
      ·injection h with h;injection h with h;injection h with e1 e2;injection e2 with e2 e3;subst e1 e3;exact⟨n1+0,fW.El (by simp) c1 fW.nil,by simp;omega,by first|omega|(simp;omega)⟩
    ·split at h
     ·split at h
      ·cases h
      ·cases h
      ·rename_i a t1 r1 h1
       obtain⟨n1,c1,d1,YR⟩:=ih _ _ _ _ _ h1;simp only[Bool.false_eq_true,if_false] at d1;injection h with h;injection h with h;injection h with e1 e2;injection e2 with e2 e3;subst e1 e3;exact⟨n1+0,fW.El (by simp) c1 fW.nil,by simp;omega,by first|omega|(simp;omega)⟩
     ·split at h
      ·split at h
       ·cases h
       ·rename_i ts r1 h1
        have:=ue _ _ _ h1;injection h with h;injection h with h;injection h with e1 e2;injection e2 with e2 e3;subst e1 e3;exact⟨0+0,fW.El (by simp) fW.nil fW.nil,by simp;omega,by first|omega|(simp;omega)⟩
      ·split at h
       ·cases h
       ·rename_i x h1
        obtain⟨xa,xb⟩:=uf h1;injection h with h;injection h with h;injection h with e1 e2;injection e2 with e2 e3;subst e1 e3;exact⟨1+0+0,fW.one (by rw[xa];exact fW.nil) (by rw[xb];exact fW.nil),by simp,by simp⟩
theorem ug {g:Nat}{ay:List Def}{r:List Tok}{nm:Tok}{b:List It}{r1:List Tok}(hl:r.length<=1000)(h:xC g ay r=some (.ok (nm,b,r1))):qB b/\(¬cR ay nm<0\/(cR ay nm<0/\ay.length<30)):=by
 cases r with
 | nil=>cases h
 | cons t r=>
  unfold xC at h;dsimp only at h
  split at h
  ·cases h
  split at h
  ·cases h
  rename_i mD
  split at h
  ·cases h
  ·cases h
  ·rename_i b' t' r' hr
   injection h with h;injection h with h;injection h with e1 e2;injection e2 with e2 e3;subst e1 e2;obtain⟨n,c,d,-⟩:=eW _ _ _ _ _ _ _ hr;simp only[Bool.false_eq_true,if_false] at d;simp at hl;refine⟨c.mono (by omega),?_⟩;by_cases hf:cR ay t<0
   ·right
    refine⟨hf,?_⟩;rw[oP hf] at mD;simp at mD;exact mD
   ·exact .inl hf
end
end Go.Proofs.YteainaiebcphlaaGreatDoor
