import Derived.Test.YteainaiebcphlaaGreatDoorQ17
import Derived.Test.YteainaiebcphlaaGreatDoorQ1
import Derived.Test.YteainaiebcphlaaGreatDoorQ18
namespace Go.Proofs.YteainaiebcphlaaGreatDoor
set_option maxRecDepth 1000000
set_option maxHeartbeats 4000000
set_option linter.all false
open Go.Proofs.Tryz
section
open Go.RowKit
def ub:Nat->List It->Prop
 | 0,l=>l=[]
 | g+1,l=>∀x∈l,(x.kind=117->x.b=[])/\ub g x.a/\ub g x.b
def UB (l:List It):Prop:=∃g,ub g l
theorem yz:∀(g:Nat) (l:List It),ub g l->ub (g+1) l
 | 0,l,h=>by have h:l=[]:=h;subst h;exact λx hx=>by cases hx
 | g+1,_,h=>λx hx=>⟨(h x hx).1,yz g _ (h x hx).2.1,yz g _ (h x hx).2.2⟩
theorem Dd {g g':Nat}(hg:g<=g'){l:List It}(h:ub g l):ub g' l:=by
 induction hg with
 | refl=>exact h
 | step _ ih=>exact yz _ _ ih
theorem UB.nil:UB []:=⟨0,rfl⟩
theorem UB.one {x:It}(h:x.kind=117->x.b=[])(ha:UB x.a)(hb:UB x.b):UB [x]:=by
 obtain⟨g1,h1⟩:=ha;obtain⟨g2,h2⟩:=hb;refine⟨g1+g2+1,λy hy=>?_⟩;simp at hy;subst hy;exact⟨h,Dd (by omega) h1,Dd (by omega) h2⟩
theorem UB.app {l l':List It}(h:UB l)(h':UB l'):UB (l++l'):=by
 obtain⟨g1,h1⟩:=h;obtain⟨g2,h2⟩:=h';have h1:ub (g1+g2+1) l:=Dd (by omega) h1;have h2:ub (g1+g2+1) l':=Dd (by omega) h2;exact⟨g1+g2+1,λx hx=>(List.mem_append.1 hx).elim (h1 x) (h2 x)⟩
theorem UB.cons {x:It}{l:List It}(h:UB (x::l)):(x.kind=117->x.b=[])/\UB x.a/\UB x.b/\UB l:=by
 obtain⟨g,h⟩:=h
 cases g with
 | zero=>have h:x::l=[]:=h;cases h
 | succ g=>
  have hx:=h x (by simp);exact⟨hx.1,⟨g,hx.2.1⟩,⟨g,hx.2.2⟩,⟨g+1,λy hy=>h y (by simp[hy])⟩⟩
theorem Ho (aA:Tok->Bool):∀(g:Nat) (j:PJ) (r:List Tok) (xs:List It) (t:Tok) (r':List Tok),aK aA g j r=some (.ok (xs,t,r'))->UB xs:=by
 intro g
 induction g with
 | zero=>intro j r xs t r' h;cases h
 | succ g ih=>
  intro j r xs t r' h;unfold aK at h
  cases hj:j.item with
  | false=>
   rw[ag hj] at h
   split at h
   ·cases h
   ·split at h
    ·injection h with h;injection h with h;injection h with h1 h2;subst h1;exact UB.nil
    ·split at h
     ·cases h
     ·cases h
     ·rename_i h1
      split at h
      ·cases h
      ·cases h
      ·rename_i h2
       injection h with h;injection h with h;injection h with e1 e2;subst e1;exact(ih _ _ _ _ _ h1).app (ih _ _ _ _ _ h2)
  | true=>
   rw[af (by rw[hj];decide)] at h
   split at h
   ·split at h
    ·cases h
    ·cases h
    ·rename_i h1
     split at h
     ·split at h
      ·cases h
      ·cases h
      ·rename_i h2
       injection h with h;injection h with h;injection h with e1 e2;subst e1;exact UB.one (λe=>by cases e) (ih _ _ _ _ _ h1) (ih _ _ _ _ _ h2)
     ·injection h with h;injection h with h;injection h with e1 e2;subst e1;exact UB.one (λe=>by cases e) (ih _ _ _ _ _ h1) UB.nil
   ·split at h
    ·split at h
     ·cases h
     ·cases h
     ·rename_i h1
      split at h
      ·split at h
       ·cases h
       ·cases h
       ·rename_i h2
        injection h with h;injection h with h;injection h with e1 e2;subst e1;exact UB.one (λe=>by cases e) (ih _ _ _ _ _ h1) (ih _ _ _ _ _ h2)
      ·injection h with h;injection h with h;injection h with e1 e2;subst e1;exact UB.one (λ_=>rfl) (ih _ _ _ _ _ h1) UB.nil
    ·split at h
     ·split at h
      ·cases h
      ·cases h
      ·rename_i h1
       injection h with h;injection h with h;injection h with e1 e2;subst e1;exact UB.one (λ_=>rfl) (ih _ _ _ _ _ h1) UB.nil
     ·split at h
      ·split at h
       ·cases h
       ·injection h with h;injection h with h;injection h with e1 e2;subst e1;exact UB.one (λ_=>rfl) UB.nil UB.nil
      ·split at h
       ·cases h
       ·rename_i x h1
        injection h with h;injection h with h;injection h with e1 e2;subst e1;obtain⟨ea,eb⟩:=uf h1;exact UB.one (λ_=>eb) (by rw[ea];exact UB.nil) (by rw[eb];exact UB.nil)
theorem LG {g:Nat}{s:St}{r:List Tok}{nm:Tok}{b:List It}{r1:List Tok}(h:jY g s r=some (.ok (nm,b,r1))):UB b:=by
 cases r with
 | nil=>cases h
 | cons t r=>
  unfold jY at h;dsimp only at h
  split at h
  ·cases h
  split at h
  ·cases h
  split at h
  ·cases h
  ·cases h
  ·rename_i b' t' r' hr
   injection h with h;injection h with h;injection h with e1 e2;injection e2 with e2 e3;subst e2;exact Ho _ _ _ _ _ _ _ hr
theorem nJ {g:Nat}{names:List Tok}(h:bz g []=some names):names=[]:=by
 cases g with
 | zero=>cases h
 | succ g=>injection h with h;exact h.symm
theorem kT {aA:Tok->Prop}:∀(g:Nat) (l:List It) (names:List Tok) (G:Nat) (lo:Bool),wb aA G lo l->UB l->bz g l=some names->∀t,t∈names<->kA t l
 | 0,_,_,_,_,_,_,h,_=>by cases h
 | g+1,[],names,_,_,_,_,h,t=>by rw[nJ h];simp[kA.nil]
 | g+1,x::l,names,G,lo,hw,hu,h,t=>by
  obtain⟨a,b,c,ha,hb,hc,rfl⟩:=jL h;obtain⟨u1,u2,u3,u4⟩:=hu.cons
  cases G with
  | zero=>have hw:x::l=[]:=hw;cases hw
  | succ G=>
   have hx:=hw x (by simp);have hl:wb aA (G+1) lo l:=λy hy=>hw y (by simp[hy]);have ic:=kT g l c (G+1) lo hl u4 hc t;have h99:t∈(if x.kind=99 then [x.name] else [])<->x.kind=99/\x.name=t:=by
    split
    ·rename_i e;simp[e];exact eq_comm
    ·rename_i e;simp[e]
   rw[kA.cons];simp only[List.mem_append,h99];rcases hx with⟨hk,ea,eb⟩|⟨hk,wa,wb'⟩|⟨hk,wa,eb⟩
   ·rw[ea] at ha;rw[eb] at hb;rw[nJ ha,nJ hb,ic,ea,eb];simp[kA.nil]
   ·have ia:=kT g x.a a G lo wa u2 ha t;have ib:=kT g x.b b G lo wb' u3 hb t;rw[ia,ib,ic];have h1:x.kind=63\/x.kind=117\/x.kind=119\/x.kind=100:=by omega
    constructor
    ·rintro (((q|q)|q)|q)
     ·exact .inl q
     ·exact .inr (.inl ⟨h1,q⟩)
     ·refine .inr (.inr (.inl ⟨?_,q⟩));rcases hk with hk|hk|hk
      ·exact .inl hk
      ·rw[u1 hk] at q;exact ax q (kA.nil t)
      ·exact .inr hk
     ·exact .inr (.inr (.inr q))
    ·rintro (q|⟨_,q⟩|⟨_,q⟩|q)
     ·exact .inl (.inl (.inl q))
     ·exact .inl (.inl (.inr q))
     ·exact .inl (.inr q)
     ·exact .inr q
   ·have ia:=kT g x.a a G true wa u2 ha t;rw[eb] at hb;rw[nJ hb,ia,ic,eb];have h1:x.kind=63\/x.kind=117\/x.kind=119\/x.kind=100:=by omega
    constructor
    ·rintro (((q|q)|q)|q)
     ·exact .inl q
     ·exact .inr (.inl ⟨h1,q⟩)
     ·cases q
     ·exact .inr (.inr (.inr q))
    ·rintro (q|⟨_,q⟩|⟨_,q⟩|q)
     ·exact .inl (.inl (.inl q))
     ·exact .inl (.inl (.inr q))
     ·exact ax q (kA.nil t)
     ·exact .inr q
theorem zV {f:Tok->Option (List Tok)}:∀(l bs:List Tok),kO f l=some bs->∀t,t∈bs<->∃nm∈l,t=nm\/∃x,f nm=some x/\t∈x
 | [],bs,h,t=>by injection h with h;subst h;simp
 | a::l,bs,h,t=>by
  unfold kO at h
  split at h
  ·rename_i x y hx hy
   injection h with h;subst h;have ih:=zV l y hy t;simp only[List.cons_append,List.mem_cons,List.mem_append,ih]
   constructor
   ·rintro (q|q|⟨nm,q1,q2⟩)
    ·exact⟨a,.inl rfl,.inl q⟩
    ·exact⟨a,.inl rfl,.inr ⟨x,hx,q⟩⟩
    ·exact⟨nm,.inr q1,q2⟩
   ·rintro⟨nm,rfl|q1,q2⟩
    ·rcases q2 with q2|⟨z,hz,q2⟩
     ·exact .inl q2
     ·rw[hx] at hz;injection hz with hz;subst hz;exact .inr (.inl q2)
    ·exact .inr (.inr ⟨nm,q1,q2⟩)
  ·cases h
theorem qG {ay:List Def}{aA:Tok->Prop}(hd:∀t b,dx ay t=some b->(∃G,wb aA G false b)/\UB b)(g:Nat):∀(n:Nat) (l:List It) (bs:List Tok) (G:Nat),wb aA G false l->UB l->cJ ay g n l=some bs->∀t,t∈bs<->Bd (dx ay) n l t
 | 0,_,bs,_,_,_,h,t=>by
  injection h with h;subst h;exact⟨λq=>(by cases q),λq=>ax q (Bd.zero _ _ _)⟩
 | n+1,l,bs,G,hw,hu,h,t=>by
  unfold cJ at h
  split at h
  ·cases h
  ·rename_i names hc
   have h1:=kT g l names G false hw hu hc;rw[zV _ _ h t]
   constructor
   ·rintro⟨nm,hm,q⟩;refine⟨nm,(h1 nm).1 hm,?_⟩;rcases q with q|⟨x,hx,q⟩
    ·exact .inl q
    ·split at hx
     ·cases hx
     ·rename_i b hb
      obtain⟨⟨G',hw'⟩,hu'⟩:=hd _ _ hb;exact .inr ⟨b,hb,(qG hd g n b x G' hw' hu' hx t).1 q⟩
   ·rintro⟨nm,hm,q⟩;have hmm:=(h1 nm).2 hm;refine⟨nm,hmm,?_⟩;rcases q with q|⟨b,hb,q⟩
    ·exact .inl q
    ·obtain⟨⟨G',hw'⟩,hu'⟩:=hd _ _ hb;obtain⟨x,hx⟩:∃x,(match dx ay nm with|none=>none|some b=>cJ ay g n b)=some x:=by
      clear h1 hc q hm;generalize bs=bs' at h
      induction names generalizing bs' with
      | nil=>cases hmm
      | cons a ns ih=>
       unfold kO at h
       split at h
       ·rename_i x y hx hy
        rcases List.mem_cons.1 hmm with e|e
        ·rw[e];exact⟨x,hx⟩
        ·exact ih e y hy
       ·cases h
     refine .inr ⟨x,hx,?_⟩;rw[hb] at hx;exact(qG hd g n b x G' hw' hu' hx t).2 q
theorem kA.aA {aA:Tok->Prop}{G:Nat}{lo:Bool}{l:List It}(hw:wb aA G lo l)(hu:UB l){t:Tok}(h:kA t l):aA t:=by
 obtain⟨g,names,hc,hk⟩:=rX G lo l hw;exact hk t ((kT g l names G lo hw hu hc t).2 h)
theorem zW {aA:Tok->Prop}{bo:Tok->Option (List It)}(hd:∀t b,bo t=some b->(∃G,wb aA G false b)/\UB b):∀(n:Nat) (nm t:Tok),aA nm->Bc bo n nm t->aA t
 | 0,_,_,_,h=>h.elim
 | n+1,nm,t,hk,h=>by
  rcases h with h|⟨b,hb,sV,hi,h⟩
  ·rw[h];exact hk
  ·obtain⟨⟨G,hw⟩,hu⟩:=hd nm b hb;exact zW hd n sV t (kA.aA hw hu hi) h
theorem Hp {aA:Tok->Prop}{bo:Tok->Option (List It)}(hd:∀t b,bo t=some b->(∃G,wb aA G false b)/\UB b){n G:Nat}{l:List It}(hw:wb aA G false l)(hu:UB l){t:Tok}(h:Bd bo n l t):aA t:=by
 obtain⟨nm,hi,h⟩:=h;exact zW hd n nm t (kA.aA hw hu hi) h
section
variable {P:Program}(w:World)
theorem aC.setRow {w:World}{b:Nat}{t:TypeId}{c:Array Value}(h:aC w b t c)(c':Array Value):aC (w.setRow b c') b t c':=by
 have hlt:=h.lt;unfold aC at h ⊢;have h':w.heap[b]=.cells c t (0,0):=by simpa [Array.getElem?_eq_getElem hlt] using h
 show(w.heap.modify b _)[b]? = _;rw[Array.getElem?_eq_getElem (by simpa using hlt),Array.getElem_modify_self,h']
theorem sX (t ty e:TypeId)(i:TypeInfo)(z:Value)(size bytes:Nat)(ht:P.underlying t=some (.slice e))(hi:P.info? e=some i)(hz:i.zero=some z)
  (hsize:i.size=size) (hby:i.bytes=bytes) (hzs:z.cells.size=size) (hsz:0<size)
  (v:Value) (n:Nat) (xs:List Value) (hown:w.ownsRow 0 e size v n xs)
  (a:Addr) (m c:Nat) (news:List Value) (hl:news.length=m*size) (hnews:∀j u,news[j]? = some u->w.cell? (a.add j)=some u) (h1:∀u∈news,u.oneCell'=true)
  (h63:n+m<=maxLen) (hbytes:(n+m)*bytes<=140737488355328):
  ∃v' w',(Builtin.append_ #[t,t] ty #[v,.slice (some a) m c]).run P w=.ok v' w'/\w'.ownsRow 0 e size v' (n+m) (xs++news)/\w.grownBy w' v.ownBlock /\
   ((∀k,own v' k->own v k\/w.heap.size<=k)/\w'.ownsRow 0 e size v n xs/\(∀(q j:Nat) (u:Value),w.cell? ⟨q,j,none⟩=some u->w'.cell? ⟨q,j,none⟩=some u\/∃x∈news,w'.cell? ⟨q,j,none⟩=some x)):=by
 obtain⟨v',w',hr,ho,hg,hn⟩:=od (P:=P) w t ty e i z size bytes ht hi hz hsize hby hzs hsz v n xs hown a m c news hl hnews h1 h63 hbytes;have same:∀(q j:Nat) (u:Value),v.ownBlock≠some q->w.cell? ⟨q,j,none⟩=some u->w'.cell? ⟨q,j,none⟩=some u:=by
  intro q j u hq hc;have hlt:q<w.heap.size:=by
   rcases Nat.lt_or_ge q w.heap.size with h|h
   ·exact h
   ·unfold World.cell? at hc;rw[Array.getElem?_eq_none h] at hc;cases hc
  have e:=hg.block q hlt (λh=>hq h.symm);unfold World.cell? at hc ⊢;rw[e];exact hc
 refine⟨v',w',hr,ho,hg,hn,?_⟩;have hlx:=hown.1;rcases hown.2 with⟨rfl,rfl⟩|⟨g,cap,cur,rfl,hbg,hgg,hnc,hcm,hcs,htake⟩
 ·exact⟨⟨hlx,.inl ⟨rfl,rfl⟩⟩,λq j u hc=>.inl (same q j u (by simp[Value.ownBlock]) hc)⟩
 ·by_cases hroom:n+m<=cap
  ·have hfit:n*i.size+news.length<=cur.size:=by rw[hl,hcs,hsize,<-Nat.add_mul];exact Nat.mul_le_mul_right _ hroom
   have hr2:=run_append_room (P:=P) w t ty e i ht hi g n cap cur hgg a m c news (by rw[hsize];exact hl) hnews h1 hroom hfit;rw[hr] at hr2;injection hr2 with e1 e2;subst e1;rcases ho.2 with⟨hv,_⟩|⟨g',cap',cur',hv,_,DT,_,_,hcs',Zg⟩
   ·cases hv
   ·injection hv with q1 q2 q3;injection q1 with q1;injection q1 with q1;subst q1 q3;refine⟨⟨hlx,.inr ⟨g,cap,cur',rfl,hbg,DT,hnc,hcm,hcs',?_⟩⟩,λq j u hc=>?_⟩
    rotate_left
    ·by_cases hq:q=g
     ·subst hq;have hb:aC w q e cur:=hgg;have hc0:cur[j]? = some u:=by unfold World.cell? at hc;rw[hgg] at hc;simpa using hc
      have hb':aC w' q e (cur.toList.take (n*i.size)++news++cur.toList.drop (n*i.size+news.length)).toArray:=by
       rw[e2];exact aC.setRow hb _
      have hjl:j<cur.size:=by
       rcases Nat.lt_or_ge j cur.size with h|h
       ·exact h
       ·rw[Array.getElem?_eq_none h] at hc0;cases hc0
      have tq:(cur.toList.take (n*i.size)).length=n*i.size:=by simp;omega
      by_cases h2:j<n*i.size
      ·left
       refine hb'.cell ?_;rw[List.getElem?_toArray,List.append_assoc,List.getElem?_append_left (by omega),List.getElem?_take_of_lt h2];simpa using hc0
      ·by_cases h3:j<n*i.size+news.length
       ·right
        refine⟨news[j-n*i.size]'(by omega),List.getElem_mem _,hb'.cell ?_⟩;rw[List.getElem?_toArray,List.append_assoc,List.getElem?_append_right (by omega),tq,List.getElem?_append_left (by omega),List.getElem?_eq_getElem]
       ·left
        refine hb'.cell ?_;rw[List.getElem?_toArray,List.getElem?_append_right (by simp;omega),List.getElem?_drop];have:n*i.size+news.length+(j-(cur.toList.take (n*i.size)++news).length)=j:=by simp only[List.length_append,tq];omega
        rw[this];simpa using hc0
     ·exact .inl (same q j u (by simp[Value.ownBlock];omega) hc)
    have h2:(cur'.toList.take ((n+m)*size)).take (n*size)=(xs++news).take (n*size):=by rw[Zg]
    have h3:(xs++news).take (n*size)=xs:=by rw[<-hlx];simp
    rw[List.take_take,Nat.min_eq_left (Nat.mul_le_mul_right _ (by omega)),h3] at h2;exact h2
  ·subst hsize hby;have holds:∀j u,xs[j]? = some u->w.cell? ((⟨g,0,none⟩:Addr).add j)=some u:=hown.cells (g:=g) rfl;have hr2:=run_append_grow (P:=P) w t ty e i z ht hi hz ⟨g,0,none⟩ n cap xs hown.1 holds a m c news hl hnews (by omega) (by simp only[maxLen] at h63;omega) (growslice_fits (by omega) hbytes);rw[hr] at hr2;injection hr2 with e1 e2;subst e2;refine⟨(World.ownsRow.alloc (w:=w.drew) hown _),λq j u hc=>.inl ?_⟩;have hlt:q<w.heap.size:=by
    rcases Nat.lt_or_ge q w.heap.size with h|h
    ·exact h
    ·unfold World.cell? at hc;rw[Array.getElem?_eq_none h] at hc;cases hc
   have e:=Below.heap_alloc w.drew (.cells (xs.toArray++news.toArray++Builtin.zeroCells z.cells (grownCap w (n+m) cap e-(n+m))) e) q hlt;unfold World.cell? at hc ⊢;rw[e];exact hc
theorem uE {o:Oper}{a:Act}{K:Act->World->Prop}{Q:Exit->Act->World->Prop}(s x:Operand)(t:TypeId)
  (ho:o.op=.call {callee:=.builtin .append,args:=#[s,x],argTypes:=#[t,t]})
  (e:TypeId) (i:TypeInfo) (z:Value) (size bytes:Nat) (ht:P.underlying t=some (.slice e)) (hi:P.info? e=some i) (hz:i.zero=some z)
  (hsize:i.size=size) (hby:i.bytes=bytes) (hzs:z.cells.size=size) (hsz:0<size)
  (v:Value) (n:Nat) (xs:List Value) (hs:a.eval s=v) (hown:w.ownsRow 0 e size v n xs)
  (ad:Addr) (m c:Nat) (news:List Value) (hx:a.eval x=.slice (some ad) m c) (hl:news.length=m*size) (hnews:∀j u,news[j]? = some u->w.cell? (ad.add j)=some u) (h1:∀u∈news,u.oneCell'=true)
  (h63:n+m<=maxLen) (hbytes:(n+m)*bytes<=140737488355328)
  (h:∀v' w',w'.ownsRow 0 e size v' (n+m) (xs++news)->w.grownBy w' v.ownBlock->((∀k,own v' k->own v k\/w.heap.size<=k)/\w'.ownsRow 0 e size v n xs/\(∀(q j:Nat) (u:Value),w.cell? ⟨q,j,none⟩=some u->w'.cell? ⟨q,j,none⟩=some u\/∃x∈news,w'.cell? ⟨q,j,none⟩=some x))->K (a.put o.dst v') w'):o.wp P a w K Q:=by
 obtain⟨v',w',hr,h2,h3,h4⟩:=sX (P:=P) w t o.type e i z size bytes ht hi hz hsize hby hzs hsz v n xs hown ad m c news hl hnews h1 h63 hbytes;unfold Oper.wp execOp;simp only[ho,resolve,invoke,builtin,Sem.run_bind,Sem.run_pure,Result.andThen_ok,List.map_toArray,List.map_cons,List.map_nil,hs,hx,hr];exact h v' w' h2 h3 h4
theorem cW {ops:Array Oper}{rest:List Oper}{o:Oper}{a:Act}{Q:Exit->Act->World->Prop}(hgd:o.guard=none)(s x:Operand)(t:TypeId)
  (ho:o.op=.call {callee:=.builtin .append,args:=#[s,x],argTypes:=#[t,t]})
  (e:TypeId) (i:TypeInfo) (z:Value) (size bytes:Nat) (ht:P.underlying t=some (.slice e)) (hi:P.info? e=some i) (hz:i.zero=some z)
  (hsize:i.size=size) (hby:i.bytes=bytes) (hzs:z.cells.size=size) (hsz:0<size)
  (v:Value) (n:Nat) (xs:List Value) (hs:a.eval s=v) (hown:w.ownsRow 0 e size v n xs)
  (ad:Addr) (m c:Nat) (news:List Value) (hx:a.eval x=.slice (some ad) m c) (hl:news.length=m*size) (hnews:∀j u,news[j]? = some u->w.cell? (ad.add j)=some u) (h1:∀u∈news,u.oneCell'=true)
  (h63:n+m<=maxLen) (hbytes:(n+m)*bytes<=140737488355328)
  (h:∀v' w',w'.ownsRow 0 e size v' (n+m) (xs++news)->w.grownBy w' v.ownBlock->((∀k,own v' k->own v k\/w.heap.size<=k)/\w'.ownsRow 0 e size v n xs/\(∀(q j:Nat) (u:Value),w.cell? ⟨q,j,none⟩=some u->w'.cell? ⟨q,j,none⟩=some u\/∃x∈news,w'.cell? ⟨q,j,none⟩=some x))->wpList P ops Q rest (a.put o.dst v') w'):wpList P ops Q (o::rest) a w:=
 wpList_plain hgd λ_ hK=>uE w s x t ho e i z size bytes ht hi hz hsize hby hzs hsz v n xs hs hown ad m c news hx hl hnews h1 h63 hbytes λv' w' h2 h3 h4=>hK _ _ (h v' w' h2 h3 h4)
end
end
section
open Go.RowKit
variable {K:Nat->Prop}
theorem Um (g:Nat)(hB:∀g',g'<g->CB K g'):CL K g:=by
 intro w yb fb rs s s' f lp lv x nm va vb vt left hr he hf hlp hat hx;have HB:=az hB;clear hB;obtain⟨ns,hi,hns⟩:=hr.inv;have hg:=hr.good;have hns:=hns he;subst hns;obtain⟨i0,hti,hz0,hz1,hz2⟩:=info_parts Tryz.info3;unfold pR at hx
 split at hx
 ·rename_i b m r hrs
  have HX:=az hx;clear hx;have Zh:In b:=hg.g.ins b (by rw[hrs];simp);have Zi:In m:=hg.g.ins m (by rw[hrs];simp);rw[hrs] at hi;go_enter func212,ntmps212;have eO:Kp w (w.alloc (.cells #[.int .u8 x.kind,.int .i64 x.n,.string nm,va,vb,vt] 227)) (λ_=>False):=(Kp.refl w _).alloc _;have cZ:=hr.cI eO;have hnk:nK K w.heap.size:=λh=>Nat.lt_irrefl _ (hr.dr.old _ h);obtain⟨iO,dP⟩:=hf.iF hr (fG.cI (rs:=rs) eO);have hi0:=hi.kp eO;have ir:=aC.new w #[.int .u8 x.kind,.int .i64 x.n,.string nm,va,vb,vt] 227;have hba:=hat.a.keep (aF.cI eO (nK K));have hRS:=hrs;clear hr hf hi eO hat hrs
  go_wp2_with fail
  generalize hW0:w.alloc (.cells #[.int .u8 x.kind,.int .i64 x.n,.string nm,va,vb,vt] 227)=w0 at cZ iO dP hi0 ir hba ⊢;clear hW0;refine(gD _ _ _ _ _ _ hi0).mono ?_;rintro e w1 ⟨gt,v',rfl,hT⟩;have HN:=cZ.turn (s':={s with rs:=r}) hT.to rfl ⟨_,hT.inv,λ_=>rfl⟩ cZ.e cZ.st cZ.mem cZ.out rfl rfl rfl rfl rfl ⟨⟨λy hy=>hg.g.ins y (by rw[hRS];simp[hy]),hg.g.sP,by have:=hg.g.len;rw[hRS] at this;simp only[aq] at this;show r.length<=32;omega,hg.g.tQ⟩,hg.s0,hg.s1,hg.s2,hg.d0,hg.d1,hg.b0,hg.b1,hg.cb⟩;obtain⟨hr1,cU⟩:=HN;obtain⟨cY,bt⟩:=iO.iF cZ cU;have hgt:¬own lv gt:=λe=>by have:=bw iO.row e;have:=hT.new;omega
  have bg:aF (nK K) (nK K) w0 w1:=aF.to cU cZ.jX _;have eD:=(bg _ _ _ hnk ir (.inl rfl)).1;have HL:Hid (Hl K g yb fb gt w w1 rs s' f lp lv va x.a left b m b/\aC w1 w.heap.size 227 #[.int .u8 x.kind,.int .i64 x.n,.string nm,va,vb,vt]):=
   ⟨⟨⟨g,_,lv,_,ah _,hr1,he,cY,hlp,dP.trans bt,HX.out,hT.blk,hT.apart,hgt⟩,hba.keep bg,Zh⟩,eD⟩
  have k0:=hT.blk.cell (o:=0) rfl;clear hT cZ iO dP hi0 ir hba hr1 cU cY bt hgt bg eD HX;go_wp2;clear k0
  go_loopw [9] (λi wr=>∃n:Int,i=.int .i64 n/\Hl K g yb fb gt w wr rs s' f lp lv va x.a left b m n/\aC wr w.heap.size 227 #[.int .u8 x.kind,.int .i64 x.n,.string nm,va,vb,vt]) (λi _=>(m-intOf i).toNat)
  case atStart=>exact⟨b,rfl,HL.out⟩
  case round=>
   clear HL;obtain⟨n,rfl,⟨⟨g',jc,yw,sk,hg',hrel,LH,mh,LI,hto,hx,jC,sL,hlv⟩,hbd,LJ⟩,ir⟩:=hrel;have k1:=jC.cell (o:=1) rfl
   cases g' with
   | zero=>cases hx
   | succ g'=>
    rw[Ec] at hx;by_cases hnm:n<m
    ·rw[ag hnm] at hx
     go_wp2_with fail
     refine(jH wr yb jc sk hrel LH).mono ?_;rintro e w2 ⟨rfl,mo,aU,eF,-⟩;obtain⟨hf2,bM⟩:=mh.iF hrel eF;obtain⟨P6,Un,LK⟩:=bM.held hrel mh jC sL hlv;have dR:aF (nK K) (nK K) wr w2:=aF.to eF hrel.jX _;have sY:=(dR _ _ _ hnk ir (.inl rfl)).1;have P7:=hbd.keep dR;have jw:=hto.trans bM;clear hrel mh hto jC sL hlv hbd ir k1 eF bM dR;by_cases eX:sk.step.e=0
     ·rw[af (by simp[eX])] at hx;rw[decide_eq_true eX]
      split at hx
      ·cases hx
      ·rename_i s3 iy hx3
       have ad8:(lp.length:Int)+1<=sk.step.steps:=by rw[St.aO];omega
       have ad9:=aU.good.s1;obtain⟨al,pl,LL⟩:=aB hf2.row;subst LL;obtain⟨Uo,vbf,kB,-⟩:=hf2.blk;have cf:w2.cell? ⟨fb,3,none⟩=some (.slice al lp.length pl):=kB.cell rfl;have hxl:=sY.lt;have hfl:=kB.lt;have Zj:=az aU;have sZ:=az hf2;have zg:=az hx3;have KH:=az hx;have Uq:=az P6;clear hx hx3 kB
       go_wp2_with (first
        | (at_builtin;refine aP _ rfl _ _ 34 rfl 3 i0 (.int .i64 0) 1 8 underlying34 hti hz0 hz1 hz2 rfl (by decide) _ _ _ rfl (hf2.row.alloc _) ⟨w2.heap.size,0,none⟩ 1 1 [.int .i64 n] rfl rfl ?c1 ?c2 ?c3 ?c4 ?_)
        | fail)
       case c1=>intro j u hj;match j,hj with|0,hj=>simp at hj;subst hj;simp[Addr.add]
       case c2=>intro u hu;simp at hu;subst hu;rfl
       case c3=>unfold maxLen;omega
       case c4=>omega
       intro v3 w3 hown hgrow hnx;obtain⟨gl,pl3,rfl⟩:∃gl cap',v3=.slice (some ⟨gl,0,none⟩) (lp.length+1) cap':=by
        rcases hown.2 with⟨_,h0⟩|⟨g,cap',_,hv,_⟩
        ·omega
        ·exact⟨g,cap',hv⟩
       have zX:∀k,own (.slice (some ⟨gl,0,none⟩) (lp.length+1) pl3) k->own (.slice al lp.length pl) k\/w2.heap.size+1<=k:=λk hk=>(hnx k hk).imp (λh=>h) (λh=>by simpa using h);obtain⟨hk3,⟨nm3,vb3,hb3⟩,cu,hf3,dI,dO⟩:=sZ.out.push Zj.out LJ hown hgrow zX;obtain⟨Ur,Us,LM⟩:=dI.held Zj.out sZ.out Uq.out Un LK;have EI:=(dO _ _ _ hnk sY (.inl rfl)).1;have Ut:=P7.keep dO;have gI:=jw.trans dI;have LN:aC w3 w.heap.size 227 #[.int .u8 x.kind,.int .i64 x.n,.string nm,va,vb,vt]:=hk3.blk sY (aH hf2.row sY (by decide));have hxf:¬w.heap.size=fb:=by intro e;rw[e] at LN;exact ax (LN.inj hb3).1 (by decide)
       have P8:w3.cell? ⟨w.heap.size,3,none⟩=some va:=LN.cell rfl;have cf3:w3.cell? ⟨fb,3,none⟩=some (.slice al lp.length pl):=hb3.cell rfl;have ff3:=hb3.free 3;have Hq:=az cu;have F4:=az hf3;have Uu:=az gI;have Uv:=az Ur;have Uw:=az EI;have P9:=az Ut;clear hown hgrow hnx zX hk3 hb3 cu hf3 dI dO Ur EI Ut gI LN P7 sY jw aU hf2 P6 cf Zj sZ Uq
       go_wp2_with fail
       refine(HB.out g' (by omega) _ yb fb _ _ s3 f (n::lp) _ va x.a iy Hq.out eX F4.out (by simp only[aq];omega) P9.out zg.out).mono ?_;rintro e w4 ⟨rfl,Hr,XZ,iz,wG,gQ⟩;obtain⟨Ux,Uy,Uz⟩:=gQ.held Hq.out F4.out Uv.out Us LM;have fH:aF (nK K) (nK K) _ w4:=aF.to gQ (F4.out.jX Hq.out) _;have UA:=(fH _ _ _ hnk Uw.out (.inl rfl)).1;have oY:=P9.out.keep fH;have oX:=Uu.out.trans gQ;obtain⟨gl4,pl4,rfl⟩:∃gl cap',XZ=.slice (some ⟨gl,0,none⟩) (lp.length+1) cap':=by
        rcases wG.row.2 with⟨_,h0⟩|⟨g,cap',_,hv,_⟩
        ·simp at h0
        ·exact⟨g,cap',hv⟩
       have aee:lp.length+1<=pl4:=by
        rcases wG.row.2 with⟨hv,h0⟩|⟨g,cap',_,hv,_,_,hnc,_⟩
        ·simp at h0
        ·injection hv with e1 e2 e3;subst e3;simpa using hnc
       obtain⟨oq,yA,mF,oN⟩:=wG.Y9 iz;obtain⟨UC,Zk,Zl⟩:=mF.held iz wG Ux Uy Uz;have UD:=(oN _ _ _ hnk UA (.inl rfl)).1;have UE:=oY.keep oN;have uz:=oX.trans mF;have Zm:=(cH _ _ _ _ _ zg.out).2;have Hs:Hid (iy=false->s3.e=0):=λe=>by have h:=zg.out;rw[e] at h;exact jx _ _ _ _ _ _ eX h
       have Ox:In (n+1):=by unfold In at LJ Zi ⊢;omega
       obtain⟨nm4,vb4,hb4,-⟩:=wG.blk;have cf4:w4.cell? ⟨fb,3,none⟩=some (.slice (some ⟨gl4,0,none⟩) (lp.length+1) pl4):=hb4.cell rfl;have ff4:=hb4.free 3;have HR5:=az oq;have HF5:=az yA;have UF:=az uz;have Zn:=az UC;have Zo:=az UD;have Zp:=az UE;clear iz wG gQ fH Ux UA oY oX oq yA mF oN UC UD UE uz hb4 Hq F4 Uu Uv Uw P9 zg cf3 ff3 P8 Un LK Us LM Uy Uz;have aY:=KH.out;clear KH;by_cases De:iy=true
       ·subst De;rw[ag rfl] at aY;injection aY with aY;injection aY with hx1 hx2;subst hx1 hx2;go_wp2
        go_region
        all_goals
         go_wp2;go_ret;exact⟨rfl,Hr,_,HR5.out,HF5.out,UF.out⟩
       ·have De:iy=false:=by simpa using De
        subst De;rw[af (by simp)] at aY;have KH:=az aY;have UG:s3.e=0:=Hs.out rfl;clear aY;go_wp2
        go_region
        all_goals
         have hwn:wrap64 (n+1)=n+1:=by unfold In at Ox;unfold wrap64;omega
         go_wp2
         go_roundw
         case rel=>exact⟨n+1,by rw[hwn],⟨⟨g',Hr,_,s3,by omega,HR5.out,UG,HF5.out,by omega,UF.out,KH.out,Zn.out,Zk,Zl⟩,Zp.out,Ox⟩,Zo.out⟩
         case measure=>simp[intOf,hwn];omega
     ·rw[ag eX] at hx;rw[decide_eq_false eX];injection hx with hx;injection hx with hx1 hx2;subst hx1 hx2;clear P6 sY P7;go_wp2;go_ret;exact⟨rfl,mo,yw,aU,hf2,jw⟩
    ·rw[af hnm] at hx;injection hx with hx;injection hx with hx1 hx2;subst hx1 hx2;go_wp2;go_ret;exact⟨rfl,jc,yw,hrel,mh,hto⟩
 ·rename_i hne
  injection hx with hx;injection hx with hx1 hx2;subst hx1 hx2;have hlt:(s.rs.reverse.length:Int)<2:=by
   rw[au]
   match hrs:s.rs with
   | []=>simp
   | [a]=>simp
   | b::m::r=>exact ax hrs (hne b m r)
  go_enter func212,ntmps212;have eO:Kp w (w.alloc (.cells #[.int .u8 x.kind,.int .i64 x.n,.string nm,va,vb,vt] 227)) (λ_=>False):=(Kp.refl w _).alloc _;have cZ:=hr.cI eO;have hnk:nK K w.heap.size:=λh=>Nat.lt_irrefl _ (hr.dr.old _ h);obtain⟨iO,dP⟩:=hf.iF hr (fG.cI (rs:=rs) eO);have hi0:=hi.kp eO;clear hr hf hi eO hat
  go_wp2_with fail
  refine(bO _ _ _ _ _ hi0 hlt).mono ?_;rintro e w2 ⟨v,rfl,hi2,bM⟩;have HN:=cZ.turn (s':=s.err 6) bM rfl ⟨_,hi2,(λh=>by cases h)⟩ rfl cZ.st cZ.mem cZ.out rfl rfl rfl rfl rfl ⟨hg.g,hg.s0,hg.s1,(λh=>by cases h),hg.d0,hg.d1,hg.b0,hg.b1,hg.cb⟩;obtain⟨hf2,dI⟩:=iO.iF cZ HN.2;clear hi2 bM hi0;go_wp2;go_ret;exact⟨rfl,_,lv,HN.1,hf2,dP.trans dI⟩
end
section
open Go.RowKit
variable {K:Nat->Prop}
def tu (w:World)(yb:Nat):Int:=match w.cell? ⟨yb,22,none⟩ with
 | some (.int _ n)=>n
 | _=>0
theorem jN {w:World}{yb:Nat}{rs:RS}{s:St}(h:bP K w yb rs s):tu w yb=s.steps:=by
 have:w.cell? ⟨yb,22,none⟩=some (.int .i64 s.steps):=by rw[<-h.st];exact h.blk.cell rfl
 unfold tu;rw[this]
def Ht (K:Nat->Prop)(kind:Nat)(g:Nat):Prop:=∀(w:World) (yb fb:Nat) (rs:RS) (s s':St) (f:Fr) (lp:List Int) (lv:Value) (x:It) (nm:ByteArray) (va vb vt:Value) (left:Bool),x.kind=kind->bP K w yb rs s->s.e=0->iq K w fb f lp lv rs.nv->(lp.length:Int)<=s.steps ->
 pQ (kZ K w) (zQ K w) x nm va vb vt->aI g (cT f lp x) s=some (s',left)->Calls prog 189 #[.pointer (some ⟨yb,0,none⟩),.pointer (some ⟨fb,0,none⟩),qs x nm va vb vt] w λe w'=>e=.returned (.bool left)/\uw K yb fb w w' rs s' f lp lv
structure tA (K:Nat->Prop)(kind g yb fb:Nat)(w wr:World)(rs:RS)(s':St)(f:Fr)(lp:List Int)(lv:Value)(x:It)(nm:ByteArray)(va vb vt:Value)(left:Bool):Prop where
 ex:∃g' jc yw sk,g'<=g/\bP K wr yb jc sk/\sk.e=0/\iq K wr fb f lp yw jc.nv/\(lp.length:Int)<=sk.steps/\yu yb fb w wr rs jc lv yw/\aI g' (cT f lp x) sk=some (s',left)
 a:kZ K wr va x.a
 b:kZ K wr vb x.b
 x:aC wr w.heap.size 227 #[.int .u8 kind,.int .i64 x.n,.string nm,va,vb,vt]
theorem UH (g:Nat)(hB:∀g',g'<g->CB K g'):Ht K 63 g:=by
 intro w yb fb rs s s' f lp lv x nm va vb vt left hk hr he hf hlp hat hx;have HB:=az hB;clear hB
 cases g with
 | zero=>cases hx
 | succ g=>
 rw[Gx _ _ _ _ _ hk] at hx;have eO:Kp w (w.alloc (.cells #[.int .u8 63,.int .i64 x.n,.string nm,va,vb,vt] 227)) (λ_=>False):=(Kp.refl w _).alloc _;have cZ:=hr.cI eO;have hnk:nK K w.heap.size:=λh=>Nat.lt_irrefl _ (hr.dr.old _ h);obtain⟨iO,dP⟩:=hf.iF hr (fG.cI (rs:=rs) eO);have ir:=aC.new w #[.int .u8 63,.int .i64 x.n,.string nm,va,vb,vt] 227;have hba:=hat.a.keep (aF.cI eO (nK K));have hbb:=hat.b.keep (aF.cI eO (nK K));have jC:=aM (aF.cI eO (nK K)) hat.t;have hnm:=hat.nm;have hin:=hat.n;have HX:=az hx;clear hr hf eO hat hx;rw[show qs x nm va vb vt=.agg #[.int .u8 63,.int .i64 x.n,.string nm,va,vb,vt] by unfold qs;rw[hk];rfl];have HK:=az hk;clear hk;go_enter func189,ntmps189
 go_wp2_with fail
 generalize hW0:w.alloc (.cells #[.int .u8 63,.int .i64 x.n,.string nm,va,vb,vt] 227)=w0 at cZ iO dP ir hba hbb jC ⊢;clear hW0;refine(Gz _ yb rs s cZ he).mono ?_;rintro e w1 ⟨rfl,fB,hr1,cU⟩;obtain⟨cY,bt⟩:=iO.iF cZ cU;have bg:aF (nK K) (nK K) w0 w1:=aF.to cU cZ.jX _;have eD:=(bg _ _ _ hnk ir (.inl rfl)).1;have uF:=hba.keep bg;have uG:=hbb.keep bg;have ce:w1.cell? ⟨yb,21,none⟩=some (.int .i64 s.test.1.e):=by rw[<-hr1.e];exact hr1.blk.cell rfl
 have wH:=eD.cell (o:=0) rfl;have P8:=eD.cell (o:=3) rfl;have Zq:=eD.cell (o:=4) rfl;have aY:=HX.out;clear cZ iO cU ir hba hbb jC bg eD HX;by_cases fA:s.test.1.e=0
 ·rw[af (by simp[fA])] at aY;rw[fA] at ce;by_cases ht:s.test.2=true
  ·rw[ag ht] at aY;rw[ht];have LO:=az aY;clear aY ht uG
   go_wp2_with fail
   refine(HB.out g (by omega) _ yb fb _ _ s' f lp lv va x.a left hr1 fA cY (by have:=St.cD s;omega) uF LO.out).mono ?_;rintro e w2 ⟨rfl,mo,r8,aU,hf2,bM⟩;have F3:=dP.trans (bt.trans bM);clear hr1 cY bt bM;go_wp2;go_ret;exact⟨rfl,mo,r8,aU,hf2,F3⟩
  ·rw[af ht] at aY;rw[show s.test.2=false by simpa using ht];have LO:=az aY;clear aY ht uF
   go_wp2_with fail
   refine(HB.out g (by omega) _ yb fb _ _ s' f lp lv vb x.b left hr1 fA cY (by have:=St.cD s;omega) uG LO.out).mono ?_;rintro e w2 ⟨rfl,mo,r8,aU,hf2,bM⟩;have F3:=dP.trans (bt.trans bM);clear hr1 cY bt bM;go_wp2;go_ret;exact⟨rfl,mo,r8,aU,hf2,F3⟩
 ·rw[ag fA] at aY;injection aY with aY;injection aY with hx1 hx2;subst hx1 hx2;clear uF uG;go_wp2;go_ret;exact⟨rfl,fB,lv,hr1,cY,dP.trans bt⟩
theorem Hu (g:Nat)(hB:∀g',g'<g->CB K g'):Ht K 117 g:=by
 intro w yb fb rs s s' f lp lv x nm va vb vt left hk hr he hf hlp hat hx;have HB:=az hB;clear hB;have eO:Kp w (w.alloc (.cells #[.int .u8 117,.int .i64 x.n,.string nm,va,vb,vt] 227)) (λ_=>False):=(Kp.refl w _).alloc _;have cZ:=hr.cI eO;have hnk:nK K w.heap.size:=λh=>Nat.lt_irrefl _ (hr.dr.old _ h);obtain⟨iO,dP⟩:=hf.iF hr (fG.cI (rs:=rs) eO);have ir:=aC.new w #[.int .u8 117,.int .i64 x.n,.string nm,va,vb,vt] 227;have hba:=hat.a.keep (aF.cI eO (nK K));have hbb:=hat.b.keep (aF.cI eO (nK K));have jC:=aM (aF.cI eO (nK K)) hat.t;have hnm:=hat.nm;have hin:=hat.n;have HX:=az hx;clear hr hf eO hat hx;rw[show qs x nm va vb vt=.agg #[.int .u8 117,.int .i64 x.n,.string nm,va,vb,vt] by unfold qs;rw[hk];rfl];have HK:=az hk;clear hk;go_enter func189,ntmps189
 go_wp2_with fail
 generalize hW0:w.alloc (.cells #[.int .u8 117,.int .i64 x.n,.string nm,va,vb,vt] 227)=w0 at cZ iO dP ir hba hbb jC ⊢;clear hW0;have HL:Hid (tA K 117 g yb fb w w0 rs s' f lp lv x nm va vb vt left):=⟨⟨g,rs,lv,s,ah _,cZ,he,iO,hlp,dP,HX.out⟩,hba,hbb,ir⟩;clear cZ iO dP HX hba hbb ir jC he hlp
 go_loopw [8] (λ_ wr=>tA K 117 g yb fb w wr rs s' f lp lv x nm va vb vt left) (λ_ wr=>(2002-tu wr yb).toNat)
 case atStart=>exact HL.out
 case round=>
  clear HL;obtain⟨⟨g',jc,yw,sk,hg',hrel,LH,mh,LI,hto,hx⟩,hba,hbb,ir⟩:=hrel;have Zr:=az (jN hrel);have P8:=ir.cell (o:=3) rfl
  cases g' with
  | zero=>cases hx
  | succ g'=>
   rw[nB _ _ _ _ _ HK.out] at hx
   split at hx
   ·cases hx
   ·rename_i s1 fK hx1
    go_wp2_with fail
    refine(HB.out g' (by omega) _ yb fb _ _ s1 f lp yw va x.a fK hrel LH mh LI hba hx1).mono ?_;rintro e w1 ⟨rfl,fB,gi,cM,cY,bt⟩;have bg:aF (nK K) (nK K) wr w1:=aF.to bt (mh.jX hrel) _;have eD:=(bg _ _ _ hnk ir (.inl rfl)).1;have uF:=hba.keep bg;have uG:=hbb.keep bg;have mJ:=(cH _ _ _ _ _ hx1).2;have Da:Hid (fK=false->s1.e=0):=λe=>by have h:=hx1;rw[e] at h;exact jx _ _ _ _ _ _ LH h
    have gJ:=hto.trans bt;have aY:=hx;clear hx hx1 hrel mh hto hba hbb ir P8 bt bg LH;by_cases ld:fK=true
    ·subst ld;rw[ag rfl] at aY;injection aY with aY;injection aY with hx1 hx2;subst hx1 hx2;clear uF uG eD Da;go_wp2;go_ret;exact⟨rfl,fB,gi,cM,cY,gJ⟩
    ·have ld:fK=false:=by simpa using ld
     subst ld;rw[af (by simp)] at aY;have fA:=Da.out rfl
     go_wp2_with fail
     refine(Gz _ yb fB s1 cM fA).mono ?_;rintro e w2 ⟨rfl,mo,aU,eF⟩;obtain⟨hf2,bM⟩:=cY.iF cM eF;have dR:aF (nK K) (nK K) w1 w2:=aF.to eF cM.jX _;have sY:=(dR _ _ _ hnk eD (.inl rfl)).1;have Hv:=uF.keep dR;have Hw:=uG.keep dR;have jw:=gJ.trans bM;have Zt:=St.cD s1;have UI:=aU.good.s1;have ce:w2.cell? ⟨yb,21,none⟩=some (.int .i64 s1.test.1.e):=by rw[<-aU.e];exact aU.blk.cell rfl
     have UJ:=az (jN aU);have kH:=az aU;have sZ:=az hf2;have wI:=az jw;have uy:=az sY;have EC:=az Hv;have zh:=az Hw;clear cM cY gJ eD uF uG dR eF bM aU hf2 jw Hv Hw Da;by_cases pF:s1.test.1.e=0
     ·rw[af (by simp[pF])] at aY;rw[pF] at ce;by_cases ht:s1.test.2=true
      ·rw[ag ht] at aY;rw[ht];clear ht;injection aY with aY;injection aY with hx1 hx2;subst hx1 hx2;go_wp2;go_ret;exact⟨rfl,mo,gi,kH.out,sZ.out,wI.out⟩
      ·rw[af ht] at aY;rw[show s1.test.2=false by simpa using ht];have KH:=az aY;clear ht aY;go_wp2
       go_roundw
       case rel=>exact⟨⟨g',mo,gi,_,by omega,kH.out,pF,sZ.out,by omega,wI.out,KH.out⟩,EC.out,zh.out,uy.out⟩
       case measure=>rw[Zr.out,UJ.out];omega
     ·rw[ag pF] at aY;injection aY with aY;injection aY with hx1 hx2;subst hx1 hx2
      cases ht:s1.test.2 with
      | true=>
       go_wp2;go_ret;exact⟨by first|rfl|(show Ending.returned (.bool (s1.test.1.e != 0))=_;simp[pF]),mo,gi,kH.out,sZ.out,wI.out⟩
      | false=>
       go_wp2;go_ret;exact⟨by first|rfl|(show Ending.returned (.bool (s1.test.1.e != 0))=_;simp[pF]),mo,gi,kH.out,sZ.out,wI.out⟩
theorem Hx (g:Nat)(hB:∀g',g'<g->CB K g'):Ht K 119 g:=by
 intro w yb fb rs s s' f lp lv x nm va vb vt left hk hr he hf hlp hat hx;have HB:=az hB;clear hB;have eO:Kp w (w.alloc (.cells #[.int .u8 119,.int .i64 x.n,.string nm,va,vb,vt] 227)) (λ_=>False):=(Kp.refl w _).alloc _;have cZ:=hr.cI eO;have hnk:nK K w.heap.size:=λh=>Nat.lt_irrefl _ (hr.dr.old _ h);obtain⟨iO,dP⟩:=hf.iF hr (fG.cI (rs:=rs) eO);have ir:=aC.new w #[.int .u8 119,.int .i64 x.n,.string nm,va,vb,vt] 227;have hba:=hat.a.keep (aF.cI eO (nK K));have hbb:=hat.b.keep (aF.cI eO (nK K));have jC:=aM (aF.cI eO (nK K)) hat.t;have hnm:=hat.nm;have hin:=hat.n;have HX:=az hx;clear hr hf eO hat hx;rw[show qs x nm va vb vt=.agg #[.int .u8 119,.int .i64 x.n,.string nm,va,vb,vt] by unfold qs;rw[hk];rfl];have HK:=az hk;clear hk;go_enter func189,ntmps189
 go_wp2_with fail
 generalize hW0:w.alloc (.cells #[.int .u8 119,.int .i64 x.n,.string nm,va,vb,vt] 227)=w0 at cZ iO dP ir hba hbb jC ⊢;clear hW0;have HL:Hid (tA K 119 g yb fb w w0 rs s' f lp lv x nm va vb vt left):=⟨⟨g,rs,lv,s,ah _,cZ,he,iO,hlp,dP,HX.out⟩,hba,hbb,ir⟩;clear cZ iO dP HX hba hbb ir jC he hlp
 go_loopw [10] (λ_ wr=>tA K 119 g yb fb w wr rs s' f lp lv x nm va vb vt left) (λ_ wr=>(2002-tu wr yb).toNat)
 case atStart=>exact HL.out
 case round=>
  clear HL;obtain⟨⟨g',jc,yw,sk,hg',hrel,LH,mh,LI,hto,hx⟩,hba,hbb,ir⟩:=hrel;have Zr:=az (jN hrel);have P8:=ir.cell (o:=3) rfl
  cases g' with
  | zero=>cases hx
  | succ g'=>
   rw[lB _ _ _ _ _ HK.out] at hx
   split at hx
   ·cases hx
   ·rename_i s1 fK hx1
    go_wp2_with fail
    refine(HB.out g' (by omega) _ yb fb _ _ s1 f lp yw va x.a fK hrel LH mh LI hba hx1).mono ?_;rintro e w1 ⟨rfl,fB,gi,cM,cY,bt⟩;have bg:aF (nK K) (nK K) wr w1:=aF.to bt (mh.jX hrel) _;have eD:=(bg _ _ _ hnk ir (.inl rfl)).1;have uF:=hba.keep bg;have uG:=hbb.keep bg;have mJ:=(cH _ _ _ _ _ hx1).2;have Da:Hid (fK=false->s1.e=0):=λe=>by have h:=hx1;rw[e] at h;exact jx _ _ _ _ _ _ LH h
    have gJ:=hto.trans bt;have aY:=hx;clear hx hx1 hrel mh hto hba hbb ir P8 bt bg LH;by_cases ld:fK=true
    ·subst ld;rw[ag rfl] at aY;injection aY with aY;injection aY with hx1 hx2;subst hx1 hx2;clear uF uG eD Da;go_wp2;go_ret;exact⟨rfl,fB,gi,cM,cY,gJ⟩
    ·have ld:fK=false:=by simpa using ld
     subst ld;rw[af (by simp)] at aY;have fA:=Da.out rfl
     go_wp2_with fail
     refine(Gz _ yb fB s1 cM fA).mono ?_;rintro e w2 ⟨rfl,mo,aU,eF⟩;obtain⟨hf2,bM⟩:=cY.iF cM eF;have dR:aF (nK K) (nK K) w1 w2:=aF.to eF cM.jX _;have sY:=(dR _ _ _ hnk eD (.inl rfl)).1;have Hv:=uF.keep dR;have Hw:=uG.keep dR;have jw:=gJ.trans bM;have Zt:=St.cD s1;have UI:=aU.good.s1;have ce:w2.cell? ⟨yb,21,none⟩=some (.int .i64 s1.test.1.e):=by rw[<-aU.e];exact aU.blk.cell rfl
     have UJ:=az (jN aU);have kH:=az aU;have sZ:=az hf2;have wI:=az jw;have uy:=az sY;have EC:=az Hv;have zh:=az Hw;clear cM cY gJ eD uF uG dR eF bM aU hf2 jw Hv Hw Da;by_cases pF:s1.test.1.e=0
     ·rw[af (by simp[pF])] at aY;rw[pF] at ce;by_cases ht:s1.test.2=false
      ·rw[ag ht] at aY;rw[ht];clear ht;injection aY with aY;injection aY with hx1 hx2;subst hx1 hx2;go_wp2;go_ret;exact⟨rfl,mo,gi,kH.out,sZ.out,wI.out⟩
      ·rw[af ht] at aY;rw[show s1.test.2=true by simpa using ht];clear ht
       split at aY
       ·cases aY
       ·rename_i s3 iy hx3
        have Zq:=sY.cell (o:=4) rfl
        go_wp2_with fail
        refine(HB.out g' (by omega) _ yb fb _ _ s3 f lp gi vb x.b iy kH.out pF sZ.out (by omega) zh.out hx3).mono ?_;rintro e w3 ⟨rfl,zi,BR,cu,hf3,dI⟩;have dO:aF (nK K) (nK K) w2 w3:=aF.to dI (sZ.out.jX kH.out) _;have EI:=(dO _ _ _ hnk uy.out (.inl rfl)).1;have Qa:=EC.out.keep dO;have Qb:=zh.out.keep dO;have UK:=(cH _ _ _ _ _ hx3).2;have Zm:=cu.good.s1;have Hs:Hid (iy=false->s3.e=0):=λe=>by have h:=hx3;rw[e] at h;exact jx _ _ _ _ _ _ pF h
        have gI:=wI.out.trans dI;have Zu:=az (jN cu);clear hx3 ce Zq dI dO kH sZ wI uy EC zh sY;by_cases De:iy=true
        ·subst De;rw[ag rfl] at aY;injection aY with aY;injection aY with hx1 hx2;subst hx1 hx2;clear Qa Qb EI Hs;go_wp2;go_ret;exact⟨rfl,zi,BR,cu,hf3,gI⟩
        ·have De:iy=false:=by simpa using De
         subst De;rw[af (by simp)] at aY;have KH:=az aY;have UG:=Hs.out rfl;have Hq:=az cu;have F4:=az hf3;have wJ:=az gI;have zg:=az EI;have SS:=az Qa;have EJ:=az Qb;clear aY cu hf3 gI EI Qa Qb Hs;go_wp2
         go_roundw
         case rel=>exact⟨⟨g',zi,BR,_,by omega,Hq.out,UG,F4.out,by omega,wJ.out,KH.out⟩,SS.out,EJ.out,zg.out⟩
         case measure=>rw[Zr.out,Zu.out];omega
     ·rw[ag pF] at aY;injection aY with aY;injection aY with hx1 hx2;subst hx1 hx2
      cases ht:s1.test.2 with
      | true=>
       go_wp2;go_ret;exact⟨by first|rfl|(show Ending.returned (.bool (s1.test.1.e != 0))=_;simp[pF]),mo,gi,kH.out,sZ.out,wI.out⟩
      | false=>
       go_wp2;go_ret;exact⟨by first|rfl|(show Ending.returned (.bool (s1.test.1.e != 0))=_;simp[pF]),mo,gi,kH.out,sZ.out,wI.out⟩
end
section
open Go.RowKit
variable {K:Nat->Prop}
section
variable (g:Nat)(f:Fr)(lp:List Int)(x:It)(s:St)
theorem UL (h:x.kind=110):eN g f lp x s=some (s.put x.n,decide ((s.put x.n).e≠0)):=by unfold eN;rw[ag h]
theorem UM (h:x.kind=112):eN g f lp x s=match aN.findIdx? (· == x.name) with
  | none=>none
  | some k=>some (s.word k,decide ((s.word k).e≠0)):=by unfold eN;rw[af (by omega),ag h];rfl
theorem UN (h:x.kind=105):eN g f lp x s=match lp with
  | []=>none
  | i::_=>some (s.put i,decide ((s.put i).e≠0)):=by unfold eN;rw[af (by omega),af (by omega),ag h];rfl
theorem UO (h:x.kind=120):eN g f lp x s=some (s,true):=by unfold eN;rw[af (by omega),af (by omega),af (by omega),ag h]
theorem UQ (h:x.kind=114):eN g f lp x s=match aI g (iM f) s with
  | none=>none
  | some (s2,_)=>some (s2,decide (s2.e≠0)):=by unfold eN;rw[af (by omega),af (by omega),af (by omega),af (by omega),ag h];rfl
theorem UR (h:x.kind=99):eN g f lp x s=match aI g (gB x.name) s with
  | none=>none
  | some (s2,_)=>some (s2,decide (s2.e≠0)):=by unfold eN;rw[af (by omega),af (by omega),af (by omega),af (by omega),af (by omega),ag h];rfl
theorem UT (h:x.kind=123):eN g f lp x s=if 20<=s.depth then some (s.err 8,true) else
  match aI g (aT x.toks) {s with depth:=s.depth+1} with
  | none=>none
  | some (s2,_)=>some ({s2 with depth:=s2.depth-1},decide (s2.e≠0)):=by unfold eN;rw[af (by omega),af (by omega),af (by omega),af (by omega),af (by omega),af (by omega),ag h];rfl
theorem UU (h:x.kind=100):eN g f lp x s=pR g f lp x.a s:=by unfold eN pR;rw[af (by omega),af (by omega),af (by omega),af (by omega),af (by omega),af (by omega),af (by omega),ag h];rfl
theorem Hy (h1:¬x.kind=110)(h2:¬x.kind=112)(h3:¬x.kind=105)(h4:¬x.kind=120)(h5:¬x.kind=114)(h6:¬x.kind=99)(h7:¬x.kind=123)(h8:¬x.kind=100):eN g f lp x s=none:=by
 unfold eN;rw[af h1,af h2,af h3,af h4,af h5,af h6,af h7,af h8]
end
theorem zY {t:Tok}{k:Nat}(h:aN.findIdx? (· == t)=some k):aN[k]? = some t:=by
 obtain⟨h1,h2,_⟩:=List.findIdx?_eq_some_iff_getElem.1 h;rw[List.getElem?_eq_getElem h1];simp at h2;rw[h2]
theorem qH (e:Int):(e != 0)=decide (e≠0):=by by_cases h:e=0 <;> simp[h]
theorem UW (g:Nat):Ht K 110 g:=by
 intro w yb fb rs s s' f lp lv x nm va vb vt left hk hr he hf hlp hat hx
 cases g with
 | zero=>cases hx
 | succ g=>
 rw[j5 _ _ _ _ _ (by omega) (by omega) (by omega)] at hx;have eO:Kp w (w.alloc (.cells #[.int .u8 110,.int .i64 x.n,.string nm,va,vb,vt] 227)) (λ_=>False):=(Kp.refl w _).alloc _;have cZ:=hr.cI eO;have hnk:nK K w.heap.size:=λh=>Nat.lt_irrefl _ (hr.dr.old _ h);obtain⟨iO,dP⟩:=hf.iF hr (fG.cI (rs:=rs) eO);have ir:=aC.new w #[.int .u8 110,.int .i64 x.n,.string nm,va,vb,vt] 227;have hba:=hat.a.keep (aF.cI eO (nK K));have hbb:=hat.b.keep (aF.cI eO (nK K));have jC:=aM (aF.cI eO (nK K)) hat.t;have hnm:=hat.nm;have hin:=hat.n;have HX:=az hx;clear hr hf eO hat hx;rw[show qs x nm va vb vt=.agg #[.int .u8 110,.int .i64 x.n,.string nm,va,vb,vt] by unfold qs;rw[hk];rfl];have HK:=az hk;clear hk;go_enter func189,ntmps189
 go_wp2_with fail
 generalize hW0:w.alloc (.cells #[.int .u8 110,.int .i64 x.n,.string nm,va,vb,vt] 227)=w0 at cZ iO dP ir hba hbb jC ⊢;clear hW0;refine(jH _ yb rs s cZ he).mono ?_;rintro e w1 ⟨rfl,fB,hr1,cU,-⟩;obtain⟨cY,bt⟩:=iO.iF cZ cU;have bg:aF (nK K) (nK K) w0 w1:=aF.to cU cZ.jX _;have eD:=(bg _ _ _ hnk ir (.inl rfl)).1;have aY:=HX.out;have wH:=eD.cell (o:=0) rfl;have gJ:=dP.trans bt;have mJ:=St.aO s;have Oy:=az (hba.keep bg);have Oz:=az (hbb.keep bg);have LP:=az (aM bg jC);clear cZ iO cU ir hba hbb jC bg HX dP bt;by_cases fA:s.step.e=0
 ·rw[af (by simp[fA])] at aY;rw[decide_eq_true fA];generalize s.step=s1 at hr1 mJ aY fA;have cx1:=eD.cell (o:=1) rfl;rw[UL _ _ _ _ _ HK.out] at aY;injection aY with aY;injection aY with hx1 hx2;subst hx1 hx2
  go_wp2_with fail
  refine(Po _ yb fB s1 x.n hr1 fA hin.1).mono ?_;rintro e w2 ⟨rfl,mo,hr2,eF⟩;obtain⟨hf2,bM⟩:=cY.iF hr1 eF;clear hr1 cY eF eD cx1;have ce:w2.cell? ⟨yb,21,none⟩=some (.int .i64 (s1.put x.n).e):=by rw[<-hr2.e];exact hr2.blk.cell rfl
  go_wp2;go_ret;exact⟨by show Ending.returned (.bool ((s1.put x.n).e != 0))=_;rw[qH],mo,lv,hr2,hf2,gJ.trans bM⟩
 ·rw[ag fA] at aY;rw[decide_eq_false fA];injection aY with aY;injection aY with hx1 hx2;subst hx1 hx2;clear wH;go_wp2;go_ret;exact⟨rfl,fB,lv,hr1,cY,gJ⟩
theorem UX (g:Nat):Ht K 112 g:=by
 intro w yb fb rs s s' f lp lv x nm va vb vt left hk hr he hf hlp hat hx
 cases g with
 | zero=>cases hx
 | succ g=>
 rw[j5 _ _ _ _ _ (by omega) (by omega) (by omega)] at hx;have eO:Kp w (w.alloc (.cells #[.int .u8 112,.int .i64 x.n,.string nm,va,vb,vt] 227)) (λ_=>False):=(Kp.refl w _).alloc _;have cZ:=hr.cI eO;have hnk:nK K w.heap.size:=λh=>Nat.lt_irrefl _ (hr.dr.old _ h);obtain⟨iO,dP⟩:=hf.iF hr (fG.cI (rs:=rs) eO);have ir:=aC.new w #[.int .u8 112,.int .i64 x.n,.string nm,va,vb,vt] 227;have hba:=hat.a.keep (aF.cI eO (nK K));have hbb:=hat.b.keep (aF.cI eO (nK K));have jC:=aM (aF.cI eO (nK K)) hat.t;have hnm:=hat.nm;have hin:=hat.n;have HX:=az hx;clear hr hf eO hat hx;rw[show qs x nm va vb vt=.agg #[.int .u8 112,.int .i64 x.n,.string nm,va,vb,vt] by unfold qs;rw[hk];rfl];have HK:=az hk;clear hk;go_enter func189,ntmps189
 go_wp2_with fail
 generalize hW0:w.alloc (.cells #[.int .u8 112,.int .i64 x.n,.string nm,va,vb,vt] 227)=w0 at cZ iO dP ir hba hbb jC ⊢;clear hW0;refine(jH _ yb rs s cZ he).mono ?_;rintro e w1 ⟨rfl,fB,hr1,cU,-⟩;obtain⟨cY,bt⟩:=iO.iF cZ cU;have bg:aF (nK K) (nK K) w0 w1:=aF.to cU cZ.jX _;have eD:=(bg _ _ _ hnk ir (.inl rfl)).1;have aY:=HX.out;have wH:=eD.cell (o:=0) rfl;have gJ:=dP.trans bt;have mJ:=St.aO s;have Oy:=az (hba.keep bg);have Oz:=az (hbb.keep bg);have LP:=az (aM bg jC);clear cZ iO cU ir hba hbb jC bg HX dP bt;by_cases fA:s.step.e=0
 ·rw[af (by simp[fA])] at aY;rw[decide_eq_true fA];generalize s.step=s1 at hr1 mJ aY fA;have X0:=eD.cell (o:=2) rfl;rw[UM _ _ _ _ _ HK.out] at aY
  split at aY
  ·cases aY
  ·rename_i k hkk
   have hkk:=zY hkk;injection aY with aY;injection aY with hx1 hx2;subst hx1 hx2
   go_wp2_with fail
   refine(Oc _ yb fB s1 k nm (by rw[ByteArray.toList_eq,hnm];exact hkk) hr1 fA).mono ?_;rintro e w2 ⟨rfl,mo,hr2,eF⟩;obtain⟨hf2,bM⟩:=cY.iF hr1 eF;clear hr1 cY eF eD X0 hkk;have ce:w2.cell? ⟨yb,21,none⟩=some (.int .i64 (s1.word k).e):=by rw[<-hr2.e];exact hr2.blk.cell rfl
   go_wp2;go_ret;exact⟨by show Ending.returned (.bool ((s1.word k).e != 0))=_;rw[qH],mo,lv,hr2,hf2,gJ.trans bM⟩
 ·rw[ag fA] at aY;rw[decide_eq_false fA];injection aY with aY;injection aY with hx1 hx2;subst hx1 hx2;clear wH;go_wp2;go_ret;exact⟨rfl,fB,lv,hr1,cY,gJ⟩
theorem UY (g:Nat):Ht K 120 g:=by
 intro w yb fb rs s s' f lp lv x nm va vb vt left hk hr he hf hlp hat hx
 cases g with
 | zero=>cases hx
 | succ g=>
 rw[j5 _ _ _ _ _ (by omega) (by omega) (by omega)] at hx;have eO:Kp w (w.alloc (.cells #[.int .u8 120,.int .i64 x.n,.string nm,va,vb,vt] 227)) (λ_=>False):=(Kp.refl w _).alloc _;have cZ:=hr.cI eO;have hnk:nK K w.heap.size:=λh=>Nat.lt_irrefl _ (hr.dr.old _ h);obtain⟨iO,dP⟩:=hf.iF hr (fG.cI (rs:=rs) eO);have ir:=aC.new w #[.int .u8 120,.int .i64 x.n,.string nm,va,vb,vt] 227;have hba:=hat.a.keep (aF.cI eO (nK K));have hbb:=hat.b.keep (aF.cI eO (nK K));have jC:=aM (aF.cI eO (nK K)) hat.t;have hnm:=hat.nm;have hin:=hat.n;have HX:=az hx;clear hr hf eO hat hx;rw[show qs x nm va vb vt=.agg #[.int .u8 120,.int .i64 x.n,.string nm,va,vb,vt] by unfold qs;rw[hk];rfl];have HK:=az hk;clear hk;go_enter func189,ntmps189
 go_wp2_with fail
 generalize hW0:w.alloc (.cells #[.int .u8 120,.int .i64 x.n,.string nm,va,vb,vt] 227)=w0 at cZ iO dP ir hba hbb jC ⊢;clear hW0;refine(jH _ yb rs s cZ he).mono ?_;rintro e w1 ⟨rfl,fB,hr1,cU,-⟩;obtain⟨cY,bt⟩:=iO.iF cZ cU;have bg:aF (nK K) (nK K) w0 w1:=aF.to cU cZ.jX _;have eD:=(bg _ _ _ hnk ir (.inl rfl)).1;have aY:=HX.out;have wH:=eD.cell (o:=0) rfl;have gJ:=dP.trans bt;have mJ:=St.aO s;have Oy:=az (hba.keep bg);have Oz:=az (hbb.keep bg);have LP:=az (aM bg jC);clear cZ iO cU ir hba hbb jC bg HX dP bt;by_cases fA:s.step.e=0
 ·rw[af (by simp[fA])] at aY;rw[decide_eq_true fA];generalize s.step=s1 at hr1 mJ aY fA;rw[UO _ _ _ _ _ HK.out] at aY;injection aY with aY;injection aY with hx1 hx2;subst hx1 hx2;go_wp2;go_ret;exact⟨rfl,fB,lv,hr1,cY,gJ⟩
 ·rw[ag fA] at aY;rw[decide_eq_false fA];injection aY with aY;injection aY with hx1 hx2;subst hx1 hx2;clear wH;go_wp2;go_ret;exact⟨rfl,fB,lv,hr1,cY,gJ⟩
theorem UZ (g:Nat)(hC:∀g',g'<g->CC K g'):Ht K 99 g:=by
 intro w yb fb rs s s' f lp lv x nm va vb vt left hk hr he hf hlp hat hx
 cases g with
 | zero=>cases hx
 | succ g=>
 rw[j5 _ _ _ _ _ (by omega) (by omega) (by omega)] at hx;have eO:Kp w (w.alloc (.cells #[.int .u8 99,.int .i64 x.n,.string nm,va,vb,vt] 227)) (λ_=>False):=(Kp.refl w _).alloc _;have cZ:=hr.cI eO;have hnk:nK K w.heap.size:=λh=>Nat.lt_irrefl _ (hr.dr.old _ h);obtain⟨iO,dP⟩:=hf.iF hr (fG.cI (rs:=rs) eO);have ir:=aC.new w #[.int .u8 99,.int .i64 x.n,.string nm,va,vb,vt] 227;have hba:=hat.a.keep (aF.cI eO (nK K));have hbb:=hat.b.keep (aF.cI eO (nK K));have jC:=aM (aF.cI eO (nK K)) hat.t;have hnm:=hat.nm;have hin:=hat.n;have HX:=az hx;clear hr hf eO hat hx;rw[show qs x nm va vb vt=.agg #[.int .u8 99,.int .i64 x.n,.string nm,va,vb,vt] by unfold qs;rw[hk];rfl];have HK:=az hk;clear hk;go_enter func189,ntmps189
 go_wp2_with fail
 generalize hW0:w.alloc (.cells #[.int .u8 99,.int .i64 x.n,.string nm,va,vb,vt] 227)=w0 at cZ iO dP ir hba hbb jC ⊢;clear hW0;refine(jH _ yb rs s cZ he).mono ?_;rintro e w1 ⟨rfl,fB,hr1,cU,-⟩;obtain⟨cY,bt⟩:=iO.iF cZ cU;have bg:aF (nK K) (nK K) w0 w1:=aF.to cU cZ.jX _;have eD:=(bg _ _ _ hnk ir (.inl rfl)).1;have aY:=HX.out;have wH:=eD.cell (o:=0) rfl;have gJ:=dP.trans bt;have mJ:=St.aO s;have Oy:=az (hba.keep bg);have Oz:=az (hbb.keep bg);have LP:=az (aM bg jC);clear cZ iO cU ir hba hbb jC bg HX dP bt;by_cases fA:s.step.e=0
 ·rw[af (by simp[fA])] at aY;rw[decide_eq_true fA];generalize s.step=s1 at hr1 mJ aY fA;have X0:=eD.cell (o:=2) rfl;rw[UR _ _ _ _ _ HK.out] at aY
  split at aY
  ·cases aY
  ·rename_i s2 l2 hx2
   have SN:=hC g (by omega) w1 yb fB s1 s2 nm l2 hr1 fA (by rw[hnm];exact hx2);injection aY with aY;injection aY with hx1 hx2;subst hx1 hx2
   go_wp2_with fail
   refine SN.mono ?_;rintro e w2 ⟨rfl,mo,hr2,eF⟩;obtain⟨hf2,bM⟩:=cY.iF hr1 eF;clear hr1 cY eF eD X0 hx2 SN;have ce:w2.cell? ⟨yb,21,none⟩=some (.int .i64 s2.e):=by rw[<-hr2.e];exact hr2.blk.cell rfl
   go_wp2;go_ret;exact⟨by show Ending.returned (.bool (s2.e != 0))=_;rw[qH],mo,lv,hr2,hf2,gJ.trans bM⟩
 ·rw[ag fA] at aY;rw[decide_eq_false fA];injection aY with aY;injection aY with hx1 hx2;subst hx1 hx2;clear wH;go_wp2;go_ret;exact⟨rfl,fB,lv,hr1,cY,gJ⟩
end
end Go.Proofs.YteainaiebcphlaaGreatDoor
