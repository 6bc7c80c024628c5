import Derived.Test.YteainaiebcphlaaGreatDoorQ6
import Derived.Test.YteainaiebcphlaaGreatDoorQ9
import Derived.Maps.OwnSet
namespace Go.Proofs.YteainaiebcphlaaGreatDoor
set_option maxRecDepth 1000000
set_option maxHeartbeats 4000000
set_option linter.all false
open Go.Proofs.Tryz
open Go.RowKit
def fC (M:Mem)(v:Value)(ws:List ByteArray):Prop:=
 (ws=[]/\∃ao cap,v=.slice ao 0 cap)\/∃g off cap cur,v=.slice (some ⟨g,off,none⟩) ws.length cap/\M g 9 cur/\ws.length<=cap/\off+cap<=maxLen/\off+cap<=cur.size/\∀i (h:i<ws.length),cur[off+i]? = some (.string ws[i])
theorem cO {M M':Mem}(h:∀b c,M b 9 c->M' b 9 c){v:Value}{ws:List ByteArray}(hr:fC M v ws):fC M' v ws:=by
 rcases hr with hr|⟨g,off,cap,cur,h1,h2,h3⟩
 ·exact .inl hr
 ·exact .inr ⟨g,off,cap,cur,h1,h _ _ h2,h3⟩
theorem fC.form {M:Mem}{v:Value}{ws:List ByteArray}(h:fC M v ws):∃ao cap,v=.slice ao ws.length cap:=by
 rcases h with⟨rfl,ao,cap,rfl⟩|⟨g,off,cap,cur,rfl,_⟩
 ·exact⟨ao,cap,rfl⟩
 ·exact⟨_,cap,rfl⟩
def bQ (v:Value):Option (DataW Value × List MemPlace):=some (.held v,[])
structure lT (w:World)(bk mb:Nat)(aA:Tok->Bool):Prop where
 ex:∃h b,aC w bk 106 #[.map (some mb),.int .i64 h,.int .i64 b]
 look:∃n DD,w.ownsMap prog 9 bQ mb n DD/\∀t:Tok,t.length<=maxLen->∃p,DD.atKey (.string t) (.held (.pointer none))=.held (.pointer p)/\p.isSome=aA t
def gA (rv:Value)(bk:Nat)(lo:Nat):Array Value:=#[rv,.func (.func 74) #[pt bk] #[],.int .i64 lo]
def okW (t:ByteArray):Prop:=t.toList≠[]/\t.size<=1000
def tG (w:World):Prop:=∃tt fr,w.heap[1]? = some (.cells bY tt fr)
structure bW (w:World)(sb bk mb:Nat)(aA:Tok->Bool)(ws:List ByteArray)(lo:Nat):Prop where
 blk:∃rv,aC w sb 201 (gA rv bk lo)/\fC (BD (λb=>b<sb) w) rv ws
 book:lT w bk mb aA
 len:ws.length+lo<=1000
 ok:∀t∈ws,okW t
 sp:tG w
 s1:sb≠1
theorem aL {w w':World}{b n:Nat}{DD:DataW Value}(h:w.ownsMap prog 9 bQ b n DD)(e:w'.heap[b]? = w.heap[b]?):w'.ownsMap prog 9 bQ b n DD:=by
 obtain⟨es,clock,h1,h2⟩:=h;exact⟨es,clock,e.trans h1,h2⟩
theorem dh {w:World}{b n:Nat}{DD:DataW Value}(h:w.ownsMap prog 9 bQ b n DD){b':Nat}{t:TypeId}{c:Array Value}(hb:aC w b' t c):b≠b':=by
 obtain⟨es,clock,h1,_⟩:=h;rintro rfl;have:w.heap[b]? = _:=hb;rw[h1] at this;injection this with this;cases this
theorem lT.blk {w:World}{bk mb:Nat}{aA:Tok->Bool}(h:lT w bk mb aA):aC w bk 106 #[.map (some mb),.int .i64 h.ex.choose,.int .i64 h.ex.choose_spec.choose]:=h.ex.choose_spec.choose_spec
theorem lT.kp {w w':World}{bk mb:Nat}{aA:Tok->Bool}{V:Nat->Prop}(h:lT w bk mb aA)(hk:Kp w w' V)(h1:¬V bk)(h2:¬V mb):lT w' bk mb aA:=by
 obtain⟨n,DD,hm,hl⟩:=h.look;obtain⟨h0,b0,hb⟩:=h.ex;exact⟨⟨h0,b0,hk.blk hb h1⟩,n,DD,aL hm (hk.block mb hm.lt h2),hl⟩
theorem lT.one {w w':World}{bk mb b:Nat}{aA:Tok->Bool}(h:lT w bk mb aA)(hk:Kp w w' (λk=>k=b)){t:TypeId}{c:Array Value}(hb:aC w b t c)(ht:t≠106):lT w' bk mb aA:=by
 obtain⟨n,DD,hm,hl⟩:=h.look;obtain⟨h0,b0,hbb⟩:=h.ex;exact h.kp hk (by rintro rfl;exact ht (hb.inj hbb).1) (dh hm hb)
theorem tG.kp {w w':World}{V:Nat->Prop}(h:tG w)(hk:Kp w w' V)(h1:¬V 1):tG w':=by
 obtain⟨tt,fr,hx⟩:=h;have hlt:1<w.heap.size:=by
  rcases Nat.lt_or_ge 1 w.heap.size with h|h
  ·exact h
  ·rw[Array.getElem?_eq_none h] at hx;cases hx
 exact⟨tt,fr,(hk.block 1 hlt h1).trans hx⟩
theorem bW.to {w w':World}{sb bk mb:Nat}{aA:Tok->Bool}{ws eZ:List ByteArray}{lo lo':Nat}(h:bW w sb bk mb aA ws lo)(hk:Kp w w' (λk=>k=sb))(rv:Value)(hb:aC w' sb 201 (gA rv bk lo'))(ht:fC (BD (λb=>b<sb) w) rv eZ)(hl:eZ.length+lo'<=1000)(ho:∀t∈eZ,okW t):bW w' sb bk mb aA eZ lo':=by
 obtain⟨rv0,hb0,ht0⟩:=h.blk;refine⟨⟨rv,hb,cO (λb c hc=>⟨hc.1,hk.blk hc.2 (by rintro rfl;exact ax (hc.2.inj hb0).1 (by decide))⟩) ht⟩,h.book.one hk hb0 (by decide),hl,ho,h.sp.kp hk (by rintro e;exact h.s1 e.symm),h.s1⟩
theorem bW.kp {w w':World}{sb bk mb:Nat}{aA:Tok->Bool}{ws:List ByteArray}{lo:Nat}(h:bW w sb bk mb aA ws lo)(hk:Kp w w' (λ_=>False)):bW w' sb bk mb aA ws lo:=by
 obtain⟨rv,hb,ht⟩:=h.blk;exact h.to (hk.mono (λ_ _ e=>e.elim)) rv (hk.blk hb (by simp)) ht h.len h.ok
theorem N8 (w:World)(sb bk mb lo:Nat)(aA:Tok->Bool)(t:ByteArray)(ws:List ByteArray)(h:bW w sb bk mb aA (t::ws) lo):
  Calls prog 196 #[pt sb] w λe w'=>e=.returned (.string t)/\Kp w w' (λk=>k=sb)/\bW w' sb bk mb aA ws lo:=by
 obtain⟨rv,hb,ht⟩:=h.blk;have HH:=az h;rcases ht with⟨h0,_⟩|⟨g,off,cap,cur,rfl,⟨N9,hg⟩,h1,h2,h3,h4⟩
 ·cases h0
 ·have hl:=h.len;clear h;simp only[aq] at h1 hb hl;have c0:w.cell? ⟨sb,0,none⟩=some (.slice (some ⟨g,off,none⟩) (ws.length+1) cap):=hb.cell rfl;have f0:=hb.free 0;have c1:w.cell? ⟨g,off,none⟩=some (.string t):=hg.cell (by have:=h4 0 (by simp);simpa using this);have HT:Hid (∀XN,fC (BD (λb=>b<sb) w) XN ws->bW (w.setCell ⟨sb,0,none⟩ XN) sb bk mb aA ws lo):=by
   intro XN hr';exact HH.out.to (Kp.one _ _ _ _) XN (hb.set 0 _) hr' (by omega) (λt ht=>HH.out.ok t (by simp[ht]))
  have H4:Hid (∀i (h:i<ws.length),cur[off+1+i]? = some (.string ws[i])):=by
   intro i hi;have:=h4 (i+1) (by simpa using hi);rw[show off+1+i=off+(i+1) by omega];simpa using this
  clear h4;go_enter func196,ntmps196;go_wp2
  all_goals go_ret
  ·have hz:ws=[]:=List.length_eq_zero_iff.1 (by omega);exact⟨rfl,Kp.one _ _ _ _,HT.out _ (.inl ⟨hz,some ⟨g,off,none⟩,0,by rw[hz];rfl⟩)⟩
  ·exact⟨rfl,Kp.one _ _ _ _,HT.out _ (.inr ⟨g,off+1,cap-1,cur,rfl,⟨N9,hg⟩,by omega,by omega,by omega,H4.out⟩)⟩
def cB:List Tok:=[eH,eY,dF,fL,di,gj,mA]
theorem Tj (a:Int)(w:World):Calls prog 197 #[.int .i64 a] w λe w'=>e=.returned (.bool (decide (a=19\/a=23\/a=24\/a=26\/a=27\/a=28\/a=30)))/\w'=w:=by
 by_cases h:a=19\/a=23\/a=24\/a=26\/a=27\/a=28\/a=30
 ·rw[decide_eq_true h];rcases h with rfl|rfl|rfl|rfl|rfl|rfl|rfl
  all_goals
   go_enter func197,ntmps197;go_wp2;go_ret;exact⟨rfl,rfl⟩
 ·rw[decide_eq_false h];obtain⟨h1,h⟩:=not_or.1 h;obtain⟨h2,h⟩:=not_or.1 h;obtain⟨h3,h⟩:=not_or.1 h;obtain⟨h4,h⟩:=not_or.1 h;obtain⟨h5,h⟩:=not_or.1 h;obtain⟨h6,h7⟩:=not_or.1 h;go_enter func197,ntmps197;go_wp2;go_ret;exact⟨rfl,rfl⟩
theorem DW (t:ByteArray)(ht:t.size<=maxLen):keyOf prog 9 (.string t)=some (.string t.data.toList):=by
 exact WideMaps.keyOf_string_mk underlying9 ht
theorem Tk (w:World):(zeroValue 107).run prog w=.ok (.pointer none) w:=by kernel_rfl
theorem mB {w:World}{mb n:Nat}{DD:DataW Value}(h:w.ownsMap prog 9 bQ mb n DD)(t:ByteArray)(ht:t.size<=maxLen){p:Option Addr}(hp:DD.atKey (.string t.data.toList) (.held (.pointer none))=.held (.pointer p)):
  (Instr.lookup 104 (.map (some mb)) (.string t) false).run prog w=.ok (.pointer p) w:=by
 obtain⟨v,ps,hrun,hv⟩:=h.lookup (Maps.string_keyed underlying9) underlying104 (Tk w) (zd:=.held (.pointer none)) (zp:=[]) rfl (DW t ht);rw[hp] at hv;have hv:some (DataW.held v,[])=some (DataW.held (Value.pointer p),ps):=hv;have hv2:DataW.held v=DataW.held (Value.pointer p):=congrArg Prod.fst (Option.some.inj hv);have hv3:v=Value.pointer p:=DataW.held.inj hv2;rw[<-hv3];exact hrun
theorem K4 (w:World)(bk mb:Nat)(aA:Tok->Bool)(h:lT w bk mb aA)(t:ByteArray)(ht:t.size<=maxLen):
  Calls prog 74 #[pt bk,.string t] w λe w'=>e=.returned (.bool (aA t.data.toList))/\w'=w:=by
 obtain⟨n,DD,hm,hl⟩:=h.look;obtain⟨p,hp,hk⟩:=hl t.data.toList ht;have hrun:=mB hm t ht hp;obtain⟨h0,b0,hbb⟩:=h.ex;have c0:w.cell? ⟨bk,0,none⟩=some (.map (some mb)):=hbb.cell rfl;clear hbb;rw[<-hk];clear hk hp hl hm
 cases p with
 | none=>
  go_enter func74,ntmps74;go_wp2;go_ret;exact⟨rfl,rfl⟩
 | some a=>
  go_enter func74,ntmps74;go_wp2;go_ret;exact⟨rfl,rfl⟩
theorem K5:ij 74:=dm func74 (by kernel_rfl) (by kernel_rfl)
def sO (M:Mem)(e:TypeId)(z:Nat)(v:Value)(n:Nat)(xs:List Value):Prop:=
 xs.length=n*z/\((v=.slice none 0 0/\n=0)\/∃g cap cur,v=.slice (some ⟨g,0,none⟩) n cap/\M g e cur/\n<=cap/\cap<=maxLen/\cur.size=cap*z/\cur.toList.take (n*z)=xs)
theorem xj {M M':Mem}{e:TypeId}(h:∀b c,M b e c->M' b e c){z:Nat}{v:Value}{n:Nat}{xs:List Value}(hr:sO M e z v n xs):sO M' e z v n xs:=by
 obtain⟨hl,hr⟩:=hr;refine⟨hl,?_⟩;rcases hr with hr|⟨g,cap,cur,h1,h2,h3⟩
 ·exact .inl hr
 ·exact .inr ⟨g,cap,cur,h1,h _ _ h2,h3⟩
theorem sO.of {D:Nat->Prop}{w:World}{e:TypeId}{z:Nat}{v:Value}{n:Nat}{xs:List Value}(h:w.ownsRow 0 e z v n xs)(hd:∀b,own v b->D b):sO (BD D w) e z v n xs:=by
 refine⟨h.1,?_⟩;rcases h.2 with h0|⟨g,cap,cur,rfl,_,hg,h3,h4,h5,h6⟩
 ·exact .inl h0
 ·exact .inr ⟨g,cap,cur,rfl,⟨hd g (by simp[own,Value.ownBlock]),hg⟩,h3,h4,h5,h6⟩
theorem sO.row {D:Nat->Prop}{w:World}{e:TypeId}{z:Nat}{v:Value}{n:Nat}{xs:List Value}(h:sO (BD D w) e z v n xs):w.ownsRow 0 e z v n xs:=by
 obtain⟨hl,h⟩:=h;refine⟨hl,?_⟩;rcases h with h|⟨g,cap,cur,rfl,h2,h3,h4,h5,h6⟩
 ·exact .inl h
 ·exact .inr ⟨g,cap,cur,rfl,Nat.zero_le _,h2.2,h3,h4,h5,h6⟩
theorem sO.form {M:Mem}{e:TypeId}{z:Nat}{v:Value}{n:Nat}{xs:List Value}(h:sO M e z v n xs):∃ao cap,v=.slice ao n cap:=by
 rcases h.2 with⟨rfl,rfl⟩|⟨g,cap,cur,rfl,_⟩
 ·exact⟨none,0,rfl⟩
 ·exact⟨_,cap,rfl⟩
theorem lg.form {M:Mem}{e:TypeId}{v:Value}{xs:List Value}(h:lg M e v xs):∃ao cap,v=.slice ao xs.length cap:=by
 rcases h with⟨rfl,rfl⟩|⟨g,cap,cur,rfl,_⟩
 ·exact⟨none,0,rfl⟩
 ·exact⟨_,cap,rfl⟩
def dw (k:Nat):Int:=if k=110 then 0 else if k=112 then 1 else if k=99 then 2 else if k=63 then 3 else if k=117 then 4 else if k=119 then 5 else if k=100 then 6 else if k=105 then 7 else if k=114 then 8 else if k=120 then 9 else 10
structure wo (M:Mem)(P:Value->List It->Prop)(x:It)(n pl:Int)(nm:ByteArray)(tv va vb:Value):Prop where
 kd:x.kind=110\/x.kind=112\/x.kind=99\/x.kind=63\/x.kind=117\/x.kind=119\/x.kind=100\/x.kind=105\/x.kind=114\/x.kind=120\/x.kind=123
 num:x.kind=110->n=x.n/\In x.n
 Yx:x.kind=112->∃j,aN.findIdx? (· == x.name)=some j/\pl=(j:Int)+2
 name:x.kind=99->nm.data.toList=x.name/\nm.size<=1000
 toks:∃ws,lg M 9 tv (ws.map Value.string)/\(x.kind=123->aD ws=x.toks/\(∀t∈ws,okW t)/\ws.length<=1000)
 a:P va x.a
 b:P vb x.b
def iI (M:Mem)(P:Value->List It->Prop):List It->List Value->Prop
 | [],xs=>xs=[]
 | x::l,xs=>∃n pl nm tv va vb rest,xs=.int .i64 (dw x.kind)::.int .i64 n::.int .i64 pl::.string nm::tv::va::vb::rest/\wo M P x n pl nm tv va vb/\iI M P l rest
def eG (M:Mem):Nat->Value->List It->Prop
 | 0,_,_=>False
 | g+1,v,l=>∃xs,sO M 241 7 v l.length xs/\iI M (eG M g) l xs/\l.length<=1000
def cV (M:Mem)(v:Value)(l:List It):Prop:=∃g,eG M g v l
theorem wo.mono {M M':Mem}{P P':Value->List It->Prop}(h:∀b t c,M b t c->M' b t c)(hp:∀v l,P v l->P' v l){x:It}{n pl:Int}{nm:ByteArray}{tv va vb:Value}(hi:wo M P x n pl nm tv va vb):wo M' P' x n pl nm tv va vb:=by
 obtain⟨ws,h1,h2⟩:=hi.toks;exact⟨hi.kd,hi.num,hi.Yx,hi.name,⟨ws,gT h h1,h2⟩,hp _ _ hi.a,hp _ _ hi.b⟩
theorem fI {M M':Mem}{P P':Value->List It->Prop}(h:∀b t c,M b t c->M' b t c)(hp:∀v l,P v l->P' v l):∀(l:List It) (xs:List Value),iI M P l xs->iI M' P' l xs
 | [],_,h0=>h0
 | _::l,_,⟨n,pl,nm,tv,va,vb,rest,h1,h2,h3⟩=>⟨n,pl,nm,tv,va,vb,rest,h1,h2.mono h hp,fI h hp l rest h3⟩
theorem eT {M M':Mem}(h:∀b t c,M b t c->M' b t c):∀(g:Nat) (v:Value) (l:List It),eG M g v l->eG M' g v l
 | 0,_,_,h0=>h0
 | g+1,_,_,⟨xs,h1,h2,h3⟩=>⟨xs,xj (λb c=>h b _ c) h1,fI h (eT h g) _ _ h2,h3⟩
theorem pH {M:Mem}:∀(g:Nat) (v:Value) (l:List It),eG M g v l->eG M (g+1) v l
 | 0,_,_,h=>h.elim
 | g+1,_,_,⟨xs,h1,h2,h3⟩=>⟨xs,h1,fI (λ_ _ _ h=>h) (pH g) _ _ h2,h3⟩
theorem oL {M:Mem}{g g':Nat}(hg:g<=g'){v:Value}{l:List It}(h:eG M g v l):eG M g' v l:=by
 induction hg with
 | refl=>exact h
 | step _ ih=>exact pH _ _ _ ih
theorem cV.mono {M M':Mem}(h:∀b t c,M b t c->M' b t c){v:Value}{l:List It}(hi:cV M v l):cV M' v l:=by
 obtain⟨g,hg⟩:=hi;exact⟨g,eT h g v l hg⟩
theorem rD {M:Mem}:∀(l:List It) (xs:List Value),iI M (cV M) l xs->∃g,iI M (eG M g) l xs
 | [],_,h=>⟨0,h⟩
 | _::l,_,⟨n,pl,nm,tv,va,vb,rest,h1,h2,h3⟩=>by
  obtain⟨g3,h3⟩:=rD l rest h3;obtain⟨g1,ha⟩:=h2.a;obtain⟨g2,hb⟩:=h2.b;refine⟨g1+g2+g3,n,pl,nm,tv,va,vb,rest,h1,⟨h2.kd,h2.num,h2.Yx,h2.name,h2.toks,oL (by omega) ha,oL (by omega) hb⟩,fI (λ_ _ _ h=>h) (λ_ _=>oL (by omega)) _ _ h3⟩
theorem cV.of {M:Mem}{v:Value}{l:List It}{xs:List Value}(h1:sO M 241 7 v l.length xs)(h2:iI M (cV M) l xs)(h3:l.length<=1000):cV M v l:=by
 obtain⟨g,h⟩:=rD l xs h2;exact⟨g+1,xs,h1,h,h3⟩
theorem cV.out {M:Mem}{v:Value}{l:List It}(h:cV M v l):∃xs,sO M 241 7 v l.length xs/\iI M (cV M) l xs:=by
 obtain⟨g,h⟩:=h
 cases g with
 | zero=>exact h.elim
 | succ g=>
  obtain⟨xs,h1,h2,_⟩:=h;exact⟨xs,h1,fI (λ_ _ _ h=>h) (λ_ _ h=>⟨g,h⟩) _ _ h2⟩
theorem cV.nil (M:Mem):cV M (.slice none 0 0) []:=⟨1,[],⟨rfl,.inl ⟨rfl,rfl⟩⟩,rfl,by simp⟩
theorem tH {M:Mem}{P:Value->List It->Prop}:∀(l l':List It) (xs xs':List Value),iI M P l xs->iI M P l' xs'->iI M P (l++l') (xs++xs')
 | [],_,_,_,h,h'=>by have h:_=_:=h;subst h;exact h'
 | _::l,l',_,xs',⟨n,pl,nm,tv,va,vb,rest,h1,h2,h3⟩,h'=>⟨n,pl,nm,tv,va,vb,rest++xs',by rw[h1];rfl,h2,tH l l' rest xs' h3 h'⟩
def ju:Array Value:=#[.int .i64 0,.int .i64 0,.int .i64 0,.string ⟨#[]⟩,.slice none 0 0,.slice none 0 0,.slice none 0 0]
theorem Tryz.Pg:(prog.info? 241).map (λi=>(i.zero,i.size,i.bytes))=some (some (.agg ju),7,112):=by kernel_rfl
abbrev CV (k n pl:Int)(nm:ByteArray)(tv va vb:Value):Value:=.agg #[.int .i64 k,.int .i64 n,.int .i64 pl,.string nm,tv,va,vb]
def rE (w:World)(sb bk mb:Nat)(aA:Tok->Bool)(lo:Nat)(x:Ending)(w':World):fh->Prop
 | .ok (xs,_,r)=>∃x' n pl nm tv va vb eZ,xs=[x']/\x=.returned (.tuple #[CV (dw x'.kind) n pl nm tv va vb,.int .i64 0])/\wo (BD (New w) w') (cV (BD (New w) w')) x' n pl nm tv va vb/\aD eZ=r/\bW w' sb bk mb aA eZ lo
 | .error er=>er≠0/\∃k n pl nm a1 m1 p1 a2 m2 p2 a3 m3 p3 rv,x=.returned (.tuple #[CV k n pl nm (.slice a1 m1 p1) (.slice a2 m2 p2) (.slice a3 m3 p3),.int .i64 er])/\aC w' sb 201 (gA rv bk lo)
def QBo (w:World)(sb bk mb:Nat)(aA:Tok->Bool)(lo:Nat)(x:Ending)(w':World):fh->Prop
 | .ok (xs,t',r)=>∃v eZ,x=.returned (.tuple #[v,.int .i64 (cL t'),.int .i64 0])/\cV (BD (New w) w') v xs/\aD eZ=r/\bW w' sb bk mb aA eZ lo
 | .error er=>er≠0/\∃rv,x=.returned (.tuple #[.slice none 0 0,.int .i64 0,.int .i64 er])/\aC w' sb 201 (gA rv bk lo)
def Gm (g:Nat):Prop:=∀(w:World) (sb bk mb:Nat) (aA:Tok->Bool) (ws:List ByteArray) (lo:Nat) (tb:ByteArray) (K:Int) (res:fh),
 aK aA g ⟨true,lo,[],tb.data.toList⟩ (aD ws)=some res->bW w sb bk mb aA ws lo->okW tb->ws.length+lo+1<=1000->(K=if (bA tb.toList).isSome then 1 else(cL tb.toList:Int))->cB.any (· == tb.data.toList)=false ->
 Calls prog 198 #[pt sb,.string tb,.int .i64 K] w λx w'=>Kp w w' (λb=>b=sb)/\rE w sb bk mb aA lo x w' res
def tI (g:Nat):Prop:=∀(w:World) (sb bk mb:Nat) (aA:Tok->Bool) (ws:List ByteArray) (lo:Nat) (res:fh),
 aK aA g ⟨false,lo,cB,[]⟩ (aD ws)=some res->bW w sb bk mb aA ws lo ->
 Calls prog 182 #[pt sb] w λx w'=>Kp w w' (λb=>b=sb)/\QBo w sb bk mb aA lo x w' res
def ye (w:World)(sb:Nat):Nat:=match w.cell? ⟨sb,0,none⟩ with
 | some (.slice _ n _)=>n
 | _=>0
theorem bW.rest {w:World}{sb bk mb:Nat}{aA:Tok->Bool}{ws:List ByteArray}{lo:Nat}(h:bW w sb bk mb aA ws lo):ye w sb=ws.length:=by
 obtain⟨rv,hb,ht⟩:=h.blk;obtain⟨ao,cap,rfl⟩:=ht.form;have:w.cell? ⟨sb,0,none⟩=some (.slice ao ws.length cap):=hb.cell rfl;unfold ye;rw[this]
theorem kK {l:List UInt8}{i:Nat}(h:cL l=i)(hi:i≠0):cG[i]? = some l:=by
 unfold cL at h
 cases hf:cG.findIdx? (· == l) with
 | none=>rw[hf] at h;exact ax h.symm hi
 | some k=>
  rw[hf] at h;have h:k=i:=h;subst h;obtain⟨hlt,hk,_⟩:=List.findIdx?_eq_some_iff_getElem.1 hf;rw[List.getElem?_eq_getElem hlt,beq_iff_eq.1 hk]
def fF (l:List UInt8):Int:=if (bA l).isSome then 1 else(cL l:Int)
theorem j3 {l:List UInt8}{i:Nat}(h:fF l=(i:Int))(hi:2<=i):cG[i]? = some l:=by
 unfold fF at h
 split at h
 ·exfalso;omega
 ·exact kK (by omega) (by omega)
theorem DX (l:List UInt8):cB.any (· == l)=decide (fF l=19\/fF l=23\/fF l=24\/fF l=26\/fF l=27\/fF l=28\/fF l=30):=by
 cases h:cB.any (· == l)
 ·symm
  apply decide_eq_false
  rintro (h1|h1|h1|h1|h1|h1|h1)
  ·have:=j3 (i:=19) h1 (by decide);rw[show cG[19]? = some eH by decide] at this;injection this with this;subst this;revert h;decide
  ·have:=j3 (i:=23) h1 (by decide);rw[show cG[23]? = some eY by decide] at this;injection this with this;subst this;revert h;decide
  ·have:=j3 (i:=24) h1 (by decide);rw[show cG[24]? = some dF by decide] at this;injection this with this;subst this;revert h;decide
  ·have:=j3 (i:=26) h1 (by decide);rw[show cG[26]? = some fL by decide] at this;injection this with this;subst this;revert h;decide
  ·have:=j3 (i:=27) h1 (by decide);rw[show cG[27]? = some di by decide] at this;injection this with this;subst this;revert h;decide
  ·have:=j3 (i:=28) h1 (by decide);rw[show cG[28]? = some gj by decide] at this;injection this with this;subst this;revert h;decide
  ·have:=j3 (i:=30) h1 (by decide);rw[show cG[30]? = some mA by decide] at this;injection this with this;subst this;revert h;decide
 ·symm
  apply decide_eq_true
  obtain⟨x,hx,he⟩:=List.any_eq_true.1 h;have he:=beq_iff_eq.1 he;subst he;simp only[cB,List.mem_cons,List.mem_nil_iff,or_false] at hx;rcases hx with rfl|rfl|rfl|rfl|rfl|rfl|rfl <;> decide
theorem DY {l:List UInt8}(h:cB.any (· == l)=true):fF l=(cL l:Int):=by
 obtain⟨x,hx,he⟩:=List.any_eq_true.1 h;have he:=beq_iff_eq.1 he;subst he;simp only[cB,List.mem_cons,List.mem_nil_iff,or_false] at hx;rcases hx with rfl|rfl|rfl|rfl|rfl|rfl|rfl <;> decide
theorem zn (s:ByteArray)(w:World)(hs:okW s)(hg:tG w):Calls prog 67 #[.string s] w λe w'=>e=.returned (.int .i64 (fF s.data.toList))/\w'=w:=by
 obtain⟨tt,fr,h⟩:=hg;exact Tm s w tt fr hs.2 h _ (by rw[ByteArray.toList_eq];rfl)
theorem gw {fn:Func}{t u v:Tmp}(h:fn.results=#[.tmp t,.tmp u,.tmp v])(tmps:Array Value)(P:Program)(w:World):
  (results fn tmps).run P w=.ok (.tuple #[tmps.getD t undef,tmps.getD u undef,tmps.getD v undef]) w:=by
 simp[results,h]
theorem rF:∀(r:List Tok) (ts r':List Tok),bh r=.ok (ts,r')->r'.length<=r.length
 | [],_,_,h=>by cases h
 | t::r,ts,r',h=>by
  unfold bh at h
  split at h
  ·cases h
  ·split at h
   ·injection h with h;injection h with h1 h2;subst h2;simp
   ·split at h
    ·cases h
    ·rename_i ts2 r2 h2
     injection h with h;injection h with h1 h3;subst h3;have:=rF r ts2 r2 h2;simp;omega
theorem xk (aA:Tok->Bool):∀(g:Nat) (j:PJ) (r:List Tok) (xs:List It) (t:Tok) (r':List Tok),aK aA g j r=some (.ok (xs,t,r'))->r'.length<=r.length
 | 0,_,_,_,_,_,h=>by cases h
 | g+1,j,r,xs,t,r',h=>by
  have ih:=xk aA g;rw[aK.eq_def] at h;dsimp only at h
  repeat' split at h
  all_goals first
   | (cases h;done)
   | (injection h with h;injection h with h;injection h with h1 h2;injection h2 with h2 h3;subst h3;first
     | (simp;done)
     | exact ih _ _ _ _ _ (by assumption)
     | exact rF _ _ _ (by assumption)
     | exact ai (ih _ _ _ _ _ (by assumption)) (ih _ _ _ _ _ (by assumption))
     | exact ai (ih _ _ _ _ _ (by assumption)) (ai (ih _ _ _ _ _ (by assumption)) (Nat.le_succ _)))
theorem tG.lt {w:World}(h:tG w):1<w.heap.size:=by
 obtain⟨tt,fr,hx⟩:=h;rcases Nat.lt_or_ge 1 w.heap.size with h|h
 ·exact h
 ·rw[Array.getElem?_eq_none h] at hx;cases hx
theorem bU {w w':World}{D D' V:Nat->Prop}(hk:Kp w w' V)(hd:∀b,b<w.heap.size->D b->D' b/\¬V b):∀b t c,BD D w b t c->BD D' w' b t c:=
 λb _ _ h=>⟨(hd b h.2.lt h.1).1,hk.blk h.2 (hd b h.2.lt h.1).2⟩
theorem mC {w:World}{D D':Nat->Prop}(hd:∀b,b<w.heap.size->D b->D' b):∀b t c,BD D w b t c->BD D' w b t c:=
 λb _ _ h=>⟨hd b h.2.lt h.1,h.2⟩
def BQ (w:World)(sb bk mb:Nat)(aA:Tok->Bool)(lo:Nat)(G:Nat)(res:fh)(v:Value)(wr:World):Prop:=
 ∃eZ dn xs G' res',Kp w wr (λb=>b=sb)/\bW wr sb bk mb aA eZ lo/\wr.ownsRow 0 241 7 v dn.length xs/\(∀b,own v b->New w b)/\dn.length+eZ.length<=1000 /\
  iI (BD (λb=>New w b/\¬own v b) wr) (cV (BD (λb=>New w b/\¬own v b) wr)) dn xs/\G'<=G/\aK aA G' ⟨false,lo,cB,[]⟩ (aD eZ)=some res'/\res=fN dn res'
theorem Tn (G:Nat)(IH:∀g,g<G->Gm g):tI G:=by
 intro w sb bk mb aA ws lo res aG h;obtain⟨i0,hi,hz0,hz1,hz2⟩:=info_parts Tryz.Pg;have HI:=az IH;clear IH;obtain⟨rv9,Oa,-⟩:=h.blk;have hsb:=Oa.lt;have Bf:=h.sp.lt;clear Oa;have H0:BQ w sb bk mb aA lo G res (.slice none 0 0) w:=
  ⟨ws,[],[],G,res,Kp.refl _ _,h,World.ownsRow_nil _ _ _ _,λb hb=>by simp[own,Value.ownBlock] at hb,by have:=h.len;simp;omega,rfl,ah _,aG,(nj _).symm⟩
 have HH:=az H0;clear H0 aG h;go_enter func182,ntmps182;go_wp2
 go_loopw [5] (λv wr=>BQ w sb bk mb aA lo G res v wr) (λ_ wr=>ye wr sb)
 case atStart=>exact HH.out
 case round=>
  obtain⟨eZ,dn,xs,G',res',hkp,hS,aJ,hnew,hdl,hits,hG,hp,tJ⟩:=hrel;have oh:=hS.rest;obtain⟨rv,hB,hT⟩:=hS.blk;obtain⟨Kz,jd,rfl⟩:=hT.form;have c0:wr.cell? ⟨sb,0,none⟩=some (.slice Kz eZ.length jd):=hB.cell rfl;obtain⟨ao,cap,rfl⟩:=aB aJ
  cases G' with
  | zero=>rw[XO] at hp;cases hp
  | succ g=>
  cases eZ with
  | nil=>
   rw[show aD []=[] from rfl,tK] at hp;injection hp with hp;subst hp;have HR:Hid (res=.error 4):=tJ;have HB:=az hB;clear tJ hits;go_wp2;refine bodyPost_ret (gw rfl _ _ _) rfl ?_;rw[HR.out];exact⟨hkp,by decide,_,rfl,HB.out⟩
  | cons t wr'=>
   simp only[aq] at c0 hdl;rw[show aD (t::wr')=t.data.toList::aD wr' from rfl] at hp;have hok:=hS.ok t (by simp);have hlen:=hS.len;simp only[aq] at hlen oh;have HP:=az hp;have HC:=az tJ;have HT:=az hits;have HS:=az hS;clear hp tJ hits hT hS hB
   go_wp2_with fail
   refine(N8 _ sb bk mb lo aA t wr' HS.out).mono ?_;rintro e w1 ⟨rfl,hk1,hS1⟩;have hsp:=hS1.sp
   go_wp2_with fail
   refine(zn _ _ hok hsp).mono ?_;rintro e w' ⟨rfl,hw⟩;rw[hw];clear hw
   go_wp2_with fail
   refine(Tj _ _).mono ?_;rintro e w' ⟨rfl,hw⟩;rw[hw];clear hw;rw[<-DX];obtain⟨rv0,Tp,-⟩:=HS.out.blk;obtain⟨KA,cX,-⟩:=hS1.blk;have aZ:=hk1.row aJ (λb hb e=>by subst e;exact aH aJ Tp (by decide) hb);have bg:=hkp.trans hk1;have hsz1:=bg.size;have Bk:=bU (D:=λb=>New w b/\¬own (.slice ao dn.length cap) b) (D':=λb=>New w b/\¬own (.slice ao dn.length cap) b) hk1 (λb _ hb=>⟨hb,λe=>by have:w.heap.size<=b:=hb.1;omega⟩);have rG:=fI Bk (λ_ _ h=>h.mono Bk) _ _ HT.out;clear Bk
   cases zo:cB.any (· == t.data.toList)
   ·have Gn:=CW _ _ _ _ _ _ zo _ HP.out;clear HT HP Tp aJ hk1 hkp hsp c0 HS;rcases Gn with⟨e,hit,hre⟩|⟨Ph,t1,r2,gm,hit,hp2,hre⟩
    ·have pI:Hid (res=.error e):=by have:=HC.out;rw[hre] at this;exact this
     clear hre HC rG
     go_wp2_with fail
     refine(HI.out g (by omega) _ _ _ _ _ _ _ _ _ _ hit hS1 hok (by omega) (by rw[ByteArray.toList_eq];rfl) zo).mono ?_;clear hit;rintro x w2 ⟨hk2,her,k7,n7,fO,XP,a1,m1,p1,a2,m2,p2,a3,m3,p3,rH,rfl,aX⟩;have adq:(e != 0)=true:=by simpa using her
     have dR:=bg.trans hk2;clear hk2 aZ hS1 bg;go_wp2;refine bodyPost_ret (gw rfl _ _ _) rfl ?_;rw[pI.out];exact⟨dR.alloc _,her,_,rfl,aX.alloc _⟩
    ·have Tq:=hit;have pI:Hid (res=fN (dn++Ph) gm):=by have:=HC.out;rw[hre,nt] at this;exact this
     have Gp:=az hp2;clear hre HC hp2
     go_wp2_with fail
     refine(HI.out g (by omega) _ _ _ _ _ _ _ _ _ _ hit hS1 hok (by omega) (by rw[ByteArray.toList_eq];rfl) zo).mono ?_;clear hit;rintro x w2 ⟨hk2,x',n7,fO,nm,tv,va,vb,kF,rfl,rfl,hat,htx,fM⟩;have vX:kF.length<=wr'.length:=by have:=xk _ _ _ _ _ _ _ Tq;rw[<-htx] at this;simpa [aD] using this
     clear Tq;obtain⟨gF,js,-⟩:=hat.toks;obtain⟨K6,hr3,-⟩:=hat.a.out;obtain⟨SH,hr4,-⟩:=hat.b.out;obtain⟨a3,p3,rfl⟩:=hr3.form;obtain⟨a4,p4,rfl⟩:=hr4.form;obtain⟨a5,p5,rI⟩:=js.form;rw[List.length_map] at rI;subst rI;have hrow2:=hk2.row aZ (λb hb e=>by subst e;exact aH aZ cX (by decide) hb);have dR:=bg.trans hk2;have hsz2:=dR.size;have Tt:=hk2.size;have Pj:=az rG;have DZ:=az hat;have hb1:∀b,own (.slice ao dn.length cap) b->b<w1.heap.size:=λb hb=>bw aZ hb;clear aZ bg hr3 hr4 js rG hat
     go_wp2_with (first
      | (at_builtin;refine aP _ rfl _ _ 108 rfl 241 i0 (.agg ju) 7 112 underlying108 hi hz0 hz1 hz2 rfl (by decide) _ _ _ rfl ((hrow2.alloc _).alloc _) ⟨w2.heap.size+1,0,none⟩ 1 1 [.int .i64 (dw x'.kind),.int .i64 n7,.int .i64 fO,.string nm,.slice a5 gF.length p5,.slice a3 x'.a.length p3,.slice a4 x'.b.length p4] rfl rfl ?d1 ?d2 ?d3 ?d4 ?_)
      | go_in)
     case d1=>exact qy _ _ _ _
     case d2=>intro u hu;simp at hu;rcases hu with rfl|rfl|rfl|rfl|rfl|rfl|rfl <;> rfl
     case d3=>unfold maxLen;omega
     case d4=>omega
     intro v' w3 hown' hgrow hnx;have aX:∃rH,aC w2 sb 201 (gA rH bk lo)/\fC (BD (λb=>b<sb) w2) rH kF:=fM.blk;obtain⟨rH,aX,zq⟩:=aX;have je:=jD hgrow aX (aH hrow2 aX (by decide));have dO:Kp w w3 (λb=>b=sb):=((dR.alloc _).alloc _).grown hgrow (λb hb e=>by have:=hnew b e;omega);have hkg:Kp w2 w3 (λb=>own (.slice ao dn.length cap) b):=(((Kp.refl w2 (λb=>own (.slice ao dn.length cap) b)).alloc _).alloc _).grown hgrow (λb _ e=>e);have sL:∀b,b<w2.heap.size->¬own (.slice ao dn.length cap) b->¬own v' b:=λb hb hn hv=>by
      rcases hnx b hv with h1|h1
      ·exact hn h1
      ·omega
     have rJ:∀b,own v' b->New w b:=λb hb=>by
      rcases hnx b hb with h1|h1
      ·exact hnew b h1
      ·show w.heap.size<=b;omega
     have hka:=bU (D:=λb=>New w b/\¬own (.slice ao dn.length cap) b) (D':=λb=>New w b/\¬own (.slice ao dn.length cap) b) hk2 (λb _ hb=>⟨hb,λe=>by have:w.heap.size<=b:=hb.1;omega⟩);have hkb:=bU (D:=λb=>New w b/\¬own (.slice ao dn.length cap) b) (D':=λb=>New w b/\¬own v' b) hkg (λb hb h=>⟨⟨h.1,sL b hb h.2⟩,h.2⟩);have hkc:=bU (D:=New w1) (D':=λb=>New w b/\¬own v' b) hkg (λb hb h=>by
      have h:w1.heap.size<=b:=h;have hn:¬own (.slice ao dn.length cap) b:=λe=>by have:=hb1 b e;omega
      exact⟨⟨by show w.heap.size<=b;omega,sL b hb hn⟩,hn⟩)
     have iw:bW w3 sb bk mb aA kF lo:=by
      have hg1:=hkg;obtain⟨nn,DD,hm,hl⟩:=fM.book.look;have hnb:∀b t c,aC w2 b t c->t≠241->¬own (.slice ao dn.length cap) b:=λb t c hb ht e=>aH hrow2 hb (λe=>ht e.symm) e;have h1n:¬own (.slice ao dn.length cap) 1:=by
       intro e;have:w.heap.size<=1:=hnew 1 e;omega
      exact⟨⟨rH,je,cO (λb c hc=>⟨hc.1,hkg.blk hc.2 (hnb b 9 c hc.2 (by decide))⟩) zq⟩,fM.book.kp hkg (hnb bk _ _ fM.book.blk (by decide)) (λe=>by obtain⟨c,hc⟩:=aV hrow2 e;exact dh hm hc rfl),fM.len,fM.ok,fM.sp.kp hkg h1n,fM.s1⟩
     have hat:=DZ.out;have HN:BQ w sb bk mb aA lo G res v' w3:=by
      refine⟨kF,dn++[x'],xs++[.int .i64 (dw x'.kind),.int .i64 n7,.int .i64 fO,.string nm,.slice a5 gF.length p5,.slice a3 x'.a.length p3,.slice a4 x'.b.length p4],g,gm,dO,iw,by simpa using hown',rJ,by simp;omega,?_,by omega,by rw[htx];exact Gp.out,pI.out⟩;refine tH _ _ _ _ (fI (λb t c h=>hkb b t c (hka b t c h)) (λ_ _ h=>h.mono (λb t c h=>hkb b t c (hka b t c h))) _ _ Pj.out) ?_;exact⟨_,_,_,_,_,_,[],rfl,hat.mono hkc (λ_ _ h=>h.mono hkc),rfl⟩
     have hm2:=iw.rest;clear hown' hgrow hnx hrow2 dR fM je dO hka hkb hkc sL rJ hb1 hk2 cX aX zq hkg hat iw;go_wp2
     go_roundw
     case rel=>exact HN
     case measure=>rw[oh,hm2];omega
   ·have hp:=HP.out;rw[ny _ _ _ _ _ _ zo] at hp;injection hp with hp;subst hp;have pI:Hid (res=.ok (dn,t.data.toList,aD wr')):=by unfold Hid;rw[HC.out];simp[fN]
    have kG:=DY zo;rw[kG];clear HT HP Tp aJ hk1 hkp hsp c0 HS HC kG;go_wp2;refine bodyPost_ret (gw rfl _ _ _) rfl ?_;rw[pI.out];have hsub:=mC (w:=w1) (D:=λb=>New w b/\¬own (.slice ao dn.length cap) b) (D':=New w) (λb _ h=>h.1);exact⟨bg,_,wr',rfl,cV.of (sO.of aZ hnew) (fI hsub (λ_ _ h=>h.mono hsub) _ _ rG) (by omega),rfl,hS1⟩
theorem tL {l:List UInt8}(hl:l≠[])(h:cL l=0):∀x∈cG,(x==l)=false:=by
 unfold cL at h
 cases hf:cG.findIdx? (· == l) with
 | none=>exact List.findIdx?_eq_none_iff.1 hf
 | some k=>
  rw[hf] at h;have h:k=0:=h;subst h;obtain⟨hlt,hk,_⟩:=List.findIdx?_eq_some_iff_getElem.1 hf;exact ax (beq_iff_eq.1 hk).symm hl
theorem rK {l:List UInt8}{j:Nat}(hl:l≠[])(h:aN.findIdx? (· == l)=some j):cL l=j+2/\j<16:=by
 have h2:([[],[]]:List (List UInt8)).findIdx? (· == l)=none:=by
  rw[List.findIdx?_eq_none_iff];intro x hx;simp at hx;subst hx;rw[beq_eq_false_iff_ne];exact λe=>hl e.symm
 constructor
 ·unfold cL cG;rw[List.findIdx?_append,h2,List.findIdx?_append,h];rfl
 ·obtain⟨hlt,_⟩:=List.findIdx?_eq_some_iff_getElem.1 h;exact hlt
theorem Gq {l:List UInt8}(hl:l≠[])(he:cB.any (· == l)=false):
  (∃n,bA l=some n/\fF l=1)\/(bA l=none/\∃j,aN.findIdx? (· == l)=some j/\fF l=(j:Int)+2/\j<16)\/(bA l=none/\fF l=0/\∀x∈cG,(x==l)=false) \/
  l=dK\/l=fu\/l=dS\/l=FW\/l=jf\/l=Gr\/l=kI\/l=iW\/l=rL:=by
 cases hn:bA l with
 | some n=>exact .inl ⟨n,rfl,by unfold fF;rw[hn];rfl⟩
 | none=>
  right
  cases hp:aN.findIdx? (· == l) with
  | some j=>
   obtain⟨h1,h2⟩:=rK hl hp;exact .inl ⟨rfl,j,rfl,by unfold fF;rw[hn,h1];simp,h2⟩
  | none=>
   right
   by_cases h0:cL l=0
   ·exact .inl ⟨rfl,by unfold fF;rw[hn,h0];rfl,tL hl h0⟩
   ·right
    have hs:=kK rfl h0;have hlt:cL l<34:=by
     rcases Nat.lt_or_ge (cL l) 34 with h|h
     ·exact h
     ·rw[List.getElem?_eq_none (by exact h)] at hs;cases hs
    generalize cL l=i at hs h0 hlt;have:i=1\/i=2\/i=3\/i=4\/i=5\/i=6\/i=7\/i=8\/i=9\/i=10\/i=11\/i=12\/i=13\/i=14\/i=15\/i=16\/i=17\/i=18\/i=19\/i=20\/i=21\/i=22\/i=23\/i=24\/i=25\/i=26\/i=27\/i=28\/i=29\/i=30\/i=31\/i=32\/i=33:=by omega
    rcases this with rfl|rfl|rfl|rfl|rfl|rfl|rfl|rfl|rfl|rfl|rfl|rfl|rfl|rfl|rfl|rfl|rfl|rfl|rfl|rfl|rfl|rfl|rfl|rfl|rfl|rfl|rfl|rfl|rfl|rfl|rfl|rfl|rfl
    all_goals
     injection hs with hs;subst hs
     first
      | (exact ax rfl hl)
      | (exact ax he (by decide))
      | (exact .inl rfl)
      | (exact .inr (.inl rfl))
      | (exact .inr (.inr (.inl rfl)))
      | (exact .inr (.inr (.inr (.inl rfl))))
      | (exact .inr (.inr (.inr (.inr (.inl rfl)))))
      | (exact .inr (.inr (.inr (.inr (.inr (.inl rfl))))))
      | (exact .inr (.inr (.inr (.inr (.inr (.inr (.inl rfl)))))))
      | (exact .inr (.inr (.inr (.inr (.inr (.inr (.inr (.inl rfl))))))))
      | (exact .inr (.inr (.inr (.inr (.inr (.inr (.inr (.inr rfl))))))))
      | (exact ax hp (by decide))
theorem kL {w w':World}(k:Nat)(n n' pl:Int)(nm:ByteArray)(name:Tok)(hk:k=110\/k=112\/k=99\/k=105\/k=114\/k=120)(h0:k=110->n'=n/\In n)(h1:k=112->∃j,aN.findIdx? (· == name)=some j/\pl=(j:Int)+2)(h2:k=99->nm.data.toList=name/\nm.size<=1000):
  wo (BD (New w) w') (cV (BD (New w) w')) ⟨k,n,name,[],[],[]⟩ n' pl nm (.slice none 0 0) (.slice none 0 0) (.slice none 0 0):=by
 refine⟨?_,h0,h1,h2,⟨[],.inl ⟨rfl,rfl⟩,λh=>?_⟩,cV.nil _,cV.nil _⟩
 ·rcases hk with h|h|h|h|h|h <;> simp[h]
 ·have h:k=123:=h
  exfalso
  clear h0 h1 h2;omega
theorem aC.seven {w:World}{b:Nat}{t:TypeId}{a0 a1 a2 a3 a4 a5 a6:Value}(h:aC w b t #[a0,a1,a2,a3,a4,a5,a6]):
  w.cell? ⟨b,0,none⟩=some a0/\w.cell? ⟨b,1,none⟩=some a1/\w.cell? ⟨b,2,none⟩=some a2/\w.cell? ⟨b,3,none⟩=some a3/\w.cell? ⟨b,4,none⟩=some a4/\w.cell? ⟨b,5,none⟩=some a5/\w.cell? ⟨b,6,none⟩=some a6:=
 ⟨h.cell rfl,h.cell rfl,h.cell rfl,h.cell rfl,h.cell rfl,h.cell rfl,h.cell rfl⟩
theorem aC.fk {w:World}{b:Nat}{t:TypeId}{c:Array Value}(h:aC w b t c):
  w.frozen? ⟨b,0,none⟩=false/\w.frozen? ⟨b,1,none⟩=false/\w.frozen? ⟨b,2,none⟩=false/\w.frozen? ⟨b,3,none⟩=false/\w.frozen? ⟨b,4,none⟩=false/\w.frozen? ⟨b,5,none⟩=false/\w.frozen? ⟨b,6,none⟩=false:=
 ⟨h.free 0,h.free 1,h.free 2,h.free 3,h.free 4,h.free 5,h.free 6⟩
theorem aC.dL {w:World}{b:Nat}{t:TypeId}{a0 a1 a2 a3 a4 a5 a6:Value}(h:aC w b t #[a0,a1,a2,a3,a4,a5,a6])(v0 v1 v2 v3 v4 v5 v6:Value):
  aC (((((((w.setCell ⟨b,0,none⟩ v0).setCell ⟨b,1,none⟩ v1).setCell ⟨b,2,none⟩ v2).setCell ⟨b,3,none⟩ v3).setCell ⟨b,4,none⟩ v4).setCell ⟨b,5,none⟩ v5).setCell ⟨b,6,none⟩ v6) b t #[v0,v1,v2,v3,v4,v5,v6]:=by
 have h1:aC (w.setCell ⟨b,0,none⟩ v0) b t #[v0,a1,a2,a3,a4,a5,a6]:=h.set 0 v0;have h2:aC ((w.setCell ⟨b,0,none⟩ v0).setCell ⟨b,1,none⟩ v1) b t #[v0,v1,a2,a3,a4,a5,a6]:=h1.set 1 v1;have h3:aC (((w.setCell ⟨b,0,none⟩ v0).setCell ⟨b,1,none⟩ v1).setCell ⟨b,2,none⟩ v2) b t #[v0,v1,v2,a3,a4,a5,a6]:=h2.set 2 v2;have h4:aC ((((w.setCell ⟨b,0,none⟩ v0).setCell ⟨b,1,none⟩ v1).setCell ⟨b,2,none⟩ v2).setCell ⟨b,3,none⟩ v3) b t #[v0,v1,v2,v3,a4,a5,a6]:=h3.set 3 v3;have h5:aC (((((w.setCell ⟨b,0,none⟩ v0).setCell ⟨b,1,none⟩ v1).setCell ⟨b,2,none⟩ v2).setCell ⟨b,3,none⟩ v3).setCell ⟨b,4,none⟩ v4) b t #[v0,v1,v2,v3,v4,a5,a6]:=h4.set 4 v4;have h6:aC ((((((w.setCell ⟨b,0,none⟩ v0).setCell ⟨b,1,none⟩ v1).setCell ⟨b,2,none⟩ v2).setCell ⟨b,3,none⟩ v3).setCell ⟨b,4,none⟩ v4).setCell ⟨b,5,none⟩ v5) b t #[v0,v1,v2,v3,v4,v5,a6]:=h5.set 5 v5;have h7:aC (((((((w.setCell ⟨b,0,none⟩ v0).setCell ⟨b,1,none⟩ v1).setCell ⟨b,2,none⟩ v2).setCell ⟨b,3,none⟩ v3).setCell ⟨b,4,none⟩ v4).setCell ⟨b,5,none⟩ v5).setCell ⟨b,6,none⟩ v6) b t #[v0,v1,v2,v3,v4,v5,v6]:=h6.set 6 v6;exact h7
theorem Kp.dL {w w1:World}{S:Nat->Prop}{b:Nat}(h:Kp w w1 S)(hb:w.heap.size<=b)(v0 v1 v2 v3 v4 v5 v6:Value):
  Kp w (((((((w1.setCell ⟨b,0,none⟩ v0).setCell ⟨b,1,none⟩ v1).setCell ⟨b,2,none⟩ v2).setCell ⟨b,3,none⟩ v3).setCell ⟨b,4,none⟩ v4).setCell ⟨b,5,none⟩ v5).setCell ⟨b,6,none⟩ v6) S:=by
 have hn:∀o,(⟨b,o,none⟩:Addr).block<w.heap.size->S (⟨b,o,none⟩:Addr).block:=λo hlt=>ax hlt (by show ¬b<_;omega);exact((((((h.set (hn 0) v0).set (hn 1) v1).set (hn 2) v2).set (hn 3) v3).set (hn 4) v4).set (hn 5) v5).set (hn 6) v6
theorem aC.dM {w:World}{b b':Nat}{t:TypeId}{c:Array Value}(h:aC w b t c)(hb:b≠b')(v0 v1 v2 v3 v4 v5 v6:Value):
  aC (((((((w.setCell ⟨b',0,none⟩ v0).setCell ⟨b',1,none⟩ v1).setCell ⟨b',2,none⟩ v2).setCell ⟨b',3,none⟩ v3).setCell ⟨b',4,none⟩ v4).setCell ⟨b',5,none⟩ v5).setCell ⟨b',6,none⟩ v6) b t c:=
 ((((((h.setOther (a:=⟨b',0,none⟩) hb v0).setOther (a:=⟨b',1,none⟩) hb v1).setOther (a:=⟨b',2,none⟩) hb v2).setOther (a:=⟨b',3,none⟩) hb v3).setOther (a:=⟨b',4,none⟩) hb v4).setOther (a:=⟨b',5,none⟩) hb v5).setOther (a:=⟨b',6,none⟩) hb v6
theorem K7 (w:World)(sb bk mb:Nat)(aA:Tok->Bool)(ws:List ByteArray)(lo:Nat)(tb:ByteArray)(n:Int)(hn:bA tb.toList=some n)(h:bW w sb bk mb aA ws lo)(ho:okW tb):
  Calls prog 198 #[pt sb,.string tb,.int .i64 1] w λx w'=>Kp w w' (λb=>b=sb)/\rE w sb bk mb aA lo x w' (.ok ([⟨110,n,[],[],[],[]⟩],[],aD ws)):=by
 have HV:Hid (∀w,Calls prog 70 #[.string tb] w λe w'=>e=.returned (.int .i64 n)/\Kp w w' (λ_=>False)):=λw=>Gs tb n w hn ho.2;obtain⟨rv,hB,hT⟩:=h.blk;have hsb:=hB.lt;have hcs:sb≠w.heap.size:=by omega
 have HN:=az hn;clear hn;go_enter func198,ntmps198
 go_wp2_with fail
 refine(HV.out _).mono ?_;rintro e w1 ⟨rfl,hk1⟩;have hZ:=hk1.blk (aC.new w ju 241) (by simp);have hkp:Kp w w1 (λb=>b=sb):=((Kp.refl _ _).alloc _).trans (hk1.mono (λ_ _ h=>h.elim));have cX:=hk1.blk (hB.alloc _) (by simp);obtain⟨y0,y1,y2,y3,y4,y5,y6⟩:=hZ.seven;obtain⟨z0,z1,z2,z3,z4,z5,z6⟩:=hZ.fk;go_wp2;have bS:=hZ.dL (.int .i64 0) (.int .i64 n) (.int .i64 0) (.string ⟨#[]⟩) (.slice none 0 0) (.slice none 0 0) (.slice none 0 0);have hK2:=hkp.dL (ah _) (.int .i64 0) (.int .i64 n) (.int .i64 0) (.string ⟨#[]⟩) (.slice none 0 0) (.slice none 0 0) (.slice none 0 0);have aX:=cX.dM hcs (.int .i64 0) (.int .i64 n) (.int .i64 0) (.string ⟨#[]⟩) (.slice none 0 0) (.slice none 0 0) (.slice none 0 0);generalize (((((((w1.setCell ⟨w.heap.size,0,none⟩ (.int .i64 0)).setCell ⟨w.heap.size,1,none⟩ (.int .i64 n)).setCell ⟨w.heap.size,2,none⟩ (.int .i64 0)).setCell ⟨w.heap.size,3,none⟩ (.string ⟨#[]⟩)).setCell ⟨w.heap.size,4,none⟩ (.slice none 0 0)).setCell ⟨w.heap.size,5,none⟩ (.slice none 0 0)).setCell ⟨w.heap.size,6,none⟩ (.slice none 0 0))=wf at bS hK2 aX ⊢;obtain⟨q0,q1,q2,q3,q4,q5,q6⟩:=bS.seven;refine bodyPost_ret (v:=.tuple #[.agg #[.int .i64 0,.int .i64 n,.int .i64 0,.string ⟨#[]⟩,.slice none 0 0,.slice none 0 0,.slice none 0 0],.int .i64 0]) (by simp[results,results198,go_sem,q0,q1,q2,q3,q4,q5,q6]) rfl ?_;exact⟨hK2,_,_,_,_,_,_,_,ws,rfl,rfl,kL 110 n n 0 _ [] (by simp) (λ_=>⟨rfl,iJ HN.out⟩) (by simp) (by simp),rfl,h.to hK2 rv aX hT h.len h.ok⟩
theorem D6 (w:World)(sb bk mb:Nat)(aA:Tok->Bool)(ws:List ByteArray)(lo:Nat)(tb:ByteArray)(j:Nat)(hj:j<16)(K:Int)(hK:K=(j:Int)+2)(hp:aN.findIdx? (· == tb.data.toList)=some j)(h:bW w sb bk mb aA ws lo):
  Calls prog 198 #[pt sb,.string tb,.int .i64 K] w λx w'=>Kp w w' (λb=>b=sb)/\rE w sb bk mb aA lo x w' (.ok ([⟨112,0,tb.data.toList,[],[],[]⟩],[],aD ws)):=by
 obtain⟨rv,hB,hT⟩:=h.blk;have hsb:=hB.lt;have hKa:2<=K:=by omega
 have hKb:K<=17:=by omega
 have HK:=az hK;have HP:=az hp;clear hK hp hj;go_enter func198,ntmps198
 go_wp2_with fail
 refine(gS _ _).mono ?_;rintro e w' ⟨rfl,hw⟩;rw[hw];clear hw;have hb:decide (2<=K/\K<=17)=true:=decide_eq_true ⟨hKa,hKb⟩;rw[hb];go_wp2;have hK2:Kp w (w.alloc (.cells #[.int .i64 1,.int .i64 0,.int .i64 K,.string ⟨#[]⟩,.slice none 0 0,.slice none 0 0,.slice none 0 0] 241)) (λb=>b=sb):=(Kp.refl _ _).alloc _;have aX:aC (w.alloc (.cells #[.int .i64 1,.int .i64 0,.int .i64 K,.string ⟨#[]⟩,.slice none 0 0,.slice none 0 0,.slice none 0 0] 241)) sb 201 (gA rv bk lo):=hB.alloc _;refine bodyPost_ret (v:=.tuple #[.agg #[.int .i64 1,.int .i64 0,.int .i64 K,.string ⟨#[]⟩,.slice none 0 0,.slice none 0 0,.slice none 0 0],.int .i64 0]) (by simp[results,results198,go_sem]) rfl ?_;exact⟨hK2,_,_,_,_,_,_,_,ws,rfl,rfl,kL 112 0 0 K _ tb.data.toList (by simp) (by simp) (λ_=>⟨j,HP.out,HK.out⟩) (by simp),rfl,h.to hK2 rv aX hT h.len h.ok⟩
theorem Gt (w:World)(sb bk mb:Nat)(aA:Tok->Bool)(ws:List ByteArray)(lo:Nat)(tb:ByteArray)(h:bW w sb bk mb aA ws lo)(ho:okW tb)(res:fh)(aG:res=if aA tb.data.toList=true then .ok ([⟨99,0,tb.data.toList,[],[],[]⟩],[],aD ws) else .error 3):
  Calls prog 198 #[pt sb,.string tb,.int .i64 0] w λx w'=>Kp w w' (λb=>b=sb)/\rE w sb bk mb aA lo x w' res:=by
 obtain⟨rv,hB,hT⟩:=h.blk;have hsb:=hB.lt;have cX:aC (w.alloc (.cells #[.int .i64 0,.int .i64 0,.int .i64 0,.string ⟨#[]⟩,.slice none 0 0,.slice none 0 0,.slice none 0 0] 241)) sb 201 (gA rv bk lo):=hB.alloc _;have c1:(w.alloc (.cells #[.int .i64 0,.int .i64 0,.int .i64 0,.string ⟨#[]⟩,.slice none 0 0,.slice none 0 0,.slice none 0 0] 241)).cell? ⟨sb,1,none⟩=some (.func (.func 74) #[pt bk] #[]):=cX.cell rfl;have HH:=az (K4 _ bk mb aA (h.book.kp ((Kp.refl _ (λ_=>False)).alloc (.cells #[.int .i64 0,.int .i64 0,.int .i64 0,.string ⟨#[]⟩,.slice none 0 0,.slice none 0 0,.slice none 0 0] 241)) (by simp) (by simp)) tb (ai ho.2 (by decide)));have hen:=K5;unfold ij at hen;go_enter func198,ntmps198
 go_wp2_with fail
 refine(gS _ _).mono ?_;rintro e w' ⟨rfl,hw⟩;rw[hw];clear hw;rw[show decide ((2:Int)<=0/\(0:Int)<=17)=false by decide]
 go_wp2_with fail
 refine HH.out.mono ?_;rintro e w' ⟨rfl,hw⟩;rw[hw];clear hw
 cases hkn:aA tb.data.toList
 ·rw[hkn] at aG;have HR:Hid (res=.error 3):=aG;clear aG;go_wp2;have hK2:Kp w (w.alloc (.cells #[.int .i64 0,.int .i64 0,.int .i64 0,.string ⟨#[]⟩,.slice none 0 0,.slice none 0 0,.slice none 0 0] 241)) (λb=>b=sb):=(Kp.refl _ _).alloc _;have aX:aC (w.alloc (.cells #[.int .i64 0,.int .i64 0,.int .i64 0,.string ⟨#[]⟩,.slice none 0 0,.slice none 0 0,.slice none 0 0] 241)) sb 201 (gA rv bk lo):=hB.alloc _;refine bodyPost_ret (v:=.tuple #[.agg #[.int .i64 0,.int .i64 0,.int .i64 0,.string ⟨#[]⟩,.slice none 0 0,.slice none 0 0,.slice none 0 0],.int .i64 3]) (by simp[results,results198,go_sem]) rfl ?_;rw[HR.out];exact⟨hK2,by decide,_,_,_,_,_,_,_,_,_,_,_,_,_,_,rfl,aX⟩
 ·rw[hkn] at aG;have HR:Hid (res=.ok ([⟨99,0,tb.data.toList,[],[],[]⟩],[],aD ws)):=aG;clear aG;go_wp2;have hK2:Kp w (w.alloc (.cells #[.int .i64 2,.int .i64 0,.int .i64 0,.string tb,.slice none 0 0,.slice none 0 0,.slice none 0 0] 241)) (λb=>b=sb):=(Kp.refl _ _).alloc _;have aX:aC (w.alloc (.cells #[.int .i64 2,.int .i64 0,.int .i64 0,.string tb,.slice none 0 0,.slice none 0 0,.slice none 0 0] 241)) sb 201 (gA rv bk lo):=hB.alloc _;refine bodyPost_ret (v:=.tuple #[.agg #[.int .i64 2,.int .i64 0,.int .i64 0,.string tb,.slice none 0 0,.slice none 0 0,.slice none 0 0],.int .i64 0]) (by simp[results,results198,go_sem]) rfl ?_;rw[HR.out];exact⟨hK2,_,_,_,_,_,_,_,ws,rfl,rfl,kL 99 0 0 0 tb tb.data.toList (by simp) (by simp) (by simp) (λ_=>⟨rfl,ho.2⟩),rfl,h.to hK2 rv aX hT h.len h.ok⟩
end Go.Proofs.YteainaiebcphlaaGreatDoor
