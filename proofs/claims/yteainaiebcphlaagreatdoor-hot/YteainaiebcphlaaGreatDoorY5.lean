import Derived.Test.YteainaiebcphlaaGreatDoorY4
import Derived.Maps.OwnSet
namespace Go.Proofs.YteainaiebcphlaaGreatDoor
set_option maxRecDepth 1000000
set_option maxHeartbeats 4000000
set_option linter.all false
section
open Go.RowKit
def TokAt (M:Mem) (v:Value) (ws:List ByteArray):Prop:=
 (ws=[]/\∃ ao cap,v=.slice ao 0 cap)\/∃ g off cap cur,v=.slice (some ⟨g,off,none⟩) ws.length cap/\M g 9 cur/\ws.length<=cap/\off+cap<=maxLen/\off+cap<=cur.size/\∀ i (h:i < ws.length),cur[off+i]? = some (.string ws[i])
theorem TokAt_mono {M M':Mem} (h:∀ b c,M b 9 c->M' b 9 c) {v:Value} {ws:List ByteArray} (hr:TokAt M v ws):TokAt M' v ws:=by
 rcases hr with hr|⟨g,off,cap,cur,h1,h2,h3⟩
 ·exact .inl hr
 ·exact .inr ⟨g,off,cap,cur,h1,h _ _ h2,h3⟩
theorem TokAt.form {M:Mem} {v:Value} {ws:List ByteArray} (h:TokAt M v ws):∃ ao cap,v=.slice ao ws.length cap:=by
 rcases h with⟨rfl,ao,cap,rfl⟩|⟨g,off,cap,cur,rfl,_⟩
 ·exact⟨ao,cap,rfl⟩
 ·exact⟨_,cap,rfl⟩
def heldR (v:Value):Option (DataW Value × List MemPlace):=some (.held v,[])
structure BookK (w:World) (bk mb:Nat) (known:Tok->Bool):Prop where
 ex:∃ h b,Blk w bk 106 #[.map (some mb),.int .i64 h,.int .i64 b]
 look:∃ n DD,w.ownsMap Tryz.prog 9 heldR mb n DD/\∀ t:Tok,t.length<=maxLen->∃ p,DD.atKey (.string t) (.held (.pointer none))=.held (.pointer p)/\p.isSome=known t
def rdArr (rv:Value) (bk:Nat) (lo:Nat):Array Value:=#[rv,.func (.func 74) #[pt bk] #[],.int .i64 lo]
def okW (t:ByteArray):Prop:=t.toList ≠ []/\t.size<=1000
def SpAt (w:World):Prop:=∃ tt fr,w.heap[1]? = some (.cells spellA tt fr)
structure RdInv (w:World) (sb bk mb:Nat) (known:Tok->Bool) (ws:List ByteArray) (lo:Nat):Prop where
 blk:∃ rv,Blk w sb 201 (rdArr rv bk lo)/\TokAt (BD (fun b=>b < sb) w) rv ws
 book:BookK w bk mb known
 len:ws.length+lo<=1000
 ok:∀ t∈ws,okW t
 sp:SpAt w
 s1:sb ≠ 1
theorem ownsMap_same {w w':World} {b n:Nat} {DD:DataW Value} (h:w.ownsMap Tryz.prog 9 heldR b n DD) (e:w'.heap[b]? = w.heap[b]?):w'.ownsMap Tryz.prog 9 heldR b n DD:=by
 obtain⟨es,clock,h1,h2⟩:=h;exact⟨es,clock,e.trans h1,h2⟩
theorem map_ne {w:World} {b n:Nat} {DD:DataW Value} (h:w.ownsMap Tryz.prog 9 heldR b n DD) {b':Nat} {t:TypeId} {c:Array Value} (hb:Blk w b' t c):b ≠ b':=by
 obtain⟨es,clock,h1,_⟩:=h;rintro rfl;have:w.heap[b]? = _:=hb;rw[h1] at this;injection this with this;cases this
theorem BookK.blk {w:World} {bk mb:Nat} {known:Tok->Bool} (h:BookK w bk mb known):Blk w bk 106 #[.map (some mb),.int .i64 h.ex.choose,.int .i64 h.ex.choose_spec.choose]:=h.ex.choose_spec.choose_spec
theorem BookK.kp {w w':World} {bk mb:Nat} {known:Tok->Bool} {V:Nat->Prop} (h:BookK w bk mb known) (hk:Kp w w' V) (h1:¬ V bk) (h2:¬ V mb):BookK w' bk mb known:=by
 obtain⟨n,DD,hm,hl⟩:=h.look;obtain⟨h0,b0,hb⟩:=h.ex;exact⟨⟨h0,b0,hk.blk hb h1⟩,n,DD,ownsMap_same hm (hk.block mb hm.lt h2),hl⟩
theorem BookK.one {w w':World} {bk mb b:Nat} {known:Tok->Bool} (h:BookK w bk mb known) (hk:Kp w w' (fun k=>k=b)) {t:TypeId} {c:Array Value} (hb:Blk w b t c) (ht:t ≠ 106):BookK w' bk mb known:=by
 obtain⟨n,DD,hm,hl⟩:=h.look;obtain⟨h0,b0,hbb⟩:=h.ex;exact h.kp hk (by rintro rfl;exact ht (hb.inj hbb).1) (map_ne hm hb)
theorem SpAt.kp {w w':World} {V:Nat->Prop} (h:SpAt w) (hk:Kp w w' V) (h1:¬ V 1):SpAt w':=by
 obtain⟨tt,fr,hx⟩:=h;have hlt:1 < w.heap.size:=by
  rcases Nat.lt_or_ge 1 w.heap.size with h|h
  ·exact h
  ·rw[Array.getElem?_eq_none h] at hx;cases hx
 exact⟨tt,fr,(hk.block 1 hlt h1).trans hx⟩
theorem RdInv.to {w w':World} {sb bk mb:Nat} {known:Tok->Bool} {ws ws':List ByteArray} {lo lo':Nat} (h:RdInv w sb bk mb known ws lo) (hk:Kp w w' (fun k=>k=sb)) (rv:Value) (hb:Blk w' sb 201 (rdArr rv bk lo')) (ht:TokAt (BD (fun b=>b < sb) w) rv ws') (hl:ws'.length+lo'<=1000) (ho:∀ t∈ws',okW t):RdInv w' sb bk mb known ws' lo':=by
 obtain⟨rv0,hb0,ht0⟩:=h.blk;refine⟨⟨rv,hb,TokAt_mono (fun b c hc=>⟨hc.1,hk.blk hc.2 (by rintro rfl;exact absurd (hc.2.inj hb0).1 (by decide))⟩) ht⟩,h.book.one hk hb0 (by decide),hl,ho,h.sp.kp hk (by rintro e;exact h.s1 e.symm),h.s1⟩
theorem RdInv.kp {w w':World} {sb bk mb:Nat} {known:Tok->Bool} {ws:List ByteArray} {lo:Nat} (h:RdInv w sb bk mb known ws lo) (hk:Kp w w' (fun _=>False)):RdInv w' sb bk mb known ws lo:=by
 obtain⟨rv,hb,ht⟩:=h.blk;exact h.to (hk.mono (fun _ _ e=>e.elim)) rv (hk.blk hb (by simp)) ht h.len h.ok
theorem nextM (w:World) (sb bk mb lo:Nat) (known:Tok->Bool) (t:ByteArray) (ws:List ByteArray) (h:RdInv w sb bk mb known (t :: ws) lo):
  Calls Tryz.prog 196 #[pt sb] w fun e w'=>e=.returned (.string t)/\Kp w w' (fun k=>k=sb)/\RdInv w' sb bk mb known ws lo:=by
 obtain⟨rv,hb,ht⟩:=h.blk;have HH:=hide h;rcases ht with⟨h0,_⟩|⟨g,off,cap,cur,rfl,⟨hgs,hg⟩,h1,h2,h3,h4⟩
 ·cases h0
 ·have hl:=h.len;clear h;simp only[List.length_cons] at h1 hb hl;have c0:w.cell? ⟨sb,0,none⟩=some (.slice (some ⟨g,off,none⟩) (ws.length+1) cap):=hb.cell rfl;have f0:=hb.free 0;have c1:w.cell? ⟨g,off,none⟩=some (.string t):=hg.cell (by have:=h4 0 (by simp);simpa using this);have HT:Hid (∀ rv',TokAt (BD (fun b=>b < sb) w) rv' ws->RdInv (w.setCell ⟨sb,0,none⟩ rv') sb bk mb known ws lo):=by
   intro rv' hr';exact HH.out.to (Kp.one _ _ _ _) rv' (hb.set 0 _) hr' (by omega) (fun t ht=>HH.out.ok t (by simp[ht]))
  have H4:Hid (∀ i (h:i < ws.length),cur[off+1+i]? = some (.string ws[i])):=by
   intro i hi;have:=h4 (i+1) (by simpa using hi);rw[show off+1+i=off+(i+1) by omega];simpa using this
  clear h4;go_enter Tryz.func196,Tryz.ntmps196;go_wp2
  all_goals go_ret
  ·have hz:ws=[]:=List.length_eq_zero_iff.1 (by omega);exact⟨rfl,Kp.one _ _ _ _,HT.out _ (.inl ⟨hz,some ⟨g,off,none⟩,0,by rw[hz];rfl⟩)⟩
  ·exact⟨rfl,Kp.one _ _ _ _,HT.out _ (.inr ⟨g,off+1,cap - 1,cur,rfl,⟨hgs,hg⟩,by omega,by omega,by omega,H4.out⟩)⟩
def allEnds:List Tok:=[kSemi,kElse,kThen,kUntil,kWhile,kRepeat,kLoop]
theorem endsM (a:Int) (w:World):Calls Tryz.prog 197 #[.int .i64 a] w fun e w'=>e=.returned (.bool (decide (a=19\/a=23\/a=24\/a=26\/a=27\/a=28\/a=30)))/\w'=w:=by
 by_cases h:a=19\/a=23\/a=24\/a=26\/a=27\/a=28\/a=30
 ·rw[decide_eq_true h];rcases h with rfl|rfl|rfl|rfl|rfl|rfl|rfl
  all_goals
   go_enter Tryz.func197,Tryz.ntmps197;go_wp2;go_ret;exact⟨rfl,rfl⟩
 ·rw[decide_eq_false h];obtain⟨h1,h⟩:=not_or.1 h;obtain⟨h2,h⟩:=not_or.1 h;obtain⟨h3,h⟩:=not_or.1 h;obtain⟨h4,h⟩:=not_or.1 h;obtain⟨h5,h⟩:=not_or.1 h;obtain⟨h6,h7⟩:=not_or.1 h;go_enter Tryz.func197,Tryz.ntmps197;go_wp2;go_ret;exact⟨rfl,rfl⟩
end
section
open Go.RowKit
theorem keyS (t:ByteArray) (ht:t.size<=maxLen):keyOf Tryz.prog 9 (.string t)=some (.string t.data.toList):=by
 exact WideMaps.keyOf_string_mk Tryz.underlying9 ht
theorem zeroW (w:World):(zeroValue 107).run Tryz.prog w=.ok (.pointer none) w:=by kernel_rfl
theorem look_run {w:World} {mb n:Nat} {DD:DataW Value} (h:w.ownsMap Tryz.prog 9 heldR mb n DD) (t:ByteArray) (ht:t.size<=maxLen) {p:Option Addr} (hp:DD.atKey (.string t.data.toList) (.held (.pointer none))=.held (.pointer p)):
  (Instr.lookup 104 (.map (some mb)) (.string t) false).run Tryz.prog w=.ok (.pointer p) w:=by
 obtain⟨v,ps,hrun,hv⟩:=h.lookup (Maps.string_keyed Tryz.underlying9) Tryz.underlying104 (zeroW w) (zd:=.held (.pointer none)) (zp:=[]) rfl (keyS t ht);rw[hp] at hv;have hv:some (DataW.held v,[])=some (DataW.held (Value.pointer p),ps):=hv;have hv2:DataW.held v=DataW.held (Value.pointer p):=congrArg Prod.fst (Option.some.inj hv);have hv3:v=Value.pointer p:=DataW.held.inj hv2;rw[<-hv3];exact hrun
theorem hasM (w:World) (bk mb:Nat) (known:Tok->Bool) (h:BookK w bk mb known) (t:ByteArray) (ht:t.size<=maxLen):
  Calls Tryz.prog 74 #[pt bk,.string t] w fun e w'=>e=.returned (.bool (known t.data.toList))/\w'=w:=by
 obtain⟨n,DD,hm,hl⟩:=h.look;obtain⟨p,hp,hk⟩:=hl t.data.toList ht;have hrun:=look_run hm t ht hp;obtain⟨h0,b0,hbb⟩:=h.ex;have c0:w.cell? ⟨bk,0,none⟩=some (.map (some mb)):=hbb.cell rfl;clear hbb;rw[<-hk];clear hk hp hl hm
 cases p with
 | none=>
  go_enter Tryz.func74,Tryz.ntmps74;go_wp2;go_ret;exact⟨rfl,rfl⟩
 | some a=>
  go_enter Tryz.func74,Tryz.ntmps74;go_wp2;go_ret;exact⟨rfl,rfl⟩
theorem ent_has:Ents 74:=ents_of Tryz.func74 (by kernel_rfl) (by kernel_rfl)
end
section
open Go.RowKit
def rowZ (M:Mem) (e:TypeId) (z:Nat) (v:Value) (n:Nat) (xs:List Value):Prop:=
 xs.length=n * z/\((v=.slice none 0 0/\n=0)\/∃ g cap cur,v=.slice (some ⟨g,0,none⟩) n cap/\M g e cur/\n<=cap/\cap<=maxLen/\cur.size=cap * z/\cur.toList.take (n * z)=xs)
theorem rowZ_mono {M M':Mem} {e:TypeId} (h:∀ b c,M b e c->M' b e c) {z:Nat} {v:Value} {n:Nat} {xs:List Value} (hr:rowZ M e z v n xs):rowZ M' e z v n xs:=by
 obtain⟨hl,hr⟩:=hr;refine⟨hl,?_⟩;rcases hr with hr|⟨g,cap,cur,h1,h2,h3⟩
 ·exact .inl hr
 ·exact .inr ⟨g,cap,cur,h1,h _ _ h2,h3⟩
theorem rowZ.of {D:Nat->Prop} {w:World} {e:TypeId} {z:Nat} {v:Value} {n:Nat} {xs:List Value} (h:w.ownsRow 0 e z v n xs) (hd:∀ b,own v b->D b):rowZ (BD D w) e z v n xs:=by
 refine⟨h.1,?_⟩;rcases h.2 with h0|⟨g,cap,cur,rfl,_,hg,h3,h4,h5,h6⟩
 ·exact .inl h0
 ·exact .inr ⟨g,cap,cur,rfl,⟨hd g (by simp[own,Value.ownBlock]),hg⟩,h3,h4,h5,h6⟩
theorem rowZ.row {D:Nat->Prop} {w:World} {e:TypeId} {z:Nat} {v:Value} {n:Nat} {xs:List Value} (h:rowZ (BD D w) e z v n xs):w.ownsRow 0 e z v n xs:=by
 obtain⟨hl,h⟩:=h;refine⟨hl,?_⟩;rcases h with h|⟨g,cap,cur,rfl,h2,h3,h4,h5,h6⟩
 ·exact .inl h
 ·exact .inr ⟨g,cap,cur,rfl,Nat.zero_le _,h2.2,h3,h4,h5,h6⟩
theorem rowZ.form {M:Mem} {e:TypeId} {z:Nat} {v:Value} {n:Nat} {xs:List Value} (h:rowZ M e z v n xs):∃ ao cap,v=.slice ao n cap:=by
 rcases h.2 with⟨rfl,rfl⟩|⟨g,cap,cur,rfl,_⟩
 ·exact⟨none,0,rfl⟩
 ·exact⟨_,cap,rfl⟩
theorem rowM.form {M:Mem} {e:TypeId} {v:Value} {xs:List Value} (h:rowM M e v xs):∃ ao cap,v=.slice ao xs.length cap:=by
 rcases h with⟨rfl,rfl⟩|⟨g,cap,cur,rfl,_⟩
 ·exact⟨none,0,rfl⟩
 ·exact⟨_,cap,rfl⟩
def kindP (k:Nat):Int:=if k=110 then 0 else if k=112 then 1 else if k=99 then 2 else if k=63 then 3 else if k=117 then 4 else if k=119 then 5 else if k=100 then 6 else if k=105 then 7 else if k=114 then 8 else if k=120 then 9 else 10
structure PItm (M:Mem) (P:Value->List It->Prop) (x:It) (n pl:Int) (nm:ByteArray) (tv va vb:Value):Prop where
 kd:x.kind=110\/x.kind=112\/x.kind=99\/x.kind=63\/x.kind=117\/x.kind=119\/x.kind=100\/x.kind=105\/x.kind=114\/x.kind=120\/x.kind=123
 num:x.kind=110->n=x.n/\In x.n
 pln:x.kind=112->∃ j,plainL.findIdx? (· == x.name)=some j/\pl=(j:Int)+2
 name:x.kind=99->nm.data.toList=x.name/\nm.size<=1000
 toks:∃ ws,rowM M 9 tv (ws.map Value.string)/\(x.kind=123->texts ws=x.toks/\(∀ t∈ws,okW t)/\ws.length<=1000)
 a:P va x.a
 b:P vb x.b
def itemsL (M:Mem) (P:Value->List It->Prop):List It->List Value->Prop
 | [],xs=>xs=[]
 | x :: l,xs=>∃ n pl nm tv va vb rest,xs=.int .i64 (kindP x.kind) :: .int .i64 n :: .int .i64 pl :: .string nm :: tv :: va :: vb :: rest/\PItm M P x n pl nm tv va vb/\itemsL M P l rest
def itemsIn (M:Mem):Nat->Value->List It->Prop
 | 0,_,_=>False
 | g+1,v,l=>∃ xs,rowZ M 241 7 v l.length xs/\itemsL M (itemsIn M g) l xs/\l.length<=1000
def Items (M:Mem) (v:Value) (l:List It):Prop:=∃ g,itemsIn M g v l
theorem PItm.mono {M M':Mem} {P P':Value->List It->Prop} (h:∀ b t c,M b t c->M' b t c) (hp:∀ v l,P v l->P' v l) {x:It} {n pl:Int} {nm:ByteArray} {tv va vb:Value} (hi:PItm M P x n pl nm tv va vb):PItm M' P' x n pl nm tv va vb:=by
 obtain⟨ws,h1,h2⟩:=hi.toks;exact⟨hi.kd,hi.num,hi.pln,hi.name,⟨ws,rowM_mono h h1,h2⟩,hp _ _ hi.a,hp _ _ hi.b⟩
theorem itemsL_mono {M M':Mem} {P P':Value->List It->Prop} (h:∀ b t c,M b t c->M' b t c) (hp:∀ v l,P v l->P' v l):∀ (l:List It) (xs:List Value),itemsL M P l xs->itemsL M' P' l xs
 | [],_,h0=>h0
 | _ :: l,_,⟨n,pl,nm,tv,va,vb,rest,h1,h2,h3⟩=>⟨n,pl,nm,tv,va,vb,rest,h1,h2.mono h hp,itemsL_mono h hp l rest h3⟩
theorem itemsIn_mono {M M':Mem} (h:∀ b t c,M b t c->M' b t c):∀ (g:Nat) (v:Value) (l:List It),itemsIn M g v l->itemsIn M' g v l
 | 0,_,_,h0=>h0
 | g+1,_,_,⟨xs,h1,h2,h3⟩=>⟨xs,rowZ_mono (fun b c=>h b _ c) h1,itemsL_mono h (itemsIn_mono h g) _ _ h2,h3⟩
theorem itemsIn_succ {M:Mem}:∀ (g:Nat) (v:Value) (l:List It),itemsIn M g v l->itemsIn M (g+1) v l
 | 0,_,_,h=>h.elim
 | g+1,_,_,⟨xs,h1,h2,h3⟩=>⟨xs,h1,itemsL_mono (fun _ _ _ h=>h) (itemsIn_succ g) _ _ h2,h3⟩
theorem itemsIn_le {M:Mem} {g g':Nat} (hg:g<=g') {v:Value} {l:List It} (h:itemsIn M g v l):itemsIn M g' v l:=by
 induction hg with
 | refl=>exact h
 | step _ ih=>exact itemsIn_succ _ _ _ ih
theorem Items.mono {M M':Mem} (h:∀ b t c,M b t c->M' b t c) {v:Value} {l:List It} (hi:Items M v l):Items M' v l:=by
 obtain⟨g,hg⟩:=hi;exact⟨g,itemsIn_mono h g v l hg⟩
theorem itemsL_lift {M:Mem}:∀ (l:List It) (xs:List Value),itemsL M (Items M) l xs->∃ g,itemsL M (itemsIn M g) l xs
 | [],_,h=>⟨0,h⟩
 | _ :: l,_,⟨n,pl,nm,tv,va,vb,rest,h1,h2,h3⟩=>by
  obtain⟨g3,h3⟩:=itemsL_lift l rest h3;obtain⟨g1,ha⟩:=h2.a;obtain⟨g2,hb⟩:=h2.b;refine⟨g1+g2+g3,n,pl,nm,tv,va,vb,rest,h1,⟨h2.kd,h2.num,h2.pln,h2.name,h2.toks,itemsIn_le (by omega) ha,itemsIn_le (by omega) hb⟩,itemsL_mono (fun _ _ _ h=>h) (fun _ _=>itemsIn_le (by omega)) _ _ h3⟩
theorem Items.of {M:Mem} {v:Value} {l:List It} {xs:List Value} (h1:rowZ M 241 7 v l.length xs) (h2:itemsL M (Items M) l xs) (h3:l.length<=1000):Items M v l:=by
 obtain⟨g,h⟩:=itemsL_lift l xs h2;exact⟨g+1,xs,h1,h,h3⟩
theorem Items.out {M:Mem} {v:Value} {l:List It} (h:Items M v l):∃ xs,rowZ M 241 7 v l.length xs/\itemsL M (Items M) l xs:=by
 obtain⟨g,h⟩:=h
 cases g with
 | zero=>exact h.elim
 | succ g=>
  obtain⟨xs,h1,h2,_⟩:=h;exact⟨xs,h1,itemsL_mono (fun _ _ _ h=>h) (fun _ _ h=>⟨g,h⟩) _ _ h2⟩
theorem Items.nil (M:Mem):Items M (.slice none 0 0) []:=⟨1,[],⟨rfl,.inl ⟨rfl,rfl⟩⟩,rfl,by simp⟩
theorem itemsL_app {M:Mem} {P:Value->List It->Prop}:∀ (l l':List It) (xs xs':List Value),itemsL M P l xs->itemsL M P l' xs'->itemsL M P (l ++ l') (xs ++ xs')
 | [],_,_,_,h,h'=>by have h:_=_:=h;subst h;exact h'
 | _ :: l,l',_,xs',⟨n,pl,nm,tv,va,vb,rest,h1,h2,h3⟩,h'=>⟨n,pl,nm,tv,va,vb,rest ++ xs',by rw[h1];rfl,h2,itemsL_app l l' rest xs' h3 h'⟩
def zIt7:Array Value:=#[.int .i64 0,.int .i64 0,.int .i64 0,.string ⟨#[]⟩,.slice none 0 0,.slice none 0 0,.slice none 0 0]
theorem Tryz.infoBI:(Tryz.prog.info? 241).map (fun i=>(i.zero,i.size,i.bytes))=some (some (.agg zIt7),7,112):=by kernel_rfl
abbrev it7 (k n pl:Int) (nm:ByteArray) (tv va vb:Value):Value:=.agg #[.int .i64 k,.int .i64 n,.int .i64 pl,.string nm,tv,va,vb]
def QIt (w:World) (sb bk mb:Nat) (known:Tok->Bool) (lo:Nat) (x:Ending) (w':World):PRes->Prop
 | .ok (xs,_,r)=>∃ x' n pl nm tv va vb ws',xs=[x']/\x=.returned (.tuple #[it7 (kindP x'.kind) n pl nm tv va vb,.int .i64 0])/\PItm (BD (New w) w') (Items (BD (New w) w')) x' n pl nm tv va vb/\texts ws'=r/\RdInv w' sb bk mb known ws' lo
 | .error er=>er ≠ 0/\∃ k n pl nm a1 m1 p1 a2 m2 p2 a3 m3 p3 rv,x=.returned (.tuple #[it7 k n pl nm (.slice a1 m1 p1) (.slice a2 m2 p2) (.slice a3 m3 p3),.int .i64 er])/\Blk w' sb 201 (rdArr rv bk lo)
def QBo (w:World) (sb bk mb:Nat) (known:Tok->Bool) (lo:Nat) (x:Ending) (w':World):PRes->Prop
 | .ok (xs,t',r)=>∃ v ws',x=.returned (.tuple #[v,.int .i64 (kindN t'),.int .i64 0])/\Items (BD (New w) w') v xs/\texts ws'=r/\RdInv w' sb bk mb known ws' lo
 | .error er=>er ≠ 0/\∃ rv,x=.returned (.tuple #[.slice none 0 0,.int .i64 0,.int .i64 er])/\Blk w' sb 201 (rdArr rv bk lo)
def QItem (g:Nat):Prop:=∀ (w:World) (sb bk mb:Nat) (known:Tok->Bool) (ws:List ByteArray) (lo:Nat) (tb:ByteArray) (K:Int) (res:PRes),
 pRead known g ⟨true,lo,[],tb.data.toList⟩ (texts ws)=some res->RdInv w sb bk mb known ws lo->okW tb->ws.length+lo+1<=1000->(K=if (numP tb.toList).isSome then 1 else (kindN tb.toList:Int))->allEnds.any (· == tb.data.toList)=false ->
 Calls Tryz.prog 198 #[pt sb,.string tb,.int .i64 K] w fun x w'=>Kp w w' (fun b=>b=sb)/\QIt w sb bk mb known lo x w' res
def QBody (g:Nat):Prop:=∀ (w:World) (sb bk mb:Nat) (known:Tok->Bool) (ws:List ByteArray) (lo:Nat) (res:PRes),
 pRead known g ⟨false,lo,allEnds,[]⟩ (texts ws)=some res->RdInv w sb bk mb known ws lo ->
 Calls Tryz.prog 182 #[pt sb] w fun x w'=>Kp w w' (fun b=>b=sb)/\QBo w sb bk mb known lo x w' res
def restOf (w:World) (sb:Nat):Nat:=match w.cell? ⟨sb,0,none⟩ with
 | some (.slice _ n _)=>n
 | _=>0
theorem RdInv.rest {w:World} {sb bk mb:Nat} {known:Tok->Bool} {ws:List ByteArray} {lo:Nat} (h:RdInv w sb bk mb known ws lo):restOf w sb=ws.length:=by
 obtain⟨rv,hb,ht⟩:=h.blk;obtain⟨ao,cap,rfl⟩:=ht.form;have:w.cell? ⟨sb,0,none⟩=some (.slice ao ws.length cap):=hb.cell rfl;unfold restOf;rw[this]
end
section
open Go.RowKit
theorem kindN_at {l:List UInt8} {i:Nat} (h:kindN l=i) (hi:i ≠ 0):spellL[i]? = some l:=by
 unfold kindN at h
 cases hf:spellL.findIdx? (· == l) with
 | none=>rw[hf] at h;exact absurd h.symm hi
 | some k=>
  rw[hf] at h;have h:k=i:=h;subst h;obtain⟨hlt,hk,_⟩:=List.findIdx?_eq_some_iff_getElem.1 hf;rw[List.getElem?_eq_getElem hlt,beq_iff_eq.1 hk]
def kdOf (l:List UInt8):Int:=if (numP l).isSome then 1 else (kindN l:Int)
theorem kdOf_at {l:List UInt8} {i:Nat} (h:kdOf l=(i:Int)) (hi:2<=i):spellL[i]? = some l:=by
 unfold kdOf at h
 split at h
 ·exfalso;omega
 ·exact kindN_at (by omega) (by omega)
theorem kdOf_ends (l:List UInt8):allEnds.any (· == l)=decide (kdOf l=19\/kdOf l=23\/kdOf l=24\/kdOf l=26\/kdOf l=27\/kdOf l=28\/kdOf l=30):=by
 cases h:allEnds.any (· == l)
 ·symm
  apply decide_eq_false
  rintro (h1|h1|h1|h1|h1|h1|h1)
  ·have:=kdOf_at (i:=19) h1 (by decide);rw[show spellL[19]? = some kSemi by decide] at this;injection this with this;subst this;revert h;decide
  ·have:=kdOf_at (i:=23) h1 (by decide);rw[show spellL[23]? = some kElse by decide] at this;injection this with this;subst this;revert h;decide
  ·have:=kdOf_at (i:=24) h1 (by decide);rw[show spellL[24]? = some kThen by decide] at this;injection this with this;subst this;revert h;decide
  ·have:=kdOf_at (i:=26) h1 (by decide);rw[show spellL[26]? = some kUntil by decide] at this;injection this with this;subst this;revert h;decide
  ·have:=kdOf_at (i:=27) h1 (by decide);rw[show spellL[27]? = some kWhile by decide] at this;injection this with this;subst this;revert h;decide
  ·have:=kdOf_at (i:=28) h1 (by decide);rw[show spellL[28]? = some kRepeat by decide] at this;injection this with this;subst this;revert h;decide
  ·have:=kdOf_at (i:=30) h1 (by decide);rw[show spellL[30]? = some kLoop by decide] at this;injection this with this;subst this;revert h;decide
 ·symm
  apply decide_eq_true
  obtain⟨x,hx,he⟩:=List.any_eq_true.1 h;have he:=beq_iff_eq.1 he;subst he;simp only[allEnds,List.mem_cons,List.mem_nil_iff,or_false] at hx;rcases hx with rfl|rfl|rfl|rfl|rfl|rfl|rfl <;> decide
theorem ends_kind {l:List UInt8} (h:allEnds.any (· == l)=true):kdOf l=(kindN l:Int):=by
 obtain⟨x,hx,he⟩:=List.any_eq_true.1 h;have he:=beq_iff_eq.1 he;subst he;simp only[allEnds,List.mem_cons,List.mem_nil_iff,or_false] at hx;rcases hx with rfl|rfl|rfl|rfl|rfl|rfl|rfl <;> decide
theorem kindQ (s:ByteArray) (w:World) (hs:okW s) (hg:SpAt w):Calls Tryz.prog 67 #[.string s] w fun e w'=>e=.returned (.int .i64 (kdOf s.data.toList))/\w'=w:=by
 obtain⟨tt,fr,h⟩:=hg;exact kindM s w tt fr hs.2 h _ (by rw[ByteArray.toList_eq];rfl)
theorem results_tmp3 {fn:Func} {t u v:Tmp} (h:fn.results=#[.tmp t,.tmp u,.tmp v]) (tmps:Array Value) (P:Program) (w:World):
  (results fn tmps).run P w=.ok (.tuple #[tmps.getD t undef,tmps.getD u undef,tmps.getD v undef]) w:=by
 simp[results,h]
theorem pBraces_len:∀ (r:List Tok) (ts r':List Tok),pBraces r=.ok (ts,r')->r'.length<=r.length
 | [],_,_,h=>by cases h
 | t :: r,ts,r',h=>by
  unfold pBraces at h
  split at h
  ·cases h
  ·split at h
   ·injection h with h;injection h with h1 h2;subst h2;simp
   ·split at h
    ·cases h
    ·rename_i ts2 r2 h2
     injection h with h;injection h with h1 h3;subst h3;have:=pBraces_len r ts2 r2 h2;simp;omega
theorem pRead_len (known:Tok->Bool):∀ (g:Nat) (j:PJ) (r:List Tok) (xs:List It) (t:Tok) (r':List Tok),pRead known g j r=some (.ok (xs,t,r'))->r'.length<=r.length
 | 0,_,_,_,_,_,h=>by cases h
 | g+1,j,r,xs,t,r',h=>by
  have ih:=pRead_len known g;rw[pRead.eq_def] at h;dsimp only at h
  repeat' split at h
  all_goals first
   | (cases h;done)
   | (injection h with h;injection h with h;injection h with h1 h2;injection h2 with h2 h3;subst h3;first
     | (simp;done)
     | exact ih _ _ _ _ _ (by assumption)
     | exact pBraces_len _ _ _ (by assumption)
     | exact Nat.le_trans (ih _ _ _ _ _ (by assumption)) (ih _ _ _ _ _ (by assumption))
     | exact Nat.le_trans (ih _ _ _ _ _ (by assumption)) (Nat.le_trans (ih _ _ _ _ _ (by assumption)) (Nat.le_succ _)))
theorem SpAt.lt {w:World} (h:SpAt w):1 < w.heap.size:=by
 obtain⟨tt,fr,hx⟩:=h;rcases Nat.lt_or_ge 1 w.heap.size with h|h
 ·exact h
 ·rw[Array.getElem?_eq_none h] at hx;cases hx
theorem BD_keep {w w':World} {D D' V:Nat->Prop} (hk:Kp w w' V) (hd:∀ b,b < w.heap.size->D b->D' b/\¬ V b):∀ b t c,BD D w b t c->BD D' w' b t c:=
 fun b _ _ h=>⟨(hd b h.2.lt h.1).1,hk.blk h.2 (hd b h.2.lt h.1).2⟩
theorem BD_sub {w:World} {D D':Nat->Prop} (hd:∀ b,b < w.heap.size->D b->D' b):∀ b t c,BD D w b t c->BD D' w b t c:=
 fun b _ _ h=>⟨hd b h.2.lt h.1,h.2⟩
def BQ (w:World) (sb bk mb:Nat) (known:Tok->Bool) (lo:Nat) (G:Nat) (res:PRes) (v:Value) (wr:World):Prop:=
 ∃ ws' dn xs G' res',Kp w wr (fun b=>b=sb)/\RdInv wr sb bk mb known ws' lo/\wr.ownsRow 0 241 7 v dn.length xs/\(∀ b,own v b->New w b)/\dn.length+ws'.length<=1000 /\
  itemsL (BD (fun b=>New w b/\¬ own v b) wr) (Items (BD (fun b=>New w b/\¬ own v b) wr)) dn xs/\G'<=G/\pRead known G' ⟨false,lo,allEnds,[]⟩ (texts ws')=some res'/\res=consR dn res'
theorem bodyQ (G:Nat) (IH:∀ g,g < G->QItem g):QBody G:=by
 intro w sb bk mb known ws lo res hres h;obtain⟨i0,hi,hz0,hz1,hz2⟩:=info_parts Tryz.infoBI;have HI:=hide IH;clear IH;obtain⟨rv9,hb9,-⟩:=h.blk;have hsb:=hb9.lt;have h1w:=h.sp.lt;clear hb9;have H0:BQ w sb bk mb known lo G res (.slice none 0 0) w:=
  ⟨ws,[],[],G,res,Kp.refl _ _,h,World.ownsRow_nil _ _ _ _,fun b hb=>by simp[own,Value.ownBlock] at hb,by have:=h.len;simp;omega,rfl,Nat.le_refl _,hres,(consR_nil _).symm⟩
 have HH:=hide H0;clear H0 hres h;go_enter Tryz.func182,Tryz.ntmps182;go_wp2
 go_loopw [5] (fun v wr=>BQ w sb bk mb known lo G res v wr) (fun _ wr=>restOf wr sb)
 case atStart=>exact HH.out
 case round=>
  obtain⟨ws',dn,xs,G',res',hkp,hS,hrow,hnew,hdl,hits,hG,hp,hcons⟩:=hrel;have hmeas:=hS.rest;obtain⟨rv,hB,hT⟩:=hS.blk;obtain⟨ao1,cap1,rfl⟩:=hT.form;have c0:wr.cell? ⟨sb,0,none⟩=some (.slice ao1 ws'.length cap1):=hB.cell rfl;obtain⟨ao,cap,rfl⟩:=row_slice hrow
  cases G' with
  | zero=>rw[pB0] at hp;cases hp
  | succ g=>
  cases ws' with
  | nil=>
   rw[show texts []=[] from rfl,pB_nil] at hp;injection hp with hp;subst hp;have HR:Hid (res=.error 4):=hcons;have HB:=hide hB;clear hcons hits;go_wp2;refine bodyPost_ret (results_tmp3 rfl _ _ _) rfl ?_;rw[HR.out];exact⟨hkp,by decide,_,rfl,HB.out⟩
  | cons t wr'=>
   simp only[List.length_cons] at c0 hdl;rw[show texts (t :: wr')=t.data.toList :: texts wr' from rfl] at hp;have hok:=hS.ok t (by simp);have hlen:=hS.len;simp only[List.length_cons] at hlen hmeas;have HP:=hide hp;have HC:=hide hcons;have HT:=hide hits;have HS:=hide hS;clear hp hcons hits hT hS hB
   go_wp2_with fail
   refine (nextM _ sb bk mb lo known t wr' HS.out).mono ?_;rintro e w1 ⟨rfl,hk1,hS1⟩;have hsp:=hS1.sp
   go_wp2_with fail
   refine (kindQ _ _ hok hsp).mono ?_;rintro e w' ⟨rfl,hw⟩;rw[hw];clear hw
   go_wp2_with fail
   refine (endsM _ _).mono ?_;rintro e w' ⟨rfl,hw⟩;rw[hw];clear hw;rw[<-kdOf_ends];obtain⟨rv0,hB0,-⟩:=HS.out.blk;obtain⟨rv1,hB1,-⟩:=hS1.blk;have hrow1:=hk1.row hrow (fun b hb e=>by subst e;exact own_ne hrow hB0 (by decide) hb);have hkp1:=hkp.trans hk1;have hsz1:=hkp1.size;have hkeep1:=BD_keep (D:=fun b=>New w b/\¬ own (.slice ao dn.length cap) b) (D':=fun b=>New w b/\¬ own (.slice ao dn.length cap) b) hk1 (fun b _ hb=>⟨hb,fun e=>by have:w.heap.size<=b:=hb.1;omega⟩);have hits1:=itemsL_mono hkeep1 (fun _ _ h=>h.mono hkeep1) _ _ HT.out;clear hkeep1
   cases hany:allEnds.any (· == t.data.toList)
   ·have hitem:=pB_go _ _ _ _ _ _ hany _ HP.out;clear HT HP hB0 hrow hk1 hkp hsp c0 HS;rcases hitem with⟨e,hit,hre⟩|⟨xs1,t1,r2,res2,hit,hp2,hre⟩
    ·have HRE:Hid (res=.error e):=by have:=HC.out;rw[hre] at this;exact this
     clear hre HC hits1
     go_wp2_with fail
     refine (HI.out g (by omega) _ _ _ _ _ _ _ _ _ _ hit hS1 hok (by omega) (by rw[ByteArray.toList_eq];rfl) hany).mono ?_;clear hit;rintro x w2 ⟨hk2,her,k7,n7,pl7,nm7,a1,m1,p1,a2,m2,p2,a3,m3,p3,rv2,rfl,hB2⟩;have her':(e != 0)=true:=by simpa using her
     have hkp2:=hkp1.trans hk2;clear hk2 hrow1 hS1 hkp1;go_wp2;refine bodyPost_ret (results_tmp3 rfl _ _ _) rfl ?_;rw[HRE.out];exact⟨hkp2.alloc _,her,_,rfl,hB2.alloc _⟩
    ·have hit':=hit;have HRE:Hid (res=consR (dn ++ xs1) res2):=by have:=HC.out;rw[hre,consR_app] at this;exact this
     have HP2:=hide hp2;clear hre HC hp2
     go_wp2_with fail
     refine (HI.out g (by omega) _ _ _ _ _ _ _ _ _ _ hit hS1 hok (by omega) (by rw[ByteArray.toList_eq];rfl) hany).mono ?_;clear hit;rintro x w2 ⟨hk2,x',n7,pl7,nm,tv,va,vb,ws2,rfl,rfl,hat,htx,hS2⟩;have hwl:ws2.length<=wr'.length:=by have:=pRead_len _ _ _ _ _ _ _ hit';rw[<-htx] at this;simpa [texts] using this
     clear hit';obtain⟨ws5,hr5,-⟩:=hat.toks;obtain⟨xs3,hr3,-⟩:=hat.a.out;obtain⟨xs4,hr4,-⟩:=hat.b.out;obtain⟨a3,p3,rfl⟩:=hr3.form;obtain⟨a4,p4,rfl⟩:=hr4.form;obtain⟨a5,p5,hv5⟩:=hr5.form;rw[List.length_map] at hv5;subst hv5;have hrow2:=hk2.row hrow1 (fun b hb e=>by subst e;exact own_ne hrow1 hB1 (by decide) hb);have hkp2:=hkp1.trans hk2;have hsz2:=hkp2.size;have hsz12:=hk2.size;have HIt1:=hide hits1;have HAt:=hide hat;have hb1:∀ b,own (.slice ao dn.length cap) b->b < w1.heap.size:=fun b hb=>own_lt hrow1 hb;clear hrow1 hkp1 hr3 hr4 hr5 hits1 hat
     go_wp2_with (first
      | (at_builtin;refine wpList_append_to _ rfl _ _ 108 rfl 241 i0 (.agg zIt7) 7 112 Tryz.underlying108 hi hz0 hz1 hz2 rfl (by decide) _ _ _ rfl ((hrow2.alloc _).alloc _) ⟨w2.heap.size+1,0,none⟩ 1 1 [.int .i64 (kindP x'.kind),.int .i64 n7,.int .i64 pl7,.string nm,.slice a5 ws5.length p5,.slice a3 x'.a.length p3,.slice a4 x'.b.length p4] rfl rfl ?d1 ?d2 ?d3 ?d4 ?_)
      | go_in)
     case d1=>exact new_cells _ _ _ _
     case d2=>intro u hu;simp at hu;rcases hu with rfl|rfl|rfl|rfl|rfl|rfl|rfl <;> rfl
     case d3=>unfold maxLen;omega
     case d4=>omega
     intro v' w3 hown' hgrow hnx;have hB2:∃ rv2,Blk w2 sb 201 (rdArr rv2 bk lo)/\TokAt (BD (fun b=>b < sb) w2) rv2 ws2:=hS2.blk;obtain⟨rv2,hB2,hT2⟩:=hB2;have hB3:=grown_keep hgrow hB2 (own_ne hrow2 hB2 (by decide));have hkp3:Kp w w3 (fun b=>b=sb):=((hkp2.alloc _).alloc _).grown hgrow (fun b hb e=>by have:=hnew b e;omega);have hkg:Kp w2 w3 (fun b=>own (.slice ao dn.length cap) b):=(((Kp.refl w2 (fun b=>own (.slice ao dn.length cap) b)).alloc _).alloc _).grown hgrow (fun b _ e=>e);have hnv:∀ b,b < w2.heap.size->¬ own (.slice ao dn.length cap) b->¬ own v' b:=fun b hb hn hv=>by
      rcases hnx b hv with h1|h1
      ·exact hn h1
      ·omega
     have hnew':∀ b,own v' b->New w b:=fun b hb=>by
      rcases hnx b hb with h1|h1
      ·exact hnew b h1
      ·show w.heap.size<=b;omega
     have hka:=BD_keep (D:=fun b=>New w b/\¬ own (.slice ao dn.length cap) b) (D':=fun b=>New w b/\¬ own (.slice ao dn.length cap) b) hk2 (fun b _ hb=>⟨hb,fun e=>by have:w.heap.size<=b:=hb.1;omega⟩);have hkb:=BD_keep (D:=fun b=>New w b/\¬ own (.slice ao dn.length cap) b) (D':=fun b=>New w b/\¬ own v' b) hkg (fun b hb h=>⟨⟨h.1,hnv b hb h.2⟩,h.2⟩);have hkc:=BD_keep (D:=New w1) (D':=fun b=>New w b/\¬ own v' b) hkg (fun b hb h=>by
      have h:w1.heap.size<=b:=h;have hn:¬ own (.slice ao dn.length cap) b:=fun e=>by have:=hb1 b e;omega
      exact⟨⟨by show w.heap.size<=b;omega,hnv b hb hn⟩,hn⟩)
     have hS3:RdInv w3 sb bk mb known ws2 lo:=by
      have hg1:=hkg;obtain⟨nn,DD,hm,hl⟩:=hS2.book.look;have hnb:∀ b t c,Blk w2 b t c->t ≠ 241->¬ own (.slice ao dn.length cap) b:=fun b t c hb ht e=>own_ne hrow2 hb (fun e=>ht e.symm) e;have h1n:¬ own (.slice ao dn.length cap) 1:=by
       intro e;have:w.heap.size<=1:=hnew 1 e;omega
      exact⟨⟨rv2,hB3,TokAt_mono (fun b c hc=>⟨hc.1,hkg.blk hc.2 (hnb b 9 c hc.2 (by decide))⟩) hT2⟩,hS2.book.kp hkg (hnb bk _ _ hS2.book.blk (by decide)) (fun e=>by obtain⟨c,hc⟩:=row_blk hrow2 e;exact map_ne hm hc rfl),hS2.len,hS2.ok,hS2.sp.kp hkg h1n,hS2.s1⟩
     have hat:=HAt.out;have HN:BQ w sb bk mb known lo G res v' w3:=by
      refine⟨ws2,dn ++ [x'],xs ++ [.int .i64 (kindP x'.kind),.int .i64 n7,.int .i64 pl7,.string nm,.slice a5 ws5.length p5,.slice a3 x'.a.length p3,.slice a4 x'.b.length p4],g,res2,hkp3,hS3,by simpa using hown',hnew',by simp;omega,?_,by omega,by rw[htx];exact HP2.out,HRE.out⟩;refine itemsL_app _ _ _ _ (itemsL_mono (fun b t c h=>hkb b t c (hka b t c h)) (fun _ _ h=>h.mono (fun b t c h=>hkb b t c (hka b t c h))) _ _ HIt1.out) ?_;exact⟨_,_,_,_,_,_,[],rfl,hat.mono hkc (fun _ _ h=>h.mono hkc),rfl⟩
     have hm2:=hS3.rest;clear hown' hgrow hnx hrow2 hkp2 hS2 hB3 hkp3 hka hkb hkc hnv hnew' hb1 hk2 hB1 hB2 hT2 hkg hat hS3;go_wp2
     go_roundw
     case rel=>exact HN
     case measure=>rw[hmeas,hm2];omega
   ·have hp:=HP.out;rw[pB_stop _ _ _ _ _ _ hany] at hp;injection hp with hp;subst hp;have HRE:Hid (res=.ok (dn,t.data.toList,texts wr')):=by unfold Hid;rw[HC.out];simp[consR]
    have hkd:=ends_kind hany;rw[hkd];clear HT HP hB0 hrow hk1 hkp hsp c0 HS HC hkd;go_wp2;refine bodyPost_ret (results_tmp3 rfl _ _ _) rfl ?_;rw[HRE.out];have hsub:=BD_sub (w:=w1) (D:=fun b=>New w b/\¬ own (.slice ao dn.length cap) b) (D':=New w) (fun b _ h=>h.1);exact⟨hkp1,_,wr',rfl,Items.of (rowZ.of hrow1 hnew) (itemsL_mono hsub (fun _ _ h=>h.mono hsub) _ _ hits1) (by omega),rfl,hS1⟩
end
section
open Go.RowKit
theorem in_spell {l:List UInt8} (hl:l ≠ []) (h:kindN l=0):∀ x∈spellL,(x == l)=false:=by
 unfold kindN at h
 cases hf:spellL.findIdx? (· == l) with
 | none=>exact List.findIdx?_eq_none_iff.1 hf
 | some k=>
  rw[hf] at h;have h:k=0:=h;subst h;obtain⟨hlt,hk,_⟩:=List.findIdx?_eq_some_iff_getElem.1 hf;exact absurd (beq_iff_eq.1 hk).symm hl
theorem kind_plainN {l:List UInt8} {j:Nat} (hl:l ≠ []) (h:plainL.findIdx? (· == l)=some j):kindN l=j+2/\j < 16:=by
 have h2:([[],[]]:List (List UInt8)).findIdx? (· == l)=none:=by
  rw[List.findIdx?_eq_none_iff];intro x hx;simp at hx;subst hx;rw[beq_eq_false_iff_ne];exact fun e=>hl e.symm
 constructor
 ·unfold kindN spellL;rw[List.findIdx?_append,h2,List.findIdx?_append,h];rfl
 ·obtain⟨hlt,_⟩:=List.findIdx?_eq_some_iff_getElem.1 h;exact hlt
theorem kd_cases {l:List UInt8} (hl:l ≠ []) (he:allEnds.any (· == l)=false):
  (∃ n,numP l=some n/\kdOf l=1)\/(numP l=none/\∃ j,plainL.findIdx? (· == l)=some j/\kdOf l=(j:Int)+2/\j < 16)\/(numP l=none/\kdOf l=0/\∀ x∈spellL,(x == l)=false) \/
  l=kColon\/l=kOpen\/l=kClose\/l=kIf\/l=kBegin\/l=kDo\/l=kI\/l=kRecurse\/l=kExit:=by
 cases hn:numP l with
 | some n=>exact .inl ⟨n,rfl,by unfold kdOf;rw[hn];rfl⟩
 | none=>
  right
  cases hp:plainL.findIdx? (· == l) with
  | some j=>
   obtain⟨h1,h2⟩:=kind_plainN hl hp;exact .inl ⟨rfl,j,rfl,by unfold kdOf;rw[hn,h1];simp,h2⟩
  | none=>
   right
   by_cases h0:kindN l=0
   ·exact .inl ⟨rfl,by unfold kdOf;rw[hn,h0];rfl,in_spell hl h0⟩
   ·right
    have hs:=kindN_at rfl h0;have hlt:kindN l < 34:=by
     rcases Nat.lt_or_ge (kindN l) 34 with h|h
     ·exact h
     ·rw[List.getElem?_eq_none (by exact h)] at hs;cases hs
    generalize kindN l=i at hs h0 hlt;have:i=1\/i=2\/i=3\/i=4\/i=5\/i=6\/i=7\/i=8\/i=9\/i=10\/i=11\/i=12\/i=13\/i=14\/i=15\/i=16\/i=17\/i=18\/i=19\/i=20\/i=21\/i=22\/i=23\/i=24\/i=25\/i=26\/i=27\/i=28\/i=29\/i=30\/i=31\/i=32\/i=33:=by omega
    rcases this with rfl|rfl|rfl|rfl|rfl|rfl|rfl|rfl|rfl|rfl|rfl|rfl|rfl|rfl|rfl|rfl|rfl|rfl|rfl|rfl|rfl|rfl|rfl|rfl|rfl|rfl|rfl|rfl|rfl|rfl|rfl|rfl|rfl
    all_goals
     injection hs with hs;subst hs
     first
      | (exact absurd rfl hl)
      | (exact absurd he (by decide))
      | (exact .inl rfl)
      | (exact .inr (.inl rfl))
      | (exact .inr (.inr (.inl rfl)))
      | (exact .inr (.inr (.inr (.inl rfl))))
      | (exact .inr (.inr (.inr (.inr (.inl rfl)))))
      | (exact .inr (.inr (.inr (.inr (.inr (.inl rfl))))))
      | (exact .inr (.inr (.inr (.inr (.inr (.inr (.inl rfl)))))))
      | (exact .inr (.inr (.inr (.inr (.inr (.inr (.inr (.inl rfl))))))))
      | (exact .inr (.inr (.inr (.inr (.inr (.inr (.inr (.inr rfl))))))))
      | (exact absurd hp (by decide))
theorem itm_leaf {w w':World} (k:Nat) (n n' pl:Int) (nm:ByteArray) (name:Tok) (hk:k=110\/k=112\/k=99\/k=105\/k=114\/k=120) (h0:k=110->n'=n/\In n) (h1:k=112->∃ j,plainL.findIdx? (· == name)=some j/\pl=(j:Int)+2) (h2:k=99->nm.data.toList=name/\nm.size<=1000):
  PItm (BD (New w) w') (Items (BD (New w) w')) ⟨k,n,name,[],[],[]⟩ n' pl nm (.slice none 0 0) (.slice none 0 0) (.slice none 0 0):=by
 refine⟨?_,h0,h1,h2,⟨[],.inl ⟨rfl,rfl⟩,fun h=>?_⟩,Items.nil _,Items.nil _⟩
 ·rcases hk with h|h|h|h|h|h <;> simp[h]
 ·have h:k=123:=h
  exfalso
  clear h0 h1 h2;omega
end
section
open Go.RowKit
theorem Blk.seven {w:World} {b:Nat} {t:TypeId} {a0 a1 a2 a3 a4 a5 a6:Value} (h:Blk w b t #[a0,a1,a2,a3,a4,a5,a6]):
  w.cell? ⟨b,0,none⟩=some a0/\w.cell? ⟨b,1,none⟩=some a1/\w.cell? ⟨b,2,none⟩=some a2/\w.cell? ⟨b,3,none⟩=some a3/\w.cell? ⟨b,4,none⟩=some a4/\w.cell? ⟨b,5,none⟩=some a5/\w.cell? ⟨b,6,none⟩=some a6:=
 ⟨h.cell rfl,h.cell rfl,h.cell rfl,h.cell rfl,h.cell rfl,h.cell rfl,h.cell rfl⟩
theorem Blk.sevenF {w:World} {b:Nat} {t:TypeId} {c:Array Value} (h:Blk w b t c):
  w.frozen? ⟨b,0,none⟩=false/\w.frozen? ⟨b,1,none⟩=false/\w.frozen? ⟨b,2,none⟩=false/\w.frozen? ⟨b,3,none⟩=false/\w.frozen? ⟨b,4,none⟩=false/\w.frozen? ⟨b,5,none⟩=false/\w.frozen? ⟨b,6,none⟩=false:=
 ⟨h.free 0,h.free 1,h.free 2,h.free 3,h.free 4,h.free 5,h.free 6⟩
theorem Blk.set7 {w:World} {b:Nat} {t:TypeId} {a0 a1 a2 a3 a4 a5 a6:Value} (h:Blk w b t #[a0,a1,a2,a3,a4,a5,a6]) (v0 v1 v2 v3 v4 v5 v6:Value):
  Blk (((((((w.setCell ⟨b,0,none⟩ v0).setCell ⟨b,1,none⟩ v1).setCell ⟨b,2,none⟩ v2).setCell ⟨b,3,none⟩ v3).setCell ⟨b,4,none⟩ v4).setCell ⟨b,5,none⟩ v5).setCell ⟨b,6,none⟩ v6) b t #[v0,v1,v2,v3,v4,v5,v6]:=by
 have h1:Blk (w.setCell ⟨b,0,none⟩ v0) b t #[v0,a1,a2,a3,a4,a5,a6]:=h.set 0 v0;have h2:Blk ((w.setCell ⟨b,0,none⟩ v0).setCell ⟨b,1,none⟩ v1) b t #[v0,v1,a2,a3,a4,a5,a6]:=h1.set 1 v1;have h3:Blk (((w.setCell ⟨b,0,none⟩ v0).setCell ⟨b,1,none⟩ v1).setCell ⟨b,2,none⟩ v2) b t #[v0,v1,v2,a3,a4,a5,a6]:=h2.set 2 v2;have h4:Blk ((((w.setCell ⟨b,0,none⟩ v0).setCell ⟨b,1,none⟩ v1).setCell ⟨b,2,none⟩ v2).setCell ⟨b,3,none⟩ v3) b t #[v0,v1,v2,v3,a4,a5,a6]:=h3.set 3 v3;have h5:Blk (((((w.setCell ⟨b,0,none⟩ v0).setCell ⟨b,1,none⟩ v1).setCell ⟨b,2,none⟩ v2).setCell ⟨b,3,none⟩ v3).setCell ⟨b,4,none⟩ v4) b t #[v0,v1,v2,v3,v4,a5,a6]:=h4.set 4 v4;have h6:Blk ((((((w.setCell ⟨b,0,none⟩ v0).setCell ⟨b,1,none⟩ v1).setCell ⟨b,2,none⟩ v2).setCell ⟨b,3,none⟩ v3).setCell ⟨b,4,none⟩ v4).setCell ⟨b,5,none⟩ v5) b t #[v0,v1,v2,v3,v4,v5,a6]:=h5.set 5 v5;have h7:Blk (((((((w.setCell ⟨b,0,none⟩ v0).setCell ⟨b,1,none⟩ v1).setCell ⟨b,2,none⟩ v2).setCell ⟨b,3,none⟩ v3).setCell ⟨b,4,none⟩ v4).setCell ⟨b,5,none⟩ v5).setCell ⟨b,6,none⟩ v6) b t #[v0,v1,v2,v3,v4,v5,v6]:=h6.set 6 v6;exact h7
theorem Kp.set7 {w w1:World} {S:Nat->Prop} {b:Nat} (h:Kp w w1 S) (hb:w.heap.size<=b) (v0 v1 v2 v3 v4 v5 v6:Value):
  Kp w (((((((w1.setCell ⟨b,0,none⟩ v0).setCell ⟨b,1,none⟩ v1).setCell ⟨b,2,none⟩ v2).setCell ⟨b,3,none⟩ v3).setCell ⟨b,4,none⟩ v4).setCell ⟨b,5,none⟩ v5).setCell ⟨b,6,none⟩ v6) S:=by
 have hn:∀ o,(⟨b,o,none⟩:Addr).block < w.heap.size->S (⟨b,o,none⟩:Addr).block:=fun o hlt=>absurd hlt (by show ¬ b < _;omega);exact ((((((h.set (hn 0) v0).set (hn 1) v1).set (hn 2) v2).set (hn 3) v3).set (hn 4) v4).set (hn 5) v5).set (hn 6) v6
theorem Blk.other7 {w:World} {b b':Nat} {t:TypeId} {c:Array Value} (h:Blk w b t c) (hb:b ≠ b') (v0 v1 v2 v3 v4 v5 v6:Value):
  Blk (((((((w.setCell ⟨b',0,none⟩ v0).setCell ⟨b',1,none⟩ v1).setCell ⟨b',2,none⟩ v2).setCell ⟨b',3,none⟩ v3).setCell ⟨b',4,none⟩ v4).setCell ⟨b',5,none⟩ v5).setCell ⟨b',6,none⟩ v6) b t c:=
 ((((((h.setOther (a:=⟨b',0,none⟩) hb v0).setOther (a:=⟨b',1,none⟩) hb v1).setOther (a:=⟨b',2,none⟩) hb v2).setOther (a:=⟨b',3,none⟩) hb v3).setOther (a:=⟨b',4,none⟩) hb v4).setOther (a:=⟨b',5,none⟩) hb v5).setOther (a:=⟨b',6,none⟩) hb v6
theorem itQ_num (w:World) (sb bk mb:Nat) (known:Tok->Bool) (ws:List ByteArray) (lo:Nat) (tb:ByteArray) (n:Int) (hn:numP tb.toList=some n) (h:RdInv w sb bk mb known ws lo) (ho:okW tb):
  Calls Tryz.prog 198 #[pt sb,.string tb,.int .i64 1] w fun x w'=>Kp w w' (fun b=>b=sb)/\QIt w sb bk mb known lo x w' (.ok ([⟨110,n,[],[],[],[]⟩],[],texts ws)):=by
 have HV:Hid (∀ w,Calls Tryz.prog 70 #[.string tb] w fun e w'=>e=.returned (.int .i64 n)/\Kp w w' (fun _=>False)):=fun w=>valueM tb n w hn ho.2;obtain⟨rv,hB,hT⟩:=h.blk;have hsb:=hB.lt;have hcs:sb ≠ w.heap.size:=by omega
 have HN:=hide hn;clear hn;go_enter Tryz.func198,Tryz.ntmps198
 go_wp2_with fail
 refine (HV.out _).mono ?_;rintro e w1 ⟨rfl,hk1⟩;have hZ:=hk1.blk (Blk.new w zIt7 241) (by simp);have hkp:Kp w w1 (fun b=>b=sb):=((Kp.refl _ _).alloc _).trans (hk1.mono (fun _ _ h=>h.elim));have hB1:=hk1.blk (hB.alloc _) (by simp);obtain⟨y0,y1,y2,y3,y4,y5,y6⟩:=hZ.seven;obtain⟨z0,z1,z2,z3,z4,z5,z6⟩:=hZ.sevenF;go_wp2;have hC2:=hZ.set7 (.int .i64 0) (.int .i64 n) (.int .i64 0) (.string ⟨#[]⟩) (.slice none 0 0) (.slice none 0 0) (.slice none 0 0);have hK2:=hkp.set7 (Nat.le_refl _) (.int .i64 0) (.int .i64 n) (.int .i64 0) (.string ⟨#[]⟩) (.slice none 0 0) (.slice none 0 0) (.slice none 0 0);have hB2:=hB1.other7 hcs (.int .i64 0) (.int .i64 n) (.int .i64 0) (.string ⟨#[]⟩) (.slice none 0 0) (.slice none 0 0) (.slice none 0 0);generalize (((((((w1.setCell ⟨w.heap.size,0,none⟩ (.int .i64 0)).setCell ⟨w.heap.size,1,none⟩ (.int .i64 n)).setCell ⟨w.heap.size,2,none⟩ (.int .i64 0)).setCell ⟨w.heap.size,3,none⟩ (.string ⟨#[]⟩)).setCell ⟨w.heap.size,4,none⟩ (.slice none 0 0)).setCell ⟨w.heap.size,5,none⟩ (.slice none 0 0)).setCell ⟨w.heap.size,6,none⟩ (.slice none 0 0))=wf at hC2 hK2 hB2 ⊢;obtain⟨q0,q1,q2,q3,q4,q5,q6⟩:=hC2.seven;refine bodyPost_ret (v:=.tuple #[.agg #[.int .i64 0,.int .i64 n,.int .i64 0,.string ⟨#[]⟩,.slice none 0 0,.slice none 0 0,.slice none 0 0],.int .i64 0]) (by simp[results,Tryz.results198,go_sem,q0,q1,q2,q3,q4,q5,q6]) rfl ?_;exact⟨hK2,_,_,_,_,_,_,_,ws,rfl,rfl,itm_leaf 110 n n 0 _ [] (by simp) (fun _=>⟨rfl,numP_range HN.out⟩) (by simp) (by simp),rfl,h.to hK2 rv hB2 hT h.len h.ok⟩
theorem itQ_plain (w:World) (sb bk mb:Nat) (known:Tok->Bool) (ws:List ByteArray) (lo:Nat) (tb:ByteArray) (j:Nat) (hj:j < 16) (K:Int) (hK:K=(j:Int)+2) (hp:plainL.findIdx? (· == tb.data.toList)=some j) (h:RdInv w sb bk mb known ws lo):
  Calls Tryz.prog 198 #[pt sb,.string tb,.int .i64 K] w fun x w'=>Kp w w' (fun b=>b=sb)/\QIt w sb bk mb known lo x w' (.ok ([⟨112,0,tb.data.toList,[],[],[]⟩],[],texts ws)):=by
 obtain⟨rv,hB,hT⟩:=h.blk;have hsb:=hB.lt;have hKa:2<=K:=by omega
 have hKb:K<=17:=by omega
 have HK:=hide hK;have HP:=hide hp;clear hK hp hj;go_enter Tryz.func198,Tryz.ntmps198
 go_wp2_with fail
 refine (kindPlain _ _).mono ?_;rintro e w' ⟨rfl,hw⟩;rw[hw];clear hw;have hb:decide (2<=K/\K<=17)=true:=decide_eq_true ⟨hKa,hKb⟩;rw[hb];go_wp2;have hK2:Kp w (w.alloc (.cells #[.int .i64 1,.int .i64 0,.int .i64 K,.string ⟨#[]⟩,.slice none 0 0,.slice none 0 0,.slice none 0 0] 241)) (fun b=>b=sb):=(Kp.refl _ _).alloc _;have hB2:Blk (w.alloc (.cells #[.int .i64 1,.int .i64 0,.int .i64 K,.string ⟨#[]⟩,.slice none 0 0,.slice none 0 0,.slice none 0 0] 241)) sb 201 (rdArr rv bk lo):=hB.alloc _;refine bodyPost_ret (v:=.tuple #[.agg #[.int .i64 1,.int .i64 0,.int .i64 K,.string ⟨#[]⟩,.slice none 0 0,.slice none 0 0,.slice none 0 0],.int .i64 0]) (by simp[results,Tryz.results198,go_sem]) rfl ?_;exact⟨hK2,_,_,_,_,_,_,_,ws,rfl,rfl,itm_leaf 112 0 0 K _ tb.data.toList (by simp) (by simp) (fun _=>⟨j,HP.out,HK.out⟩) (by simp),rfl,h.to hK2 rv hB2 hT h.len h.ok⟩
theorem itQ_word (w:World) (sb bk mb:Nat) (known:Tok->Bool) (ws:List ByteArray) (lo:Nat) (tb:ByteArray) (h:RdInv w sb bk mb known ws lo) (ho:okW tb) (res:PRes) (hres:res=if known tb.data.toList=true then .ok ([⟨99,0,tb.data.toList,[],[],[]⟩],[],texts ws) else .error 3):
  Calls Tryz.prog 198 #[pt sb,.string tb,.int .i64 0] w fun x w'=>Kp w w' (fun b=>b=sb)/\QIt w sb bk mb known lo x w' res:=by
 obtain⟨rv,hB,hT⟩:=h.blk;have hsb:=hB.lt;have hB1:Blk (w.alloc (.cells #[.int .i64 0,.int .i64 0,.int .i64 0,.string ⟨#[]⟩,.slice none 0 0,.slice none 0 0,.slice none 0 0] 241)) sb 201 (rdArr rv bk lo):=hB.alloc _;have c1:(w.alloc (.cells #[.int .i64 0,.int .i64 0,.int .i64 0,.string ⟨#[]⟩,.slice none 0 0,.slice none 0 0,.slice none 0 0] 241)).cell? ⟨sb,1,none⟩=some (.func (.func 74) #[pt bk] #[]):=hB1.cell rfl;have HH:=hide (hasM _ bk mb known (h.book.kp ((Kp.refl _ (fun _=>False)).alloc (.cells #[.int .i64 0,.int .i64 0,.int .i64 0,.string ⟨#[]⟩,.slice none 0 0,.slice none 0 0,.slice none 0 0] 241)) (by simp) (by simp)) tb (Nat.le_trans ho.2 (by decide)));have hen:=ent_has;unfold Ents at hen;go_enter Tryz.func198,Tryz.ntmps198
 go_wp2_with fail
 refine (kindPlain _ _).mono ?_;rintro e w' ⟨rfl,hw⟩;rw[hw];clear hw;rw[show decide ((2:Int)<=0/\(0:Int)<=17)=false by decide]
 go_wp2_with fail
 refine HH.out.mono ?_;rintro e w' ⟨rfl,hw⟩;rw[hw];clear hw
 cases hkn:known tb.data.toList
 ·rw[hkn] at hres;have HR:Hid (res=.error 3):=hres;clear hres;go_wp2;have hK2:Kp w (w.alloc (.cells #[.int .i64 0,.int .i64 0,.int .i64 0,.string ⟨#[]⟩,.slice none 0 0,.slice none 0 0,.slice none 0 0] 241)) (fun b=>b=sb):=(Kp.refl _ _).alloc _;have hB2:Blk (w.alloc (.cells #[.int .i64 0,.int .i64 0,.int .i64 0,.string ⟨#[]⟩,.slice none 0 0,.slice none 0 0,.slice none 0 0] 241)) sb 201 (rdArr rv bk lo):=hB.alloc _;refine bodyPost_ret (v:=.tuple #[.agg #[.int .i64 0,.int .i64 0,.int .i64 0,.string ⟨#[]⟩,.slice none 0 0,.slice none 0 0,.slice none 0 0],.int .i64 3]) (by simp[results,Tryz.results198,go_sem]) rfl ?_;rw[HR.out];exact⟨hK2,by decide,_,_,_,_,_,_,_,_,_,_,_,_,_,_,rfl,hB2⟩
 ·rw[hkn] at hres;have HR:Hid (res=.ok ([⟨99,0,tb.data.toList,[],[],[]⟩],[],texts ws)):=hres;clear hres;go_wp2;have hK2:Kp w (w.alloc (.cells #[.int .i64 2,.int .i64 0,.int .i64 0,.string tb,.slice none 0 0,.slice none 0 0,.slice none 0 0] 241)) (fun b=>b=sb):=(Kp.refl _ _).alloc _;have hB2:Blk (w.alloc (.cells #[.int .i64 2,.int .i64 0,.int .i64 0,.string tb,.slice none 0 0,.slice none 0 0,.slice none 0 0] 241)) sb 201 (rdArr rv bk lo):=hB.alloc _;refine bodyPost_ret (v:=.tuple #[.agg #[.int .i64 2,.int .i64 0,.int .i64 0,.string tb,.slice none 0 0,.slice none 0 0,.slice none 0 0],.int .i64 0]) (by simp[results,Tryz.results198,go_sem]) rfl ?_;rw[HR.out];exact⟨hK2,_,_,_,_,_,_,_,ws,rfl,rfl,itm_leaf 99 0 0 0 tb tb.data.toList (by simp) (by simp) (by simp) (fun _=>⟨rfl,ho.2⟩),rfl,h.to hK2 rv hB2 hT h.len h.ok⟩
end
end Go.Proofs.YteainaiebcphlaaGreatDoor
