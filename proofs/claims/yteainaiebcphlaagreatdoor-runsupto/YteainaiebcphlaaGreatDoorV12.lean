import Derived.Test.YteainaiebcphlaaGreatDoorV7
import Derived.Test.YteainaiebcphlaaGreatDoorV8
import Derived.Laws.AppendOwnNone
import Derived.Deep.RegionWith
namespace Go.Proofs.YteainaiebcphlaaGreatDoor
set_option maxRecDepth 1000000
set_option maxHeartbeats 4000000
set_option linter.all false
section
open Go.RowKit
variable {K:Nat->Prop}
structure SGood (s:St):Prop where
 g:Good s.rs s.mem s.out
 s0:0<=s.steps
 s1:s.steps<=2001
 s2:s.e=0->s.steps<=2000
 d0:0<=s.depth
 d1:s.depth<=20
 b0:0<=s.built
 b1:s.built<=3
 cb:∀ d∈s.defs,∀ g names,callsG g d.body=some names->names.length<=1000
structure RRel (K:Nat->Prop) (w:World) (yb:Nat) (rs:RS) (s:St):Prop where
 inv:∃ ns,RInv w yb rs ns/\(s.e=0->ns=s.rs.reverse)
 e:rs.e=s.e
 st:rs.st=s.steps
 mem:rs.mem=s.mem
 out:rs.out=s.out
 ids:rs.d.ids=s.ids
 hot:rs.d.hot=s.hot
 blt:rs.d.blt=s.built
 dp:rs.d.dp=s.depth
 dr:DRel K w rs.d.dv s.defs
 good:SGood s
abbrev STo (yb:Nat) (w w':World) (rs rs':RS):Prop:=To (fun k=>k=yb) w w' (fun k=>own rs.nv k\/own rs.d.dv k) (fun k=>own rs'.nv k\/own rs'.d.dv k)
theorem RRel.blk {w:World} {yb:Nat} {rs:RS} {s:St} (h:RRel K w yb rs s):Blk w yb 67 rs.arr:=by obtain⟨ns,hi,_⟩:=h.inv;exact hi.blk
theorem RRel.noB {w:World} {yb:Nat} {rs:RS} {s:St} (h:RRel K w yb rs s):NoB w (fun k=>k=yb\/(own rs.nv k\/own rs.d.dv k)):=by
 obtain⟨ns,hi,_⟩:=h.inv;obtain⟨xs,hr,_⟩:=h.dr.ex;rintro b t c (e|e|e) hb
 ·subst e;have:=(hb.inj hi.blk).1;subst this;exact⟨by decide,by decide⟩
 ·have:=row_type hi.row e hb;subst this;exact⟨by decide,by decide⟩
 ·have:=row_type hr e hb;subst this;exact⟨by decide,by decide⟩
theorem RTo.noB {w:World} {yb:Nat} {rs:RS} {ns:List Int} (hi:RInv w yb rs ns):NoB w (fun k=>k=yb\/own rs.nv k):=by
 rintro b t c (e|e) hb
 ·subst e;have:=(hb.inj hi.blk).1;subst this;exact⟨by decide,by decide⟩
 ·have:=row_type hi.row e hb;subst this;exact⟨by decide,by decide⟩
theorem RTo.noD {w:World} {yb:Nat} {rs:RS} {ns:List Int} (hi:RInv w yb rs ns) (b:Nat) (c:Array Value) (h:b=yb\/own rs.nv b):¬ Blk w b 95 c:=by
 intro hb;rcases h with e|e
 ·subst e;exact absurd (hb.inj hi.blk).1 (by decide)
 ·exact absurd (row_type hi.row e hb) (by decide)
theorem RTo.sto {w w':World} {yb:Nat} {rs rs':RS} (h:RTo yb w w' rs rs') (hd:rs'.d.dv=rs.d.dv):STo yb w w' rs rs':=
 ⟨(To.kp h).mono (fun k _ hk=>hk.imp_right .inl),fun k hk=>by
  rcases hk with hk|hk
  ·rcases To.nx h k hk with h1|h1
   ·exact .inl (.inl h1)
   ·exact .inr h1
  ·rw[hd] at hk;exact .inl (.inr hk)⟩
theorem DRel.rto {w w':World} {yb:Nat} {rs rs':RS} {ns:List Int} {defs:List Def} (hi:RInv w yb rs ns) (h:RTo yb w w' rs rs') (hd:DRel K w rs.d.dv defs):DRel K w' rs.d.dv defs:=
 hd.kp (To.kp h) (RTo.noB hi) (RTo.noD hi)
theorem RRel.turn {w w':World} {yb:Nat} {rs rs':RS} {s s':St} (h:RRel K w yb rs s) (hto:RTo yb w w' rs rs') (hd:rs'.d=rs.d) (hi:∃ ns,RInv w' yb rs' ns/\(s'.e=0->ns=s'.rs.reverse))
  (he:rs'.e=s'.e) (hst:rs'.st=s'.steps) (hm:rs'.mem=s'.mem) (ho:rs'.out=s'.out) (h1:s'.ids=s.ids) (h2:s'.hot=s.hot) (h3:s'.built=s.built) (h4:s'.depth=s.depth) (h5:s'.defs=s.defs) (hg:SGood s'):RRel K w' yb rs' s'/\STo yb w w' rs rs':=by
 obtain⟨ns,hi0,_⟩:=h.inv;refine⟨⟨hi,he,hst,hm,ho,by rw[hd,h.ids,h1],by rw[hd,h.hot,h2],by rw[hd,h.blt,h3],by rw[hd,h.dp,h4],?_,hg⟩,hto.sto (by rw[hd])⟩;rw[hd,h5];exact DRel.rto hi0 hto h.dr
theorem stepR_full (w:World) (yb:Nat) (s:RS) (ns:List Int) (h:RInv w yb s ns) (he:s.e=0) (h1:s.st=2000):
  Calls Tryz.prog 85 #[.pointer (some ⟨yb,0,none⟩)] w fun e w'=>e=.returned (.bool false)/\RInv w' yb { s with e:=12,st:=2001 } ns/\RTo yb w w' s { s with e:=12,st:=2001 }:=by
 have c1:w.cell? ⟨yb,21,none⟩=some (.int .i64 0):=h.blk.cell (by rw[<-he];rfl);have c2:w.cell? ⟨yb,22,none⟩=some (.int .i64 2000):=h.blk.cell (by rw[<-h1];rfl);have f1:=h.blk.free 21;have f2:=h.blk.free 22;clear he h1;go_enter Tryz.func85,Tryz.ntmps85;go_wp2;go_ret;refine⟨rfl,(h.setE 12).setSt 2001,?_⟩;exact (RTo.set (s':={ s with e:=12 }) rfl 21 _).trans (RTo.set (s:={ s with e:=12 }) rfl 22 _)
theorem stepS (w:World) (yb:Nat) (rs:RS) (s:St) (h:RRel K w yb rs s) (he:s.e=0):
  Calls Tryz.prog 85 #[.pointer (some ⟨yb,0,none⟩)] w fun e w'=>e=.returned (.bool (decide (s.step.e=0)))/\∃ rs',RRel K w' yb rs' s.step/\STo yb w w' rs rs'/\rs'.nv=rs.nv:=by
 obtain⟨ns,hi,hns⟩:=h.inv;have hg:=h.good;by_cases hlt:s.steps < 2000
 ·have hs:s.step={ s with steps:=s.steps+1 }:=by unfold St.step;rw[if_pos hlt]
  refine (stepR w yb rs ns hi (by rw[h.e,he]) (by rw[h.st];exact hg.s0) (by rw[h.st];exact hlt)).mono ?_;rintro e w' ⟨rfl,hi',hto⟩;rw[hs];refine⟨by rw[decide_eq_true (show ({ s with steps:=s.steps+1 }:St).e=0 from he)],_,(h.turn (s':={ s with steps:=s.steps+1 }) hto rfl ⟨ns,hi',hns⟩ h.e (by show rs.st+1=s.steps+1;rw[h.st]) h.mem h.out rfl rfl rfl rfl rfl ?_).1,hto.sto rfl,rfl⟩;exact⟨hg.g,by have:=hg.s0;show 0<=s.steps+1;omega,by show s.steps+1<=2001;omega,fun _=>by show s.steps+1<=2000;omega,hg.d0,hg.d1,hg.b0,hg.b1,hg.cb⟩
 ·have h20:s.steps=2000:=by have:=hg.s2 he;omega
  have hs:s.step={ s with e:=12,steps:=s.steps+1 }:=by unfold St.step;rw[if_neg hlt]
  refine (stepR_full w yb rs ns hi (by rw[h.e,he]) (by rw[h.st,h20])).mono ?_;rintro e w' ⟨rfl,hi',hto⟩;rw[hs];refine⟨rfl,_,(h.turn (s':={ s with e:=12,steps:=s.steps+1 }) hto rfl ⟨ns,hi',(fun h=>by cases h)⟩ rfl (by show 2001=s.steps+1;rw[h20];rfl) h.mem h.out rfl rfl rfl rfl rfl ?_).1,hto.sto rfl,rfl⟩;exact⟨hg.g,by have:=hg.s0;show 0<=s.steps+1;omega,by show s.steps+1<=2001;omega,(fun h=>by cases h),hg.d0,hg.d1,hg.b0,hg.b1,hg.cb⟩
theorem putS (w:World) (yb:Nat) (rs:RS) (s:St) (n:Int) (h:RRel K w yb rs s) (he:s.e=0) (hn:In n):
  Calls Tryz.prog 87 #[.pointer (some ⟨yb,0,none⟩),.int .i64 n] w fun e w'=>e=.returned (.tuple #[])/\∃ rs',RRel K w' yb rs' (s.put n)/\STo yb w w' rs rs':=by
 obtain⟨ns,hi,hns⟩:=h.inv;have hg:=h.good;have hns:=hns he;subst hns;by_cases hlt:s.rs.length < 32
 ·have hs:s.put n={ s with rs:=n :: s.rs }:=by unfold St.put;rw[if_pos hlt]
  refine (layR1 w yb rs s.rs n hi (by rw[h.e,he]) hlt).mono ?_;rintro e w' ⟨rfl,v',hi',hto⟩;rw[hs];refine⟨rfl,_,h.turn hto rfl ⟨_,hi',fun _=>rfl⟩ h.e h.st h.mem h.out rfl rfl rfl rfl rfl ?_⟩;exact⟨⟨by simp only[List.mem_cons,forall_eq_or_imp];exact⟨hn,hg.g.ins⟩,hg.g.mems,by simp only[List.length_cons];omega,hg.g.osz⟩,hg.s0,hg.s1,hg.s2,hg.d0,hg.d1,hg.b0,hg.b1,hg.cb⟩
 ·have hs:s.put n={ s with e:=7 }:=by unfold St.put;rw[if_neg hlt]
  refine (layR_full w yb rs _ n hi (by rw[h.e,he]) (by have:=hg.g.len;simp;omega)).mono ?_;rintro e w' ⟨rfl,hi',hto⟩;rw[hs];refine⟨rfl,_,h.turn hto rfl ⟨_,hi',(fun h=>by cases h)⟩ rfl h.st h.mem h.out rfl rfl rfl rfl rfl ?_⟩;exact⟨hg.g,hg.s0,hg.s1,(fun h=>by cases h),hg.d0,hg.d1,hg.b0,hg.b1,hg.cb⟩
theorem wordS (w:World) (yb:Nat) (rs:RS) (s:St) (k:Nat) (t:ByteArray) (hk:plainL[k]? = some t.toList) (h:RRel K w yb rs s) (he:s.e=0):
  Calls Tryz.prog 88 #[.pointer (some ⟨yb,0,none⟩),.string t] w fun e w'=>e=.returned (.tuple #[])/\∃ rs',RRel K w' yb rs' (s.word k)/\STo yb w w' rs rs':=by
 obtain⟨ns,hi,hns⟩:=h.inv;have hg:=h.good;have hns:=hns he;subst hns;refine (plainR_all k t hk w yb rs s.rs hi (by rw[h.e,he]) (by rw[h.out];exact hg.g.osz) hg.g.ins).mono ?_;rintro e w' ⟨rfl,hp⟩;obtain⟨rs',ns',hi',hto,e1,e2,e3,e4,e5⟩:=hp.ex;rw[h.mem,h.out] at e1 e2 e3 e5;have hf:Fine (plainP k s.rs s.mem s.out):=plain_fine _ hg.g;injection e4 with e4 e6;refine⟨rfl,rs',h.turn hto e6 ⟨ns',hi',e5⟩ e1 (by rw[e4,h.st];rfl) e2 e3 rfl rfl rfl rfl rfl ?_⟩;exact⟨hf,hg.s0,hg.s1,fun _=>hg.s2 he,hg.d0,hg.d1,hg.b0,hg.b1,hg.cb⟩
theorem testS (w:World) (yb:Nat) (rs:RS) (s:St) (h:RRel K w yb rs s) (he:s.e=0):
  Calls Tryz.prog 211 #[.pointer (some ⟨yb,0,none⟩)] w fun e w'=>e=.returned (.bool s.test.2)/\∃ rs',RRel K w' yb rs' s.test.1/\STo yb w w' rs rs':=by
 go_enter Tryz.func211,Tryz.ntmps211
 go_wp2_with fail
 refine (stepS w yb rs s h he).mono ?_;rintro e w1 ⟨rfl,rs1,h1,hto1,-⟩;by_cases hs:s.step.e=0
 ·have hd:decide (s.step.e=0)=true:=decide_eq_true hs;rw[hd];clear hd;obtain⟨ns,hi,hns⟩:=h1.inv;have hg:=h1.good;have hns:=hns hs;subst hns
  cases hrs:s.step.rs with
  | nil=>
   have HT:Hid (s.test=(s.step.err 6,false)):=by unfold Hid St.test;rw[if_pos hs,hrs]
   go_wp2_with fail
   refine (takeR_under _ _ _ _ _ hi (by rw[hrs];simp)).mono ?_;rintro e w2 ⟨v,rfl,hi2,hto2⟩;have HN:=h1.turn (s':=s.step.err 6) hto2 rfl ⟨_,hi2,(fun h=>by cases h)⟩ rfl h1.st h1.mem h1.out rfl rfl rfl rfl rfl ⟨hg.g,hg.s0,hg.s1,(fun h=>by cases h),hg.d0,hg.d1,hg.b0,hg.b1,hg.cb⟩;clear hi2 hto2 hi;go_wp2;go_ret;rw[HT.out];exact⟨rfl,_,HN.1,hto1.trans HN.2⟩
  | cons a r=>
   have HT:Hid (s.test=({ s.step with rs:=r },decide (a ≠ 0))):=by unfold Hid St.test;rw[if_pos hs,hrs]
   rw[hrs] at hi;have hgg:=hg.g;rw[hrs] at hgg
   go_wp2_with fail
   refine (takeR1 _ _ _ _ _ hi).mono ?_;rintro e w2 ⟨g,v',rfl,hT⟩;have HN:=h1.turn (s':={ s.step with rs:=r }) hT.to rfl ⟨_,hT.inv,fun _=>rfl⟩ h1.e h1.st h1.mem h1.out rfl rfl rfl rfl rfl ⟨⟨fun x hx=>hgg.ins x (by simp[hx]),hgg.mems,by have:=hgg.len;simp only[List.length_cons] at this;show r.length<=32;omega,hgg.osz⟩,hg.s0,hg.s1,hg.s2,hg.d0,hg.d1,hg.b0,hg.b1,hg.cb⟩;have k0:=hT.blk.cell (o:=0) rfl;clear hT hi hgg;go_wp2;go_ret;rw[HT.out];refine⟨?_,_,HN.1,hto1.trans HN.2⟩;by_cases ha:a=0 <;> simp[ha]
 ·have hd:decide (s.step.e=0)=false:=decide_eq_false hs;rw[hd];clear hd;have HT:Hid (s.test=(s.step,false)):=by unfold Hid St.test;rw[if_neg hs]
  go_wp2;go_ret;rw[HT.out];exact⟨rfl,_,h1,hto1⟩
end
section
open Go.RowKit
variable {K:Nat->Prop}
theorem grown_refl (w:World) (r:Option Nat):w.grownBy w r:=⟨rfl,rfl,rfl,Nat.le_refl _,fun _ _ _=>rfl⟩
section
variable {P:Program} (w:World)
theorem wpList_append_row {ops:Array Oper} {rest:List Oper} {o:Oper} {a:Act} {Q:Exit->Act->World->Prop} (hgd:o.guard=none) (s x:Operand) (t:TypeId)
  (ho:o.op=.call { callee:=.builtin .append,args:=#[s,x],argTypes:=#[t,t] })
  (e:TypeId) (i:TypeInfo) (z:Value) (bytes:Nat) (ht:P.underlying t=some (.slice e)) (hi:P.info? e=some i) (hz:i.zero=some z)
  (hsize:i.size=1) (hby:i.bytes=bytes) (hzs:z.cells.size=1)
  (v:Value) (n:Nat) (xs:List Value) (hs:a.eval s=v) (hown:w.ownsRow 0 e 1 v n xs)
  (v2:Value) (m:Nat) (news:List Value) (hx:a.eval x=v2) (hown2:w.ownsRow 0 e 1 v2 m news) (h1:∀ u∈news,u.oneCell'=true)
  (h63:n+m<=maxLen) (hbytes:(n+m) * bytes<=140737488355328)
  (h:∀ v' w',w'.ownsRow 0 e 1 v' (n+m) (xs ++ news)->w.grownBy w' v.ownBlock->(∀ k,own v' k->own v k\/w.heap.size<=k)->wpList P ops Q rest (a.put o.dst v') w'):wpList P ops Q (o :: rest) a w:=by
 rcases hown2.2 with⟨rfl,h0⟩|⟨g,cap,cur,rfl,_,hgg,hnc,hcm,hcs,htk⟩
 ·subst h0;have hn:news=[]:=List.eq_nil_of_length_eq_zero (by simpa using hown2.1);subst hn;refine wpList_append_own_none hgd s x t ho 0 e i 1 ht hi v n xs hs hown hx ?_;refine h v w ?_ (grown_refl _ _) (fun k hk=>.inl hk)
  simpa using hown
 ·refine wpList_append_to w hgd s x t ho e i z 1 bytes ht hi hz hsize hby hzs (by decide) v n xs hs hown ⟨g,0,none⟩ m cap news hx hown2.1 ?_ h1 h63 hbytes h;intro j u hj;rw[addr_add];have hb:Blk w g e cur:=hgg;refine hb.cell ?_;rw[<-htk,List.getElem?_take] at hj
  split at hj
  ·simpa using hj
  ·cases hj
end
theorem one_texts (ws:List ByteArray):∀ u∈ws.map Value.string,u.oneCell'=true:=by
 intro u hu;obtain⟨x,_,rfl⟩:=List.mem_map.1 hu;rfl
theorem callsG_zero (l:List It):callsG 0 l=none:=by cases l <;> rfl
theorem callsG_nil (g:Nat):callsG (g+1) []=some []:=rfl
theorem callsG_cons {g:Nat} {x:It} {r:List It} {names:List Tok} (h:callsG (g+1) (x :: r)=some names):
  ∃ a b c,callsG g x.a=some a/\callsG g x.b=some b/\callsG g r=some c/\names=(if x.kind=99 then [x.name] else []) ++ a ++ b ++ c:=by
 rw[callsG] at h
 split at h
 ·rename_i a b c h1 h2 h3
  injection h with h;exact⟨a,b,c,h1,h2,h3,h.symm⟩
 ·cases h
def NRel (w wr:World) (v:Value) (dn:List Tok):Prop:=∃ ws,texts ws=dn/\wr.ownsRow 0 9 1 v ws.length (ws.map Value.string)/\(∀ b,own v b->New w b)
def CCalls (K:Nat->Prop) (G:Nat):Prop:=∀ (l:List It) (names:List Tok) (w:World) (v:Value),callsG G l=some names->names.length<=1000->Body K w v l ->
 Calls Tryz.prog 210 #[v] w fun e w'=>∃ v',e=.returned v'/\Kp w w' (fun _=>False)/\NRel w w' v' names
theorem byte_eq {k:Nat} (hk:¬ k=99):((k:Int) == 99)=false:=by simpa using (by omega:¬ ((k:Int)=99))
theorem NRel.mono {w w' wr:World} {v:Value} {dn:List Tok} (h:NRel w' wr v dn) (hs:w.heap.size<=w'.heap.size):NRel w wr v dn:=by
 obtain⟨ws,h1,h2,h3⟩:=h;exact⟨ws,h1,h2,fun b hb=>Nat.le_trans hs (h3 b hb)⟩
theorem callsP (G:Nat) (IH:∀ g,g < G->CCalls K g):CCalls K G:=by
 intro l names w v hc hlen hbody;obtain⟨i0,hi,hz0,hz1,hz2⟩:=info_parts Tryz.info9;obtain⟨xs,hrow,-,hits⟩:=hbody.out;have hmax:l.length<=9223372036854775807:=by
  rcases hrow.2 with⟨_,h0⟩|⟨_,_,_,_,_,_,h1,h2,_⟩
  ·omega
  ·unfold maxLen at h2;omega
 obtain⟨ao,cap,rfl⟩:=row_slice hrow;have HI:=hide IH;have HIT:=hide hits;have HROW:=hide hrow;clear IH hits hrow hbody;have H0:Hid (∃ (k:Nat) (g:Nat) (dn rest:List Tok),k<=l.length/\(Value.int .i64 0)=.int .i64 k/\g<=G/\callsG g (l.drop k)=some rest/\names=dn ++ rest/\NRel w w (.slice none 0 0) dn/\Kp w w (fun _=>False)):=
  ⟨0,G,[],names,Nat.zero_le _,rfl,Nat.le_refl _,hc,rfl,⟨[],rfl,World.ownsRow_nil _ _ _ _,fun b hb=>by simp[own,Value.ownBlock] at hb⟩,Kp.refl _ _⟩
 clear hc;go_enter Tryz.func210,Tryz.ntmps210;go_wp2
 go_loopw [3,4] (fun v i wr=>∃ (k:Nat) (g:Nat) (dn rest:List Tok),k<=l.length/\i=.int .i64 k/\g<=G/\callsG g (l.drop k)=some rest/\names=dn ++ rest/\NRel w wr v dn/\Kp w wr (fun _=>False)) (fun _ i _=>l.length - (intOf i).toNat)
 case atStart=>exact H0.out
 case round=>
  obtain⟨k,g,dn,rest,hk,rfl,hgG,hcr,hnm,⟨ws,hws,hwr,hnew⟩,hkp⟩:=hrel;have HN:=hide hnm;have HW:=hide hws;have HC:=hide hcr;have hdl:dn.length=ws.length:=by rw[<-hws];simp[texts]
  have hnl:names.length=dn.length+rest.length:=by rw[hnm];simp
  clear hnm hws hcr;obtain⟨ao1,cap1,rfl⟩:=row_slice hwr;by_cases hlt:k < l.length
  ·cases g with
   | zero=>have:=HC.out;rw[callsG_zero] at this;cases this
   | succ g=>
   have hd:l.drop k=l[k] :: l.drop (k+1):=List.drop_eq_getElem_cons hlt;obtain⟨a,b,c,ha,hb,hc,hrest⟩:=callsG_cons (by have:=HC.out;rw[hd] at this;exact this);have hrl:rest.length=(if l[k].kind=99 then 1 else 0)+a.length+b.length+c.length:=by rw[hrest];simp only[List.length_append];split <;> simp
   have HR:=hide hrest;clear hrest;have hkeep:Keeps (nK K) (nK K) w wr:=Keeps.kpF hkp _;obtain⟨gb,capb,hvb,hcell⟩:=row_cell HROW.out (by omega);injection hvb with e1 e2 e3;subst e1;clear e2 e3;obtain⟨nm,va,vb,vt,hat,x0,x1,x2,x3,x4,x5⟩:=itsIn_at _ _ HIT.out k hlt;have HK:Hid (∀ w',Kp w w' (fun _=>False)->∀ j u,xs[j]? = some u->w'.cell? ⟨gb,j,none⟩=some u):=fun w' hkw j u hj=>by
    obtain⟨cc,hcc⟩:=row_blk HROW.out (b:=gb) rfl;have h1:=hcell j u hj;have hb2:=hkw.blk hcc (by simp);unfold Blk at hcc hb2;simp only[World.cell?,hcc] at h1;simp only[World.cell?,hb2];exact h1
   have hkc:=HK.out wr hkp;have y0:=hkc _ _ x0;have y2:=hkc _ _ x2;have y3:=hkc _ _ x3;have y4:=hkc _ _ x4;clear hkc;have HAT:=hide hat;obtain⟨xsa,hra,-⟩:=hat.a.out;obtain⟨xsb,hrb,-⟩:=hat.b.out;obtain⟨aa,pa,hva⟩:=row_slice hra;obtain⟨ab,pb,hvb'⟩:=row_slice hrb;subst hva;subst hvb';have HX3:=hide x3;have HX4:=hide x4;clear x0 x1 x2 x3 x4 x5 hcell hat hkeep hd hra hrb;have hta:a.length<=1000:=by split at hrl <;> omega
   have htb:b.length<=1000:=by split at hrl <;> omega
   by_cases hk99:l[k].kind=99
   ·rw[hk99] at y0;rw[if_pos hk99] at hrl
    go_wp2_with (first
     | (at_builtin;refine wpList_append_to _ rfl _ _ 47 rfl 9 i0 (.string ByteArray.empty) 1 16 Tryz.underlying47 hi hz0 hz1 hz2 rfl (by decide) _ _ _ rfl (hwr.alloc _) ⟨wr.heap.size,0,none⟩ 1 1 [.string nm] rfl rfl ?c1 ?c2 ?c3 ?c4 ?_)
     | go_in)
    case c1=>intro j u hj;match j,hj with|0,hj=>simp at hj;subst hj;simp[Addr.add]
    case c2=>intro u hu;simp at hu;subst hu;rfl
    case c3=>unfold maxLen;omega
    case c4=>omega
    intro v' w1 hown' hgrow hnx;obtain⟨ao0,cap0,rfl⟩:=row_slice hown';have hkp0:Kp w w1 (fun _=>False):=(hkp.alloc _).grown hgrow (fun q hq e=>by have:=hnew q e;have:w.heap.size<=q:=this;omega);have hsz:=hkp.size;have hnew0:∀ q,own (.slice ao0 (ws.length+1) cap0) q->New w q:=fun q hq=>by
     rcases hnx q hq with h1|h1
     ·exact hnew q h1
     ·show w.heap.size<=q;omega
    obtain⟨ws0,hws0⟩:∃ ws0,ws0=ws ++ [nm]:=⟨_,rfl⟩;have hl0:ws0.length=ws.length+1:=by rw[hws0];simp
    have hwr0:w1.ownsRow 0 9 1 (.slice ao0 ws0.length cap0) ws0.length (ws0.map Value.string):=by rw[hl0,hws0];simpa using hown'
    rw[<-hl0] at hnew0;have HW0:=hide hws0;have HL0:=hide hl0;have y3b:w1.cell? ⟨gb,k * 6+3,none⟩=some (.slice aa l[k].a.length pa):=HK.out w1 hkp0 _ _ HX3.out;rw[<-hl0];clear hl0 hown' hgrow hnx hkp hnew hwr y0 y2 y3 y4 hws0
    go_wp2_with fail
    refine (HI.out g (by omega) _ _ _ _ ha hta (HAT.out.a.keep (Keeps.kpF hkp0 _))).mono ?_;rintro e w2 ⟨v1,rfl,hk2,ws1,hws1,hr1,hn1⟩;have y4b:w2.cell? ⟨gb,k * 6+4,none⟩=some (.slice ab l[k].b.length pb):=(HK.out w2 (hkp0.trans hk2) _ _ HX4.out)
    go_wp2_with fail
    refine (HI.out g (by omega) _ _ _ _ hb htb (HAT.out.b.keep (Keeps.kpF (hkp0.trans hk2) _))).mono ?_;rintro e w3 ⟨v2,rfl,hk3,ws2,hws2,hr2,hn2⟩;have hs02:=hk2.size;have hs23:=hk3.size;have hkp3:=(hkp0.trans hk2).trans hk3;have hr0:=hk3.row (hk2.row hwr0 (by simp)) (by simp);have hr1':=hk3.row hr1 (by simp);have hl1:ws1.length=a.length:=by rw[<-hws1];simp[texts]
    have hl2:ws2.length=b.length:=by rw[<-hws2];simp[texts]
    have hb0:∀ q,own (.slice ao0 ws0.length cap0) q->q < w1.heap.size:=fun q hq=>own_lt hwr0 hq;have HW1:=hide hws1;have HW2:=hide hws2;have HL1:=hide hl1;have HL2:=hide hl2;clear hl1 hl2 hwr0 hr1 hkp0 hws1 hws2 y4b hk2;obtain⟨a1,p1,rfl⟩:=row_slice hr1';obtain⟨a2,p2,rfl⟩:=row_slice hr2
    go_wp2_with (first
     | (at_builtin;refine wpList_append_row _ rfl _ _ 47 rfl 9 i0 (.string ByteArray.empty) 16 Tryz.underlying47 hi hz0 hz1 hz2 rfl _ _ _ rfl hr0 _ _ _ rfl hr1' (one_texts _) ?e3 ?e4 ?_)
     | go_in)
    case e3=>have:=HL0.out;have:=HL1.out;have:=HL2.out;unfold maxLen;omega
    case e4=>have:=HL0.out;have:=HL1.out;have:=HL2.out;omega
    intro v3 w4 hr3 hg4 hnx4;have hkp4:Kp w w4 (fun _=>False):=hkp3.grown hg4 (fun q hq e=>by have:=hnew0 q e;have:w.heap.size<=q:=this;omega);have hr2':w4.ownsRow 0 9 1 (.slice a2 ws2.length p2) ws2.length (ws2.map Value.string):=row_keep hr2 (fun q c hq hc=>hc.same (hg4.block q hc.lt (fun e=>by have h1:=hb0 q e.symm;have h2:w2.heap.size<=q:=hn2 q hq;omega)));have hnew3:∀ q,own v3 q->New w q:=fun q hq=>by
     rcases hnx4 q hq with h1|h1
     ·exact hnew0 q h1
     ·have:=hkp3.size;show w.heap.size<=q;omega
    obtain⟨ao3,cap3,rfl⟩:=row_slice hr3;clear hr2 hr0 hr1' hg4 hnx4 hkp3 hb0 hnew0 hk3 hn1 hn2
    go_wp2_with (first
     | (at_builtin;refine wpList_append_row _ rfl _ _ 47 rfl 9 i0 (.string ByteArray.empty) 16 Tryz.underlying47 hi hz0 hz1 hz2 rfl _ _ _ rfl hr3 _ _ _ rfl hr2' (one_texts _) ?f3 ?f4 ?_)
     | go_in)
    case f3=>have:=HL0.out;have:=HL1.out;have:=HL2.out;unfold maxLen;omega
    case f4=>have:=HL0.out;have:=HL1.out;have:=HL2.out;omega
    intro v5 w5 hr5 hg5 hnx5;have hkp5:Kp w w5 (fun _=>False):=hkp4.grown hg5 (fun q hq e=>by have:=hnew3 q e;have:w.heap.size<=q:=this;omega);have hnew5:∀ q,own v5 q->New w q:=fun q hq=>by
     rcases hnx5 q hq with h1|h1
     ·exact hnew3 q h1
     ·have:=hkp4.size;show w.heap.size<=q;omega
    have HNEW:Hid (∃ (k':Nat) (g:Nat) (dn rest:List Tok),k'<=l.length/\Value.int .i64 ((k:Int)+1)=.int .i64 k'/\g<=G/\callsG g (l.drop k')=some rest/\names=dn ++ rest/\NRel w w5 v5 dn/\Kp w w5 (fun _=>False)):=by
     refine⟨k+1,g,texts (ws0 ++ ws1 ++ ws2),c,by omega,rfl,by omega,hc,?_,⟨ws0 ++ ws1 ++ ws2,rfl,?_,hnew5⟩,hkp5⟩
     ·rw[HN.out,HR.out,<-HW.out,<-HW1.out,<-HW2.out];rw[HW0.out];simp[texts,hk99,HAT.out.nm]
     ·simpa [Nat.add_assoc] using hr5
    clear hr5 hg5 hnx5 hkp4 hkp5 hnew3 hnew5 hr2' hr3 HW1 HW2 hc ha hb;go_wp2
    go_roundw
    case rel=>exact HNEW.out
    case measure=>simp[intOf];omega
   ·have y0':((l[k].kind:Int) == 99)=false:=byte_eq hk99;rw[if_neg hk99] at hrl;obtain⟨ws0,hws0⟩:∃ ws0,ws0=ws:=⟨_,rfl⟩;obtain⟨ao0,hao0⟩:∃ ao0,ao0=ao1:=⟨_,rfl⟩;obtain⟨cap0,hcap0⟩:∃ cap0,cap0=cap1:=⟨_,rfl⟩;rw[<-hws0,<-hao0,<-hcap0] at hwr;have hwr0:=hwr;rw[<-hws0,<-hao0,<-hcap0] at hnew;have hnew0:=hnew;have hkp0:=hkp;have hl0:ws0.length=ws.length:=by rw[hws0]
    have HW0:=hide hws0;have HL0:=hide hl0;rw[<-hws0,<-hao0,<-hcap0];clear hl0 hwr hnew hkp y2 y4 hws0 hao0 hcap0
    go_wp2_with fail
    refine (HI.out g (by omega) _ _ _ _ ha hta (HAT.out.a.keep (Keeps.kpF hkp0 _))).mono ?_;rintro e w2 ⟨v1,rfl,hk2,ws1,hws1,hr1,hn1⟩;have y4b:w2.cell? ⟨gb,k * 6+4,none⟩=some (.slice ab l[k].b.length pb):=(HK.out w2 (hkp0.trans hk2) _ _ HX4.out)
    go_wp2_with fail
    refine (HI.out g (by omega) _ _ _ _ hb htb (HAT.out.b.keep (Keeps.kpF (hkp0.trans hk2) _))).mono ?_;rintro e w3 ⟨v2,rfl,hk3,ws2,hws2,hr2,hn2⟩;have hs02:=hk2.size;have hs23:=hk3.size;have hkp3:=(hkp0.trans hk2).trans hk3;have hr0:=hk3.row (hk2.row hwr0 (by simp)) (by simp);have hr1':=hk3.row hr1 (by simp);have hl1:ws1.length=a.length:=by rw[<-hws1];simp[texts]
    have hl2:ws2.length=b.length:=by rw[<-hws2];simp[texts]
    have hb0:∀ q,own (.slice ao0 ws0.length cap0) q->q < wr.heap.size:=fun q hq=>own_lt hwr0 hq;have HW1:=hide hws1;have HW2:=hide hws2;have HL1:=hide hl1;have HL2:=hide hl2;clear hl1 hl2 hwr0 hr1 hkp0 hws1 hws2 y4b hk2;obtain⟨a1,p1,rfl⟩:=row_slice hr1';obtain⟨a2,p2,rfl⟩:=row_slice hr2
    go_wp2_with (first
     | (at_builtin;refine wpList_append_row _ rfl _ _ 47 rfl 9 i0 (.string ByteArray.empty) 16 Tryz.underlying47 hi hz0 hz1 hz2 rfl _ _ _ rfl hr0 _ _ _ rfl hr1' (one_texts _) ?e3 ?e4 ?_)
     | go_in)
    case e3=>have:=HL0.out;have:=HL1.out;have:=HL2.out;unfold maxLen;omega
    case e4=>have:=HL0.out;have:=HL1.out;have:=HL2.out;omega
    intro v3 w4 hr3 hg4 hnx4;have hkp4:Kp w w4 (fun _=>False):=hkp3.grown hg4 (fun q hq e=>by have:=hnew0 q e;have:w.heap.size<=q:=this;omega);have hr2':w4.ownsRow 0 9 1 (.slice a2 ws2.length p2) ws2.length (ws2.map Value.string):=row_keep hr2 (fun q c hq hc=>hc.same (hg4.block q hc.lt (fun e=>by have h1:=hb0 q e.symm;have h2:w2.heap.size<=q:=hn2 q hq;omega)));have hnew3:∀ q,own v3 q->New w q:=fun q hq=>by
     rcases hnx4 q hq with h1|h1
     ·exact hnew0 q h1
     ·have:=hkp3.size;show w.heap.size<=q;omega
    obtain⟨ao3,cap3,rfl⟩:=row_slice hr3;clear hr2 hr0 hr1' hg4 hnx4 hkp3 hb0 hnew0 hk3 hn1 hn2
    go_wp2_with (first
     | (at_builtin;refine wpList_append_row _ rfl _ _ 47 rfl 9 i0 (.string ByteArray.empty) 16 Tryz.underlying47 hi hz0 hz1 hz2 rfl _ _ _ rfl hr3 _ _ _ rfl hr2' (one_texts _) ?f3 ?f4 ?_)
     | go_in)
    case f3=>have:=HL0.out;have:=HL1.out;have:=HL2.out;unfold maxLen;omega
    case f4=>have:=HL0.out;have:=HL1.out;have:=HL2.out;omega
    intro v5 w5 hr5 hg5 hnx5;have hkp5:Kp w w5 (fun _=>False):=hkp4.grown hg5 (fun q hq e=>by have:=hnew3 q e;have:w.heap.size<=q:=this;omega);have hnew5:∀ q,own v5 q->New w q:=fun q hq=>by
     rcases hnx5 q hq with h1|h1
     ·exact hnew3 q h1
     ·have:=hkp4.size;show w.heap.size<=q;omega
    have HNEW:Hid (∃ (k':Nat) (g:Nat) (dn rest:List Tok),k'<=l.length/\Value.int .i64 ((k:Int)+1)=.int .i64 k'/\g<=G/\callsG g (l.drop k')=some rest/\names=dn ++ rest/\NRel w w5 v5 dn/\Kp w w5 (fun _=>False)):=by
     refine⟨k+1,g,texts (ws0 ++ ws1 ++ ws2),c,by omega,rfl,by omega,hc,?_,⟨ws0 ++ ws1 ++ ws2,rfl,?_,hnew5⟩,hkp5⟩
     ·rw[HN.out,HR.out,<-HW.out,<-HW1.out,<-HW2.out];rw[HW0.out];simp[texts,hk99]
     ·simpa [Nat.add_assoc] using hr5
    clear hr5 hg5 hnx5 hkp4 hkp5 hnew3 hnew5 hr2' hr3 HW1 HW2 hc ha hb;go_wp2
    go_roundw
    case rel=>exact HNEW.out
    case measure=>simp[intOf];omega
  ·have HE:Hid (names=dn):=by
    have:=HC.out;rw[List.drop_of_length_le (by omega)] at this
    cases g with
    | zero=>rw[callsG_zero] at this;cases this
    | succ g=>rw[callsG_nil] at this;injection this with this;have h2:=HN.out;rw[<-this] at h2;unfold Hid;simpa using h2
   go_wp2;go_ret;exact⟨_,rfl,hkp,ws,by rw[HE.out];exact HW.out,hwr,hnew⟩
end
section
open Go.RowKit
variable {K:Nat->Prop}
theorem callsAll:∀ G,CCalls K G:=by
 intro G
 induction G using Nat.strongRecOn with
 | ind G ih=>exact callsP G ih
abbrev foldB (defs:List Def) (g n:Nat):List Tok->Option (List Tok):=foldN (fun t=>match bodyOf defs t with
      | none=>none
      | some b=>buildsG defs g n b)
theorem builds_zero (defs:List Def) (g:Nat) (l:List It):buildsG defs g 0 l=some []:=rfl
theorem builds_succ {defs:List Def} {g n:Nat} {l:List It} {res:List Tok} (h:buildsG defs g (n+1) l=some res):∃ names,callsG g l=some names/\foldB defs g n names=some res:=by
 rw[buildsG] at h
 split at h
 ·cases h
 ·rename_i names hn
  exact⟨names,hn,h⟩
theorem foldB_cons {defs:List Def} {g n:Nat} {t:Tok} {r res:List Tok} (h:foldB defs g n (t :: r)=some res):∃ b x y,bodyOf defs t=some b/\buildsG defs g n b=some x/\foldB defs g n r=some y/\res=t :: x ++ y:=by
 unfold foldB at h;rw[foldN] at h
 split at h
 ·rename_i x y hx hy
  injection h with h
  split at hx
  ·cases hx
  ·rename_i b hb
   exact⟨b,x,y,hb,hx,hy,h.symm⟩
 ·cases h
theorem bodyOf_find {defs:List Def} {t:Tok} {b:List It} (h:bodyOf defs t=some b):∃ k,∃ hk:k < defs.length,findI defs t=k/\defs[k].body=b/\defs[k].name=t:=by
 unfold bodyOf at h
 cases hf:defs.find? (fun d=>d.name == t) with
 | none=>rw[hf] at h;cases h
 | some d=>
  rw[hf] at h;injection h with h;obtain⟨h1,k,hk,hk2,hk3⟩:=List.find?_eq_some_iff_getElem.1 hf;have hk2:defs[k]=d:=hk2;refine⟨k,hk,?_,by rw[hk2];exact h,?_⟩
  ·exact findI_some hk (fun i hi=>by simpa using hk3 i hi) (by rw[hk2];exact h1)
  ·rw[hk2];simpa using h1
def CBuilds (K:Nat->Prop) (w0:World) (yb:Nat) (defs:List Def) (g n:Nat):Prop:=∀ (l:List It) (res:List Tok) (w:World) (v vo:Value) (ws:List ByteArray),buildsG defs g n l=some res->Body K w0 v l->Kp w0 w (fun _=>False) ->
 w.ownsRow 0 9 1 vo ws.length (ws.map Value.string)->(∀ b,own vo b->New w0 b)->ws.length+res.length<=4000000000000->(∀ g names,callsG g l=some names->names.length<=1000) ->
 Calls Tryz.prog 188 #[.pointer (some ⟨yb,0,none⟩),v,.int .i64 n,vo] w fun e w'=>∃ v' ws',e=.returned v'/\Kp w0 w' (fun _=>False)/\w'.ownsRow 0 9 1 v' ws'.length (ws'.map Value.string)/\(∀ b,own v' b->New w0 b)/\(∀ b,own v' b->own vo b\/w.heap.size<=b)/\(∀ b,b < w.heap.size->¬ own vo b->w'.heap[b]? = w.heap[b]?)/\w.heap.size<=w'.heap.size/\texts ws'=texts ws ++ res
theorem buildsP0 (w0:World) (yb:Nat) (defs:List Def) (g:Nat):CBuilds K w0 yb defs g 0:=by
 intro l res w v vo ws hres hb hkp hrow hnew hlen hcb;rw[builds_zero] at hres;injection hres with hres;subst hres;obtain⟨ao,cap,rfl⟩:=row_slice hrow;obtain⟨xs,hr,-⟩:=hb.out;obtain⟨ab,cb,rfl⟩:=row_slice hr;clear hr hb hcb;go_enter Tryz.func188,Tryz.ntmps188;go_wp2;go_ret;exact⟨_,ws,rfl,hkp,hrow,hnew,fun b hb=>.inl hb,fun _ _ _=>rfl,Nat.le_refl _,by simp⟩
theorem DRel.kpF {w w':World} {dv:Value} {defs:List Def} (h:DRel K w dv defs) (hk:Kp w w' (fun _=>False)):DRel K w' dv defs:=h.kp hk (fun _ _ _ h=>h.elim) (fun _ _ h=>h.elim)
structure BLoop (w0 w w1 wr:World) (vo v9 vk:Value) (ws ws9:List ByteArray) (defs:List Def) (g n k:Nat) (res:List Tok):Prop where
 ex:∃ wsk done rest,wr.ownsRow 0 9 1 vk wsk.length (wsk.map Value.string)/\texts wsk=texts ws ++ done/\foldB defs g n ((texts ws9).drop k)=some rest/\res=done ++ rest
 kp:Kp w0 wr (fun _=>False)
 new:∀ b,own vk b->New w0 b
 nx:∀ b,own vk b->own vo b\/w.heap.size<=b
 old:∀ b,b < w.heap.size->¬ own vo b->wr.heap[b]? = w.heap[b]?
 r9:wr.ownsRow 0 9 1 v9 ws9.length (ws9.map Value.string)
 ap:∀ b,own v9 b->¬ own vk b
 sz:w1.heap.size<=wr.heap.size
theorem buildsP (w0:World) (yb:Nat) (rs:RS) (defs:List Def) (g n:Nat) (hn3:n<=3) (hy:Blk w0 yb 67 rs.arr) (hd:DRel K w0 rs.d.dv defs) (hcb0:∀ d∈defs,∀ g names,callsG g d.body=some names->names.length<=1000)
  (IH:CBuilds K w0 yb defs g n):CBuilds K w0 yb defs g (n+1):=by
 intro l res w v vo ws hres hb hkp hrow hnew hlen hcb;obtain⟨names,hnames,hfold⟩:=builds_succ hres;have hnl:=hcb g names hnames;obtain⟨i0,hi,hz0,hz1,hz2⟩:=info_parts Tryz.info9;obtain⟨ao,cap,rfl⟩:=row_slice hrow;have hbw:=hb.keep (Keeps.kpF hkp _);obtain⟨xs,hr,-⟩:=hb.out;obtain⟨ab,cb,rfl⟩:=row_slice hr;have HI:=hide IH;have HF:=hide hfold;have HCB:=hide hcb0;clear hr hb hcb hres hfold IH hcb0;go_enter Tryz.func188,Tryz.ntmps188
 go_wp2_with fail
 refine (callsAll g _ _ _ _ hnames hnl hbw).mono ?_;rintro e w1 ⟨v9,rfl,hk1,ws9,hws9,hr9,hn9⟩;obtain⟨a9,p9,rfl⟩:=row_slice hr9;have hl9:ws9.length<=1000:=by rw[<-hws9] at hnl;simpa [texts] using hnl
 have H0:BLoop w0 w w1 w1 (.slice ao ws.length cap) (.slice a9 ws9.length p9) (.slice ao ws.length cap) ws ws9 defs g n 0 res:=by
  refine⟨⟨ws,[],res,hk1.row hrow (by simp),by simp,by rw[hws9];exact HF.out,rfl⟩,hkp.trans hk1,hnew,fun b hb=>.inl hb,fun b hb hn=>hk1.block b hb (by simp),hr9,fun b hb hb2=>?_,Nat.le_refl _⟩;have h1:=hn9 b hb;have h2:=own_lt hrow hb2;have h1:w.heap.size<=b:=h1;omega
 have HH:=hide H0;have hsw1:=hk1.size;clear H0 hrow hnew hk1 hr9 hn9 hbw hnames hnl hws9 HF;go_wp2
 go_loopw [3,10] (fun vk i wr=>∃ k:Nat,k<=ws9.length/\i=.int .i64 k/\BLoop w0 w w1 wr (.slice ao ws.length cap) (.slice a9 ws9.length p9) vk ws ws9 defs g n k res) (fun _ i _=>ws9.length - (intOf i).toNat)
 case atStart=>exact⟨0,Nat.zero_le _,rfl,HH.out⟩
 case round=>
  obtain⟨k,hk,rfl,H⟩:=hrel;obtain⟨wsk,done,rest,hrk,htk,hfk,hrs⟩:=H.ex;obtain⟨ak,pk,rfl⟩:=row_slice hrk;have HR:=hide hrs;have HT:=hide htk;clear hrs htk;have hlr:res.length=done.length+rest.length:=by rw[HR.out];simp
  have hlk:wsk.length=ws.length+done.length:=by have:=congrArg List.length HT.out;simpa [texts] using this
  by_cases hlt:k < ws9.length
  ·obtain⟨t,ht⟩:∃ t,t=ws9[k]:=⟨_,rfl⟩;rw[texts_drop ws9 k hlt,<-ht] at hfk;obtain⟨b,x,y,hbo,hbx,hfy,hrest⟩:=foldB_cons hfk;obtain⟨kd,hkd,hfd,hbd,hnd⟩:=bodyOf_find hbo;have hlrest:rest.length=1+x.length+y.length:=by rw[hrest];simp;omega
   have HRT:=hide hrest;have HLR:=hide hlr;have HLK:=hide hlk;clear hlr hlk hrest hfk;obtain⟨g9,p9',hv9,hc9⟩:=row_cell H.r9 (by omega);injection hv9 with e1 e2 e3;subst e1;clear e2 e3;have c9:wr.cell? ⟨g9,k,none⟩=some (.string t):=hc9 k _ (by rw[ht];simp[hlt]);have HTk:=hide ht;clear ht hc9;obtain⟨nmd,vbd,vtd,hat,z0,z1,z2,z3,z4,z5⟩:∃ nm vb vt,DefAt K w0 defs[kd] nm vb vt/\True/\True/\(∀ wx,Kp w0 wx (fun _=>False)->∃ gd capd,rs.d.dv=.slice (some ⟨gd,0,none⟩) defs.length capd/\wx.cell? ⟨gd,kd * 6+2,none⟩=some vb)/\True/\True/\True:=by
    obtain⟨xsd,hrd,hxd⟩:=hd.ex;obtain⟨nm,vb,vt,h1,h2,h3,h4,h5,h6,h7⟩:=defsIn_at _ _ hxd kd hkd;refine⟨nm,vb,vt,h1,trivial,trivial,fun wx hkx=>?_,trivial,trivial,trivial⟩;obtain⟨gd,capd,hvd,hcd⟩:=row_cell (hkx.row hrd (by simp)) (by omega);exact⟨gd,capd,hvd,hcd _ _ h4⟩
   clear z0 z1 z3 z4 z5;have HBD:Hid (Body K w0 vbd b):=by have:=hat.body;rw[hbd] at this;exact this
   obtain⟨xsb,hrb,-⟩:=HBD.out.out;obtain⟨abd,pbd,rfl⟩:=row_slice hrb;have HCBb:Hid (∀ g names,callsG g b=some names->names.length<=1000):=by
    have:=HCB.out defs[kd] (List.getElem_mem hkd);rw[hbd] at this;exact this
   clear hat hrb hbo;have hdl:=hd.len
   go_wp2_with (first
    | (at_builtin;refine wpList_append_to _ rfl _ _ 47 rfl 9 i0 (.string ByteArray.empty) 1 16 Tryz.underlying47 hi hz0 hz1 hz2 rfl (by decide) _ _ _ rfl (hrk.alloc _) ⟨wr.heap.size,0,none⟩ 1 1 [.string t] rfl rfl ?c1 ?c2 ?c3 ?c4 ?_)
    | go_in)
   case c1=>intro j u hj;match j,hj with|0,hj=>simp at hj;subst hj;simp[Addr.add]
   case c2=>intro u hu;simp at hu;subst hu;rfl
   case c3=>have:=HLR.out;have:=HLK.out;unfold maxLen;omega
   case c4=>have:=HLR.out;have:=HLK.out;omega
   intro v2 w2 hown2 hgrow hnx;have hsr:=H.kp.size;have hk2:Kp w0 w2 (fun _=>False):=(H.kp.alloc _).grown hgrow (fun q hq e=>by have:=H.new q e;have:w0.heap.size<=q:=this;omega);obtain⟨a2,p2,rfl⟩:=row_slice hown2;obtain⟨gd,capd,hvd,cd⟩:=z2 w2 hk2;have hy2:=hk2.blk hy (by simp);have hd2:DRel K w2 rs.d.dv defs:=hd.kp hk2 (fun _ _ _ h=>h.elim) (fun _ _ h=>h.elim);have cy:w2.cell? ⟨yb,17,none⟩=some (.slice (some ⟨gd,0,none⟩) defs.length capd):=by rw[<-hvd];exact hy2.cell rfl
   have hr9':w2.ownsRow 0 9 1 (.slice (some ⟨g9,0,none⟩) ws9.length p9) ws9.length (ws9.map Value.string):=row_keep H.r9 (fun q c hq hc=>(hc.alloc _).same (hgrow.block q (by have:=hc.lt;simp;omega) (fun e=>H.ap q hq e.symm)));have c9':w2.cell? ⟨g9,k,none⟩=some (.string t):=by
    obtain⟨g9',p9'',hv9,hc9⟩:=row_cell hr9' (by omega);injection hv9 with e1 e2 e3;injection e1 with e1;injection e1 with e1;rw[e1];exact hc9 k _ (by rw[HTk.out];simp[hlt])
   have HFI:Hid (Calls Tryz.prog 89 #[.pointer (some ⟨yb,0,none⟩),.string t] w2.drew fun e w'=>e=.returned (.int .i64 kd)/\w'=w2.drew):=by
    have:=findS w2.drew yb rs defs t hy2.drew (hd2.kpF (Kp.refl _ _).drew);rw[hfd] at this;exact this
   have hwn:IntKind.i64.wrap (n:Int)=(n:Int):=by
    rcases (show n=0\/n=1\/n=2\/n=3 by omega) with rfl|rfl|rfl|rfl <;> rfl
   obtain⟨ws2,hws2⟩:∃ ws2,ws2=wsk ++ [t]:=⟨_,rfl⟩;have hl2:ws2.length=wsk.length+1:=by rw[hws2];simp
   have hrow2:w2.drew.ownsRow 0 9 1 (.slice a2 (wsk.length+1) p2) ws2.length (ws2.map Value.string):=by have h1:=hown2.drew;rw[hl2,hws2];simpa using h1
   have hnew2:∀ q,own (.slice a2 (wsk.length+1) p2) q->New w0 q:=fun q hq=>by
    rcases hnx q hq with h1|h1
    ·exact H.new q h1
    ·show w0.heap.size<=q;omega
   have HBU:Hid (Calls Tryz.prog 188 #[.pointer (some ⟨yb,0,none⟩),.slice abd b.length pbd,.int .i64 n,.slice a2 (wsk.length+1) p2] w2.drew fun e w'=>∃ v' ws',e=.returned v'/\Kp w0 w' (fun _=>False)/\w'.ownsRow 0 9 1 v' ws'.length (ws'.map Value.string)/\(∀ b,own v' b->New w0 b)/\(∀ b,own v' b->own (.slice a2 (wsk.length+1) p2) b\/w2.drew.heap.size<=b)/\(∀ b,b < w2.drew.heap.size->¬ own (.slice a2 (wsk.length+1) p2) b->w'.heap[b]? = w2.drew.heap[b]?)/\w2.drew.heap.size<=w'.heap.size/\texts ws'=texts ws2 ++ x):=
    HI.out b x w2.drew (.slice abd b.length pbd) (.slice a2 (wsk.length+1) p2) ws2 hbx HBD.out hk2.drew hrow2 hnew2 (by have:=HLR.out;have:=HLK.out;omega) HCBb.out
   have HW2:=hide hws2;have hnx2:∀ q,own (.slice a2 (wsk.length+1) p2) q->own (.slice ak wsk.length pk) q\/wr.heap.size+1<=q:=fun q hq=>by simpa using hnx q hq
   have hsw2:wr.heap.size+1<=w2.heap.size:=by simpa using hgrow.size
   have hold2:∀ q,q < wr.heap.size->¬ own (.slice ak wsk.length pk) q->w2.heap[q]? = wr.heap[q]?:=fun q hq hn=>by
    rw[hgrow.block q (by simp;omega) (fun e=>hn e.symm),Below.heap_alloc _ _ _ hq]
   have h9lt:∀ q,own (.slice (some ⟨g9,0,none⟩) ws9.length p9) q->q < wr.heap.size:=fun q hq=>own_lt H.r9 hq;clear c9 z2 hgrow hws2 hl2 hown2 hnx HI hd2 hy2 hrow2;go_wp2
   go_region_with (first
    | (go_at_call 89;refine HFI.out.mono ?_;rintro e w' ⟨rfl,hw⟩;rw[hw];clear hw)
    | (go_at_call 188;refine HBU.out.mono ?_;rintro e w5 ⟨v5,ws5,rfl,hk5,hr5,hn5,hx5,ho5,hs5,ht5⟩))
   all_goals
    obtain⟨a5,p5,rfl⟩:=row_slice hr5;have HT5:=hide ht5;have HN:BLoop w0 w w1 w5 (.slice ao ws.length cap) (.slice (some ⟨g9,0,none⟩) ws9.length p9) (.slice a5 ws5.length p5) ws ws9 defs g n (k+1) res:=by
     have hs5:w2.heap.size<=w5.heap.size:=hs5;have hno:∀ q,q < wr.heap.size->¬ own (.slice ak wsk.length pk) q->¬ own (.slice a2 (wsk.length+1) p2) q:=fun q hq hn h2=>by
      rcases hnx2 q h2 with h3|h3
      ·exact hn h3
      ·omega
     have hkeep:∀ q,q < wr.heap.size->¬ own (.slice ak wsk.length pk) q->w5.heap[q]? = wr.heap[q]?:=fun q hq hn=>
      (ho5 q (by show q < w2.heap.size;omega) (hno q hq hn)).trans (hold2 q hq hn)
     have hsr1:=H.sz;refine⟨⟨ws5,done ++ (t.data.toList :: x),y,hr5,?_,hfy,?_⟩,hk5,hn5,fun q hq=>?_,fun q hq hn=>?_,?_,fun q hq hq5=>?_,by omega⟩
     ·rw[HT5.out,HW2.out];have:=HT.out;simp only[texts,List.map_append,List.map_cons,List.map_nil] at this ⊢;rw[this];simp
     ·rw[HR.out,HRT.out];simp
     ·rcases hx5 q hq with h1|h1
      ·rcases hnx2 q h1 with h2|h2
       ·exact H.nx q h2
       ·right;omega
      ·right;have h1:w2.heap.size<=q:=h1;omega
     ·have hq':q < wr.heap.size:=by omega
      have hnk:¬ own (.slice ak wsk.length pk) q:=fun h2=>by
       rcases H.nx q h2 with h3|h3
       ·exact hn h3
       ·omega
      rw[hkeep q hq' hnk];exact H.old q hq hn
     ·exact row_keep H.r9 (fun q c hq hc=>hc.same (hkeep q hc.lt (H.ap q hq)))
     ·have hlt9:=h9lt q hq;rcases hx5 q hq5 with h1|h1
      ·exact hno q hlt9 (H.ap q hq) h1
      ·have h1:w2.heap.size<=q:=h1;omega
    clear hk5 hr5 hn5 hx5 ho5 hs5 ht5;go_wp2
    go_roundw
    case rel=>exact⟨k+1,by omega,by go_num,HN⟩
    case measure=>simp[intOf];omega
  ·have hkl:k=ws9.length:=by omega
   subst hkl;rw[texts_end] at hfk;injection hfk with hfk;have HE:Hid (texts wsk=texts ws ++ res):=by
    unfold Hid;rw[HT.out,HR.out,<-hfk];simp
   clear hfk hlr hlk;go_wp2;go_ret;exact⟨_,wsk,rfl,H.kp,hrk,H.new,H.nx,H.old,by have:=H.sz;omega,HE.out⟩
end
end Go.Proofs.YteainaiebcphlaaGreatDoor
