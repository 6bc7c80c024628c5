import Derived.Test.YteainaiebcphlaaGreatDoorV5
namespace Go.Proofs.YteainaiebcphlaaGreatDoor
set_option maxRecDepth 1000000
set_option maxHeartbeats 4000000
set_option linter.all false
section
open Go.RowKit
variable {K:Nat->Prop}
def defsIn (K:Nat->Prop) (w:World):List Def->List Value->Prop
 | [],xs=>xs=[]
 | d :: l,xs=>∃ nm vb vt rest,xs=.string nm :: .int .i64 d.id :: vb :: .int .i64 d.count :: .bool d.fast :: vt :: rest/\nm.data.toList=d.name/\Body K w vb d.body/\Toks K w vt d.built/\defsIn K w l rest
theorem defsIn_keep {w w':World} (hk:Keeps (nK K) (nK K) w w'):∀ (l:List Def) (xs:List Value),defsIn K w l xs->defsIn K w' l xs
 | [],_,h=>h
 | _ :: l,_,⟨nm,vb,vt,rest,h1,h2,h3,h4,h5⟩=>⟨nm,vb,vt,rest,h1,h2,h3.keep hk,toksIn_keep hk h4,defsIn_keep hk l rest h5⟩
theorem defsIn_app {w:World}:∀ (l l':List Def) (xs xs':List Value),defsIn K w l xs->defsIn K w l' xs'->defsIn K w (l ++ l') (xs ++ xs')
 | [],_,_,_,h,h'=>by have h:_=_:=h;subst h;exact h'
 | _ :: l,l',_,xs',⟨nm,vb,vt,rest,h1,h2,h3,h4,h5⟩,h'=>⟨nm,vb,vt,rest ++ xs',by rw[h1];rfl,h2,h3,h4,defsIn_app l l' rest xs' h5 h'⟩
structure DefAt (K:Nat->Prop) (w:World) (d:Def) (nm:ByteArray) (vb vt:Value):Prop where
 nm:nm.data.toList=d.name
 body:Body K w vb d.body
 built:Toks K w vt d.built
theorem six (a0 a1 a2 a3 a4 a5:Value) (rest:List Value) (i j:Nat):(a0 :: a1 :: a2 :: a3 :: a4 :: a5 :: rest)[(i+1) * 6+j]? = rest[i * 6+j]?:=by
 rw[show (i+1) * 6+j=i * 6+j+1+1+1+1+1+1 by omega];rfl
theorem six_set (a0 a1 a2 a3 a4 a5:Value) (rest:List Value) (i j:Nat) (u:Value):(a0 :: a1 :: a2 :: a3 :: a4 :: a5 :: rest).set ((i+1) * 6+j) u=a0 :: a1 :: a2 :: a3 :: a4 :: a5 :: rest.set (i * 6+j) u:=by
 rw[show (i+1) * 6+j=i * 6+j+1+1+1+1+1+1 by omega];rfl
theorem defsIn_at {w:World}:∀ (l:List Def) (xs:List Value),defsIn K w l xs->∀ i (h:i < l.length),∃ nm vb vt,DefAt K w l[i] nm vb vt /\
  xs[i * 6]? = some (.string nm)/\xs[i * 6+1]? = some (.int .i64 l[i].id)/\xs[i * 6+2]? = some vb/\xs[i * 6+3]? = some (.int .i64 l[i].count)/\xs[i * 6+4]? = some (.bool l[i].fast)/\xs[i * 6+5]? = some vt
 | [],_,_,i,h=>absurd h (by simp)
 | d :: l,xs,⟨nm,vb,vt,rest,h1,h2,h3,h4,h5⟩,0,h=>by
  subst h1;exact⟨nm,vb,vt,⟨h2,h3,h4⟩,by simp,by simp,by simp,by simp,by simp,by simp⟩
 | d :: l,xs,⟨nm,vb,vt,rest,h1,h2,h3,h4,h5⟩,i+1,h=>by
  subst h1;obtain⟨nm',vb',vt',k0,k1⟩:=defsIn_at l rest h5 i (by simpa using h);refine⟨nm',vb',vt',k0,?_⟩;have e0:=six (.string nm) (.int .i64 d.id) vb (.int .i64 d.count) (.bool d.fast) vt rest i 0;simp only[Nat.add_zero] at e0;rw[e0,six,six,six,six,six];exact k1
theorem defsIn_set {w:World} (d':Def) (nm':ByteArray) (vb' vt':Value) (hd:DefAt K w d' nm' vb' vt'):∀ (l:List Def) (xs:List Value),defsIn K w l xs->∀ i,i < l.length ->
  defsIn K w (l.set i d') ((((((xs.set (i * 6) (.string nm')).set (i * 6+1) (.int .i64 d'.id)).set (i * 6+2) vb').set (i * 6+3) (.int .i64 d'.count)).set (i * 6+4) (.bool d'.fast)).set (i * 6+5) vt')
 | [],_,_,i,h=>absurd h (by simp)
 | d :: l,xs,⟨nm,vb,vt,rest,h1,h2,h3,h4,h5⟩,0,h=>by
  subst h1;exact⟨nm',vb',vt',rest,by simp,hd.nm,hd.body,hd.built,h5⟩
 | d :: l,xs,⟨nm,vb,vt,rest,h1,h2,h3,h4,h5⟩,i+1,h=>by
  subst h1;have k:=defsIn_set d' nm' vb' vt' hd l rest h5 i (by simpa using h);refine⟨nm,vb,vt,_,?_,h2,h3,h4,k⟩;have e0:=six_set (.string nm) (.int .i64 d.id) vb (.int .i64 d.count) (.bool d.fast) vt rest i 0 (.string nm');simp only[Nat.add_zero] at e0;rw[e0,six_set,six_set,six_set,six_set,six_set]
theorem set_same {xs:List Value} {i:Nat} {u:Value} (h:xs[i]? = some u):xs.set i u=xs:=by
 apply List.ext_getElem?
 intro j;rw[List.getElem?_set]
 split
 ·rename_i e;subst e
  have:i < xs.length:=by
   rcases Nat.lt_or_ge i xs.length with h1|h1
   ·exact h1
   ·rw[List.getElem?_eq_none h1] at h;cases h
  rw[if_pos this,h]
 ·rfl
theorem row_set {w:World} {e:TypeId} {z:Nat} {v:Value} {n:Nat} {xs:List Value} (h:w.ownsRow 0 e z v n xs) {g:Nat} (hg:own v g) (j:Nat) (u:Value):(w.setCell ⟨g,j,none⟩ u).ownsRow 0 e z v n (xs.set j u):=by
 refine⟨by simpa using h.1,?_⟩;rcases h.2 with⟨rfl,_⟩|⟨g',cap,cur,rfl,hb,hgg,hnc,hcm,hcs,htk⟩
 ·simp[own,Value.ownBlock] at hg
 ·simp[own,Value.ownBlock] at hg;subst hg;have hb':Blk w g' e cur:=hgg;refine .inr ⟨g',cap,cur.setIfInBounds j u,rfl,hb,hb'.set j u,hnc,hcm,by simpa using hcs,?_⟩;rw[Array.toList_setIfInBounds,List.take_set,htk]
structure DRel (K:Nat->Prop) (w:World) (dv:Value) (defs:List Def):Prop where
 ex:∃ xs,w.ownsRow 0 95 6 dv defs.length xs/\defsIn K w defs xs
 len:defs.length<=30
 old:∀ b,K b->b < w.heap.size
theorem DRel.keep {w w':World} {dv:Value} {defs:List Def} (h:DRel K w dv defs) (hk:Keeps (nK K) (nK K) w w') (hb:∀ b,own dv b->w'.heap[b]? = w.heap[b]?) (hsz:w.heap.size<=w'.heap.size):DRel K w' dv defs:=by
 obtain⟨xs,h1,h2⟩:=h.ex;exact⟨⟨xs,row_keep h1 (fun b c hb' hc=>hc.same (hb b hb')),defsIn_keep hk _ _ h2⟩,h.len,fun b hb=>Nat.lt_of_lt_of_le (h.old b hb) hsz⟩
def nameAt (defs:List Def) (k:Nat):Tok:=(defs[k]?.map Def.name).getD []
theorem nameAt_eq (defs:List Def) (k:Nat) (h:k < defs.length):nameAt defs k=defs[k].name:=by simp[nameAt,h]
def findI (defs:List Def) (t:Tok):Int:=match defs.findIdx? (fun d=>d.name == t) with
 | some k=>k
 | none=>-1
theorem findI_none {defs:List Def} {t:Tok} (h:∀ i (hi:i < defs.length),(defs[i].name == t)=false):findI defs t = -1:=by
 unfold findI;have:defs.findIdx? (fun d=>d.name == t)=none:=by
  rw[List.findIdx?_eq_none_iff];intro d hd;obtain⟨i,hi,rfl⟩:=List.mem_iff_getElem.1 hd;exact h i hi
 rw[this]
theorem findI_some {defs:List Def} {t:Tok} {k:Nat} (hk:k < defs.length) (h0:∀ i (hi:i < k),(defs[i].name == t)=false) (h1:(defs[k].name == t)=true):findI defs t=k:=by
 unfold findI;have:defs.findIdx? (fun d=>d.name == t)=some k:=by
  rw[List.findIdx?_eq_some_iff_getElem];exact⟨hk,h1,fun j hj=>by simpa using h0 j hj⟩
 rw[this]
theorem findS (w:World) (yb:Nat) (s:RS) (defs:List Def) (t:ByteArray) (hb:Blk w yb 67 s.arr) (hd:DRel K w s.d.dv defs):
  Calls Tryz.prog 89 #[.pointer (some ⟨yb,0,none⟩),.string t] w fun e w'=>e=.returned (.int .i64 (findI defs t.data.toList))/\w'=w:=by
 obtain⟨xs,hr,hx⟩:=hd.ex;have hlen:=hd.len;have c0:w.cell? ⟨yb,17,none⟩=some s.d.dv:=hb.cell rfl;obtain⟨ao,cap,hv⟩:∃ ao cap,s.d.dv=.slice ao defs.length cap:=by
  rcases hr.2 with⟨hv,h0⟩|⟨g,cap,_,hv,_⟩
  ·exact⟨none,0,by rw[hv,h0]⟩
  ·exact⟨some ⟨g,0,none⟩,cap,hv⟩
 have hcell:∀ k,k < defs.length->∃ nm,nm.data.toList=nameAt defs k/\∃ g,ao=some ⟨g,0,none⟩/\w.cell? ⟨g,k * 6,none⟩=some (.string nm):=by
  intro k hk;obtain⟨nm,vb,vt,h1,h2,_⟩:=defsIn_at _ _ hx k hk;refine⟨nm,by rw[nameAt_eq defs k hk];exact h1.nm,?_⟩;rcases hr.2 with⟨_,h0⟩|⟨g,cap',cur,hv',_,hgg,_,_,_,htk⟩
  ·omega
  ·rw[hv] at hv';injection hv' with e1 e2 e3;refine⟨g,e1,?_⟩;have hb':Blk w g 95 cur:=hgg;refine hb'.cell ?_;rw[<-htk,List.getElem?_take] at h2
   split at h2
   ·simpa using h2
   ·cases h2
 rw[hv] at c0;have HC:=hide hcell;clear hcell hr hx hv hd;go_enter Tryz.func89,Tryz.ntmps89;go_wp2
 go_loop [5] (fun i=>∃ k:Nat,k<=defs.length/\i=.int .i64 k/\∀ i (hi:i < k),(nameAt defs i == t.data.toList)=false) (fun i=>defs.length - (intOf i).toNat)
 case atStart=>exact⟨0,Nat.zero_le _,rfl,fun i hi=>by omega⟩
 case round=>
  obtain⟨k,hk,rfl,hno⟩:=hrel;have HN:=hide hno;clear hno;by_cases hlt:k < defs.length
  ·obtain⟨nm,hnm,g,rfl,c1⟩:=HC.out k hlt;have HNM:=hide hnm;clear hnm;go_wp2
   ·have hx:(nm.toList == t.toList)=true:=by assumption
    go_ret;refine⟨?_,rfl⟩;have hf:findI defs t.data.toList=k:=by
     refine findI_some hlt (fun i hi=>by have:=HN.out i hi;rwa [nameAt_eq defs i (by omega)] at this) ?_;have:=HNM.out;rw[nameAt_eq defs k hlt] at this;rw[<-this];simpa [ByteArray.toList_eq] using hx
    rw[hf];rfl
   ·have hx:(nm.toList == t.toList)=false:=by assumption
    go_round
    case rel=>
     refine⟨k+1,by omega,by go_num,fun i hi=>?_⟩;rcases Nat.lt_or_ge i k with h|h
     ·exact HN.out i h
     ·have:i=k:=by omega
      subst this;rw[<-HNM.out];simpa [ByteArray.toList_eq] using hx
    case measure=>simp[intOf];omega
  ·go_wp2;go_ret;refine⟨?_,rfl⟩;rw[findI_none (fun i hi=>by have:=HN.out i (by omega);rwa [nameAt_eq defs i hi] at this)];rfl
end
section
open Go.RowKit
variable {K:Nat->Prop}
theorem Kp.one (w:World) (b o:Nat) (v:Value):Kp w (w.setCell ⟨b,o,none⟩ v) (fun k=>k=b):=(Kp.refl w (fun k=>k=b)).set (a:=⟨b,o,none⟩) (fun _=>rfl) v
theorem Blk.drewN {w:World} {b:Nat} {t:TypeId} {c:Array Value} (h:Blk w b t c) (n:Nat):Blk (w.drewN n) b t c:=h
theorem Kp.drewN {w w':World} {S:Nat->Prop} (h:Kp w w' S) (n:Nat):Kp w (w'.drewN n) S:=⟨h.os,h.tape,h.output,h.size,h.block⟩
theorem row_drewN {w:World} {e:TypeId} {z:Nat} {v:Value} {k:Nat} {xs:List Value} (h:w.ownsRow 0 e z v k xs) (n:Nat):(w.drewN n).ownsRow 0 e z v k xs:=h
def scArr (yb:Nat) (lv:Value) (k:Nat) (e:Int) (lo:Nat):Array Value:=#[.pointer (some ⟨yb,0,none⟩),lv,.int .i64 k,.int .i64 e,.int .i64 lo]
theorem failS (w:World) (sb yb:Nat) (lv:Value) (k:Nat) (lo:Nat) (e:Int) (h:Blk w sb 181 (scArr yb lv k 0 lo)):
  Calls Tryz.prog 137 #[.pointer (some ⟨sb,0,none⟩),.int .i64 e] w fun x w'=>x=.returned (.tuple #[])/\Blk w' sb 181 (scArr yb lv k e lo)/\Kp w w' (fun b=>b=sb):=by
 have c3:w.cell? ⟨sb,3,none⟩=some (.int .i64 0):=h.cell rfl;have f3:=h.free 3;go_enter Tryz.func137,Tryz.ntmps137;go_wp2
 go_end0
 exact⟨rfl,h.set 3 _,Kp.one _ _ _ _⟩
theorem failS_no (w:World) (sb yb:Nat) (lv:Value) (k:Nat) (lo:Nat) (e e0:Int) (he:(e0 == 0)=false) (h:Blk w sb 181 (scArr yb lv k e0 lo)):
  Calls Tryz.prog 137 #[.pointer (some ⟨sb,0,none⟩),.int .i64 e] w fun x w'=>x=.returned (.tuple #[])/\w'=w:=by
 have c3:w.cell? ⟨sb,3,none⟩=some (.int .i64 e0):=h.cell rfl;go_enter Tryz.func137,Tryz.ntmps137;go_wp2
 go_end0
 exact⟨rfl,rfl⟩
theorem row_slice {w:World} {e:TypeId} {z:Nat} {v:Value} {n:Nat} {xs:List Value} (h:w.ownsRow 0 e z v n xs):∃ ao cap,v=.slice ao n cap:=by
 rcases h.2 with⟨hv,h0⟩|⟨g,cap,_,hv,_⟩
 ·exact⟨none,0,by rw[hv,h0]⟩
 ·exact⟨some ⟨g,0,none⟩,cap,hv⟩
theorem row_cell {w:World} {e:TypeId} {z:Nat} {v:Value} {n:Nat} {xs:List Value} (h:w.ownsRow 0 e z v n xs) (hn:0 < n):∃ g cap,v=.slice (some ⟨g,0,none⟩) n cap/\∀ j u,xs[j]? = some u->w.cell? ⟨g,j,none⟩=some u:=by
 rcases h.2 with⟨hv,h0⟩|⟨g,cap,cur,hv,_,hgg,_,_,_,htk⟩
 ·omega
 ·refine⟨g,cap,hv,fun j u hj=>?_⟩;have hb':Blk w g e cur:=hgg;refine hb'.cell ?_;rw[<-htk,List.getElem?_take] at hj
  split at hj
  ·simpa using hj
  ·cases hj
theorem nextS_err (w:World) (sb yb:Nat) (lv:Value) (n:Nat) (xs:List Value) (k:Nat) (lo:Nat) (e0:Int) (he:(e0 != 0)=true) (hr:w.ownsRow 0 9 1 lv n xs) (hB:Blk w sb 181 (scArr yb lv k e0 lo)) (_hn:n<=1000) (_hk:k<=n):
  Calls Tryz.prog 135 #[.pointer (some ⟨sb,0,none⟩)] w fun x w'=>x=.returned (.string ⟨#[]⟩)/\Blk w' sb 181 (scArr yb lv k e0 lo)/\Kp w w' (fun b=>b=sb):=by
 obtain⟨ao,cap,rfl⟩:=row_slice hr;have c3:w.cell? ⟨sb,3,none⟩=some (.int .i64 e0):=hB.cell rfl;have c2:w.cell? ⟨sb,2,none⟩=some (.int .i64 k):=hB.cell rfl;have c1:w.cell? ⟨sb,1,none⟩=some (.slice ao n cap):=hB.cell rfl;have he2:(e0 == 0)=false:=by simpa using he
 clear hr;by_cases hlt:k < n
 all_goals
  go_enter Tryz.func135,Tryz.ntmps135;go_wp2
  go_quiet (fail)
  go_wp2_with fail
  refine (failS_no _ sb yb (.slice ao n cap) k lo _ _ he2 (hB.drewN _)).mono ?_;rintro e w' ⟨rfl,rfl⟩;go_wp2;go_ret;exact⟨rfl,hB.drewN _,(Kp.refl _ _).drewN _⟩
theorem nextS_end (w:World) (sb yb:Nat) (lv:Value) (n:Nat) (xs:List Value) (lo:Nat) (hr:w.ownsRow 0 9 1 lv n xs) (hB:Blk w sb 181 (scArr yb lv n 0 lo)) (_hn:n<=1000):
  Calls Tryz.prog 135 #[.pointer (some ⟨sb,0,none⟩)] w fun x w'=>x=.returned (.string ⟨#[]⟩)/\Blk w' sb 181 (scArr yb lv n 4 lo)/\Kp w w' (fun b=>b=sb):=by
 obtain⟨ao,cap,rfl⟩:=row_slice hr;have c3:w.cell? ⟨sb,3,none⟩=some (.int .i64 0):=hB.cell rfl;have c2:w.cell? ⟨sb,2,none⟩=some (.int .i64 n):=hB.cell rfl;have c1:w.cell? ⟨sb,1,none⟩=some (.slice ao n cap):=hB.cell rfl;clear hr;go_enter Tryz.func135,Tryz.ntmps135;go_wp2
 go_quiet (fail)
 go_wp2_with fail
 refine (failS _ sb yb (.slice ao n cap) n lo _ (hB.drewN _)).mono ?_;rintro e w' ⟨rfl,h1,h2⟩;go_wp2;go_ret;exact⟨rfl,h1,((Kp.refl w _).drewN _).trans h2⟩
theorem nextS_ok (w:World) (sb yb:Nat) (lv:Value) (ws:List ByteArray) (k:Nat) (lo:Nat) (hr:w.ownsRow 0 9 1 lv ws.length (ws.map Value.string)) (hB:Blk w sb 181 (scArr yb lv k 0 lo)) (hn:ws.length<=1000) (hk:k < ws.length):
  Calls Tryz.prog 135 #[.pointer (some ⟨sb,0,none⟩)] w fun x w'=>x=.returned (.string ws[k])/\Blk w' sb 181 (scArr yb lv (k+1) 0 lo)/\Kp w w' (fun b=>b=sb):=by
 have hne:=own_ne hr hB (by decide);obtain⟨g,cap,rfl,hc⟩:=row_cell hr (by omega);have c3:w.cell? ⟨sb,3,none⟩=some (.int .i64 0):=hB.cell rfl;have c2:w.cell? ⟨sb,2,none⟩=some (.int .i64 k):=hB.cell rfl;have f2:=hB.free 2;have c1:w.cell? ⟨sb,1,none⟩=some (.slice (some ⟨g,0,none⟩) ws.length cap):=hB.cell rfl;have c4:w.cell? ⟨g,k,none⟩=some (.string ws[k]):=hc k _ (by simp[hk]);have hgs:¬ g=sb:=fun e=>hne (by rw[e];rfl);clear hr hc hne;go_enter Tryz.func135,Tryz.ntmps135;go_wp2
 go_quiet (fail)
 go_wp2
 go_quiet (fail)
 go_wp2;go_ret;exact⟨rfl,(((hB.drewN _).set 2 _).drewN _),(((Kp.refl w _).drewN _).trans (Kp.one _ _ _ _)).drewN _⟩
end
section
open Go.RowKit
variable {K:Nat->Prop}
theorem isName_len {t:ByteArray} (h:t.size < 1\/(1<=t.size/\8 < t.size)):isName t.data.toList=false:=by
 have hl:t.data.toList.length=t.size:=rfl;unfold isName;rw[hl,decide_eq_false (by omega)];simp
theorem isName_bad {t:ByteArray} {k:Nat} (hk:k < t.size) (h:¬ (97<=t[k].toNat/\t[k].toNat<=122)):isName t.data.toList=false:=by
 unfold isName;have:(t.data.toList.all fun c=>decide (97<=c.toNat/\c.toNat<=122))=false:=by
  rw[List.all_eq_false];exact⟨t.data.toList[k]'hk,List.getElem_mem _,by show ¬ (decide (97<=t[k].toNat/\t[k].toNat<=122)=true);simpa using h⟩
 rw[this];simp
theorem isName_all {t:ByteArray} (h0:1<=t.size) (h1:t.size<=8) (ha:(t.data.toList.take t.size).all (fun c=>decide (97<=c.toNat/\c.toNat<=122))=true):isName t.data.toList=(!plainL.any (· == t.toList) && !keptL.any (· == t.toList)):=by
 have hl:t.data.toList.length=t.size:=rfl;rw[List.take_of_length_le (by omega)] at ha;unfold isName;rw[ha,hl,decide_eq_true ⟨h0,h1⟩,ByteArray.toList_eq];simp
theorem nameS (t:ByteArray) (w:World):
  Calls Tryz.prog 136 #[.string t] w fun e w'=>e=.returned (.bool (isName t.data.toList))/\Kp w w' (fun _=>False):=by
 by_cases hs:t.size < 1\/(1<=t.size/\8 < t.size)
 ·have H:=hide (isName_len hs);rcases hs with h1|⟨h1,h2⟩
  all_goals
   go_enter Tryz.func136,Tryz.ntmps136;go_wp2;go_ret;refine⟨?_,Kp.refl _ _⟩;rw[H.out];rfl
 ·have h0:1<=t.size:=by omega
  have h8:t.size<=8:=by omega
  clear hs;go_enter Tryz.func136,Tryz.ntmps136;go_wp2
  go_loop [3] (fun i=>∃ k:Nat,k<=t.size/\i=.int .i64 k/\(t.data.toList.take k).all (fun c=>decide (97<=c.toNat/\c.toNat<=122))=true) (fun i=>t.size - (intOf i).toNat)
  case atStart=>exact⟨0,Nat.zero_le _,rfl,rfl⟩
  case round=>
   obtain⟨k,hk,rfl,hall⟩:=hrel;have HA:=hide hall;clear hall;by_cases hlt:k < t.size
   ·by_cases hd:97<=t[k].toNat/\t[k].toNat<=122
    ·obtain⟨hd1,hd2⟩:=hd;go_wp2
     go_round
     case rel=>
      refine⟨k+1,by omega,by go_num,?_⟩;rw[take_snoc t k hlt,List.all_append,HA.out];simp[hd1,hd2]
     case measure=>simp[intOf];omega
    ·have H:=hide (isName_bad hlt hd);rcases (show t[k].toNat < 97\/(97<=t[k].toNat/\122 < t[k].toNat) by omega) with h1|⟨h1,h2⟩
     all_goals
      clear hd;go_wp2;go_ret;refine⟨?_,Kp.refl _ _⟩;rw[H.out];rfl
   ·have hks:k=t.size:=by omega
    have H:=hide (isName_all h0 h8 (by have:=HA.out;rwa [hks] at this));clear hks
    go_wp2_with fail
    refine (isPlainR _ _).mono ?_;rintro e w1 ⟨rfl,hk1⟩
    go_wp2_with fail
    refine (isKeptR _ _).mono ?_;rintro e w2 ⟨rfl,hk2⟩
    cases b1:plainL.any (· == t.toList)
    all_goals
     cases b2:keptL.any (· == t.toList)
     all_goals
      go_wp2;go_ret;refine⟨?_,hk1.trans hk2⟩;rw[H.out,b1,b2];rfl
structure ScInv (K:Nat->Prop) (w:World) (sb yb:Nat) (rs:RS) (defs:List Def) (lv:Value) (ws:List ByteArray) (k:Nat) (e:Int) (lo:Nat):Prop where
 blk:Blk w sb 181 (scArr yb lv k e lo)
 yblk:Blk w yb 67 rs.arr
 dr:DRel K w rs.d.dv defs
 row:w.ownsRow 0 9 1 lv ws.length (ws.map Value.string)
 len:ws.length<=1000
 kle:k<=ws.length
theorem DRel.kp {w w':World} {dv:Value} {defs:List Def} {V:Nat->Prop} (h:DRel K w dv defs) (hk:Kp w w' V) (hn:NoB w V) (hv:∀ b c,V b->¬ Blk w b 95 c):DRel K w' dv defs:=by
 obtain⟨xs,h1,h2⟩:=h.ex;exact⟨⟨xs,row_keep h1 (fun b c hb' hc=>hk.blk hc (fun hV=>hv b c hV hc)),defsIn_keep (Keeps.kp hk hn _) _ _ h2⟩,h.len,fun b hb=>Nat.lt_of_lt_of_le (h.old b hb) hk.size⟩
theorem NoB.one {w:World} {b:Nat} {t:TypeId} {c:Array Value} (hb:Blk w b t c) (h1:t ≠ 227) (h2:t ≠ 9):NoB w (fun k=>k=b):=by
 intro b' t' c' e hb';subst e;have:=(hb.inj hb').1;subst this;exact⟨h1,h2⟩
theorem ScInv.to {w w':World} {sb yb:Nat} {rs:RS} {defs:List Def} {lv:Value} {ws:List ByteArray} {k:Nat} {e:Int} {lo:Nat} (h:ScInv K w sb yb rs defs lv ws k e lo) (hk:Kp w w' (fun b=>b=sb)) {k':Nat} {e':Int} {lo':Nat}
  (hb:Blk w' sb 181 (scArr yb lv k' e' lo')) (hk':k'<=ws.length):ScInv K w' sb yb rs defs lv ws k' e' lo':=by
 refine⟨hb,hk.blk h.yblk ?_,h.dr.kp hk (NoB.one h.blk (by decide) (by decide)) ?_,hk.row h.row ?_,h.len,hk'⟩
 ·intro e;subst e;exact absurd (h.yblk.inj h.blk).1 (by decide)
 ·intro b c e hb2;subst e;exact absurd (hb2.inj h.blk).1 (by decide)
 ·intro b hb2 e;subst e;exact own_ne h.row h.blk (by decide) hb2
theorem ScInv.kp {w w':World} {sb yb:Nat} {rs:RS} {defs:List Def} {lv:Value} {ws:List ByteArray} {k:Nat} {e:Int} {lo:Nat} (h:ScInv K w sb yb rs defs lv ws k e lo) (hk:Kp w w' (fun _=>False)):ScInv K w' sb yb rs defs lv ws k e lo:=
 h.to (hk.mono (fun _ _ h=>h.elim)) (hk.blk h.blk (by simp)) h.kle
theorem ScInv.drewN {w:World} {sb yb:Nat} {rs:RS} {defs:List Def} {lv:Value} {ws:List ByteArray} {k:Nat} {e:Int} {lo:Nat} (h:ScInv K w sb yb rs defs lv ws k e lo) (n:Nat):ScInv K (w.drewN n) sb yb rs defs lv ws k e lo:=
 h.kp ((Kp.refl _ _).drewN n)
theorem ScInv.setLo {w:World} {sb yb:Nat} {rs:RS} {defs:List Def} {lv:Value} {ws:List ByteArray} {k:Nat} {e:Int} {lo:Nat} (h:ScInv K w sb yb rs defs lv ws k e lo) (lo':Nat):ScInv K (w.setCell ⟨sb,4,none⟩ (.int .i64 lo')) sb yb rs defs lv ws k e lo':=
 h.to (Kp.one _ _ _ _) (h.blk.set 4 _) h.kle
end
section
open Go.RowKit
variable {K:Nat->Prop}
theorem Blk.six {w:World} {b:Nat} {t:TypeId} {a0 a1 a2 a3 a4 a5:Value} (h:Blk w b t #[a0,a1,a2,a3,a4,a5]):
  w.cell? ⟨b,0,none⟩=some a0/\w.cell? ⟨b,1,none⟩=some a1/\w.cell? ⟨b,2,none⟩=some a2/\w.cell? ⟨b,3,none⟩=some a3/\w.cell? ⟨b,4,none⟩=some a4/\w.cell? ⟨b,5,none⟩=some a5:=
 ⟨h.cell rfl,h.cell rfl,h.cell rfl,h.cell rfl,h.cell rfl,h.cell rfl⟩
theorem Blk.sixF {w:World} {b:Nat} {t:TypeId} {c:Array Value} (h:Blk w b t c):
  w.frozen? ⟨b,0,none⟩=false/\w.frozen? ⟨b,1,none⟩=false/\w.frozen? ⟨b,2,none⟩=false/\w.frozen? ⟨b,3,none⟩=false/\w.frozen? ⟨b,4,none⟩=false/\w.frozen? ⟨b,5,none⟩=false:=
 ⟨h.free 0,h.free 1,h.free 2,h.free 3,h.free 4,h.free 5⟩
theorem Blk.set6 {w:World} {b:Nat} {t:TypeId} {a0 a1 a2 a3 a4 a5:Value} (h:Blk w b t #[a0,a1,a2,a3,a4,a5]) (v0 v1 v2 v3 v4 v5:Value):
  Blk ((((((w.setCell ⟨b,0,none⟩ v0).setCell ⟨b,1,none⟩ v1).setCell ⟨b,2,none⟩ v2).setCell ⟨b,3,none⟩ v3).setCell ⟨b,4,none⟩ v4).setCell ⟨b,5,none⟩ v5) b t #[v0,v1,v2,v3,v4,v5]:=
 (((((h.set 0 v0).set 1 v1).set 2 v2).set 3 v3).set 4 v4).set 5 v5
theorem Kp.set6 {w w1:World} {S:Nat->Prop} {b:Nat} (h:Kp w w1 S) (hb:w.heap.size<=b) (v0 v1 v2 v3 v4 v5:Value):
  Kp w ((((((w1.setCell ⟨b,0,none⟩ v0).setCell ⟨b,1,none⟩ v1).setCell ⟨b,2,none⟩ v2).setCell ⟨b,3,none⟩ v3).setCell ⟨b,4,none⟩ v4).setCell ⟨b,5,none⟩ v5) S:=by
 have hn:∀ o,(⟨b,o,none⟩:Addr).block < w.heap.size->S (⟨b,o,none⟩:Addr).block:=fun o hlt=>absurd hlt (by show ¬ b < _;omega);exact (((((h.set (hn 0) v0).set (hn 1) v1).set (hn 2) v2).set (hn 3) v3).set (hn 4) v4).set (hn 5) v5
theorem Blk.other6 {w:World} {b b':Nat} {t:TypeId} {c:Array Value} (h:Blk w b t c) (hb:b ≠ b') (v0 v1 v2 v3 v4 v5:Value):
  Blk ((((((w.setCell ⟨b',0,none⟩ v0).setCell ⟨b',1,none⟩ v1).setCell ⟨b',2,none⟩ v2).setCell ⟨b',3,none⟩ v3).setCell ⟨b',4,none⟩ v4).setCell ⟨b',5,none⟩ v5) b t c:=
 (((((h.setOther (a:=⟨b',0,none⟩) hb v0).setOther (a:=⟨b',1,none⟩) hb v1).setOther (a:=⟨b',2,none⟩) hb v2).setOther (a:=⟨b',3,none⟩) hb v3).setOther (a:=⟨b',4,none⟩) hb v4).setOther (a:=⟨b',5,none⟩) hb v5
theorem row6 {w:World} {e:TypeId} {z:Nat} {v:Value} {n b':Nat} {xs:List Value} (h:w.ownsRow 0 e z v n xs) (hb:¬ own v b') (v0 v1 v2 v3 v4 v5:Value):
  ((((((w.setCell ⟨b',0,none⟩ v0).setCell ⟨b',1,none⟩ v1).setCell ⟨b',2,none⟩ v2).setCell ⟨b',3,none⟩ v3).setCell ⟨b',4,none⟩ v4).setCell ⟨b',5,none⟩ v5).ownsRow 0 e z v n xs:=
 ownsRow_setCell_other (a:=⟨b',5,none⟩) (ownsRow_setCell_other (a:=⟨b',4,none⟩) (ownsRow_setCell_other (a:=⟨b',3,none⟩) (ownsRow_setCell_other (a:=⟨b',2,none⟩) (ownsRow_setCell_other (a:=⟨b',1,none⟩) (ownsRow_setCell_other (a:=⟨b',0,none⟩) h hb v0) hb v1) hb v2) hb v3) hb v4) hb v5
def zItem:Array Value:=#[.int .u8 0,.int .i64 0,.string ⟨#[]⟩,.slice none 0 0,.slice none 0 0,.slice none 0 0]
def consR {α β ε:Type} (done:List α):Except ε (List α × β)->Except ε (List α × β)
 | .ok (bs,r)=>.ok (done ++ bs,r)
 | .error e=>.error e
theorem consR_nil {α β ε:Type} (r:Except ε (List α × β)):consR [] r=r:=by rcases r with e|⟨bs,r⟩ <;> rfl
theorem consR_app {α β ε:Type} (d d':List α) (r:Except ε (List α × β)):consR d (consR d' r)=consR (d ++ d') r:=by rcases r with e|⟨bs,r⟩ <;> simp[consR]
def texts (ws:List ByteArray):List Tok:=ws.map fun t=>t.data.toList
theorem texts_drop (ws:List ByteArray) (k:Nat) (h:k < ws.length):(texts ws).drop k=ws[k].data.toList :: (texts ws).drop (k+1):=by
 rw[List.drop_eq_getElem_cons (by simpa [texts] using h)];simp[texts]
theorem texts_end (ws:List ByteArray):(texts ws).drop ws.length=[]:=by rw[List.drop_of_length_le];simp[texts]
def atOf (w:World) (sb:Nat):Nat:=match w.cell? ⟨sb,2,none⟩ with
 | some (.int _ k)=>k.toNat
 | _=>0
theorem atOf_eq {w:World} {sb yb:Nat} {lv:Value} {k:Nat} {e:Int} {lo:Nat} (h:Blk w sb 181 (scArr yb lv k e lo)):atOf w sb=k:=by
 unfold atOf;rw[h.cell (o:=2) (v:=.int .i64 k) rfl];simp
theorem pB_end:pBraces []=.error 4:=rfl
theorem pB_open {t:ByteArray} (h:(t.toList == [123])=true) (r:List Tok):pBraces (t.data.toList :: r)=.error 4:=by
 rw[ByteArray.toList_eq] at h;unfold pBraces;rw[if_pos (by simpa [kOpen] using h)]
theorem pB_close {t:ByteArray} (h:(t.toList == [123])=false) (h':(t.toList == [125])=true) (r:List Tok):pBraces (t.data.toList :: r)=.ok ([],r):=by
 rw[ByteArray.toList_eq] at h h';unfold pBraces;rw[if_neg (by simpa [kOpen] using h),if_pos (by simpa [kClose] using h')]
theorem pB_more {t:ByteArray} (h:(t.toList == [123])=false) (h':(t.toList == [125])=false) (r:List Tok):pBraces (t.data.toList :: r)=consR [t.data.toList] (pBraces r):=by
 rw[ByteArray.toList_eq] at h h';rw[pBraces];rw[if_neg (by simpa [kOpen] using h),if_neg (by simpa [kClose] using h')];rcases pBraces r with e|⟨a,b⟩ <;> rfl
def PBr (K:Nat->Prop) (w:World) (sb yb:Nat) (rs:RS) (defs:List Def) (lv:Value) (ws:List ByteArray) (k lo:Nat) (x:Ending) (w':World):Except Int (List Tok × List Tok)->Prop
 | .ok (bs,r)=>∃ vt k',x=.returned (.agg #[.int .u8 123,.int .i64 0,.string ⟨#[]⟩,.slice none 0 0,.slice none 0 0,vt])/\toksIn (fun b=>w.heap.size<=b) w' vt bs/\bs.length<=1000/\r=(texts ws).drop k'/\k<=k'/\ScInv K w' sb yb rs defs lv ws k' 0 lo
 | .error er=>er ≠ 0/\∃ ao n cap k',x=.returned (.agg #[.int .u8 123,.int .i64 0,.string ⟨#[]⟩,.slice none 0 0,.slice none 0 0,.slice ao n cap])/\k<=k'/\ScInv K w' sb yb rs defs lv ws k' er lo
theorem bracesS (w:World) (sb yb:Nat) (rs:RS) (defs:List Def) (lv:Value) (ws:List ByteArray) (k lo:Nat) (h:ScInv K w sb yb rs defs lv ws k 0 lo):
  Calls Tryz.prog 187 #[.pointer (some ⟨sb,0,none⟩)] w fun x w'=>Kp w w' (fun b=>b=sb)/\PBr K w sb yb rs defs lv ws k lo x w' (pBraces ((texts ws).drop k)):=by
 obtain⟨i0,hi,hz0,hz1,hz2⟩:=info_parts Tryz.info9;have hsb:=h.blk.lt;go_enter Tryz.func187,Tryz.ntmps187;go_wp2
 go_loopw [4] (fun _ wr=>∃ (k':Nat) (dn:List ByteArray) (vt:Value),k<=k'/\Kp w wr (fun b=>b=sb)/\Blk wr sb 181 (scArr yb lv k' 0 lo)/\k'<=ws.length/\wr.ownsRow 0 9 1 vt dn.length (dn.map Value.string)/\(∀ b,own vt b->w.heap.size<=b)/\dn.length<=k' /\
   Blk wr (w.heap.size+1) 227 #[.int .u8 123,.int .i64 0,.string ⟨#[]⟩,.slice none 0 0,.slice none 0 0,vt]/\Blk wr w.heap.size 227 zItem/\pBraces ((texts ws).drop k)=consR (texts dn) (pBraces ((texts ws).drop k')))
  (fun _ wr=>ws.length - atOf wr sb)
 case atStart=>
  refine⟨k,[],.slice none 0 0,Nat.le_refl _,((Kp.refl _ _).alloc _).alloc _,(h.blk.alloc _).alloc _,h.kle,World.ownsRow_nil _ _ _ _,fun b hb=>by simp[own,Value.ownBlock] at hb,Nat.zero_le _,?_,(Blk.new w zItem _).alloc _,(consR_nil _).symm⟩;have:=Blk.new (w.alloc (.cells #[.int .u8 0,.int .i64 0,.string ⟨#[]⟩,.slice none 0 0,.slice none 0 0,.slice none 0 0] 227)) #[.int .u8 123,.int .i64 0,.string ⟨#[]⟩,.slice none 0 0,.slice none 0 0,.slice none 0 0] 227
  simpa using this
 case round=>
  obtain⟨k',dn,vt,hkk,hkp,hB,hk',hrow,hown,hdl,hX,hC,hpb⟩:=hrel;have HP:=hide hpb;clear hpb;obtain⟨ao,cap,rfl⟩:=row_slice hrow;have hS:=h.to hkp hB hk';have hszr:=hkp.size;have hxs:¬ (w.heap.size+1)=sb:=by omega
  have hcs:¬ w.heap.size=sb:=by omega
  have hln:=h.len;have hmeas:atOf wr sb=k':=atOf_eq hB;by_cases hlt:k' < ws.length
  ·have HD:=hide (texts_drop ws k' hlt)
   go_wp2_with fail
   refine (nextS_ok _ sb yb lv ws k' lo hS.row hB h.len hlt).mono ?_;rintro e w1 ⟨rfl,hB1,hk1⟩;have hX1:=hk1.blk hX hxs;have hC1:=hk1.blk hC hcs;have hrow1:=hk1.row hrow (fun b hb e=>by subst e;exact own_ne hrow hB (by decide) hb);have hkp1:=hkp.trans hk1;clear hS hB hkp hX hC hrow;generalize ht:ws[k']=t;rw[ht] at HD;have HT:=hide ht;clear ht
   cases b1:(t.toList == [123])
   ·cases b2:(t.toList == [125])
    ·obtain⟨x0,x1,x2,x3,x4,x5⟩:=hX1.six;have f5:=hX1.free 5;have c3:w1.cell? ⟨sb,3,none⟩=some (.int .i64 0):=hB1.cell rfl;have hs1:=hkp1.size
     go_wp2_with (first
      | (at_builtin;refine wpList_append_to _ rfl _ _ 47 rfl 9 i0 (.string ByteArray.empty) 1 16 Tryz.underlying47 hi hz0 hz1 hz2 rfl (by decide) _ _ _ rfl (hrow1.alloc _) ⟨w1.heap.size,0,none⟩ 1 1 [.string t] rfl rfl ?c1 ?c2 ?c3 ?c4 ?_)
      | go_in)
     case c1=>intro j u hj;match j,hj with|0,hj=>simp at hj;subst hj;simp[Addr.add]
     case c2=>intro u hu;simp at hu;subst hu;rfl
     case c3=>unfold maxLen;omega
     case c4=>omega
     intro v' w2 hown' hgrow hnx;obtain⟨g,cap',rfl⟩:∃ g cap',v'=.slice (some ⟨g,0,none⟩) (dn.length+1) cap':=by
      rcases hown'.2 with⟨_,h0⟩|⟨g,cap',_,hv,_⟩
      ·omega
      ·exact⟨g,cap',hv⟩
     have hX2:Blk w2 (w.heap.size+1) 227 _:=(hX1.alloc _).same (hgrow.block _ (by have:=hX1.lt;simp;omega) (fun e=>own_ne hrow1 hX1 (by decide) e.symm));have hC2:Blk w2 w.heap.size 227 _:=(hC1.alloc _).same (hgrow.block _ (by have:=hC1.lt;simp;omega) (fun e=>own_ne hrow1 hC1 (by decide) e.symm));have hB2:Blk w2 sb 181 _:=(hB1.alloc _).same (hgrow.block _ (by have:=hB1.lt;simp;omega) (fun e=>own_ne hrow1 hB1 (by decide) e.symm));have hkp2:Kp w w2 (fun b=>b=sb):=(hkp1.alloc _).grown hgrow (fun b hb e=>by have:=hown b e;omega);have hown2:∀ b,own (.slice (some ⟨g,0,none⟩) (dn.length+1) cap') b->w.heap.size<=b:=fun b hb=>by
      rcases hnx b hb with h1|h1
      ·exact hown b h1
      ·have:(w1.alloc (.cells #[.string t] 9)).heap.size=w1.heap.size+1:=by simp
       omega
     have HO:=hide hown';have x5':=hX2.cell (o:=5) rfl;have f5':=hX2.free 5;have HP2:Hid (pBraces ((texts ws).drop k)=consR (texts (dn ++ [t])) (pBraces ((texts ws).drop (k' + 1)))):=by
      unfold Hid;rw[HP.out,HD.out,pB_more b1 b2,consR_app];simp[texts]
     clear hown' hgrow hnx hX1 hC1 hB1 hkp1 hrow1 x0 x1 x2 x3 x4 x5 f5 hk1 c3 hown HP HD HT b1 b2;go_wp2
     go_roundw
     case rel=>
      refine⟨k' + 1,dn ++ [t],_,by omega,hkp2.set (fun hlt=>absurd hlt (by show ¬ (w.heap.size+1 < w.heap.size);omega)) _,hB2.setOther (a:=⟨w.heap.size+1,5,none⟩) (Ne.symm hxs) _,by omega,?_,hown2,by simp;omega,hX2.set 5 _,hC2.setOther (a:=⟨w.heap.size+1,5,none⟩) (by show w.heap.size ≠ w.heap.size+1;omega) _,HP2.out⟩;have:=ownsRow_setCell_other HO.out (a:=⟨w.heap.size+1,5,none⟩) (own_ne HO.out hX2 (by decide)) (.slice (some ⟨g,0,none⟩) (dn.length+1) cap')
      simpa using this
     case measure=>
      rw[hmeas,atOf_eq (hB2.setOther (a:=⟨w.heap.size+1,5,none⟩) (Ne.symm hxs) _)];omega
    ·obtain⟨x0,x1,x2,x3,x4,x5⟩:=hX1.six;obtain⟨y0,y1,y2,y3,y4,y5⟩:=hC1.six;obtain⟨z0,z1,z2,z3,z4,z5⟩:=hC1.sixF;have c3:w1.cell? ⟨sb,3,none⟩=some (.int .i64 0):=hB1.cell rfl;go_wp2;have hC2:=hC1.set6 (.int .u8 123) (.int .i64 0) (.string ⟨#[]⟩) (.slice none 0 0) (.slice none 0 0) (.slice ao dn.length cap);have hk2:=hkp1.set6 (Nat.le_refl _) (.int .u8 123) (.int .i64 0) (.string ⟨#[]⟩) (.slice none 0 0) (.slice none 0 0) (.slice ao dn.length cap);have hB2:=hB1.other6 (Ne.symm hcs) (.int .u8 123) (.int .i64 0) (.string ⟨#[]⟩) (.slice none 0 0) (.slice none 0 0) (.slice ao dn.length cap);have hrow2:=row6 hrow1 (fun e=>own_ne hrow1 hC1 (by decide) e) (.int .u8 123) (.int .i64 0) (.string ⟨#[]⟩) (.slice none 0 0) (.slice none 0 0) (.slice ao dn.length cap);generalize ((((((w1.setCell ⟨w.heap.size,0,none⟩ (.int .u8 123)).setCell ⟨w.heap.size,1,none⟩ (.int .i64 0)).setCell ⟨w.heap.size,2,none⟩ (.string ⟨#[]⟩)).setCell ⟨w.heap.size,3,none⟩ (.slice none 0 0)).setCell ⟨w.heap.size,4,none⟩ (.slice none 0 0)).setCell ⟨w.heap.size,5,none⟩ (.slice ao dn.length cap))=wf at hC2 hk2 hB2 hrow2 ⊢;obtain⟨q0,q1,q2,q3,q4,q5⟩:=hC2.six;refine bodyPost_ret (v:=.agg #[.int .u8 123,.int .i64 0,.string ⟨#[]⟩,.slice none 0 0,.slice none 0 0,.slice ao dn.length cap]) (by simp[results,Tryz.results187,go_sem,q0,q1,q2,q3,q4,q5]) rfl ?_;refine⟨hk2,?_⟩;rw[HP.out,HD.out,pB_close b1 b2];exact⟨_,k' + 1,rfl,⟨dn,hrow2,by simp[texts],hown⟩,by simp[texts];omega,rfl,by omega,h.to hk2 hB2 (by omega)⟩
   ·go_wp2_with fail
    refine (failS _ sb yb lv (k' + 1) lo _ hB1).mono ?_;rintro e w2 ⟨rfl,hB2',hk2'⟩
    replace hX1:=hk2'.blk hX1 hxs
    replace hC1:=hk2'.blk hC1 hcs
    replace hrow1:=hk2'.row hrow1 (fun b hb e=>by subst e;exact own_ne hrow1 hB1 (by decide) hb)
    replace hkp1:=hkp1.trans hk2'
    replace hB1:=hB2'
    clear hB2' hk2' hk1;obtain⟨x0,x1,x2,x3,x4,x5⟩:=hX1.six;obtain⟨y0,y1,y2,y3,y4,y5⟩:=hC1.six;obtain⟨z0,z1,z2,z3,z4,z5⟩:=hC1.sixF;have c3:w2.cell? ⟨sb,3,none⟩=some (.int .i64 4):=hB1.cell rfl;go_wp2;have hC2:=hC1.set6 (.int .u8 123) (.int .i64 0) (.string ⟨#[]⟩) (.slice none 0 0) (.slice none 0 0) (.slice ao dn.length cap);have hk2:=hkp1.set6 (Nat.le_refl _) (.int .u8 123) (.int .i64 0) (.string ⟨#[]⟩) (.slice none 0 0) (.slice none 0 0) (.slice ao dn.length cap);have hB2:=hB1.other6 (Ne.symm hcs) (.int .u8 123) (.int .i64 0) (.string ⟨#[]⟩) (.slice none 0 0) (.slice none 0 0) (.slice ao dn.length cap);have hrow2:=row6 hrow1 (fun e=>own_ne hrow1 hC1 (by decide) e) (.int .u8 123) (.int .i64 0) (.string ⟨#[]⟩) (.slice none 0 0) (.slice none 0 0) (.slice ao dn.length cap);generalize ((((((w2.setCell ⟨w.heap.size,0,none⟩ (.int .u8 123)).setCell ⟨w.heap.size,1,none⟩ (.int .i64 0)).setCell ⟨w.heap.size,2,none⟩ (.string ⟨#[]⟩)).setCell ⟨w.heap.size,3,none⟩ (.slice none 0 0)).setCell ⟨w.heap.size,4,none⟩ (.slice none 0 0)).setCell ⟨w.heap.size,5,none⟩ (.slice ao dn.length cap))=wf at hC2 hk2 hB2 hrow2 ⊢;obtain⟨q0,q1,q2,q3,q4,q5⟩:=hC2.six;refine bodyPost_ret (v:=.agg #[.int .u8 123,.int .i64 0,.string ⟨#[]⟩,.slice none 0 0,.slice none 0 0,.slice ao dn.length cap]) (by simp[results,Tryz.results187,go_sem,q0,q1,q2,q3,q4,q5]) rfl ?_;refine⟨hk2,?_⟩;rw[HP.out,HD.out,pB_open b1];exact⟨by decide,_,_,_,k' + 1,rfl,by omega,h.to hk2 hB2 (by omega)⟩
  ·have hkl:k'=ws.length:=by omega
   subst hkl
   go_wp2_with fail
   refine (nextS_end _ sb yb lv _ _ lo hS.row hB h.len).mono ?_;rintro e w1 ⟨rfl,hB1,hk1⟩;have hX1:=hk1.blk hX hxs;have hC1:=hk1.blk hC hcs;have hrow1:=hk1.row hrow (fun b hb e=>by subst e;exact own_ne hrow hB (by decide) hb);have hkp1:=hkp.trans hk1;have c3:w1.cell? ⟨sb,3,none⟩=some (.int .i64 4):=hB1.cell rfl;clear hS hB hkp hX hC hrow;obtain⟨x0,x1,x2,x3,x4,x5⟩:=hX1.six;obtain⟨y0,y1,y2,y3,y4,y5⟩:=hC1.six;obtain⟨z0,z1,z2,z3,z4,z5⟩:=hC1.sixF;go_wp2;have hC2:=hC1.set6 (.int .u8 123) (.int .i64 0) (.string ⟨#[]⟩) (.slice none 0 0) (.slice none 0 0) (.slice ao dn.length cap);have hk2:=hkp1.set6 (Nat.le_refl _) (.int .u8 123) (.int .i64 0) (.string ⟨#[]⟩) (.slice none 0 0) (.slice none 0 0) (.slice ao dn.length cap);have hB2:=hB1.other6 (Ne.symm hcs) (.int .u8 123) (.int .i64 0) (.string ⟨#[]⟩) (.slice none 0 0) (.slice none 0 0) (.slice ao dn.length cap);have hrow2:=row6 hrow1 (fun e=>own_ne hrow1 hC1 (by decide) e) (.int .u8 123) (.int .i64 0) (.string ⟨#[]⟩) (.slice none 0 0) (.slice none 0 0) (.slice ao dn.length cap);generalize ((((((w1.setCell ⟨w.heap.size,0,none⟩ (.int .u8 123)).setCell ⟨w.heap.size,1,none⟩ (.int .i64 0)).setCell ⟨w.heap.size,2,none⟩ (.string ⟨#[]⟩)).setCell ⟨w.heap.size,3,none⟩ (.slice none 0 0)).setCell ⟨w.heap.size,4,none⟩ (.slice none 0 0)).setCell ⟨w.heap.size,5,none⟩ (.slice ao dn.length cap))=wf at hC2 hk2 hB2 hrow2 ⊢;obtain⟨q0,q1,q2,q3,q4,q5⟩:=hC2.six;refine bodyPost_ret (v:=.agg #[.int .u8 123,.int .i64 0,.string ⟨#[]⟩,.slice none 0 0,.slice none 0 0,.slice ao dn.length cap]) (by simp[results,Tryz.results187,go_sem,q0,q1,q2,q3,q4,q5]) rfl ?_;refine⟨hk2,?_⟩;rw[HP.out,texts_end,pB_end];exact⟨by decide,_,_,_,ws.length,rfl,by omega,h.to hk2 hB2 (by omega)⟩
end
section
open Go.RowKit
variable {K:Nat->Prop}
def knownD (defs:List Def) (t:Tok):Bool:=(defs.findIdx? (fun d=>d.name == t)).isSome
theorem knownD_neg {defs:List Def} {t:Tok} (h:findI defs t < 0):knownD defs t=false:=by
 unfold findI at h;unfold knownD
 cases hf:defs.findIdx? (fun d=>d.name == t) with
 | none=>rfl
 | some k=>rw[hf] at h;simp at h;omega
theorem knownD_pos {defs:List Def} {t:Tok} (h:¬ findI defs t < 0):knownD defs t=true:=by
 unfold findI at h;unfold knownD
 cases hf:defs.findIdx? (fun d=>d.name == t) with
 | none=>rw[hf] at h;simp at h
 | some k=>rfl
abbrev PRes:=Except Int (List It × Tok × List Tok)
theorem pB0 (known:Tok->Bool) (lo:Nat) (ends:List Tok) (r:List Tok):pRead known 0 ⟨false,lo,ends,[]⟩ r=none:=rfl
theorem pB_nil (known:Tok->Bool) (g lo:Nat) (ends:List Tok):pRead known (g+1) ⟨false,lo,ends,[]⟩ []=some (.error 4):=by rw[pRead];rfl
theorem pB_stop (known:Tok->Bool) (g lo:Nat) (ends:List Tok) (t:Tok) (r:List Tok) (h:ends.any (· == t)=true):pRead known (g+1) ⟨false,lo,ends,[]⟩ (t :: r)=some (.ok ([],t,r)):=by
 rw[pRead];simp[h]
theorem pB_go (known:Tok->Bool) (g lo:Nat) (ends:List Tok) (t:Tok) (r:List Tok) (h:ends.any (· == t)=false) (res:PRes) (hres:pRead known (g+1) ⟨false,lo,ends,[]⟩ (t :: r)=some res):
  (∃ e,pRead known g ⟨true,lo,[],t⟩ r=some (.error e)/\res=.error e) \/
  (∃ xs t1 r2 res',pRead known g ⟨true,lo,[],t⟩ r=some (.ok (xs,t1,r2))/\pRead known g ⟨false,lo,ends,[]⟩ r2=some res'/\res=consR xs res'):=by
 rw[pRead] at hres;simp only[h,Bool.false_eq_true,if_false,if_true] at hres
 split at hres
 ·cases hres
 ·rename_i e he;injection hres with hres;exact .inl ⟨e,he,hres.symm⟩
 ·rename_i xs t1 r2 he
  split at hres
  ·cases hres
  ·rename_i e he';injection hres with hres;exact .inr ⟨xs,t1,r2,.error e,he,he',hres.symm⟩
  ·rename_i ys t' r3 he';injection hres with hres;exact .inr ⟨xs,t1,r2,.ok (ys,t',r3),he,he',hres.symm⟩
theorem pI0 (known:Tok->Bool) (lo:Nat) (t:Tok) (r:List Tok):pRead known 0 ⟨true,lo,[],t⟩ r=none:=rfl
def longT (t:Tok):Prop:=t=kIf\/t=kBegin\/t=kDo\/t=kOpen
theorem pI_one (known:Tok->Bool) (g lo:Nat) (t:Tok) (r:List Tok) (h:¬ longT t):pRead known (g+1) ⟨true,lo,[],t⟩ r=match pOne known lo t with
  | .error e=>some (.error e)
  | .ok x=>some (.ok ([x],[],r)):=by
 unfold longT at h;rw[pRead.eq_def];simp only[Bool.true_eq_false,if_false];rw[if_neg (fun e=>h (.inl e)),if_neg (fun e=>h (.inr (.inl e))),if_neg (fun e=>h (.inr (.inr (.inl e)))),if_neg (fun e=>h (.inr (.inr (.inr e))))];rfl
theorem not_long_num {t:Tok} {n:Int} (h:numP t=some n):¬ longT t:=by
 rintro (rfl|rfl|rfl|rfl)
 ·rw[show numP kIf=none by decide] at h;cases h
 ·rw[show numP kBegin=none by decide] at h;cases h
 ·rw[show numP kDo=none by decide] at h;cases h
 ·rw[show numP kOpen=none by decide] at h;cases h
theorem not_long_plain {t:Tok} (h:plainL.any (· == t)=true):¬ longT t:=by
 rintro (rfl|rfl|rfl|rfl) <;> revert h <;> decide
theorem pI_num {known:Tok->Bool} {g lo:Nat} {t:Tok} {r:List Tok} {n:Int} (h:numP t=some n):pRead known (g+1) ⟨true,lo,[],t⟩ r=some (.ok ([⟨110,n,[],[],[],[]⟩],[],r)):=by
 rw[pI_one _ _ _ _ _ (not_long_num h)];unfold pOne;rw[h]
theorem pI_plain {known:Tok->Bool} {g lo:Nat} {t:Tok} {r:List Tok} (h:numP t=none) (h':plainL.any (· == t)=true):pRead known (g+1) ⟨true,lo,[],t⟩ r=some (.ok ([⟨112,0,t,[],[],[]⟩],[],r)):=by
 rw[pI_one _ _ _ _ _ (not_long_plain h')];unfold pOne;rw[h];simp only[h',if_true]
theorem pI_i {known:Tok->Bool} {g lo:Nat} {r:List Tok} (h:0 < lo):pRead known (g+1) ⟨true,lo,[],kI⟩ r=some (.ok ([⟨105,0,[],[],[],[]⟩],[],r)):=by
 rw[pI_one _ _ _ _ _ (by unfold longT;decide)];have:pOne known lo kI=.ok ⟨105,0,[],[],[],[]⟩:=by
  unfold pOne;rw[show numP kI=none by decide];simp only;rw[if_neg (by decide),if_pos ⟨trivial,h⟩]
 rw[this]
theorem pI_i0 {known:Tok->Bool} {g:Nat} {r:List Tok}:pRead known (g+1) ⟨true,0,[],kI⟩ r=some (.error 4):=by
 rw[pI_one _ _ _ _ _ (by unfold longT;decide)];have:pOne known 0 kI=.error 4:=by
  unfold pOne;rw[show numP kI=none by decide];simp only;rw[if_neg (by decide),if_neg (by simp),if_neg (by decide),if_neg (by decide),if_pos (by decide)]
 rw[this]
theorem pI_rec {known:Tok->Bool} {g lo:Nat} {r:List Tok}:pRead known (g+1) ⟨true,lo,[],kRecurse⟩ r=some (.ok ([⟨114,0,[],[],[],[]⟩],[],r)):=by
 rw[pI_one _ _ _ _ _ (by unfold longT;decide)];have:pOne known lo kRecurse=.ok ⟨114,0,[],[],[],[]⟩:=by
  unfold pOne;rw[show numP kRecurse=none by decide];simp only;rw[if_neg (by decide),if_neg (fun h=>absurd h.1 (by decide)),if_pos trivial]
 rw[this]
theorem pI_exit {known:Tok->Bool} {g lo:Nat} {r:List Tok}:pRead known (g+1) ⟨true,lo,[],kExit⟩ r=some (.ok ([⟨120,0,[],[],[],[]⟩],[],r)):=by
 rw[pI_one _ _ _ _ _ (by unfold longT;decide)];have:pOne known lo kExit=.ok ⟨120,0,[],[],[],[]⟩:=by
  unfold pOne;rw[show numP kExit=none by decide];simp only;rw[if_neg (by decide),if_neg (fun h=>absurd h.1 (by decide)),if_neg (by decide),if_pos trivial]
 rw[this]
structure Other (t:Tok):Prop where
 num:numP t=none
 pl:plainL.any (· == t)=false
 k1:(t == kIf)=false
 k2:(t == kBegin)=false
 k3:(t == kDo)=false
 k4:(t == kI)=false
 k5:(t == kRecurse)=false
 k6:(t == kExit)=false
 k7:(t == kOpen)=false
theorem Other.one {t:Tok} (h:Other t) (known:Tok->Bool) (g lo:Nat) (r:List Tok):pRead known (g+1) ⟨true,lo,[],t⟩ r=if formD t=true then some (.error 4) else if known t=true then some (.ok ([⟨99,0,t,[],[],[]⟩],[],r)) else some (.error 3):=by
 have ne:∀ {k:Tok},(t == k)=false->¬ t=k:=fun h=>by simpa using h
 rw[pI_one _ _ _ _ _ (by rintro (e|e|e|e);exact ne h.k1 e;exact ne h.k2 e;exact ne h.k3 e;exact ne h.k7 e)];have:pOne known lo t=if formD t=true then .error 4 else if known t=true then .ok ⟨99,0,t,[],[],[]⟩ else .error 3:=by
  unfold pOne;rw[h.num];simp only;rw[if_neg (by rw[h.pl];decide),if_neg (fun e=>ne h.k4 e.1),if_neg (ne h.k5),if_neg (ne h.k6)]
 rw[this]
 split
 ·rename_i e he;split at he
  ·injection he with he;subst he;rename_i hf;rw[if_pos hf]
  ·split at he
   ·cases he
   ·injection he with he;subst he;rename_i hf hk;rw[if_neg hf,if_neg hk]
 ·rename_i x he;split at he
  ·cases he
  ·split at he
   ·injection he with he;subst he;rename_i hf hk;rw[if_neg hf,if_pos hk]
   ·cases he
theorem pI_if {known:Tok->Bool} {g lo:Nat} {r:List Tok} {res:PRes} (h:pRead known (g+1) ⟨true,lo,[],kIf⟩ r=some res):
    (∃ e,pRead known g ⟨false,lo,[kElse,kThen],[]⟩ r=some (.error e)/\res=.error e) \/
    (∃ a t1 r1,pRead known g ⟨false,lo,[kElse,kThen],[]⟩ r=some (.ok (a,t1,r1)) /\
      ((t1=kElse/\((∃ e,pRead known g ⟨false,lo,[kThen],[]⟩ r1=some (.error e)/\res=.error e)\/(∃ b t2 r2,pRead known g ⟨false,lo,[kThen],[]⟩ r1=some (.ok (b,t2,r2))/\res=.ok ([⟨63,0,[],a,b,[]⟩],[],r2)))) \/
       (¬ t1=kElse/\res=.ok ([⟨63,0,[],a,[],[]⟩],[],r1)))):=by
  rw[pRead.eq_def] at h;simp only[Bool.true_eq_false,if_false,if_true] at h
  split at h
  · cases h
  · rename_i e he;injection h with h;exact .inl ⟨e,he,h.symm⟩
  · rename_i a t1 r1 he
    refine .inr ⟨a,t1,r1,he,?_⟩;by_cases h1:t1=kElse
    · rw[if_pos h1] at h
      refine .inl ⟨h1,?_⟩
      split at h
      · cases h
      · rename_i e he';injection h with h;exact .inl ⟨e,he',h.symm⟩
      · rename_i b t2 r2 he';injection h with h;exact .inr ⟨b,t2,r2,he',h.symm⟩
    · rw[if_neg h1] at h
      injection h with h;exact .inr ⟨h1,h.symm⟩
theorem pI_begin {known:Tok->Bool} {g lo:Nat} {r:List Tok} {res:PRes} (h:pRead known (g+1) ⟨true,lo,[],kBegin⟩ r=some res):
    (∃ e,pRead known g ⟨false,lo,[kUntil,kWhile],[]⟩ r=some (.error e)/\res=.error e) \/
    (∃ a t1 r1,pRead known g ⟨false,lo,[kUntil,kWhile],[]⟩ r=some (.ok (a,t1,r1)) /\
      ((t1=kWhile/\((∃ e,pRead known g ⟨false,lo,[kRepeat],[]⟩ r1=some (.error e)/\res=.error e)\/(∃ b t2 r2,pRead known g ⟨false,lo,[kRepeat],[]⟩ r1=some (.ok (b,t2,r2))/\res=.ok ([⟨119,0,[],a,b,[]⟩],[],r2)))) \/
       (¬ t1=kWhile/\res=.ok ([⟨117,0,[],a,[],[]⟩],[],r1)))):=by
  rw[pRead.eq_def] at h;simp only[Bool.true_eq_false,if_false] at h;rw[if_neg (by decide),if_pos trivial] at h
  split at h
  · cases h
  · rename_i e he;injection h with h;exact .inl ⟨e,he,h.symm⟩
  · rename_i a t1 r1 he
    refine .inr ⟨a,t1,r1,he,?_⟩;by_cases h1:t1=kWhile
    · rw[if_pos h1] at h
      refine .inl ⟨h1,?_⟩
      split at h
      · cases h
      · rename_i e he';injection h with h;exact .inl ⟨e,he',h.symm⟩
      · rename_i b t2 r2 he';injection h with h;exact .inr ⟨b,t2,r2,he',h.symm⟩
    · rw[if_neg h1] at h
      injection h with h;exact .inr ⟨h1,h.symm⟩
theorem pI_do {known:Tok->Bool} {g lo:Nat} {r:List Tok} {res:PRes} (h:pRead known (g+1) ⟨true,lo,[],kDo⟩ r=some res):
  (∃ e,pRead known g ⟨false,lo+1,[kLoop],[]⟩ r=some (.error e)/\res=.error e) \/
  (∃ a t1 r1,pRead known g ⟨false,lo+1,[kLoop],[]⟩ r=some (.ok (a,t1,r1))/\res=.ok ([⟨100,0,[],a,[],[]⟩],[],r1)):=by
 rw[pRead.eq_def] at h;simp only[Bool.true_eq_false,if_false] at h;rw[if_neg (by decide),if_neg (by decide),if_pos trivial] at h
 split at h
 ·cases h
 ·rename_i e he;injection h with h;exact .inl ⟨e,he,h.symm⟩
 ·rename_i a t1 r1 he;injection h with h;exact .inr ⟨a,t1,r1,he,h.symm⟩
theorem pI_open {known:Tok->Bool} {g lo:Nat} {r:List Tok}:pRead known (g+1) ⟨true,lo,[],kOpen⟩ r=match pBraces r with
  | .error e=>some (.error e)
  | .ok (ts,r1)=>some (.ok ([⟨123,0,[],[],[],ts⟩],[],r1)):=by
 rw[pRead.eq_def];simp only[Bool.true_eq_false,if_false];rw[if_neg (by decide),if_neg (by decide),if_neg (by decide),if_pos trivial];rcases pBraces r with e|⟨a,b⟩ <;> rfl
end
end Go.Proofs.YteainaiebcphlaaGreatDoor
