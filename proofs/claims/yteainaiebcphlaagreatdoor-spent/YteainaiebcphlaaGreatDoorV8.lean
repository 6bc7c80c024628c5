import Derived.Test.YteainaiebcphlaaGreatDoorV7
import Derived.Test.YteainaiebcphlaaGreatDoorV6
namespace Go.Proofs.YteainaiebcphlaaGreatDoor
set_option maxRecDepth 1000000
set_option maxHeartbeats 4000000
set_option linter.all false
section
open Go.RowKit
def spellW:List ByteArray:=[⟨#[]⟩,⟨#[]⟩,⟨#[43]⟩,⟨#[45]⟩,⟨#[42]⟩,⟨#[47]⟩,⟨#[109,111,100]⟩,⟨#[61]⟩,⟨#[60]⟩,⟨#[100,117,112]⟩,⟨#[100,114,111,112]⟩,⟨#[115,119,97,112]⟩,⟨#[111,118,101,114]⟩,⟨#[114,111,116]⟩,⟨#[46]⟩,⟨#[101,109,105,116]⟩,⟨#[64]⟩,⟨#[33]⟩,⟨#[58]⟩,⟨#[59]⟩,⟨#[123]⟩,⟨#[125]⟩,⟨#[105,102]⟩,⟨#[101,108,115,101]⟩,⟨#[116,104,101,110]⟩,⟨#[98,101,103,105,110]⟩,⟨#[117,110,116,105,108]⟩,⟨#[119,104,105,108,101]⟩,⟨#[114,101,112,101,97,116]⟩,⟨#[100,111]⟩,⟨#[108,111,111,112]⟩,⟨#[105]⟩,⟨#[114,101,99,117,114,115,101]⟩,⟨#[101,120,105,116]⟩]
def spellL:List (List UInt8):=[[],[]] ++ (plainL ++ ([[58],[59],[123],[125]] ++ keptL))
def spellA:Array Value:=#[.string ⟨#[]⟩,.string ⟨#[]⟩,.string ⟨#[43]⟩,.string ⟨#[45]⟩,.string ⟨#[42]⟩,.string ⟨#[47]⟩,.string ⟨#[109,111,100]⟩,.string ⟨#[61]⟩,.string ⟨#[60]⟩,.string ⟨#[100,117,112]⟩,.string ⟨#[100,114,111,112]⟩,.string ⟨#[115,119,97,112]⟩,.string ⟨#[111,118,101,114]⟩,.string ⟨#[114,111,116]⟩,.string ⟨#[46]⟩,.string ⟨#[101,109,105,116]⟩,.string ⟨#[64]⟩,.string ⟨#[33]⟩,.string ⟨#[58]⟩,.string ⟨#[59]⟩,.string ⟨#[123]⟩,.string ⟨#[125]⟩,.string ⟨#[105,102]⟩,.string ⟨#[101,108,115,101]⟩,.string ⟨#[116,104,101,110]⟩,.string ⟨#[98,101,103,105,110]⟩,.string ⟨#[117,110,116,105,108]⟩,.string ⟨#[119,104,105,108,101]⟩,.string ⟨#[114,101,112,101,97,116]⟩,.string ⟨#[100,111]⟩,.string ⟨#[108,111,111,112]⟩,.string ⟨#[105]⟩,.string ⟨#[114,101,99,117,114,115,101]⟩,.string ⟨#[101,120,105,116]⟩]
theorem sp_0 (w:World):(Instr.index 142 (.agg spellA) (.int .i64 0)).run Tryz.prog w=.ok (.string ⟨#[]⟩) w:=by kernel_rfl
theorem sp_1 (w:World):(Instr.index 142 (.agg spellA) (.int .i64 1)).run Tryz.prog w=.ok (.string ⟨#[]⟩) w:=by kernel_rfl
theorem sp_2 (w:World):(Instr.index 142 (.agg spellA) (.int .i64 2)).run Tryz.prog w=.ok (.string ⟨#[43]⟩) w:=by kernel_rfl
theorem sp_3 (w:World):(Instr.index 142 (.agg spellA) (.int .i64 3)).run Tryz.prog w=.ok (.string ⟨#[45]⟩) w:=by kernel_rfl
theorem sp_4 (w:World):(Instr.index 142 (.agg spellA) (.int .i64 4)).run Tryz.prog w=.ok (.string ⟨#[42]⟩) w:=by kernel_rfl
theorem sp_5 (w:World):(Instr.index 142 (.agg spellA) (.int .i64 5)).run Tryz.prog w=.ok (.string ⟨#[47]⟩) w:=by kernel_rfl
theorem sp_6 (w:World):(Instr.index 142 (.agg spellA) (.int .i64 6)).run Tryz.prog w=.ok (.string ⟨#[109,111,100]⟩) w:=by kernel_rfl
theorem sp_7 (w:World):(Instr.index 142 (.agg spellA) (.int .i64 7)).run Tryz.prog w=.ok (.string ⟨#[61]⟩) w:=by kernel_rfl
theorem sp_8 (w:World):(Instr.index 142 (.agg spellA) (.int .i64 8)).run Tryz.prog w=.ok (.string ⟨#[60]⟩) w:=by kernel_rfl
theorem sp_9 (w:World):(Instr.index 142 (.agg spellA) (.int .i64 9)).run Tryz.prog w=.ok (.string ⟨#[100,117,112]⟩) w:=by kernel_rfl
theorem sp_10 (w:World):(Instr.index 142 (.agg spellA) (.int .i64 10)).run Tryz.prog w=.ok (.string ⟨#[100,114,111,112]⟩) w:=by kernel_rfl
theorem sp_11 (w:World):(Instr.index 142 (.agg spellA) (.int .i64 11)).run Tryz.prog w=.ok (.string ⟨#[115,119,97,112]⟩) w:=by kernel_rfl
theorem sp_12 (w:World):(Instr.index 142 (.agg spellA) (.int .i64 12)).run Tryz.prog w=.ok (.string ⟨#[111,118,101,114]⟩) w:=by kernel_rfl
theorem sp_13 (w:World):(Instr.index 142 (.agg spellA) (.int .i64 13)).run Tryz.prog w=.ok (.string ⟨#[114,111,116]⟩) w:=by kernel_rfl
theorem sp_14 (w:World):(Instr.index 142 (.agg spellA) (.int .i64 14)).run Tryz.prog w=.ok (.string ⟨#[46]⟩) w:=by kernel_rfl
theorem sp_15 (w:World):(Instr.index 142 (.agg spellA) (.int .i64 15)).run Tryz.prog w=.ok (.string ⟨#[101,109,105,116]⟩) w:=by kernel_rfl
theorem sp_16 (w:World):(Instr.index 142 (.agg spellA) (.int .i64 16)).run Tryz.prog w=.ok (.string ⟨#[64]⟩) w:=by kernel_rfl
theorem sp_17 (w:World):(Instr.index 142 (.agg spellA) (.int .i64 17)).run Tryz.prog w=.ok (.string ⟨#[33]⟩) w:=by kernel_rfl
theorem sp_18 (w:World):(Instr.index 142 (.agg spellA) (.int .i64 18)).run Tryz.prog w=.ok (.string ⟨#[58]⟩) w:=by kernel_rfl
theorem sp_19 (w:World):(Instr.index 142 (.agg spellA) (.int .i64 19)).run Tryz.prog w=.ok (.string ⟨#[59]⟩) w:=by kernel_rfl
theorem sp_20 (w:World):(Instr.index 142 (.agg spellA) (.int .i64 20)).run Tryz.prog w=.ok (.string ⟨#[123]⟩) w:=by kernel_rfl
theorem sp_21 (w:World):(Instr.index 142 (.agg spellA) (.int .i64 21)).run Tryz.prog w=.ok (.string ⟨#[125]⟩) w:=by kernel_rfl
theorem sp_22 (w:World):(Instr.index 142 (.agg spellA) (.int .i64 22)).run Tryz.prog w=.ok (.string ⟨#[105,102]⟩) w:=by kernel_rfl
theorem sp_23 (w:World):(Instr.index 142 (.agg spellA) (.int .i64 23)).run Tryz.prog w=.ok (.string ⟨#[101,108,115,101]⟩) w:=by kernel_rfl
theorem sp_24 (w:World):(Instr.index 142 (.agg spellA) (.int .i64 24)).run Tryz.prog w=.ok (.string ⟨#[116,104,101,110]⟩) w:=by kernel_rfl
theorem sp_25 (w:World):(Instr.index 142 (.agg spellA) (.int .i64 25)).run Tryz.prog w=.ok (.string ⟨#[98,101,103,105,110]⟩) w:=by kernel_rfl
theorem sp_26 (w:World):(Instr.index 142 (.agg spellA) (.int .i64 26)).run Tryz.prog w=.ok (.string ⟨#[117,110,116,105,108]⟩) w:=by kernel_rfl
theorem sp_27 (w:World):(Instr.index 142 (.agg spellA) (.int .i64 27)).run Tryz.prog w=.ok (.string ⟨#[119,104,105,108,101]⟩) w:=by kernel_rfl
theorem sp_28 (w:World):(Instr.index 142 (.agg spellA) (.int .i64 28)).run Tryz.prog w=.ok (.string ⟨#[114,101,112,101,97,116]⟩) w:=by kernel_rfl
theorem sp_29 (w:World):(Instr.index 142 (.agg spellA) (.int .i64 29)).run Tryz.prog w=.ok (.string ⟨#[100,111]⟩) w:=by kernel_rfl
theorem sp_30 (w:World):(Instr.index 142 (.agg spellA) (.int .i64 30)).run Tryz.prog w=.ok (.string ⟨#[108,111,111,112]⟩) w:=by kernel_rfl
theorem sp_31 (w:World):(Instr.index 142 (.agg spellA) (.int .i64 31)).run Tryz.prog w=.ok (.string ⟨#[105]⟩) w:=by kernel_rfl
theorem sp_32 (w:World):(Instr.index 142 (.agg spellA) (.int .i64 32)).run Tryz.prog w=.ok (.string ⟨#[114,101,99,117,114,115,101]⟩) w:=by kernel_rfl
theorem sp_33 (w:World):(Instr.index 142 (.agg spellA) (.int .i64 33)).run Tryz.prog w=.ok (.string ⟨#[101,120,105,116]⟩) w:=by kernel_rfl
theorem spellA_at (k:Nat) (hk:k < 34) (w:World):(Instr.index 142 (.agg spellA) (.int .i64 (k:Int))).run Tryz.prog w=.ok (.string (spellW.getD k ⟨#[]⟩)) w:=by
 have:k=0\/k=1\/k=2\/k=3\/k=4\/k=5\/k=6\/k=7\/k=8\/k=9\/k=10\/k=11\/k=12\/k=13\/k=14\/k=15\/k=16\/k=17\/k=18\/k=19\/k=20\/k=21\/k=22\/k=23\/k=24\/k=25\/k=26\/k=27\/k=28\/k=29\/k=30\/k=31\/k=32\/k=33:=by omega
 rcases this with rfl|rfl|rfl|rfl|rfl|rfl|rfl|rfl|rfl|rfl|rfl|rfl|rfl|rfl|rfl|rfl|rfl|rfl|rfl|rfl|rfl|rfl|rfl|rfl|rfl|rfl|rfl|rfl|rfl|rfl|rfl|rfl|rfl|rfl
 ·exact sp_0 w
 ·exact sp_1 w
 ·exact sp_2 w
 ·exact sp_3 w
 ·exact sp_4 w
 ·exact sp_5 w
 ·exact sp_6 w
 ·exact sp_7 w
 ·exact sp_8 w
 ·exact sp_9 w
 ·exact sp_10 w
 ·exact sp_11 w
 ·exact sp_12 w
 ·exact sp_13 w
 ·exact sp_14 w
 ·exact sp_15 w
 ·exact sp_16 w
 ·exact sp_17 w
 ·exact sp_18 w
 ·exact sp_19 w
 ·exact sp_20 w
 ·exact sp_21 w
 ·exact sp_22 w
 ·exact sp_23 w
 ·exact sp_24 w
 ·exact sp_25 w
 ·exact sp_26 w
 ·exact sp_27 w
 ·exact sp_28 w
 ·exact sp_29 w
 ·exact sp_30 w
 ·exact sp_31 w
 ·exact sp_32 w
 ·exact sp_33 w
theorem spellW_L:spellW.map (fun t=>t.toList)=spellL:=by simp[spellW,spellL,plainL,keptL,ByteArray.toList_eq]
def kindN (l:List UInt8):Nat:=(spellL.findIdx? (· == l)).getD 0
theorem find_snoc {p:List UInt8->Bool} {L:List (List UInt8)} {k:Nat} (h:∀ x∈L.take k,p x=false) (hk:k < L.length) (hp:p L[k]=true):L.findIdx? p=some k:=by
 rw[List.findIdx?_eq_some_iff_getElem];refine⟨hk,hp,fun j hj=>?_⟩;have:=h L[j] (by rw[List.mem_take_iff_getElem];exact⟨j,by omega,rfl⟩);rw[this];decide
theorem kindM (s:ByteArray) (w:World) (tt:TypeId) (fr:Nat × Nat) (hs:s.size<=1000) (hg:w.heap[1]? = some (.cells spellA tt fr)) (R:Int) (hR:R=if (numP s.toList).isSome then 1 else (kindN s.toList:Int)):
  Calls Tryz.prog 67 #[.string s] w fun e w'=>e=.returned (.int .i64 R)/\w'=w:=by
 have HR:=hide hR;have HG:=hide hg;clear hR hg;go_enter Tryz.func67,Tryz.ntmps67
 go_wp2_with fail
 refine (isNumM _ _ hs).mono ?_;rintro e w' ⟨rfl,hw⟩;rw[hw];clear hw
 cases hn:(numP s.toList).isSome
 ·have HR2:Hid (R=(kindN s.toList:Int)):=by have:=HR.out;rw[hn] at this;exact this
  go_wp2_with (refine wpList_load_row rfl 142 _ rfl 1 rfl tt _ fr _ HG.out Tryz.underlying142 rfl (by kernel_rfl) ?_)
  go_loop [8] (fun i=>∃ k:Nat,k<=34/\i=.int .i64 k/\∀ x∈spellL.take k,(x == s.toList)=false) (fun i=>34 - (intOf i).toNat)
  case atStart=>exact⟨0,by omega,rfl,by simp⟩
  case round=>
   obtain⟨k,hk,rfl,hno⟩:=hrel;have HN:=hide hno;clear hno;by_cases hlt:k < 34
   ·have hidx:=spellA_at k hlt;obtain⟨t,ht⟩:∃ t,t=spellW.getD k ⟨#[]⟩:=⟨_,rfl⟩;rw[<-ht] at hidx;have hkl:k < spellL.length:=hlt;have HT:Hid (spellL[k]=t.toList):=by
     unfold Hid;have:spellL[k]? = some t.toList:=by
      rw[<-spellW_L,ht];have hw:k < spellW.length:=hlt;simp[List.getD,hw]
     rw[List.getElem?_eq_getElem hkl] at this;exact Option.some.inj this
    clear ht
    cases hc:(s.toList == t.toList)
    ·go_wp2
     go_round
     case rel=>
      refine⟨k+1,by omega,by go_num,?_⟩;rw[List.take_succ_eq_append_getElem hkl];intro x hx;rcases List.mem_append.1 hx with h1|h1
      ·exact HN.out x h1
      ·have:x=spellL[k]:=by simpa using h1
       rw[this,HT.out];rw[beq_eq_false_iff_ne] at hc ⊢;exact fun e=>hc e.symm
     case measure=>simp[intOf];omega
    ·have HF:Hid (R=(k:Int)):=by
      unfold Hid;rw[HR2.out];unfold kindN;rw[find_snoc HN.out hkl (by rw[HT.out];rw[beq_iff_eq] at hc ⊢;exact hc.symm)];rfl
     go_wp2;go_ret;exact⟨by rw[HF.out];rfl,rfl⟩
   ·have HF:Hid (R=0):=by
     unfold Hid;rw[HR2.out];unfold kindN;have:spellL.findIdx? (· == s.toList)=none:=by
      rw[List.findIdx?_eq_none_iff];intro x hx;exact HN.out x (by rw[List.take_of_length_le (by show 34<=k;omega)];exact hx)
     rw[this];rfl
    go_wp2;go_ret;exact⟨by rw[HF.out];rfl,rfl⟩
 ·have HR2:Hid (R=1):=by have:=HR.out;rw[hn] at this;exact this
  go_wp2;go_ret;exact⟨by rw[HR2.out];rfl,rfl⟩
end
section
open Go.RowKit
variable {K:Nat->Prop}
def defsIn (K:Nat->Prop) (w:World):List Def->List Value->Prop
 | [],xs=>xs=[]
 | d :: l,xs=>∃ nm vb vt rest,xs=.string nm :: .int .i64 d.id :: vb :: .int .i64 d.count :: .bool d.fast :: vt :: rest/\nm.data.toList=d.name/\Body K w vb d.body/\Toks K w vt d.built/\defsIn K w l rest
theorem defsIn_keep {w w':World} (hk:Keeps (nK K) (nK K) w w'):∀ (l:List Def) (xs:List Value),defsIn K w l xs->defsIn K w' l xs
 | [],_,h=>h
 | _ :: l,_,⟨nm,vb,vt,rest,h1,h2,h3,h4,h5⟩=>⟨nm,vb,vt,rest,h1,h2,h3.keep hk,toksIn_keep hk h4,defsIn_keep hk l rest h5⟩
theorem defsIn_app {w:World}:∀ (l l':List Def) (xs xs':List Value),defsIn K w l xs->defsIn K w l' xs'->defsIn K w (l ++ l') (xs ++ xs')
 | [],_,_,_,h,h'=>by have h:_=_:=h;subst h;exact h'
 | _ :: l,l',_,xs',⟨nm,vb,vt,rest,h1,h2,h3,h4,h5⟩,h'=>⟨nm,vb,vt,rest ++ xs',by rw[h1];rfl,h2,h3,h4,defsIn_app l l' rest xs' h5 h'⟩
structure DefAt (K:Nat->Prop) (w:World) (d:Def) (nm:ByteArray) (vb vt:Value):Prop where
 nm:nm.data.toList=d.name
 body:Body K w vb d.body
 built:Toks K w vt d.built
theorem six (a0 a1 a2 a3 a4 a5:Value) (rest:List Value) (i j:Nat):(a0 :: a1 :: a2 :: a3 :: a4 :: a5 :: rest)[(i+1) * 6+j]? = rest[i * 6+j]?:=by
 rw[show (i+1) * 6+j=i * 6+j+1+1+1+1+1+1 by omega];rfl
theorem six_set (a0 a1 a2 a3 a4 a5:Value) (rest:List Value) (i j:Nat) (u:Value):(a0 :: a1 :: a2 :: a3 :: a4 :: a5 :: rest).set ((i+1) * 6+j) u=a0 :: a1 :: a2 :: a3 :: a4 :: a5 :: rest.set (i * 6+j) u:=by
 rw[show (i+1) * 6+j=i * 6+j+1+1+1+1+1+1 by omega];rfl
theorem defsIn_at {w:World}:∀ (l:List Def) (xs:List Value),defsIn K w l xs->∀ i (h:i < l.length),∃ nm vb vt,DefAt K w l[i] nm vb vt /\
  xs[i * 6]? = some (.string nm)/\xs[i * 6+1]? = some (.int .i64 l[i].id)/\xs[i * 6+2]? = some vb/\xs[i * 6+3]? = some (.int .i64 l[i].count)/\xs[i * 6+4]? = some (.bool l[i].fast)/\xs[i * 6+5]? = some vt
 | [],_,_,i,h=>absurd h (by simp)
 | d :: l,xs,⟨nm,vb,vt,rest,h1,h2,h3,h4,h5⟩,0,h=>by
  subst h1;exact⟨nm,vb,vt,⟨h2,h3,h4⟩,by simp,by simp,by simp,by simp,by simp,by simp⟩
 | d :: l,xs,⟨nm,vb,vt,rest,h1,h2,h3,h4,h5⟩,i+1,h=>by
  subst h1;obtain⟨nm',vb',vt',k0,k1⟩:=defsIn_at l rest h5 i (by simpa using h);refine⟨nm',vb',vt',k0,?_⟩;have e0:=six (.string nm) (.int .i64 d.id) vb (.int .i64 d.count) (.bool d.fast) vt rest i 0;simp only[Nat.add_zero] at e0;rw[e0,six,six,six,six,six];exact k1
theorem defsIn_set {w:World} (d':Def) (nm':ByteArray) (vb' vt':Value) (hd:DefAt K w d' nm' vb' vt'):∀ (l:List Def) (xs:List Value),defsIn K w l xs->∀ i,i < l.length ->
  defsIn K w (l.set i d') ((((((xs.set (i * 6) (.string nm')).set (i * 6+1) (.int .i64 d'.id)).set (i * 6+2) vb').set (i * 6+3) (.int .i64 d'.count)).set (i * 6+4) (.bool d'.fast)).set (i * 6+5) vt')
 | [],_,_,i,h=>absurd h (by simp)
 | d :: l,xs,⟨nm,vb,vt,rest,h1,h2,h3,h4,h5⟩,0,h=>by
  subst h1;exact⟨nm',vb',vt',rest,by simp,hd.nm,hd.body,hd.built,h5⟩
 | d :: l,xs,⟨nm,vb,vt,rest,h1,h2,h3,h4,h5⟩,i+1,h=>by
  subst h1;have k:=defsIn_set d' nm' vb' vt' hd l rest h5 i (by simpa using h);refine⟨nm,vb,vt,_,?_,h2,h3,h4,k⟩;have e0:=six_set (.string nm) (.int .i64 d.id) vb (.int .i64 d.count) (.bool d.fast) vt rest i 0 (.string nm');simp only[Nat.add_zero] at e0;rw[e0,six_set,six_set,six_set,six_set,six_set]
theorem set_same {xs:List Value} {i:Nat} {u:Value} (h:xs[i]? = some u):xs.set i u=xs:=by
 apply List.ext_getElem?
 intro j;rw[List.getElem?_set]
 split
 ·rename_i e;subst e
  have:i < xs.length:=by
   rcases Nat.lt_or_ge i xs.length with h1|h1
   ·exact h1
   ·rw[List.getElem?_eq_none h1] at h;cases h
  rw[if_pos this,h]
 ·rfl
theorem row_set {w:World} {e:TypeId} {z:Nat} {v:Value} {n:Nat} {xs:List Value} (h:w.ownsRow 0 e z v n xs) {g:Nat} (hg:own v g) (j:Nat) (u:Value):(w.setCell ⟨g,j,none⟩ u).ownsRow 0 e z v n (xs.set j u):=by
 refine⟨by simpa using h.1,?_⟩;rcases h.2 with⟨rfl,_⟩|⟨g',cap,cur,rfl,hb,hgg,hnc,hcm,hcs,htk⟩
 ·simp[own,Value.ownBlock] at hg
 ·simp[own,Value.ownBlock] at hg;subst hg;have hb':Blk w g' e cur:=hgg;refine .inr ⟨g',cap,cur.setIfInBounds j u,rfl,hb,hb'.set j u,hnc,hcm,by simpa using hcs,?_⟩;rw[Array.toList_setIfInBounds,List.take_set,htk]
structure DRel (K:Nat->Prop) (w:World) (dv:Value) (defs:List Def):Prop where
 ex:∃ xs,w.ownsRow 0 95 6 dv defs.length xs/\defsIn K w defs xs
 len:defs.length<=30
 old:∀ b,K b->b < w.heap.size
theorem DRel.keep {w w':World} {dv:Value} {defs:List Def} (h:DRel K w dv defs) (hk:Keeps (nK K) (nK K) w w') (hb:∀ b,own dv b->w'.heap[b]? = w.heap[b]?) (hsz:w.heap.size<=w'.heap.size):DRel K w' dv defs:=by
 obtain⟨xs,h1,h2⟩:=h.ex;exact⟨⟨xs,row_keep h1 (fun b c hb' hc=>hc.same (hb b hb')),defsIn_keep hk _ _ h2⟩,h.len,fun b hb=>Nat.lt_of_lt_of_le (h.old b hb) hsz⟩
def nameAt (defs:List Def) (k:Nat):Tok:=(defs[k]?.map Def.name).getD []
theorem nameAt_eq (defs:List Def) (k:Nat) (h:k < defs.length):nameAt defs k=defs[k].name:=by simp[nameAt,h]
def findI (defs:List Def) (t:Tok):Int:=match defs.findIdx? (fun d=>d.name == t) with
 | some k=>k
 | none=>-1
theorem findI_none {defs:List Def} {t:Tok} (h:∀ i (hi:i < defs.length),(defs[i].name == t)=false):findI defs t = -1:=by
 unfold findI;have:defs.findIdx? (fun d=>d.name == t)=none:=by
  rw[List.findIdx?_eq_none_iff];intro d hd;obtain⟨i,hi,rfl⟩:=List.mem_iff_getElem.1 hd;exact h i hi
 rw[this]
theorem findI_some {defs:List Def} {t:Tok} {k:Nat} (hk:k < defs.length) (h0:∀ i (hi:i < k),(defs[i].name == t)=false) (h1:(defs[k].name == t)=true):findI defs t=k:=by
 unfold findI;have:defs.findIdx? (fun d=>d.name == t)=some k:=by
  rw[List.findIdx?_eq_some_iff_getElem];exact⟨hk,h1,fun j hj=>by simpa using h0 j hj⟩
 rw[this]
theorem findS (w:World) (yb:Nat) (s:RS) (defs:List Def) (t:ByteArray) (hb:Blk w yb 67 s.arr) (hd:DRel K w s.d.dv defs):
  Calls Tryz.prog 89 #[.pointer (some ⟨yb,0,none⟩),.string t] w fun e w'=>e=.returned (.int .i64 (findI defs t.data.toList))/\w'=w:=by
 obtain⟨xs,hr,hx⟩:=hd.ex;have hlen:=hd.len;have c0:w.cell? ⟨yb,17,none⟩=some s.d.dv:=hb.cell rfl;obtain⟨ao,cap,hv⟩:∃ ao cap,s.d.dv=.slice ao defs.length cap:=by
  rcases hr.2 with⟨hv,h0⟩|⟨g,cap,_,hv,_⟩
  ·exact⟨none,0,by rw[hv,h0]⟩
  ·exact⟨some ⟨g,0,none⟩,cap,hv⟩
 have hcell:∀ k,k < defs.length->∃ nm,nm.data.toList=nameAt defs k/\∃ g,ao=some ⟨g,0,none⟩/\w.cell? ⟨g,k * 6,none⟩=some (.string nm):=by
  intro k hk;obtain⟨nm,vb,vt,h1,h2,_⟩:=defsIn_at _ _ hx k hk;refine⟨nm,by rw[nameAt_eq defs k hk];exact h1.nm,?_⟩;rcases hr.2 with⟨_,h0⟩|⟨g,cap',cur,hv',_,hgg,_,_,_,htk⟩
  ·omega
  ·rw[hv] at hv';injection hv' with e1 e2 e3;refine⟨g,e1,?_⟩;have hb':Blk w g 95 cur:=hgg;refine hb'.cell ?_;rw[<-htk,List.getElem?_take] at h2
   split at h2
   ·simpa using h2
   ·cases h2
 rw[hv] at c0;have HC:=hide hcell;clear hcell hr hx hv hd;go_enter Tryz.func89,Tryz.ntmps89;go_wp2
 go_loop [5] (fun i=>∃ k:Nat,k<=defs.length/\i=.int .i64 k/\∀ i (hi:i < k),(nameAt defs i == t.data.toList)=false) (fun i=>defs.length - (intOf i).toNat)
 case atStart=>exact⟨0,Nat.zero_le _,rfl,fun i hi=>by omega⟩
 case round=>
  obtain⟨k,hk,rfl,hno⟩:=hrel;have HN:=hide hno;clear hno;by_cases hlt:k < defs.length
  ·obtain⟨nm,hnm,g,rfl,c1⟩:=HC.out k hlt;have HNM:=hide hnm;clear hnm;go_wp2
   ·have hx:(nm.toList == t.toList)=true:=by assumption
    go_ret;refine⟨?_,rfl⟩;have hf:findI defs t.data.toList=k:=by
     refine findI_some hlt (fun i hi=>by have:=HN.out i hi;rwa [nameAt_eq defs i (by omega)] at this) ?_;have:=HNM.out;rw[nameAt_eq defs k hlt] at this;rw[<-this];simpa [ByteArray.toList_eq] using hx
    rw[hf];rfl
   ·have hx:(nm.toList == t.toList)=false:=by assumption
    go_round
    case rel=>
     refine⟨k+1,by omega,by go_num,fun i hi=>?_⟩;rcases Nat.lt_or_ge i k with h|h
     ·exact HN.out i h
     ·have:i=k:=by omega
      subst this;rw[<-HNM.out];simpa [ByteArray.toList_eq] using hx
    case measure=>simp[intOf];omega
  ·go_wp2;go_ret;refine⟨?_,rfl⟩;rw[findI_none (fun i hi=>by have:=HN.out i (by omega);rwa [nameAt_eq defs i hi] at this)];rfl
end
section
open Go.RowKit
variable {K:Nat->Prop}
theorem Kp.one (w:World) (b o:Nat) (v:Value):Kp w (w.setCell ⟨b,o,none⟩ v) (fun k=>k=b):=(Kp.refl w (fun k=>k=b)).set (a:=⟨b,o,none⟩) (fun _=>rfl) v
theorem Blk.drewN {w:World} {b:Nat} {t:TypeId} {c:Array Value} (h:Blk w b t c) (n:Nat):Blk (w.drewN n) b t c:=h
theorem Kp.drewN {w w':World} {S:Nat->Prop} (h:Kp w w' S) (n:Nat):Kp w (w'.drewN n) S:=⟨h.os,h.tape,h.output,h.size,h.block⟩
theorem row_drewN {w:World} {e:TypeId} {z:Nat} {v:Value} {k:Nat} {xs:List Value} (h:w.ownsRow 0 e z v k xs) (n:Nat):(w.drewN n).ownsRow 0 e z v k xs:=h
def scArr (yb:Nat) (lv:Value) (k:Nat) (e:Int) (lo:Nat):Array Value:=#[.pointer (some ⟨yb,0,none⟩),lv,.int .i64 k,.int .i64 e,.int .i64 lo]
theorem failS (w:World) (sb yb:Nat) (lv:Value) (k:Nat) (lo:Nat) (e:Int) (h:Blk w sb 181 (scArr yb lv k 0 lo)):
  Calls Tryz.prog 137 #[.pointer (some ⟨sb,0,none⟩),.int .i64 e] w fun x w'=>x=.returned (.tuple #[])/\Blk w' sb 181 (scArr yb lv k e lo)/\Kp w w' (fun b=>b=sb):=by
 have c3:w.cell? ⟨sb,3,none⟩=some (.int .i64 0):=h.cell rfl;have f3:=h.free 3;go_enter Tryz.func137,Tryz.ntmps137;go_wp2
 go_end0
 exact⟨rfl,h.set 3 _,Kp.one _ _ _ _⟩
theorem failS_no (w:World) (sb yb:Nat) (lv:Value) (k:Nat) (lo:Nat) (e e0:Int) (he:(e0 == 0)=false) (h:Blk w sb 181 (scArr yb lv k e0 lo)):
  Calls Tryz.prog 137 #[.pointer (some ⟨sb,0,none⟩),.int .i64 e] w fun x w'=>x=.returned (.tuple #[])/\w'=w:=by
 have c3:w.cell? ⟨sb,3,none⟩=some (.int .i64 e0):=h.cell rfl;go_enter Tryz.func137,Tryz.ntmps137;go_wp2
 go_end0
 exact⟨rfl,rfl⟩
theorem row_slice {w:World} {e:TypeId} {z:Nat} {v:Value} {n:Nat} {xs:List Value} (h:w.ownsRow 0 e z v n xs):∃ ao cap,v=.slice ao n cap:=by
 rcases h.2 with⟨hv,h0⟩|⟨g,cap,_,hv,_⟩
 ·exact⟨none,0,by rw[hv,h0]⟩
 ·exact⟨some ⟨g,0,none⟩,cap,hv⟩
theorem row_cell {w:World} {e:TypeId} {z:Nat} {v:Value} {n:Nat} {xs:List Value} (h:w.ownsRow 0 e z v n xs) (hn:0 < n):∃ g cap,v=.slice (some ⟨g,0,none⟩) n cap/\∀ j u,xs[j]? = some u->w.cell? ⟨g,j,none⟩=some u:=by
 rcases h.2 with⟨hv,h0⟩|⟨g,cap,cur,hv,_,hgg,_,_,_,htk⟩
 ·omega
 ·refine⟨g,cap,hv,fun j u hj=>?_⟩;have hb':Blk w g e cur:=hgg;refine hb'.cell ?_;rw[<-htk,List.getElem?_take] at hj
  split at hj
  ·simpa using hj
  ·cases hj
theorem nextS_err (w:World) (sb yb:Nat) (lv:Value) (n:Nat) (xs:List Value) (k:Nat) (lo:Nat) (e0:Int) (he:(e0 != 0)=true) (hr:w.ownsRow 0 9 1 lv n xs) (hB:Blk w sb 181 (scArr yb lv k e0 lo)) (_hn:n<=1000) (_hk:k<=n):
  Calls Tryz.prog 135 #[.pointer (some ⟨sb,0,none⟩)] w fun x w'=>x=.returned (.string ⟨#[]⟩)/\Blk w' sb 181 (scArr yb lv k e0 lo)/\Kp w w' (fun b=>b=sb):=by
 obtain⟨ao,cap,rfl⟩:=row_slice hr;have c3:w.cell? ⟨sb,3,none⟩=some (.int .i64 e0):=hB.cell rfl;have c2:w.cell? ⟨sb,2,none⟩=some (.int .i64 k):=hB.cell rfl;have c1:w.cell? ⟨sb,1,none⟩=some (.slice ao n cap):=hB.cell rfl;have he2:(e0 == 0)=false:=by simpa using he
 clear hr;by_cases hlt:k < n
 all_goals
  go_enter Tryz.func135,Tryz.ntmps135;go_wp2
  go_quiet (fail)
  go_wp2_with fail
  refine (failS_no _ sb yb (.slice ao n cap) k lo _ _ he2 (hB.drewN _)).mono ?_;rintro e w' ⟨rfl,rfl⟩;go_wp2;go_ret;exact⟨rfl,hB.drewN _,(Kp.refl _ _).drewN _⟩
theorem nextS_end (w:World) (sb yb:Nat) (lv:Value) (n:Nat) (xs:List Value) (lo:Nat) (hr:w.ownsRow 0 9 1 lv n xs) (hB:Blk w sb 181 (scArr yb lv n 0 lo)) (_hn:n<=1000):
  Calls Tryz.prog 135 #[.pointer (some ⟨sb,0,none⟩)] w fun x w'=>x=.returned (.string ⟨#[]⟩)/\Blk w' sb 181 (scArr yb lv n 4 lo)/\Kp w w' (fun b=>b=sb):=by
 obtain⟨ao,cap,rfl⟩:=row_slice hr;have c3:w.cell? ⟨sb,3,none⟩=some (.int .i64 0):=hB.cell rfl;have c2:w.cell? ⟨sb,2,none⟩=some (.int .i64 n):=hB.cell rfl;have c1:w.cell? ⟨sb,1,none⟩=some (.slice ao n cap):=hB.cell rfl;clear hr;go_enter Tryz.func135,Tryz.ntmps135;go_wp2
 go_quiet (fail)
 go_wp2_with fail
 refine (failS _ sb yb (.slice ao n cap) n lo _ (hB.drewN _)).mono ?_;rintro e w' ⟨rfl,h1,h2⟩;go_wp2;go_ret;exact⟨rfl,h1,((Kp.refl w _).drewN _).trans h2⟩
theorem nextS_ok (w:World) (sb yb:Nat) (lv:Value) (ws:List ByteArray) (k:Nat) (lo:Nat) (hr:w.ownsRow 0 9 1 lv ws.length (ws.map Value.string)) (hB:Blk w sb 181 (scArr yb lv k 0 lo)) (hn:ws.length<=1000) (hk:k < ws.length):
  Calls Tryz.prog 135 #[.pointer (some ⟨sb,0,none⟩)] w fun x w'=>x=.returned (.string ws[k])/\Blk w' sb 181 (scArr yb lv (k+1) 0 lo)/\Kp w w' (fun b=>b=sb):=by
 have hne:=own_ne hr hB (by decide);obtain⟨g,cap,rfl,hc⟩:=row_cell hr (by omega);have c3:w.cell? ⟨sb,3,none⟩=some (.int .i64 0):=hB.cell rfl;have c2:w.cell? ⟨sb,2,none⟩=some (.int .i64 k):=hB.cell rfl;have f2:=hB.free 2;have c1:w.cell? ⟨sb,1,none⟩=some (.slice (some ⟨g,0,none⟩) ws.length cap):=hB.cell rfl;have c4:w.cell? ⟨g,k,none⟩=some (.string ws[k]):=hc k _ (by simp[hk]);have hgs:¬ g=sb:=fun e=>hne (by rw[e];rfl);clear hr hc hne;go_enter Tryz.func135,Tryz.ntmps135;go_wp2
 go_quiet (fail)
 go_wp2
 go_quiet (fail)
 go_wp2;go_ret;exact⟨rfl,(((hB.drewN _).set 2 _).drewN _),(((Kp.refl w _).drewN _).trans (Kp.one _ _ _ _)).drewN _⟩
end
section
open Go.RowKit
variable {K:Nat->Prop}
theorem isName_len {t:ByteArray} (h:t.size < 1\/(1<=t.size/\8 < t.size)):isName t.data.toList=false:=by
 have hl:t.data.toList.length=t.size:=rfl;unfold isName;rw[hl,decide_eq_false (by omega)];simp
theorem isName_bad {t:ByteArray} {k:Nat} (hk:k < t.size) (h:¬ (97<=t[k].toNat/\t[k].toNat<=122)):isName t.data.toList=false:=by
 unfold isName;have:(t.data.toList.all fun c=>decide (97<=c.toNat/\c.toNat<=122))=false:=by
  rw[List.all_eq_false];exact⟨t.data.toList[k]'hk,List.getElem_mem _,by show ¬ (decide (97<=t[k].toNat/\t[k].toNat<=122)=true);simpa using h⟩
 rw[this];simp
theorem isName_all {t:ByteArray} (h0:1<=t.size) (h1:t.size<=8) (ha:(t.data.toList.take t.size).all (fun c=>decide (97<=c.toNat/\c.toNat<=122))=true):isName t.data.toList=(!plainL.any (· == t.toList) && !keptL.any (· == t.toList)):=by
 have hl:t.data.toList.length=t.size:=rfl;rw[List.take_of_length_le (by omega)] at ha;unfold isName;rw[ha,hl,decide_eq_true ⟨h0,h1⟩,ByteArray.toList_eq];simp
theorem nameS (t:ByteArray) (w:World):
  Calls Tryz.prog 136 #[.string t] w fun e w'=>e=.returned (.bool (isName t.data.toList))/\Kp w w' (fun _=>False):=by
 by_cases hs:t.size < 1\/(1<=t.size/\8 < t.size)
 ·have H:=hide (isName_len hs);rcases hs with h1|⟨h1,h2⟩
  all_goals
   go_enter Tryz.func136,Tryz.ntmps136;go_wp2;go_ret;refine⟨?_,Kp.refl _ _⟩;rw[H.out];rfl
 ·have h0:1<=t.size:=by omega
  have h8:t.size<=8:=by omega
  clear hs;go_enter Tryz.func136,Tryz.ntmps136;go_wp2
  go_loop [3] (fun i=>∃ k:Nat,k<=t.size/\i=.int .i64 k/\(t.data.toList.take k).all (fun c=>decide (97<=c.toNat/\c.toNat<=122))=true) (fun i=>t.size - (intOf i).toNat)
  case atStart=>exact⟨0,Nat.zero_le _,rfl,rfl⟩
  case round=>
   obtain⟨k,hk,rfl,hall⟩:=hrel;have HA:=hide hall;clear hall;by_cases hlt:k < t.size
   ·by_cases hd:97<=t[k].toNat/\t[k].toNat<=122
    ·obtain⟨hd1,hd2⟩:=hd;go_wp2
     go_round
     case rel=>
      refine⟨k+1,by omega,by go_num,?_⟩;rw[take_snoc t k hlt,List.all_append,HA.out];simp[hd1,hd2]
     case measure=>simp[intOf];omega
    ·have H:=hide (isName_bad hlt hd);rcases (show t[k].toNat < 97\/(97<=t[k].toNat/\122 < t[k].toNat) by omega) with h1|⟨h1,h2⟩
     all_goals
      clear hd;go_wp2;go_ret;refine⟨?_,Kp.refl _ _⟩;rw[H.out];rfl
   ·have hks:k=t.size:=by omega
    have H:=hide (isName_all h0 h8 (by have:=HA.out;rwa [hks] at this));clear hks
    go_wp2_with fail
    refine (isPlainR _ _).mono ?_;rintro e w1 ⟨rfl,hk1⟩
    go_wp2_with fail
    refine (isKeptR _ _).mono ?_;rintro e w2 ⟨rfl,hk2⟩
    cases b1:plainL.any (· == t.toList)
    all_goals
     cases b2:keptL.any (· == t.toList)
     all_goals
      go_wp2;go_ret;refine⟨?_,hk1.trans hk2⟩;rw[H.out,b1,b2];rfl
structure ScInv (K:Nat->Prop) (w:World) (sb yb:Nat) (rs:RS) (defs:List Def) (lv:Value) (ws:List ByteArray) (k:Nat) (e:Int) (lo:Nat):Prop where
 blk:Blk w sb 181 (scArr yb lv k e lo)
 yblk:Blk w yb 67 rs.arr
 dr:DRel K w rs.d.dv defs
 row:w.ownsRow 0 9 1 lv ws.length (ws.map Value.string)
 len:ws.length<=1000
 kle:k<=ws.length
theorem DRel.kp {w w':World} {dv:Value} {defs:List Def} {V:Nat->Prop} (h:DRel K w dv defs) (hk:Kp w w' V) (hn:NoB w V) (hv:∀ b c,V b->¬ Blk w b 95 c):DRel K w' dv defs:=by
 obtain⟨xs,h1,h2⟩:=h.ex;exact⟨⟨xs,row_keep h1 (fun b c hb' hc=>hk.blk hc (fun hV=>hv b c hV hc)),defsIn_keep (Keeps.kp hk hn _) _ _ h2⟩,h.len,fun b hb=>Nat.lt_of_lt_of_le (h.old b hb) hk.size⟩
theorem NoB.one {w:World} {b:Nat} {t:TypeId} {c:Array Value} (hb:Blk w b t c) (h1:t ≠ 227) (h2:t ≠ 9):NoB w (fun k=>k=b):=by
 intro b' t' c' e hb';subst e;have:=(hb.inj hb').1;subst this;exact⟨h1,h2⟩
theorem ScInv.to {w w':World} {sb yb:Nat} {rs:RS} {defs:List Def} {lv:Value} {ws:List ByteArray} {k:Nat} {e:Int} {lo:Nat} (h:ScInv K w sb yb rs defs lv ws k e lo) (hk:Kp w w' (fun b=>b=sb)) {k':Nat} {e':Int} {lo':Nat}
  (hb:Blk w' sb 181 (scArr yb lv k' e' lo')) (hk':k'<=ws.length):ScInv K w' sb yb rs defs lv ws k' e' lo':=by
 refine⟨hb,hk.blk h.yblk ?_,h.dr.kp hk (NoB.one h.blk (by decide) (by decide)) ?_,hk.row h.row ?_,h.len,hk'⟩
 ·intro e;subst e;exact absurd (h.yblk.inj h.blk).1 (by decide)
 ·intro b c e hb2;subst e;exact absurd (hb2.inj h.blk).1 (by decide)
 ·intro b hb2 e;subst e;exact own_ne h.row h.blk (by decide) hb2
theorem ScInv.kp {w w':World} {sb yb:Nat} {rs:RS} {defs:List Def} {lv:Value} {ws:List ByteArray} {k:Nat} {e:Int} {lo:Nat} (h:ScInv K w sb yb rs defs lv ws k e lo) (hk:Kp w w' (fun _=>False)):ScInv K w' sb yb rs defs lv ws k e lo:=
 h.to (hk.mono (fun _ _ h=>h.elim)) (hk.blk h.blk (by simp)) h.kle
theorem ScInv.drewN {w:World} {sb yb:Nat} {rs:RS} {defs:List Def} {lv:Value} {ws:List ByteArray} {k:Nat} {e:Int} {lo:Nat} (h:ScInv K w sb yb rs defs lv ws k e lo) (n:Nat):ScInv K (w.drewN n) sb yb rs defs lv ws k e lo:=
 h.kp ((Kp.refl _ _).drewN n)
theorem ScInv.setLo {w:World} {sb yb:Nat} {rs:RS} {defs:List Def} {lv:Value} {ws:List ByteArray} {k:Nat} {e:Int} {lo:Nat} (h:ScInv K w sb yb rs defs lv ws k e lo) (lo':Nat):ScInv K (w.setCell ⟨sb,4,none⟩ (.int .i64 lo')) sb yb rs defs lv ws k e lo':=
 h.to (Kp.one _ _ _ _) (h.blk.set 4 _) h.kle
end
end Go.Proofs.YteainaiebcphlaaGreatDoor
