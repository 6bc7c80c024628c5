import Derived.Test.YteainaiebcphlaaGreatDoorV13
import Derived.Test.YteainaiebcphlaaGreatDoorV10
import Derived.DeepKeys4
import Derived.Maps.RangeWalk
import Derived.Test.YteainaiebcphlaaGreatDoorV11
namespace Go.Proofs.YteainaiebcphlaaGreatDoor
set_option maxRecDepth 1000000
set_option maxHeartbeats 4000000
set_option linter.all false
section
open Go.RowKit
variable {K:Nat->Prop}
theorem countS (w:World) (yb:Nat) (rs:RS) (s s':St) (k g:Nat) (h:RRel K w yb rs s) (hk:k < s.defs.length) (hs:s.count g k=some s'):
  Calls Tryz.prog 173 #[.pointer (some ⟨yb,0,none⟩),.int .i64 k] w fun e w'=>e=.returned (.tuple #[])/\RRel K w' yb rs s'/\STo yb w w' rs rs:=by
 unfold St.count at hs;rw[List.getElem?_eq_getElem hk] at hs;dsimp only at hs
 cases hf:s.defs[k].fast with
 | true=>
  rw[if_pos hf] at hs;injection hs with hs;subst hs;refine (countS_fast w yb rs s k h hk hf).mono ?_;rintro e w' ⟨rfl,rfl⟩;exact⟨rfl,h,To.refl _ _ _⟩
 | false=>
  rw[if_neg (by rw[hf];decide)] at hs;by_cases hc:wrap64 (s.defs[k].count+1) < s.hot
  ·rw[if_pos hc] at hs;injection hs with hs;subst hs;exact countS_cold w yb rs s k h hk hf hc
  ·rw[if_neg hc] at hs
   split at hs
   ·cases hs
   ·rename_i bs hbs
    injection hs with hs;subst hs;exact countS_hot w yb rs s k g h hk hf (by omega) bs hbs
theorem amongRow (s:ByteArray) (v:Value) (ws:List ByteArray) (w:World) (hr:w.ownsRow 0 9 1 v ws.length (ws.map Value.string)):
  Calls Tryz.prog 134 #[.string s,v] w fun e w'=>e=.returned (.bool ((texts ws).any (· == s.data.toList)))/\w'=w:=by
 have hmax:ws.length<=9223372036854775807:=by
  rcases hr.2 with⟨_,h0⟩|⟨_,_,_,_,_,_,h1,h2,_⟩
  ·omega
  ·unfold maxLen at h2;omega
 have hcell:∀ k (hk:k < ws.length),∃ g cap,v=.slice (some ⟨g,0,none⟩) ws.length cap/\w.cell? ⟨g,k,none⟩=some (.string ws[k]):=fun k hk=>by
  obtain⟨g,cap,h1,h2⟩:=row_cell hr (by omega);exact⟨g,cap,h1,h2 k _ (by simp[hk])⟩
 obtain⟨ao,cap,rfl⟩:=row_slice hr;have HC:=hide hcell;clear hcell hr;rw[<-any_texts];go_enter Tryz.func134,Tryz.ntmps134;go_wp2
 go_loop [5] (fun i=>∃ k:Nat,k<=ws.length/\i=.int .i64 k/\(ws.take k).any (fun t=>t.toList == s.toList)=false) (fun i=>ws.length - (intOf i).toNat)
 case atStart=>exact⟨0,Nat.zero_le _,rfl,rfl⟩
 case round=>
  obtain⟨k,hk,rfl,hno⟩:=hrel;have HN:=hide hno;clear hno;by_cases hlt:k < ws.length
  ·obtain⟨g,cap',hv,c⟩:=HC.out k hlt;injection hv with e1 e2 e3;subst e1;clear e2 e3;go_wp2
   ·have hx:(ws[k].toList == s.toList)=true:=by assumption
    go_ret;refine⟨?_,rfl⟩;have:(ws.any fun t=>t.toList == s.toList)=true:=List.any_eq_true.2 ⟨ws[k],List.getElem_mem hlt,hx⟩;rw[this];rfl
   ·have hx:(ws[k].toList == s.toList)=false:=by assumption
    go_round
    case rel=>
     refine⟨k+1,by omega,by go_num,?_⟩;rw[List.take_succ_eq_append_getElem hlt,List.any_append,HN.out];simp[hx]
    case measure=>simp[intOf];omega
  ·go_wp2;go_ret;refine⟨?_,rfl⟩;have:=HN.out;rw[List.take_of_length_le (by omega)] at this;rw[this];rfl
def slowIf (t:Tok) (d:Def):Def:=if d.fast=true/\d.built.any (· == t)=true then slowD d else d
def mapTo (defs:List Def) (t:Tok) (i:Nat):List Def:=(defs.take i).map (slowIf t) ++ defs.drop i
theorem mapTo_len (defs:List Def) (t:Tok) (i:Nat):(mapTo defs t i).length=defs.length:=by simp[mapTo];omega
theorem mapTo_zero (defs:List Def) (t:Tok):mapTo defs t 0=defs:=by simp[mapTo]
theorem mapTo_at (defs:List Def) (t:Tok) (i:Nat) (h:i < defs.length):(mapTo defs t i)[i]'(by rw[mapTo_len];exact h)=defs[i]:=by
 unfold mapTo;rw[List.getElem_append_right (by simp;omega)];simp[Nat.min_eq_left (Nat.le_of_lt h)]
theorem mapTo_succ (defs:List Def) (t:Tok) (i:Nat) (h:i < defs.length):mapTo defs t (i+1)=(mapTo defs t i).set i (slowIf t defs[i]):=by
 unfold mapTo;rw[List.take_succ_eq_append_getElem h,List.map_append,List.append_assoc,List.set_append_right _ _ (by simp;omega)];have:i - (List.map (slowIf t) (defs.take i)).length=0:=by simp;omega
 rw[this,List.drop_eq_getElem_cons h];rfl
theorem mapTo_end (defs:List Def) (t:Tok):mapTo defs t defs.length=defs.map (slowIf t):=by simp[mapTo]
theorem RRel.kpF {w w':World} {yb:Nat} {rs:RS} {s:St} (h:RRel K w yb rs s) (hk:Kp w w' (fun _=>False)):RRel K w' yb rs s:=by
 obtain⟨ns,hi,hns⟩:=h.inv;exact⟨⟨ns,hi.kp hk,hns⟩,h.e,h.st,h.mem,h.out,h.ids,h.hot,h.blt,h.dp,h.dr.kpF hk,h.good⟩
theorem STo.kpF {w w':World} {yb:Nat} {rs:RS} (hk:Kp w w' (fun _=>False)):STo yb w w' rs rs:=⟨hk.mono (fun _ _ h=>h.elim),fun _ h=>.inl h⟩
theorem RRel.setIds {w:World} {yb:Nat} {rs:RS} {s:St} (h:RRel K w yb rs s) (n:Int):RRel K (w.setCell ⟨yb,18,none⟩ (.int .i64 n)) yb { rs with d:={ rs.d with ids:=n } } { s with ids:=n }/\STo yb w (w.setCell ⟨yb,18,none⟩ (.int .i64 n)) rs { rs with d:={ rs.d with ids:=n } }:=by
 obtain⟨ns,hi,hns⟩:=h.inv;have hk:Kp w (w.setCell ⟨yb,18,none⟩ (.int .i64 n)) (fun b=>b=yb):=Kp.one _ _ _ _;have hb:=hi.blk;refine⟨⟨⟨ns,⟨hi.blk.set 18 _,ownsRow_setCell_other hi.row (own_ne hi.row hi.blk (by decide)) _,hi.len⟩,hns⟩,h.e,h.st,h.mem,h.out,rfl,h.hot,h.blt,h.dp,h.dr.kp hk (NoB.one hb (by decide) (by decide)) (fun b c e hc=>by subst e;exact absurd (hc.inj hb).1 (by decide)),?_⟩,⟨hk.mono (fun b _ e=>.inl e),fun _ h=>.inl h⟩⟩;have hg:=h.good;exact⟨hg.g,hg.s0,hg.s1,hg.s2,hg.d0,hg.d1,hg.b0,hg.b1,hg.cb⟩
theorem new_cells1 (w:World) (c:Array Value) (t:TypeId):∀ (j:Nat) (u:Value),c.toList[j]? = some u->(w.alloc (.cells c t)).cell? ((⟨w.heap.size,0,none⟩:Addr).add j)=some u:=by
 intro j u hj;rw[addr_add];exact (Blk.new w c t).cell (by simpa using hj)
theorem RRel.grow {wr w1:World} {yb:Nat} {rs:RS} {s:St} {xsd:List Value} {o:Obj} {v':Value} {d:Def} {nm:ByteArray} {vb vt:Value} (h:RRel K wr yb rs s) (hxd:defsIn K wr s.defs xsd) (hl:s.defs.length < 30)
  (hown:w1.ownsRow 0 95 6 v' (s.defs.length+1) (xsd ++ [.string nm,.int .i64 d.id,vb,.int .i64 d.count,.bool d.fast,vt])) (hgrow:((wr.alloc o).drew).grownBy w1 rs.d.dv.ownBlock) (hnx:∀ k,own v' k->own rs.d.dv k\/wr.heap.size+1<=k)
  (hat:DefAt K wr d nm vb vt) (hcb:CBnd d.body):
  Blk w1 yb 67 rs.arr/\RRel K (w1.setCell ⟨yb,17,none⟩ v') yb { rs with d:={ rs.d with dv:=v' } } { s with defs:=s.defs ++ [d] }/\STo yb wr (w1.setCell ⟨yb,17,none⟩ v') rs { rs with d:={ rs.d with dv:=v' } }:=by
 obtain⟨ns,hi,hns⟩:=h.inv;obtain⟨xs0,hr0,_⟩:=h.dr.ex;have hk1:Kp wr w1 (fun b=>own rs.d.dv b):=(((Kp.refl wr _).alloc o).drew).grown hgrow (fun b _ e=>e);have hyb:=hi.blk;have hb1:Blk w1 yb 67 rs.arr:=hk1.blk hyb (own_ne hr0 hyb (by decide));have hkp:Kp wr (w1.setCell ⟨yb,17,none⟩ v') (fun b=>b=yb\/own rs.d.dv b):=(hk1.mono (fun _ _ h=>.inr h)).set (a:=⟨yb,17,none⟩) (fun _=>.inl rfl) _;have hkeep:Keeps (nK K) (nK K) wr (w1.setCell ⟨yb,17,none⟩ v'):=Keeps.kp hkp (fun b t c hb hbl=>by
  rcases hb with e|e
  ·subst e;have:=(hbl.inj hyb).1;subst this;exact⟨by decide,by decide⟩
  ·have:=row_type hr0 e hbl;subst this;exact⟨by decide,by decide⟩) _
 have hrowd:(w1.setCell ⟨yb,17,none⟩ v').ownsRow 0 95 6 v' (s.defs.length+1) (xsd ++ [.string nm,.int .i64 d.id,vb,.int .i64 d.count,.bool d.fast,vt]):=
  ownsRow_setCell_other hown (a:=⟨yb,17,none⟩) (own_ne hown hb1 (by decide)) _
 have hg:=h.good;refine⟨hb1,⟨⟨ns,⟨hb1.set 17 _,?_,hi.len⟩,hns⟩,h.e,h.st,h.mem,h.out,h.ids,h.hot,h.blt,h.dp,⟨⟨_,by simpa using hrowd,?_⟩,by simp;omega,fun b hb=>Nat.lt_of_lt_of_le (h.dr.old b hb) hkp.size⟩,⟨hg.g,hg.s0,hg.s1,hg.s2,hg.d0,hg.d1,hg.b0,hg.b1,fun x hx=>?_⟩⟩,⟨hkp.mono (fun b _ hb=>?_),fun b hb=>?_⟩⟩
 ·have hr1:=hk1.row hi.row (fun b hb hd=>by obtain⟨c,hc⟩:=row_blk hi.row hb;exact absurd (row_type hr0 hd hc) (by decide));exact ownsRow_setCell_other hr1 (a:=⟨yb,17,none⟩) (own_ne hr1 hb1 (by decide)) _
 ·exact defsIn_app _ _ _ _ (defsIn_keep hkeep _ _ hxd) ⟨nm,vb,vt,[],rfl,hat.nm,hat.body.keep hkeep,toksIn_keep hkeep hat.built,rfl⟩
 ·rcases List.mem_append.1 hx with h1|h1
  ·exact hg.cb x h1
  ·have:x=d:=by simpa using h1
   rw[this];exact hcb
 ·rcases hb with e|e
  ·exact .inl e
  ·exact .inr (.inr e)
 ·rcases hb with e|e
  ·exact .inl (.inl e)
  ·rcases hnx b e with h1|h1
   ·exact .inl (.inr h1)
   ·right;omega
structure SLoop (K:Nat->Prop) (w wr:World) (yb:Nat) (rs:RS) (s:St) (t:Tok) (db i:Nat) (c:Array Value):Prop where
 rel:RRel K wr yb rs { s with defs:=mapTo s.defs t i }
 tt:STo yb w wr rs rs
 blk:Blk wr db 95 c
theorem slowIf_name (t:Tok) (d:Def):(slowIf t d).name=d.name:=by unfold slowIf;split <;> rfl
theorem slowIf_body (t:Tok) (d:Def):(slowIf t d).body=d.body:=by unfold slowIf;split <;> rfl
theorem find_map (defs:List Def) (t t':Tok):(defs.map (slowIf t)).findIdx? (fun d=>d.name == t')=defs.findIdx? (fun d=>d.name == t'):=by
 rw[List.findIdx?_map]
 congr 1
 funext d
 simp[slowIf_name]
theorem findI_map (defs:List Def) (t t':Tok):findI (defs.map (slowIf t)) t'=findI defs t':=by unfold findI;rw[find_map]
theorem findI_lt {defs:List Def} {t:Tok} (h:¬ findI defs t < 0):∃ k,k < defs.length/\findI defs t=k/\defs.findIdx? (fun d=>d.name == t)=some k:=by
 unfold findI at h ⊢
 cases hf:defs.findIdx? (fun d=>d.name == t) with
 | none=>rw[hf] at h;simp at h
 | some k=>
  have:=(List.findIdx?_eq_some_iff_getElem.1 hf).1;exact⟨k,this,rfl,rfl⟩
theorem findI_none' {defs:List Def} {t:Tok} (h:findI defs t < 0):defs.findIdx? (fun d=>d.name == t)=none:=by
 unfold findI at h
 cases hf:defs.findIdx? (fun d=>d.name == t) with
 | none=>rfl
 | some k=>rw[hf] at h;simp at h;omega
theorem Tryz.infoDef:(Tryz.prog.info? 95).map (fun i=>(i.zero,i.size,i.bytes))=some (some (.agg #[.string ⟨#[]⟩,.int .i64 0,.slice none 0 0,.int .i64 0,.bool false,.slice none 0 0]),6,88):=by kernel_rfl
theorem setS (w:World) (yb:Nat) (rs:RS) (s:St) (tb:ByteArray) (v:Value) (b:List It) (h:RRel K w yb rs s) (hb:Body K w v b) (hcb:CBnd b) (h30:¬ findI s.defs tb.data.toList < 0\/(findI s.defs tb.data.toList < 0/\s.defs.length < 30)):
  Calls Tryz.prog 86 #[.pointer (some ⟨yb,0,none⟩),.string tb,v] w fun e w'=>e=.returned (.tuple #[])/\∃ rs',RRel K w' yb rs' (s.set tb.data.toList b)/\STo yb w w' rs rs':=by
 obtain⟨i0,hi,hz0,hz1,hz2⟩:=info_parts Tryz.infoDef;obtain⟨xsb,hrb,-⟩:=hb.out;obtain⟨ab,pb,rfl⟩:=row_slice hrb;clear hrb;have hdl:=h.dr.len;have ci:w.cell? ⟨yb,18,none⟩=some (.int .i64 s.ids):=by rw[<-h.ids];exact h.blk.cell rfl
 have fi:=h.blk.free 18;have hyl:=h.blk.lt;obtain⟨h1,hto1⟩:=h.setIds (wrap64 (s.ids+1));have hb1:Body K (w.setCell ⟨yb,18,none⟩ (.int .i64 (wrap64 (s.ids+1)))) (.slice ab b.length pb) b:=hb.keep (Keeps.to hto1 h.noB _);have hsz1:(w.setCell ⟨yb,18,none⟩ (.int .i64 (wrap64 (s.ids+1)))).heap.size=w.heap.size:=by simp[World.setCell]
 have h2:=h1.kpF ((Kp.refl _ (fun _=>False)).alloc (.cells #[.string tb,.int .i64 (wrap64 (s.ids+1)),.slice ab b.length pb,.int .i64 0,.bool false,.slice none 0 0] 95));have hb2:=hb1.keep (Keeps.kpF ((Kp.refl _ (fun _=>False)).alloc (.cells #[.string tb,.int .i64 (wrap64 (s.ids+1)),.slice ab b.length pb,.int .i64 0,.bool false,.slice none 0 0] 95)) (nK K));have hto2:STo yb w ((w.setCell ⟨yb,18,none⟩ (.int .i64 (wrap64 (s.ids+1)))).alloc (.cells #[.string tb,.int .i64 (wrap64 (s.ids+1)),.slice ab b.length pb,.int .i64 0,.bool false,.slice none 0 0] 95)) rs { rs with d:={ rs.d with ids:=wrap64 (s.ids+1) } }:=hto1.trans (STo.kpF ((Kp.refl _ _).alloc _));have hB2:=Blk.new (w.setCell ⟨yb,18,none⟩ (.int .i64 (wrap64 (s.ids+1)))) #[.string tb,.int .i64 (wrap64 (s.ids+1)),.slice ab b.length pb,.int .i64 0,.bool false,.slice none 0 0] 95;rw[hsz1] at hB2;generalize hid:wrap64 (s.ids+1)=id at h1 hto1 hb1 h2 hb2 hto2 hB2;have hdvl:∀ q,own rs.d.dv q->q < w.heap.size:=fun q hq=>by obtain⟨xs,hr,_⟩:=h.dr.ex;exact own_lt hr hq
 have HID:=hide hid;clear h1 hto1 hb1 hb;go_enter Tryz.func86,Tryz.ntmps86;go_wp2;clear hid;obtain⟨s1,hs1⟩:∃ s1:St,s1={ s with ids:=id }:=⟨_,rfl⟩;obtain⟨rs1,hrs1⟩:∃ rs1:RS,rs1={ rs with d:={ rs.d with ids:=id } }:=⟨_,rfl⟩;have hdef:s1.defs=s.defs:=by rw[hs1]
 have hdv1:rs1.d.dv=rs.d.dv:=by rw[hrs1]
 have hnv1:rs1.nv=rs.nv:=by rw[hrs1]
 rw[<-hs1,<-hrs1] at h2;rw[<-hrs1] at hto2;rw[<-hdef] at hdl h30;rw[<-hdv1] at hdvl;have HS1:=hide hs1;have HRS1:=hide hrs1;have HDEF:=hide hdef;clear hs1 hrs1 hdef hdv1 hnv1;generalize hW2:((w.setCell ⟨yb,18,none⟩ (.int .i64 id)).alloc (.cells #[.string tb,.int .i64 id,.slice ab b.length pb,.int .i64 0,.bool false,.slice none 0 0] 95))=W2 at h2 hb2 hto2 hB2 ⊢;clear hW2;have hszW:w.heap.size < W2.heap.size:=hB2.lt;have HH:Hid (SLoop K W2 W2 yb rs1 s1 tb.data.toList w.heap.size 0 #[.string tb,.int .i64 id,.slice ab b.length pb,.int .i64 0,.bool false,.slice none 0 0]):=⟨by rw[mapTo_zero];exact h2,To.refl _ _ _,hB2⟩;have HB2:=hide hb2;have HTO2:=hide hto2;have HREL2:=hide h2;clear h2 hB2 hto2 hb2 ci fi
 go_loopw [7] (fun i wr=>∃ k:Nat,k<=s1.defs.length/\i=.int .i64 k/\SLoop K W2 wr yb rs1 s1 tb.data.toList w.heap.size k #[.string tb,.int .i64 id,.slice ab b.length pb,.int .i64 0,.bool false,.slice none 0 0]) (fun i _=>s1.defs.length - (intOf i).toNat)
 case atStart=>exact⟨0,Nat.zero_le _,rfl,HH.out⟩
 case round=>
  obtain⟨k,hk,rfl,hrel,hto,hblk⟩:=hrel;have hml:=mapTo_len s1.defs tb.data.toList k;by_cases hlt:k < s1.defs.length
  ·obtain⟨gd,capd,xs,nm,vb,vt,hD⟩:=hrel.dr.cells k (by show k < (mapTo s1.defs tb.data.toList k).length;omega);have cy:wr.cell? ⟨yb,17,none⟩=some (.slice (some ⟨gd,0,none⟩) s1.defs.length capd):=by
    have:=hrel.blk.cell (o:=17) (v:=rs1.d.dv) rfl;rw[hD.dv] at this;rw[this];simp only[mapTo_len]
   have k4:=hD.cell _ _ hD.x4;have k5:=hD.cell _ _ hD.x5;have hat:=hD.at_;simp only[mapTo_at _ _ _ hlt] at k4 k5 hat;obtain⟨wst,hrt,hwt,-⟩:=hat.built;obtain⟨a5,p5,rfl⟩:=row_slice hrt;have HWT:=hide hwt;clear hD hwt hat hml
   go_wp2_with fail
   refine (amongRow tb _ wst _ hrt).mono ?_;rintro e w' ⟨rfl,hw⟩;rw[hw];clear hw;rw[show texts wst=s1.defs[k].built from HWT.out];clear hrt;by_cases hc:s1.defs[k].fast=true/\s1.defs[k].built.any (· == tb.data.toList)=true
   ·obtain⟨hc1,hc2⟩:=hc;rw[hc1] at k4;rw[hc2];have HM:Hid (mapTo s1.defs tb.data.toList (k+1)=(mapTo s1.defs tb.data.toList k).set k (slowD s1.defs[k])):=by
     unfold Hid;rw[mapTo_succ _ _ _ hlt];unfold slowIf;rw[if_pos ⟨hc1,hc2⟩]
    clear hc1 hc2
    go_wp2_with fail
    refine (slowS _ _ _ _ k hrel (by show k < (mapTo s1.defs tb.data.toList k).length;rw[mapTo_len];exact hlt)).mono ?_;rintro e w5 ⟨rfl,hrel5,hto5⟩;have HN:SLoop K W2 w5 yb rs1 s1 tb.data.toList w.heap.size (k+1) #[.string tb,.int .i64 id,.slice ab b.length pb,.int .i64 0,.bool false,.slice none 0 0]:=by
     refine⟨?_,hto.trans hto5,hto5.blk hblk (fun e=>?_) (fun e=>?_)⟩
     ·rw[HM.out];simp only[mapTo_at _ _ _ hlt] at hrel5;exact hrel5
     ·omega
     ·rcases e with e|e
      ·obtain⟨ns,hi',_⟩:=hrel.inv;exact absurd (row_type hi'.row e hblk) (by decide)
      ·have:=hdvl _ e;omega
    clear hrel5 hto5 hrel hto hblk k4 k5 cy;go_wp2
    go_roundw
    case rel=>exact⟨k+1,by omega,by go_num,HN⟩
    case measure=>simp[intOf];omega
   ·have HM:Hid (mapTo s1.defs tb.data.toList (k+1)=mapTo s1.defs tb.data.toList k):=by
     unfold Hid;rw[mapTo_succ _ _ _ hlt];unfold slowIf;rw[if_neg hc];have:=mapTo_at s1.defs tb.data.toList k hlt
     conv=>lhs;rw[<-this]
     exact List.set_getElem_self _
    have HN:SLoop K W2 wr yb rs1 s1 tb.data.toList w.heap.size (k+1) #[.string tb,.int .i64 id,.slice ab b.length pb,.int .i64 0,.bool false,.slice none 0 0]:=⟨by rw[HM.out];exact hrel,hto,hblk⟩
    cases hc1:s1.defs[k].fast with
    | false=>
     rw[hc1] at k4;clear hc1 hc hrel hto hblk;go_wp2
     go_roundw
     case rel=>exact⟨k+1,by omega,by go_num,HN⟩
     case measure=>simp[intOf];omega
    | true=>
     have hc2:s1.defs[k].built.any (· == tb.data.toList)=false:=by
      cases hx:s1.defs[k].built.any (· == tb.data.toList) with
      | false=>rfl
      | true=>exact absurd ⟨hc1,hx⟩ hc
     rw[hc1] at k4;rw[hc2];clear hc1 hc hc2 hrel hto hblk;go_wp2
     go_roundw
     case rel=>exact⟨k+1,by omega,by go_num,HN⟩
     case measure=>simp[intOf];omega
  ·have hkl:k=s1.defs.length:=by omega
   subst hkl;rw[mapTo_end] at hrel;obtain⟨defs',hdefs'⟩:∃ d',d'=s1.defs.map (slowIf tb.data.toList):=⟨_,rfl⟩;rw[<-hdefs'] at hrel;have hlen':defs'.length=s1.defs.length:=by rw[hdefs'];simp
   have hfm:findI defs' tb.data.toList=findI s1.defs tb.data.toList:=by rw[hdefs',findI_map]
   have HDF:=hide hdefs';have HLN:=hide hlen';have hbr:=HB2.out.keep (Keeps.to hto HREL2.out.noB _);have HBR:=hide hbr;clear hdefs' hml hbr;obtain⟨xsd,hrd,hxd⟩:=hrel.dr.ex;obtain⟨aod,capd,hvd⟩:=row_slice hrd;have cy:wr.cell? ⟨yb,17,none⟩=some (.slice aod s1.defs.length capd):=by
    have:=hrel.blk.cell (o:=17) (v:=rs1.d.dv) rfl;rw[hvd] at this;rw[this];show some (Value.slice aod defs'.length capd)=_;rw[hlen']
   have fy:=hrel.blk.free 17;obtain⟨y0,y1,y2,y3,y4,y5⟩:=hblk.six;clear hlen'
   go_wp2_with fail
   refine (findS _ _ _ _ tb hrel.blk hrel.dr).mono ?_;rintro e w' ⟨rfl,hw⟩;rw[hw];clear hw;rw[show ({ s1 with defs:=defs' }:St).defs=defs' from rfl,hfm];clear hfm;rcases h30 with hf|⟨hf,hf2⟩
   ·obtain⟨kd,hkd,hfk,hfx⟩:=findI_lt (show ¬ findI s1.defs tb.data.toList < 0 by omega);have hgcb:∀ d∈defs',CBnd d.body:=hrel.good.cb;obtain⟨gd,capd',xs,nm,vb,vt,hD⟩:=hrel.dr.cells kd (by show kd < defs'.length;rw[HLN.out];exact hkd);have hv2:=hD.dv;rw[hvd] at hv2;injection hv2 with e1 e2 e3;subst e1;subst e3;clear e2;have z0:=hD.cell _ _ hD.x0;have z1:=hD.cell _ _ hD.x1;have z2:=hD.cell _ _ hD.x2;have z3:=hD.cell _ _ hD.x3;have z4:=hD.cell _ _ hD.x4;have z5:=hD.cell _ _ hD.x5;have g0:=hD.free (kd * 6);have g1:=hD.free (kd * 6+1);have g2:=hD.free (kd * 6+2);have g3:=hD.free (kd * 6+3);have g4:=hD.free (kd * 6+4);have g5:=hD.free (kd * 6+5);obtain⟨cgd,hcgd⟩:=hD.blk;have hgy:¬ gd=yb:=by rintro rfl;exact absurd (hcgd.inj hrel.blk).1 (by decide)
    have hgd:own rs1.d.dv gd:=by rw[hD.dv];rfl
    have hgw:¬ gd=w.heap.size:=by have:=hdvl _ hgd;omega
    have HFX:=hide hfx;have HD:=hide hD;rw[hfk];clear hfk hfx hf hD hrd hxd hvd;go_wp2
    go_region
    all_goals
     go_wp2;refine bodyPost_ret (results_none rfl _ _ _) rfl ?_;have hD:=HD.out;have hkp:Kp wr ((((((wr.setCell ⟨gd,kd * 6,none⟩ (.string tb)).setCell ⟨gd,kd * 6+1,none⟩ (.int .i64 id)).setCell ⟨gd,kd * 6+2,none⟩ (.slice ab b.length pb)).setCell ⟨gd,kd * 6+3,none⟩ (.int .i64 0)).setCell ⟨gd,kd * 6+4,none⟩ (.bool false)).setCell ⟨gd,kd * 6+5,none⟩ (.slice none 0 0)) (fun q=>own rs1.d.dv q):=
      ((((((Kp.refl wr _).set (a:=⟨gd,kd * 6,none⟩) (fun _=>hgd) _).set (a:=⟨gd,kd * 6+1,none⟩) (fun _=>hgd) _).set (a:=⟨gd,kd * 6+2,none⟩) (fun _=>hgd) _).set (a:=⟨gd,kd * 6+3,none⟩) (fun _=>hgd) _).set (a:=⟨gd,kd * 6+4,none⟩) (fun _=>hgd) _).set (a:=⟨gd,kd * 6+5,none⟩) (fun _=>hgd) _
     have hrow:=row_set (row_set (row_set (row_set (row_set (row_set hD.row hgd (kd * 6) (.string tb)) hgd (kd * 6+1) (.int .i64 id)) hgd (kd * 6+2) (.slice ab b.length pb)) hgd (kd * 6+3) (.int .i64 0)) hgd (kd * 6+4) (.bool false)) hgd (kd * 6+5) (.slice none 0 0);have hkeep:=Keeps.kp hkp (fun q t' c hb hbl=>by have:=row_type hD.row hb hbl;subst this;exact⟨by decide,by decide⟩) (nK K);have hset:=defsIn_set ⟨tb.data.toList,id,b,0,false,[]⟩ tb (.slice ab b.length pb) (.slice none 0 0) ⟨rfl,HBR.out.keep hkeep,toksIn.nil _ _⟩ _ _ (defsIn_keep hkeep _ _ hD.its) kd (by show kd < defs'.length;rw[HLN.out];exact hkd);have hN:=hrel.redef hkp (defs:=defs'.set kd ⟨tb.data.toList,id,b,0,false,[]⟩) ⟨⟨_,by simpa using hrow,hset⟩,by rw[List.length_set,HLN.out];exact hdl,fun b hb=>Nat.lt_of_lt_of_le (hrel.dr.old b hb) hkp.size⟩ (fun d hd=>by
      rcases List.mem_or_eq_of_mem_set hd with h1|h1
      ·exact hgcb d h1
      ·rw[h1];exact hcb)
     refine⟨rfl,rs1,?_,HTO2.out.trans (hto.trans (hN.2.trans (STo.kpF (Kp.refl _ _).drew)))⟩;have hse:s.set tb.data.toList b={ s1 with defs:=defs'.set kd ⟨tb.data.toList,id,b,0,false,[]⟩ }:=by
      unfold St.set St.find;rw[<-HDEF.out,HFX.out,HDF.out,HS1.out,HID.out];rfl
     rw[hse];exact hN.1.kpF (Kp.refl _ _).drew
   ·have HFX:=hide (findI_none' hf);have hgcb:∀ d∈defs',CBnd d.body:=hrel.good.cb;have hrow0:wr.ownsRow 0 95 6 (.slice aod s1.defs.length capd) s1.defs.length xsd:=by
     have:=hrd;rw[hvd] at this;have e:({ s1 with defs:=defs' }:St).defs.length=s1.defs.length:=HLN.out;rw[e] at this;exact this
    have HXD:Hid (defsIn K wr defs' xsd):=hxd;have HVD:Hid (rs1.d.dv=.slice aod s1.defs.length capd):=by
     have e:({ s1 with defs:=defs' }:St).defs.length=s1.defs.length:=HLN.out;rw[e] at hvd;exact hvd
    clear hxd hvd hrd;go_wp2;have hylr:=hrel.blk.lt;have hrelE:RRel K wr yb rs1 { s1 with defs:=defs' }:=hrel;have HAT:Hid (DefAt K wr ⟨tb.data.toList,id,b,0,false,[]⟩ tb (.slice ab b.length pb) (.slice none 0 0)):=⟨rfl,HBR.out,toksIn.nil _ _⟩
    go_region_law (refine step_append_to _ rfl (.tmp 73) (.tmp 75) 65 rfl 95 i0 (.agg #[.string ⟨#[]⟩,.int .i64 0,.slice none 0 0,.int .i64 0,.bool false,.slice none 0 0]) 6 88 Tryz.underlying65 hi hz0 hz1 hz2 rfl (by decide) _ _ _ rfl (hrow0.alloc _).drew ⟨wr.heap.size,0,none⟩ 1 1 [.string tb,.int .i64 id,.slice ab b.length pb,.int .i64 0,.bool false,.slice none 0 0] rfl rfl (fun j u hj=>new_cells1 wr _ _ j u hj) (by intro u hu;simp at hu;rcases hu with rfl|rfl|rfl|rfl|rfl|rfl <;> rfl) (by unfold maxLen;omega) (by omega) ?_;intro v' w1 hown hgrow hnx;obtain⟨av,pv,rfl⟩:=row_slice hown;have HG:=hrelE.grow (d:=⟨tb.data.toList,id,b,0,false,[]⟩) HXD.out (by show defs'.length < 30;rw[HLN.out];exact hf2) (by show w1.ownsRow 0 95 6 _ (defs'.length+1) _;rw[HLN.out];exact hown) (by rw[HVD.out];exact hgrow) (by rw[HVD.out];exact fun k hk=>(hnx k hk).imp (fun h=>h) (fun h=>by simpa using h)) HAT.out hcb;have q1:w1.cell? ⟨yb,17,none⟩=some rs1.d.dv:=HG.1.cell rfl;have q2:=HG.1.free 17)
    all_goals
     go_wp2
     go_end0
     refine⟨rfl,_,?_,HTO2.out.trans (hto.trans HG.2.2)⟩;have hse:s.set tb.data.toList b={ s1 with defs:=defs' ++ [⟨tb.data.toList,id,b,0,false,[]⟩] }:=by
      unfold St.set St.find;rw[<-HDEF.out,HFX.out,HDF.out,HS1.out,HID.out];rfl
     rw[hse];exact HG.2.1
end
section
open Go.RowKit
def okIt (known:Tok->Prop) (sub:Bool->List It->Prop) (lo:Bool) (x:It):Prop:=
 (((x.kind=110/\In x.n)\/x.kind=114\/x.kind=120\/(x.kind=123/\x.toks.length<=1000)\/(x.kind=112/\(plainL.findIdx? (· == x.name)).isSome=true)\/(x.kind=99/\known x.name)\/(x.kind=105/\lo=true))/\x.a=[]/\x.b=[]) \/
 ((x.kind=63\/x.kind=117\/x.kind=119)/\sub lo x.a/\sub lo x.b)\/(x.kind=100/\sub true x.a/\x.b=[])
def wb (known:Tok->Prop):Nat->Bool->List It->Prop
 | 0,_,l=>l=[]
 | g+1,lo,l=>∀ x∈l,okIt known (wb known g) lo x
theorem okIt.mono {known known':Tok->Prop} {sub sub':Bool->List It->Prop} (hk:∀ t,known t->known' t) (hs:∀ lo l,sub lo l->sub' lo l) {lo:Bool} {x:It} (h:okIt known sub lo x):okIt known' sub' lo x:=by
 rcases h with⟨h,h1,h2⟩|⟨h,h1,h2⟩|⟨h,h1,h2⟩
 ·refine .inl ⟨?_,h1,h2⟩;rcases h with h|h|h|h|h|h|h
  ·exact .inl h
  ·exact .inr (.inl h)
  ·exact .inr (.inr (.inl h))
  ·exact .inr (.inr (.inr (.inl h)))
  ·exact .inr (.inr (.inr (.inr (.inl h))))
  ·exact .inr (.inr (.inr (.inr (.inr (.inl ⟨h.1,hk _ h.2⟩)))))
  ·exact .inr (.inr (.inr (.inr (.inr (.inr h)))))
 ·exact .inr (.inl ⟨h,hs _ _ h1,hs _ _ h2⟩)
 ·exact .inr (.inr ⟨h,hs _ _ h1,h2⟩)
theorem wb_known {known known':Tok->Prop} (hk:∀ t,known t->known' t):∀ (g:Nat) (lo:Bool) (l:List It),wb known g lo l->wb known' g lo l
 | 0,_,_,h=>h
 | g+1,_,_,h=>fun x hx=>(h x hx).mono hk (fun lo l=>wb_known hk g lo l)
theorem wb_nil (known:Tok->Prop):∀ (g:Nat) (lo:Bool),wb known g lo []
 | 0,_=>rfl
 | _+1,_=>fun x hx=>by cases hx
theorem wb_succ {known:Tok->Prop}:∀ (g:Nat) (lo:Bool) (l:List It),wb known g lo l->wb known (g+1) lo l
 | 0,lo,l,h=>by have h:l=[]:=h;subst h;exact wb_nil _ _ _
 | g+1,_,_,h=>fun x hx=>(h x hx).mono (fun _ h=>h) (fun lo l=>wb_succ g lo l)
theorem wb_le {known:Tok->Prop} {g g':Nat} (hg:g<=g') {lo:Bool} {l:List It} (h:wb known g lo l):wb known g' lo l:=by
 induction hg with
 | refl=>exact h
 | step _ ih=>exact wb_succ _ _ _ ih
theorem wb_app {known:Tok->Prop} {g g':Nat} {lo:Bool} {l l':List It} (h:wb known g lo l) (h':wb known g' lo l'):wb known (g+g' + 1) lo (l ++ l'):=by
 intro x hx;rcases List.mem_append.1 hx with h1|h1
 ·exact wb_le (g:=g) (g':=g+g' + 1) (by omega) h x h1
 ·exact wb_le (g:=g') (g':=g+g' + 1) (by omega) h' x h1
theorem callsG_le {g g':Nat} (hg:g<=g') {l:List It} {names:List Tok} (h:callsG g l=some names):callsG g' l=some names:=by
 induction hg with
 | refl=>exact h
 | step _ ih=>exact callsG_mono _ _ _ ih
theorem calls_total {known:Tok->Prop}:∀ (g:Nat) (lo:Bool) (l:List It),wb known g lo l->∃ G names,callsG G l=some names/\∀ n∈names,known n:=by
 intro g
 induction g with
 | zero=>intro lo l h;have h:l=[]:=h;subst h;exact⟨1,[],rfl,by simp⟩
 | succ g ih=>
  intro lo l
  induction l with
  | nil=>intro _;exact⟨1,[],rfl,by simp⟩
  | cons x l ihl=>
   intro h;obtain⟨G3,c,hc,kc⟩:=ihl (fun y hy=>h y (by simp[hy]));have hx:=h x (by simp);have key:∃ G1 a G2 b,callsG G1 x.a=some a/\callsG G2 x.b=some b/\(∀ n∈a,known n)/\(∀ n∈b,known n)/\(x.kind=99->known x.name):=by
    rcases hx with⟨h,h1,h2⟩|⟨h,h1,h2⟩|⟨h,h1,h2⟩
    ·refine⟨1,[],1,[],by rw[h1];rfl,by rw[h2];rfl,by simp,by simp,fun hk=>?_⟩;rcases h with h|h|h|h|h|h|h
     ·omega
     ·omega
     ·omega
     ·omega
     ·omega
     ·exact h.2
     ·omega
    ·obtain⟨G1,a,ha,ka⟩:=ih _ _ h1;obtain⟨G2,b,hb,kb⟩:=ih _ _ h2;exact⟨G1,a,G2,b,ha,hb,ka,kb,fun hk=>by omega⟩
    ·obtain⟨G1,a,ha,ka⟩:=ih _ _ h1;exact⟨G1,a,1,[],ha,by rw[h2];rfl,ka,by simp,fun hk=>by omega⟩
   obtain⟨G1,a,G2,b,ha,hb,ka,kb,kn⟩:=key;refine⟨G1+G2+G3+1,(if x.kind=99 then [x.name] else []) ++ a ++ b ++ c,?_,?_⟩
   ·rw[callsG,callsG_le (by omega) ha,callsG_le (by omega) hb,callsG_le (by omega) hc]
   ·intro n hn;simp only[List.mem_append] at hn;rcases hn with ((hn|hn)|hn)|hn
    ·split at hn
     ·rename_i hk;simp at hn;rw[hn];exact kn hk
     ·cases hn
    ·exact ka n hn
    ·exact kb n hn
    ·exact kc n hn
theorem buildsG_le {defs:List Def} {n:Nat} {g g':Nat} (hg:g<=g') {l:List It} {res:List Tok} (h:buildsG defs g n l=some res):buildsG defs g' n l=some res:=by
 induction hg with
 | refl=>exact h
 | step _ ih=>exact buildsG_mono _ _ _ _ _ ih
def inDefs (defs:List Def) (t:Tok):Prop:=(defs.find? (fun d=>d.name == t)).isSome=true
theorem builds_total {defs:List Def} {known:Tok->Prop} (hk:∀ t,known t->inDefs defs t) (hd:∀ d∈defs,∃ g,wb known g false d.body):∀ (n:Nat) (lo:Bool) (g:Nat) (l:List It),wb known g lo l->∃ G res,buildsG defs G n l=some res:=by
 intro n
 induction n with
 | zero=>intro lo g l _;exact⟨0,[],rfl⟩
 | succ n ih=>
  intro lo g l h;obtain⟨G,names,hc,kn⟩:=calls_total g lo l h;have key:∀ (names:List Tok),(∀ t∈names,known t)->∃ G res,foldN (fun t=>match bodyOf defs t with|none=>none|some b=>buildsG defs G n b) names=some res:=by
   intro names
   induction names with
   | nil=>intro _;exact⟨0,[],rfl⟩
   | cons t r ihr=>
    intro hk2;obtain⟨G2,y,hy⟩:=ihr (fun q hq=>hk2 q (by simp[hq]));have hin:=hk t (hk2 t (by simp));unfold inDefs at hin
    cases hf:defs.find? (fun d=>d.name == t) with
    | none=>rw[hf] at hin;cases hin
    | some d=>
     obtain⟨gd,hgd⟩:=hd d (List.mem_of_find?_eq_some hf);obtain⟨G1,x,hx⟩:=ih false gd d.body hgd;have hb:bodyOf defs t=some d.body:=by unfold bodyOf;rw[hf];rfl
     refine⟨G1+G2,t :: x ++ y,?_⟩;have e1:(match bodyOf defs t with|none=>none|some b=>buildsG defs (G1+G2) n b)=some x:=by rw[hb];exact buildsG_le (by omega) hx
     have e2:foldN (fun t=>match bodyOf defs t with|none=>none|some b=>buildsG defs (G1+G2) n b) r=some y:=by
      refine foldN_mono (fun t x ht=>?_) r y hy
      cases hb2:bodyOf defs t with
      | none=>rw[hb2] at ht;cases ht
      | some b=>rw[hb2] at ht;exact buildsG_le (by omega) ht
     unfold foldN;rw[e1,e2]
  obtain⟨G2,res,hres⟩:=key names kn;refine⟨G+G2,res,?_⟩;unfold buildsG;rw[callsG_le (by omega) hc];dsimp only;refine foldN_mono (fun t x ht=>?_) names res hres
  cases hb2:bodyOf defs t with
  | none=>rw[hb2] at ht;cases ht
  | some b=>rw[hb2] at ht;exact buildsG_le (by omega) ht
def knows (s:St) (t:Tok):Prop:=s.known t=true
structure WFs (s:St):Prop where
 g:SGood s
 d:∀ d∈s.defs,∃ g,wb (knows s) g false d.body
 st:s.e=0->s.steps<=2000
theorem knows_def {s s':St} (h:s'.defs=s.defs) {t:Tok}:knows s' t<->knows s t:=by
 unfold knows St.known St.find;rw[h]
theorem known_names {defs defs':List Def} (h:defs'.map Def.name=defs.map Def.name) (t:Tok):(defs'.findIdx? (fun d=>d.name == t)).isSome=(defs.findIdx? (fun d=>d.name == t)).isSome:=by
 have e:∀ l:List Def,(l.findIdx? (fun d=>d.name == t)).isSome=(l.map Def.name).any (· == t):=by
  intro l
  induction l with
  | nil=>rfl
  | cons x l ih=>
   rw[List.findIdx?_cons]
   cases hx:(x.name == t) with
   | true=>simp[hx]
   | false=>simp[hx] at ih ⊢;rw[<-ih]
 rw[e,e,h]
theorem known_in {s:St} {t:Tok} (h:knows s t):inDefs s.defs t:=by
 unfold knows St.known St.find at h;unfold inDefs
 cases hf:s.defs.findIdx? (fun d=>d.name == t) with
 | none=>rw[hf] at h;cases h
 | some k=>
  obtain⟨h1,h2,_⟩:=List.findIdx?_eq_some_iff_getElem.1 hf;rw[List.find?_isSome];exact⟨_,List.getElem_mem h1,h2⟩
theorem inDefs_set {defs:List Def} {k:Nat} {d':Def} (hk:k < defs.length) (hn:d'.name=defs[k].name) {t:Tok} (h:inDefs defs t):inDefs (defs.set k d') t:=by
 unfold inDefs at h ⊢;rw[List.find?_isSome] at h ⊢;obtain⟨d,hd,ht⟩:=h;obtain⟨i,hi,rfl⟩:=List.mem_iff_getElem.1 hd;by_cases hik:i=k
 ·subst hik;exact⟨d',by rw[List.mem_iff_getElem];exact⟨i,by simpa using hi,by simp⟩,by rw[hn];exact ht⟩
 ·exact⟨defs[i],by rw[List.mem_iff_getElem];exact⟨i,by simpa using hi,by rw[List.getElem_set_ne (by omega)]⟩,ht⟩
theorem names_set {defs:List Def} {k:Nat} {d':Def} (hk:k < defs.length) (hn:d'.name=defs[k].name):(defs.set k d').map Def.name=defs.map Def.name:=by
 rw[List.map_set,hn];have:(defs.map Def.name)[k]'(by simpa using hk)=defs[k].name:=by simp
 rw[<-this,List.set_getElem_self]
theorem count_total {s:St} (h:WFs s) {k:Nat} (hk:k < s.defs.length):∃ G s',s.count G k=some s'/\WFs s'/\(∀ t,knows s' t<->knows s t):=by
 have hset:∀ (d':Def),d'.name=s.defs[k].name->d'.body=s.defs[k].body->WFs { s with defs:=s.defs.set k d' }/\(∀ t,knows { s with defs:=s.defs.set k d' } t<->knows s t):=by
  intro d' hn hb;have hkn:∀ t,knows { s with defs:=s.defs.set k d' } t<->knows s t:=by
   intro t;unfold knows St.known St.find;dsimp only;rw[known_names (names_set hk hn)]
  have hg:=h.g;refine⟨⟨⟨hg.g,hg.s0,hg.s1,hg.s2,hg.d0,hg.d1,hg.b0,hg.b1,cb_set hg hk hb⟩,fun d hd=>?_,h.st⟩,hkn⟩;have:∃ d0∈s.defs,d0.body=d.body:=by
   rcases List.mem_or_eq_of_mem_set hd with h1|h1
   ·exact⟨d,h1,rfl⟩
   ·exact⟨s.defs[k],List.getElem_mem hk,by rw[h1,hb]⟩
  obtain⟨d0,hd0,e⟩:=this;obtain⟨g,hg⟩:=h.d d0 hd0;exact⟨g,by rw[<-e];exact wb_known (fun t ht=>(hkn t).2 ht) _ _ _ hg⟩
 by_cases hf:s.defs[k].fast=true
 ·refine⟨0,s,?_,h,fun _=>Iff.rfl⟩;unfold St.count;rw[List.getElem?_eq_getElem hk];dsimp only;rw[if_pos hf]
 by_cases hc:wrap64 (s.defs[k].count+1) < s.hot
 ·obtain⟨h1,h2⟩:=hset { s.defs[k] with count:=wrap64 (s.defs[k].count+1) } rfl rfl;refine⟨0,_,?_,h1,h2⟩;unfold St.count;rw[List.getElem?_eq_getElem hk];dsimp only;rw[if_neg hf,if_pos hc]
 ·obtain⟨gb,hgb⟩:=h.d s.defs[k] (List.getElem_mem hk);have hd2:∀ d∈s.defs.set k { s.defs[k] with count:=wrap64 (s.defs[k].count+1),fast:=true },∃ g,wb (knows s) g false d.body:=by
   intro d hd;rcases List.mem_or_eq_of_mem_set hd with h1|h1
   ·exact h.d d h1
   ·rw[h1];exact h.d s.defs[k] (List.getElem_mem hk)
  have hk2:∀ t,knows s t->inDefs (s.defs.set k { s.defs[k] with count:=wrap64 (s.defs[k].count+1),fast:=true }) t:=fun t ht=>inDefs_set (d':={ s.defs[k] with count:=wrap64 (s.defs[k].count+1),fast:=true }) hk rfl (known_in ht);obtain⟨G,bs,hbs⟩:=builds_total hk2 hd2 s.built.toNat false gb s.defs[k].body hgb;obtain⟨h1,h2⟩:=hset { s.defs[k] with count:=wrap64 (s.defs[k].count+1),fast:=true,built:=bs } rfl rfl;refine⟨G,_,?_,h1,h2⟩;unfold St.count;rw[List.getElem?_eq_getElem hk];dsimp only;rw[if_neg hf,if_neg hc,hbs]
end
section
open Go.RowKit
theorem Tryz.laidOutS:laidOutB Tryz.prog=true:=by kernel_rfl
theorem Tryz.rowS:(284:TypeId) < Tryz.prog.types.size:=of_decide_eq_true (by kernel_rfl)
theorem Tryz.wideS:(match Tryz.prog.underlying 284 with|some (.array _ _)|some (.struct _)=>true|_=>false)=true:=by kernel_rfl
theorem Tryz.keyAtS:Tryz.prog.keyTypeAt 2 284=true:=by kernel_rfl
theorem Tryz.lawS:Maps.Keyed Tryz.prog 284:=Maps.Keyed.of_law (deep_law_laid Tryz.laidOutS (m:=2) (by omega) Tryz.rowS Tryz.keyAtS Tryz.wideS)
theorem Tryz.keyTS:Tryz.prog.keyType 284=true:=by kernel_rfl
theorem Tryz.cellsS:Tryz.prog.cellsOf 284=2:=by kernel_rfl
theorem Tryz.cells9:Tryz.prog.cellsOf 9=1:=by kernel_rfl
theorem Tryz.cells3:Tryz.prog.cellsOf 3=1:=by kernel_rfl
abbrev siteV (nm:ByteArray) (lf:Int):Value:=.agg #[.string nm,.int .i64 lf]
theorem Tryz.structS : ∃ fs : Array Field, Tryz.prog.underlying 284 = some (.struct fs) ∧ fs.toList.map (fun f => (f.type, f.offset)) = [(9, 0), (3, 1)] ∧ (fs.all (·.name != "_")) = true := ⟨_, Tryz.underlying284, by kernel_rfl, by kernel_rfl⟩
theorem Tryz.sizeTS:∃ n,Tryz.prog.types.size+1=n+1+1:=⟨Tryz.prog.types.size - 1,by have:=Tryz.rowS;have h:0 < Tryz.prog.types.size:=Nat.lt_of_le_of_lt (Nat.zero_le _) this;omega⟩
theorem keySite (nm:ByteArray) (hs:nm.size<=maxLen) (lf:Int) (hl:(Lit.int .i64 lf).wf=true):∃ kl,keyOf Tryz.prog 284 (siteV nm lf)=some kl:=by
 obtain⟨fs,hu,hf,hb⟩:=Tryz.structS;obtain⟨n,hn⟩:=Tryz.sizeTS;obtain⟨f1,f2,hfs,e1,e2,e3,e4⟩:∃ f1 f2:Field,fs.toList=[f1,f2]/\f1.type=9/\f1.offset=0/\f2.type=3/\f2.offset=1:=by
  generalize fs.toList=l at hf
  match l,hf with
  | [],hf=>cases hf
  | [_],hf=>simp at hf
  | [f1,f2],hf=>
   simp at hf;exact⟨f1,f2,rfl,hf.1.1,hf.1.2,hf.2.1,hf.2.2⟩
  | _ :: _ :: _ :: _,hf=>simp at hf
 have hform:(siteV nm lf).formed Tryz.prog 284=true:=by simp[Value.formed,hu,Tryz.cellsS]
 unfold keyOf;rw[hu];simp only[Tryz.keyTS,hform,Bool.and_self,if_true];rw[hn];unfold Program.keyLits;rw[hu];have hc:(siteV nm lf).cells.toList=[.string nm,.int .i64 lf]:=rfl;rw[hc];simp only[Tryz.cellsS,hb,List.length_cons,List.length_nil,and_self,if_true,hfs,List.mapM_cons,List.mapM_nil,e1,e2,e3,e4,Tryz.cells9,Tryz.cells3];unfold Program.keyLits;rw[Tryz.underlying9,Tryz.underlying3];simp[hs,hl]
theorem siteInj {nm nm':ByteArray} {lf lf':Int} {kl:Lit} (h:keyOf Tryz.prog 284 (siteV nm lf)=some kl) (h':keyOf Tryz.prog 284 (siteV nm' lf')=some kl):nm=nm'/\lf=lf':=by
 have:=Tryz.lawS.inj h h';simp at this;exact this
theorem nodup_le {α:Type}:∀ (l m:List α),l.Pairwise (· ≠ ·)->(∀ x∈l,x∈m)->l.length<=m.length
 | [],_,_,_=>Nat.zero_le _
 | x :: l,m,hp,hs=>by
  obtain⟨a,b,rfl⟩:=List.append_of_mem (hs x (by simp));obtain⟨h1,h2⟩:=List.pairwise_cons.1 hp;have:=nodup_le l (a ++ b) h2 (fun y hy=>by
   have h3:=hs y (by simp[hy]);have h4:=h1 y hy;simp only[List.mem_append,List.mem_cons] at h3 ⊢;rcases h3 with h3|h3|h3
   ·exact .inl h3
   ·exact absurd h3.symm h4
   ·exact .inr h3)
  simp only[List.length_append,List.length_cons] at this ⊢;omega
theorem map_size_le {P:Program} {k:TypeId} {R:Value->Option (DataW Value × List MemPlace)} {w:World} {b n:Nat} {DD:DataW Value} (h:w.ownsMap P k R b n DD) (K:Maps.Keyed P k) (m:List Lit) (hm:∀ kl,Maps.has DD kl=true->kl∈m):Maps.size DD<=m.length:=by
 obtain⟨es,rfl,h1,h2⟩:=h.entries K;have:(es.map Prod.fst).length<=m.length:=nodup_le _ _ (List.pairwise_map.2 h1) (fun kl hkl=>by
  obtain⟨p,hp,rfl⟩:=List.mem_map.1 hkl;refine hm _ ?_;rw[Maps.has_eq,List.any_eq_true];exact⟨p,hp,WideAt.sameKey_self (h2 p hp)⟩)
 rw[Maps.size_eq]
 simpa using this
theorem own_tightG {P:Program} {k:TypeId} {R:Value->Option (DataW Value × List MemPlace)} {w:World} {b n:Nat} {DD:DataW Value} (h:w.ownsMap P k R b n DD):w.ownsMap P k R b (Maps.size DD) DD:=by
 obtain⟨es,clock,h1,h2,h3,rfl⟩:=h;refine⟨es,clock,h1,h2,?_,rfl⟩;simp[Maps.size,length_sorted]
end
section
open Go.RowKit
structure GD where
 d:Nat->Prop
 u:Nat->Prop
 r:Nat->Fr->Prop
 tag:Nat->Nat × Nat
structure WC where
 nm:ByteArray
 iv:Value
 sv:Value
 av:Value
 fa:Bool
 ct:Int
 gn:Bool
 pm:Option Nat
 wm:Option Nat
def WC.arr (c:WC):Array Value:=#[.string c.nm,c.iv,c.sv,c.av,.bool c.fa,.int .i64 c.ct,.bool c.gn,.map c.pm,.map c.wm]
theorem WC.inj {c c':WC} (h:c.arr=c'.arr):c=c':=by
 obtain⟨a1,a2,a3,a4,a5,a6,a7,a8,a9⟩:=c;obtain⟨b1,b2,b3,b4,b5,b6,b7,b8,b9⟩:=c';unfold WC.arr at h;simp at h;obtain⟨rfl,rfl,rfl,rfl,rfl,rfl,rfl,rfl,rfl⟩:=h;rfl
def MapE (r:Nat->Fr->Prop) (DD:DataW Value):Prop:=∀ kl,Maps.has DD kl=true->∃ ob f,kl=.string f.name/\r ob f/\∀ zd,DD.atKey kl zd=.held (pt ob)
def MapB (r:Nat->Fr->Prop) (w:World) (b:Nat) (DD:DataW Value):Prop:=(∃ n,w.ownsMap Tryz.prog 9 heldR b n DD)/\MapE r DD
def MapOk (D:GD) (w:World) (o:Option Nat) (tg:Nat × Nat):Prop:=∀ b,o=some b->D.u b/\D.tag b=tg/\∃ DD,MapB D.r w b DD
structure WordC (D:GD) (w:World) (bk ob:Nat) (f:Fr) (c:WC):Prop where
 blk:Blk w ob 111 c.arr
 nm:c.nm.data.toList=f.name
 ns:c.nm.size<=1000
 it:Items (BD D.d w) c.iv f.body
 sl:Acts (BD D.d w) D.r bk ob c.sv f.body
 ac:Acts (BD D.d w) D.r bk ob c.av f.body
 pm:MapOk D w c.pm (ob,1)
 wm:MapOk D w c.wm (ob,0)
 wn:c.gn=false->c.wm.isSome=true
 u:D.u ob
 wf:∃ G,wb (fun _=>True) G false f.body
theorem WordC.inj {D:GD} {w:World} {bk ob:Nat} {f f':Fr} {c c':WC} (h:WordC D w bk ob f c) (h':WordC D w bk ob f' c'):c=c':=WC.inj (h.blk.inj h'.blk).2
structure GLe (D D':GD) (w:World):Prop where
 u:∀ k,D.u k->D'.u k
 r:∀ o f,D.r o f->D'.r o f
 tag:∀ k,k < w.heap.size->D'.tag k=D.tag k
theorem GLe.refl (D:GD) (w:World):GLe D D w:=⟨fun _ h=>h,fun _ _ h=>h,fun _ _=>rfl⟩
theorem MapE.mono {r r':Nat->Fr->Prop} {DD:DataW Value} (h:MapE r DD) (hr:∀ o f,r o f->r' o f):MapE r' DD:=fun kl hk=>by
 obtain⟨ob,f,h1,h2,h3⟩:=h kl hk;exact⟨ob,f,h1,hr _ _ h2,h3⟩
theorem MapB.same {r r':Nat->Fr->Prop} {w w':World} {b:Nat} {DD:DataW Value} (h:MapB r w b DD) (hr:∀ o f,r o f->r' o f) (e:w'.heap[b]? = w.heap[b]?):MapB r' w' b DD:=by
 obtain⟨⟨n,h1⟩,h2⟩:=h;exact⟨⟨n,ownsMap_same h1 e⟩,h2.mono hr⟩
theorem MapB.lt {r:Nat->Fr->Prop} {w:World} {b:Nat} {DD:DataW Value} (h:MapB r w b DD):b < w.heap.size:=by obtain⟨⟨n,h1⟩,_⟩:=h;exact h1.lt
theorem MapB.ne {r:Nat->Fr->Prop} {w:World} {b:Nat} {DD:DataW Value} (h:MapB r w b DD) {b':Nat} {t:TypeId} {c:Array Value} (hb:Blk w b' t c):b ≠ b':=by obtain⟨⟨n,h1⟩,_⟩:=h;exact map_ne h1 hb
theorem MapOk.frame {D D':GD} {w w':World} {S:Nat->Prop} {o:Option Nat} {tg:Nat × Nat} (h:MapOk D w o tg) (hk:Kp w w' S) (hl:GLe D D' w) (hs:∀ b,o=some b->¬ S b):MapOk D' w' o tg:=fun b hb=>by
 obtain⟨h1,h2,DD,h3⟩:=h b hb;exact⟨hl.u b h1,by rw[hl.tag b h3.lt];exact h2,DD,h3.same hl.r (hk.block b h3.lt (hs b hb))⟩
theorem WordC.frame {D D':GD} {w w':World} {S:Nat->Prop} {bk ob:Nat} {f:Fr} {c:WC} (h:WordC D w bk ob f c) (hk:Kp w w' S) (hl:GLe D D' w) (hd:∀ b t c,BD D.d w b t c->BD D'.d w' b t c) (h1:¬ S ob) (h2:∀ b,c.pm=some b->¬ S b) (h3:∀ b,c.wm=some b->¬ S b):WordC D' w' bk ob f c:=
 ⟨hk.blk h.blk h1,h.nm,h.ns,h.it.mono hd,h.sl.mono hd hl.r,h.ac.mono hd hl.r,h.pm.frame hk hl h2,h.wm.frame hk hl h3,h.wn,hl.u _ h.u,h.wf⟩
structure Wds (D:GD) (w:World) (bk:Nat):Prop where
 ok:∀ o f,D.r o f->∃ c,WordC D w bk o f c
 fn:∀ o f f',D.r o f->D.r o f'->f=f'
 ud:∀ k,D.u k->¬ D.d k
 lt:∀ k,D.u k->k < w.heap.size
 dl:∀ k,D.d k->k < w.heap.size
def Pres (D D':GD) (w w':World) (bk:Nat):Prop:=∀ o f c,D.r o f->WordC D w bk o f c->∃ c',c'.gn=c.gn/\c'.nm=c.nm/\c'.iv=c.iv/\c'.sv=c.sv/\c'.wm=c.wm/\WordC D' w' bk o f c'
theorem Pres.refl (D:GD) (w:World) (bk:Nat):Pres D D w w bk:=fun _ _ c _ h=>⟨c,rfl,rfl,rfl,rfl,rfl,h⟩
theorem Pres.trans {D D1 D2:GD} {w w1 w2:World} {bk:Nat} (h:Pres D D1 w w1 bk) (hr:∀ o f,D.r o f->D1.r o f) (g:Pres D1 D2 w1 w2 bk):Pres D D2 w w2 bk:=fun o f c hd hc=>by
 obtain⟨c1,a1,a2,a3,a4,a5,h1⟩:=h o f c hd hc;obtain⟨c2,b1,b2,b3,b4,b5,h2⟩:=g o f c1 (hr o f hd) h1;exact⟨c2,b1.trans a1,b2.trans a2,b3.trans a3,b4.trans a4,b5.trans a5,h2⟩
section
variable {D:GD} {w w':World} {bk ob:Nat} {f:Fr} {c c':WC}
theorem Wds.next (h:Wds D w bk) (hk:w.heap.size<=w'.heap.size) (hp:Pres D D w w' bk):Wds D w' bk:=
 ⟨fun o f hr=>by obtain⟨c,hc⟩:=h.ok o f hr;obtain⟨c',_,_,_,_,_,h'⟩:=hp o f c hr hc;exact⟨c',h'⟩,h.fn,h.ud,fun k hk'=>Nat.lt_of_lt_of_le (h.lt k hk') hk,fun k hk'=>Nat.lt_of_lt_of_le (h.dl k hk') hk⟩
theorem BD_u (hd:∀ k,D.u k->¬ D.d k) {S:Nat->Prop} (hS:∀ k,S k->D.u k) (hk:Kp w w' S):∀ b t c,BD D.d w b t c->BD D.d w' b t c:=
 fun b _ _ h=>⟨h.1,hk.blk h.2 (fun e=>hd b (hS b e) h.1)⟩
theorem MapOk.neBlk {o:Option Nat} {tg:Nat × Nat} (h:MapOk D w o tg) {b:Nat} (hb:o=some b) {b':Nat} {t:TypeId} {ca:Array Value} (hc:Blk w b' t ca):¬ b=b':=by
 obtain⟨_,_,DD,h3⟩:=h b hb;exact h3.ne hc
theorem Wds.word (hW:Wds D w bk) (hr:D.r ob f) (hc:WordC D w bk ob f c) (hk:Kp w w' (fun k=>k=ob)) (hc':WordC D w' bk ob f c') (e1:c'.gn=c.gn) (e2:c'.nm=c.nm) (e3:c'.iv=c.iv) (e4:c'.sv=c.sv) (e5:c'.wm=c.wm):Pres D D w w' bk:=fun o g c0 hr0 hc0=>by
 by_cases ho:o=ob
 ·subst ho;have:=hW.fn o g f hr0 hr;subst this;have:=hc0.inj hc;subst this;exact⟨c',e1,e2,e3,e4,e5,hc'⟩
 ·refine⟨c0,rfl,rfl,rfl,rfl,rfl,hc0.frame hk (GLe.refl _ _) (BD_u hW.ud (fun k e=>by have e:k=ob:=e;rw[e];exact hc.u) hk) ho (fun b hb e=>?_) (fun b hb e=>?_)⟩
  ·exact hc0.pm.neBlk hb hc.blk e
  ·exact hc0.wm.neBlk hb hc.blk e
theorem Wds.wmap (hW:Wds D w bk) (hr:D.r ob f) (hc:WordC D w bk ob f c) {b:Nat} (hb:c.wm=some b) (hk:Kp w w' (fun k=>k=b)) {DD:DataW Value} (hm:MapB D.r w' b DD):Pres D D w w' bk:=fun o g c0 hr0 hc0=>by
 obtain⟨hu,ht,DD0,hm0⟩:=hc.wm b hb;have hbd:=BD_u hW.ud (fun k e=>by have e:k=b:=e;rw[e];exact hu) hk;by_cases ho:o=ob
 ·subst ho;have:=hW.fn o g f hr0 hr;subst this;have:=hc0.inj hc;subst this;refine⟨c0,rfl,rfl,rfl,rfl,rfl,⟨hk.blk hc0.blk (fun e=>hm0.ne hc0.blk e.symm),hc0.nm,hc0.ns,hc0.it.mono hbd,hc0.sl.mono hbd (fun _ _ h=>h),hc0.ac.mono hbd (fun _ _ h=>h),hc0.pm.frame hk (GLe.refl _ _) (fun b' e e2=>?_),fun b' e=>?_,hc0.wn,hc0.u,hc0.wf⟩⟩
  ·obtain⟨_,q,_⟩:=hc0.pm b' e;have e2:b'=b:=e2;rw[e2,ht] at q;cases q
  ·rw[hb] at e;injection e with e;subst e;exact⟨hu,ht,DD,hm⟩
 ·refine⟨c0,rfl,rfl,rfl,rfl,rfl,hc0.frame hk (GLe.refl _ _) hbd (fun e=>hm0.ne hc0.blk (by have e:o=b:=e;exact e.symm)) (fun b' e e2=>?_) (fun b' e e2=>?_)⟩
  ·obtain⟨_,q,_⟩:=hc0.pm b' e;have e2:b'=b:=e2;rw[e2,ht] at q;cases q
  ·obtain⟨_,q,_⟩:=hc0.wm b' e;have e2:b'=b:=e2;rw[e2,ht] at q;injection q with q;exact ho q.symm
theorem Wds.kp (hW:Wds D w bk) (hk:Kp w w' (fun _=>False)):Pres D D w w' bk/\Wds D w' bk:=by
 have hp:Pres D D w w' bk:=fun o g c0 hr0 hc0=>⟨c0,rfl,rfl,rfl,rfl,rfl,hc0.frame hk (GLe.refl _ _) (BD_keep hk (fun b _ hb=>⟨hb,by simp⟩)) (by simp) (by simp) (by simp)⟩;exact⟨hp,hW.next hk.size hp⟩
theorem Wds.out {S:Nat->Prop} (hW:Wds D w bk) (hk:Kp w w' S) (hu:∀ k,D.u k->¬ S k) (hd:∀ k,D.d k->¬ S k):Pres D D w w' bk/\Wds D w' bk:=by
 have hp:Pres D D w w' bk:=fun o g c0 hr0 hc0=>⟨c0,rfl,rfl,rfl,rfl,rfl,hc0.frame hk (GLe.refl _ _) (BD_keep hk (fun b _ hb=>⟨hb,hd b hb⟩)) (hu _ hc0.u) (fun b hb=>hu _ (hc0.pm b hb).1) (fun b hb=>hu _ (hc0.wm b hb).1)⟩;exact⟨hp,hW.next hk.size hp⟩
end
def FU (D:GD) (w:World) (bk:Nat) (k:Nat):Prop:=(∃ g,D.r k g)\/∃ o g c,D.r o g/\WordC D w bk o g c/\c.wm=some k
theorem FU.u {D:GD} {w:World} {bk k:Nat} (hW:Wds D w bk) (h:FU D w bk k):D.u k:=by
 rcases h with⟨g,h⟩|⟨o,g,c,h,hc,hm⟩
 ·obtain⟨c,hc⟩:=hW.ok k g h;exact hc.u
 ·exact (hc.wm k hm).1
theorem FU.back {D:GD} {w w':World} {bk k:Nat} (hW:Wds D w bk) (hp:Pres D D w w' bk) (h:FU D w' bk k):FU D w bk k:=by
 rcases h with⟨g,h⟩|⟨o,g,c,h,hc,hm⟩
 ·exact .inl ⟨g,h⟩
 ·obtain⟨c0,hc0⟩:=hW.ok o g h;obtain⟨c1,_,_,_,_,e5,hc1⟩:=hp o g c0 h hc0;have:=hc1.inj hc;subst this;exact .inr ⟨o,g,c0,h,hc0,by rw[<-e5];exact hm⟩
theorem ranges_same {w w':World} {b r n cnt:Nat} {DD:DataW Value} {left:Lit->Bool} (h:w.ranges Tryz.prog 9 heldR b r n DD left cnt) (e1:w'.heap[b]? = w.heap[b]?) (e2:w'.heap[r]? = w.heap[r]?):w'.ranges Tryz.prog 9 heldR b r n DD left cnt:=by
 obtain⟨es,clock,since,seen,c0,h1,h2,h3,h4,h5,h6⟩:=h;exact⟨es,clock,since,seen,c0,e1.trans h1,h2,h3,h4,e2.trans h5,h6⟩
end
end Go.Proofs.YteainaiebcphlaaGreatDoor
