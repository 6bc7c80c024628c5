import Derived.Test.YteainaiebcphlaaGreatDoorY23
import Derived.Deep.OwnRows
import Derived.Carry
import Derived.Test.YteainaiebcphlaaGreatDoorRows
import Derived.ProofKit
import Derived.LaidMore
import Derived.OpenShut
import Derived.Stop.Joined
import Derived.Lib.LaidTab
import Derived.Test.YteainaiebcphlaaGreatDoorY13
import Derived.Test.YteainaiebcphlaaGreatDoorY14
import Derived.Deep.DeepWitnessRowRef
import Derived.Test.YteainaiebcphlaaGreatDoorCards
import Derived.Test.YteainaiebcphlaaGreatDoorTie
import Derived.SevenTiedAt
import Derived.Handy
namespace Go.Proofs.YteainaiebcphlaaGreatDoor
set_option maxRecDepth 1000000
set_option maxHeartbeats 4000000
set_option linter.all false
section
open Go.RowKit
theorem info_int:(Tryz.prog.info? 3).map (fun i=>(i.zero,i.size,i.bytes))=some (some (.int .i64 0),1,8):=by kernel_rfl
section
variable {B:Nat} {I:Int} {W w w':World} {xb bk mb:Nat} {sv:Value} {D:GD} {V:Nat->Prop} {s:St}
structure StL (w wr:World) (ns:List Int) (k:Nat):Prop where
 blk:∃ c:Array Value,Blk wr w.heap.size 3 c/\c.size=ns.length/\(∀ i (h:i < ns.length),i < k->c[i]? = some (.int .i64 ns[i]))/\∀ i,i < ns.length->¬ i < k->c[i]? = some (.int .i64 0)
 kp:Kp w wr (fun _=>False)
theorem stackM (w:World) (xb bk:Nat) (sv:Value) (mem:Nat->Int) (ns:List Int) (h:Blk w xb 80 (marr bk sv mem)) (hrow:w.ownsRow 0 2 1 sv ns.length (ints ns)) (hin:∀ n∈ns,In n) (hl:ns.length<=32):
  Calls Tryz.prog 46 #[pt xb] w fun e w'=>e=.returned (.slice (some ⟨w.heap.size,0,none⟩) ns.length ns.length)/\StL w w' ns ns.length:=by
 have hmk:=run_make_row' 34 3 (.int .i64 0) 8 Tryz.underlying34 info_int rfl .i64 .i64 ns.length (by omega) (by omega) w;have c0:w.cell? ⟨xb,0,none⟩=some sv:=h.cell rfl;obtain⟨ao,cap,rfl⟩:=form_of hrow;have h0:Hid (StL w (w.alloc (.cells (madeCells #[.int .i64 0] ns.length) 3)) ns 0):=⟨⟨_,Blk.new _ _ _,size_madeCells _ _,fun i _ hi=>by omega,fun i hi _=>by simp[madeCells,hi,Nat.mod_one]⟩,(Kp.refl _ _).alloc _⟩;have HX:=hide h;have HR:=hide hrow;have c1:(w.alloc (.cells (madeCells #[.int .i64 0] ns.length) 3)).cell? ⟨xb,0,none⟩=some (.slice ao ns.length cap):=(h.alloc _).cell rfl;clear h hrow;go_enter Tryz.func46,Tryz.ntmps46;go_wp2
 go_loopw [17] (fun i wr=>∃ k:Nat,k<=ns.length/\i=.int .i64 k/\StL w wr ns k) (fun i _=>ns.length - (intOf i).toNat)
 case atStart=>exact⟨0,Nat.zero_le _,rfl,h0.out⟩
 case round=>
  obtain⟨k,hk,rfl,⟨⟨c,hb,hcs,h1,h2⟩,hkp⟩⟩:=hrel;by_cases hlt:k < ns.length
  ·have hrow:=hkp.row HR.out (by simp);obtain⟨gd,cap',hv,hcell⟩:=row_cell hrow (by omega);injection hv with e1 e2 e3;subst e1;clear e2 e3;have c2:=hcell _ _ (show (ints ns)[k]? = some (.int .i64 ns[k]) by simp[ints,hlt]);have c3:wr.cell? ⟨w.heap.size,k,none⟩=some (.int .i64 0):=hb.cell (h2 k hlt (by omega));have f3:=hb.free k;have hIn:=hin _ (List.getElem_mem hlt);have H1:Hid (StL w (wr.setCell ⟨w.heap.size,k,none⟩ (.int .i64 ns[k])) ns (k+1)):=by
    refine⟨⟨c.setIfInBounds k (.int .i64 ns[k]),hb.set k _,by simpa using hcs,fun i hi hik=>?_,fun i hi hik=>?_⟩,?_⟩
    ·by_cases e:i=k
     ·subst e;rw[Array.getElem?_setIfInBounds_self,if_pos (by omega)]
     ·rw[Array.getElem?_setIfInBounds_ne (fun q=>e q.symm)];exact h1 i hi (by omega)
    ·rw[Array.getElem?_setIfInBounds_ne (by omega)];exact h2 i hi (by omega)
    ·exact Kp.newer hkp (Kp.one _ _ _ _) (Nat.le_refl _)
   generalize ns[k]=nk at *;clear hrow hcell hb h1 h2 hkp hcs;go_wp2
   go_round
   case rel=>exact⟨k+1,by omega,by go_num,H1.out⟩
   case measure=>simp[intOf];omega
  ·have hkn:k=ns.length:=by omega
   subst hkn;have H1:Hid (StL w wr ns ns.length):=⟨⟨c,hb,hcs,h1,h2⟩,hkp⟩;clear hb h1 h2 hkp hcs;go_wp2;go_ret;exact⟨rfl,H1.out⟩
theorem StL.row {wr:World} {ns:List Int} (h:StL w wr ns ns.length) (hl:ns.length<=32):wr.ownsRow w.heap.size 3 1 (.slice (some ⟨w.heap.size,0,none⟩) ns.length ns.length) ns.length (ints ns):=by
 obtain⟨c,hb,hcs,h1,_⟩:=h.blk;refine⟨by simp[ints],.inr ⟨_,_,c,rfl,Nat.le_refl _,hb,Nat.le_refl _,by unfold maxLen;omega,by omega,?_⟩⟩;rw[Nat.mul_one,List.take_of_length_le (by simp[hcs])]
 apply List.ext_getElem?
 intro i;by_cases hi:i < ns.length
 ·rw[Array.getElem?_toList,h1 i hi hi];simp[ints,hi]
 ·rw[List.getElem?_eq_none (by simp[hcs];omega),List.getElem?_eq_none (by simp[ints];omega)]
theorem stackP (h:PSn B W I w xb bk mb sv D V s) (hg:SGood s):
  Calls Tryz.prog 19 #[pt xb] w fun e w'=>∃ v,e=.returned v/\w'.ownsRow w.heap.size 3 1 v s.rs.length (ints s.rs.reverse)/\∃ V',PSes B W I w' xb V' s/\To (fun _=>False) w w' V V'/\∀ k,own v k->¬ V' k:=by
 have hl:=h.len;have HS:=hide (stackM w xb bk sv s.mem s.rs.reverse h.xblk h.srow (fun n hn=>hg.g.ins n (List.mem_reverse.1 hn)) (by rw[List.length_reverse];exact h.len));have H:=hide h;have hxl:=h.xblk.lt;clear h;go_enter Tryz.func19,Tryz.ntmps19
 go_wp2_with fail
 refine HS.out.mono ?_;rintro e w1 ⟨rfl,hst⟩;have HT:=hide hst;clear hst;go_wp2;go_ret;have hrow:=HT.out.row (by rw[List.length_reverse];exact hl);refine⟨_,rfl,by have:=hrow;simpa using this,V,⟨bk,mb,sv,D,H.out.kp HT.out.kp⟩,⟨HT.out.kp.mono (fun _ _ e=>e.elim),fun k e=>.inl e⟩,fun k e hv=>?_⟩;have h1:=(hrow.lt k e).1;have h2:=H.out.lt k hv;omega
theorem cellPX (h:PSn B W I w xb bk mb sv D V s) (n:Int):
  Calls Tryz.prog 39 #[pt xb,.int .i64 n] w fun e w'=>e=.returned (.tuple #[.int .i64 (cellP s n).1,.int .i64 (cellP s n).2])/\∃ V',PSes B W I w' xb V' s/\To (fun _=>False) w w' V V':=by
 have HS:=hide (cellM w xb bk sv s.mem h.xblk n);have hh:cellP s n=if n < 0\/16<=n then ((0:Int),(10:Int)) else (s.mem n.toNat,0):=rfl;rw[<-hh] at HS;clear hh;generalize cellP s n=cc at *;have H:=hide h;have hxl:=h.xblk.lt;clear h;go_enter Tryz.func39,Tryz.ntmps39
 go_wp2_with fail
 refine HS.out.mono ?_;rintro e w1 ⟨rfl,hk⟩;have HK:=hide hk;clear hk;go_wp2;go_ret2;exact⟨rfl,H.out.to HK.out⟩
end
end
section
open Go.RowKit
theorem newM (w:World):Calls Tryz.prog 27 #[] w fun e w'=>∃ xb bk mb,e=.returned (.pointer (some ⟨xb,0,none⟩))/\Kp w w' (fun _=>False)/\w.heap.size<=xb/\w.heap.size<=bk/\w.heap.size<=mb/\Blk w' xb 80 (marr bk (.slice none 0 0) (fun _=>0))/\Blk w' bk 106 #[.map (some mb),.int .i64 5,.int .i64 1]/\w'.ownsMap Tryz.prog 9 heldR mb 0 (.map []):=by
 have hmm:=run_makeMap (P:=Tryz.prog) 104 w;go_enter Tryz.func27,Tryz.ntmps27
 go_wp2_with (go_at_call 51;go_in)
 go_ret;refine⟨_,w.heap.size+1,w.heap.size,rfl,(((Kp.refl _ _).alloc _).alloc _).alloc _,by omega,by omega,Nat.le_refl _,Blk.new2 w _ _ _ _,(Blk.new1 w _ _ _).alloc _,?_⟩;exact ((World.ownsMap_made w Tryz.prog 9 heldR).alloc _).alloc _
def noG:GD:=⟨fun _=>False,fun _=>False,fun _ _=>False,fun _=>(0,0),0⟩
theorem words0 (w:World) (bk mb:Nat) (h:w.ownsMap Tryz.prog 9 heldR mb 0 (.map [])):WordsR noG w bk mb []:=
 ⟨[],.map [],rfl,h,rfl,fun t _=>rfl,by decide,fun t _=>rfl,fun i j hi=>absurd hi (Nat.not_lt_zero _),⟨fun _ _ h=>h.elim,fun _ _ _ h=>h.elim,fun _ h=>h.elim,fun _ h=>h.elim,fun _ h=>h.elim⟩,fun k hk=>absurd hk (Nat.not_lt_zero _),fun _ _ h=>h.elim,⟨fun k hk=>absurd hk (Nat.not_lt_zero _),fun i _ hi=>absurd hi (Nat.not_lt_zero _),fun k hk=>absurd hk (Nat.not_lt_zero _)⟩,fun _ hd=>(by cases hd),fun _ hd=>(by cases hd)⟩
section
variable {B:Nat} {I:Int} {W:World}
theorem newP (w:World) (hI:0<=I) (hb:Below B W w) (hs:B<=w.heap.size):Calls Tryz.prog 27 #[] w fun e w'=>∃ xb V,e=.returned (.pointer (some ⟨xb,0,none⟩))/\PSes B W I w' xb V st0/\Kp w w' (fun _=>False)/\∀ k,V k->w.heap.size<=k:=by
 refine (newM w).mono ?_;rintro e w' ⟨xb,bk,mb,rfl,hk,h1,h2,h3,b1,b2,hm⟩;have nov:∀ k,¬ own (.slice none 0 0) k:=fun k e=>by simp[own,Value.ownBlock] at e
 refine⟨xb,fun k=>k=xb\/k=bk\/k=mb\/own (.slice none 0 0) k\/False\/False,rfl,⟨bk,mb,.slice none 0 0,noG,⟨b1,World.ownsRow_nil _ _ _ _,by decide,hb.trans (hk.below hs (fun _ _ e=>e)),by omega,fun k e=>absurd e (nov k),Nat.le_trans hs hk.size,by omega,b2,words0 _ _ _ hm,fun k e=>e.elim,fun k e=>e.elim,fun e=>e.elim,by omega,fun k=>Iff.rfl,⟨Int.le_refl _,hI⟩,fun _ _ e=>e.elim⟩⟩,hk,?_⟩;rintro k (e|e|e|e|e|e)
 ·omega
 ·omega
 ·omega
 ·exact absurd e (nov k)
 ·exact e.elim
 ·exact e.elim
end
end
section
open Go.ChangeShapes Go.WideShapes Go.ChangeAt Go.RowKit
theorem gPow : Tryz.prog.globalNamed "internal/strconv.uint64pow10" = some 5 := by kernel_rfl
theorem gAsc : Tryz.prog.globalNamed "strings.asciiSpace" = some 0 := by kernel_rfl
theorem gSpl : Tryz.prog.globalNamed "anvil/token.spellings" = some 1 := by kernel_rfl
theorem tPow:(Tryz.prog.globals[5]?).map (·.type)=some 294:=by kernel_rfl
theorem tAsc:(Tryz.prog.globals[0]?).map (·.type)=some 130:=by kernel_rfl
theorem tSpl:(Tryz.prog.globals[1]?).map (·.type)=some 142:=by kernel_rfl
theorem dPow:(Rows.laid_internal_strconv_uint64pow10:DataW Unit)=Lib.tabData .u64 Lib.pow10Tab:=by rfl
theorem dAsc:(Rows.laid_strings_asciiSpace:DataW Unit)=Lib.tabData .u8 Lib.asciiSpaceTab:=by rfl
theorem dSpl:(Rows.laid_anvil_token_spellings:DataW Unit)=.agg (spellW.map fun s=>.lit (.string s.data.toList)):=by rfl
theorem cells_of_texts {H:Type} {enc:TypeId × Value->H} {P:Program} {w:World} {base:Nat} {sp:Nat->Bool} {held:Bool} {fuel:Nat} {t e:TypeId} {n:Nat} {cs:List Value} {zs:List ByteArray} {p:List MemPlace}
  (ht:P.underlying t=some (.array n e)) (he:P.underlying e=some .string) (hce:P.cellsOf e=1) (hct:P.cellsOf t=n)
  (h:DataW.trod enc P w base sp held fuel t cs=some (.agg (zs.map fun s=>.lit (.string s.data.toList)),p)):cs=zs.map Value.string:=by
 obtain⟨xs,m,_,hx,hlen,hxl,hel⟩:=DataW.trod_array ht h;simp only[Prod.mk.injEq,DataW.agg.injEq] at hx;have hzl:zs.length=n:=by have:=congrArg List.length hx.1;simp at this;omega
 apply List.ext_getElem?
 intro i;by_cases hi:i < n
 ·have h1:=hel i hi;rw[hce,Nat.mul_one,List.getElem?_eq_getElem (by omega)] at h1;obtain⟨s,e1,e2,_⟩:=DataW.trod_string he h1;have h2:(xs.map (·.1))[i]? = some (.lit (.string s.data.toList)):=by rw[List.getElem?_map,List.getElem?_eq_getElem (by omega),Option.map_some,e2]
  rw[<-hx.1,List.getElem?_map,List.getElem?_eq_getElem (by omega)] at h2;simp only[Option.map_some,Option.some.injEq,DataW.lit.injEq,Lit.string.injEq] at h2;have h3:zs[i]'(by omega)=s:=by apply ByteArray.ext;exact Array.toList_inj.1 h2
  have h4:cs[i]? = some (.string s):=by
   have:=congrArg (·[0]?) e1
   simpa [List.getElem?_take,List.getElem?_drop] using this
  rw[h4,List.getElem?_map,List.getElem?_eq_getElem (by omega),h3];rfl
 ·rw[List.getElem?_eq_none (by omega),List.getElem?_eq_none (by simp;omega)]
theorem Tryz.own:ownKnob Tryz.prog.godebug=none:=by kernel_rfl
theorem Tryz.laidOut:laidOutB Tryz.prog=true:=by kernel_rfl
theorem of_laid {W:World} (h:laidMetH Tryz.prog Rows.runsUptoRow.laid W):Env W.heap.size W:=by
 rw[MakeChecks.laidMetH_plain _ _ _ (by kernel_rfl)] at h;obtain⟨ps,h,_⟩:=h;simp only[Rows.runsUptoRow] at h;obtain⟨_,_,_,_,_,_,_,_,_,_,h,_⟩:=h;obtain⟨_,_,_,_,_,_,_,_,_,_,h,_⟩:=h;obtain⟨g2,t2,cs2,f2,p2,q2,hg2,ht2,hv2,hd2,h,_⟩:=h;obtain⟨_,_,_,_,_,_,_,_,_,_,h,_⟩:=h;obtain⟨_,_,_,_,_,_,_,_,_,_,h,_⟩:=h;obtain⟨_,_,_,_,_,_,_,_,_,_,h,_⟩:=h;obtain⟨g6,t6,cs6,f6,p6,q6,hg6,ht6,hv6,hd6,h,_⟩:=h;obtain⟨g7,t7,cs7,f7,p7,q7,hg7,ht7,hv7,hd7,h,_⟩:=h;obtain rfl:=Option.some.inj (gPow.symm.trans hg2);obtain rfl:=Option.some.inj (gAsc.symm.trans hg6);obtain rfl:=Option.some.inj (gSpl.symm.trans hg7);obtain rfl:=Option.some.inj (tPow.symm.trans ht2);obtain rfl:=Option.some.inj (tAsc.symm.trans ht6);obtain rfl:=Option.some.inj (tSpl.symm.trans ht7);rw[dPow] at hd2;rw[dAsc] at hd6;rw[dSpl] at hd7;have e2:=Lib.cells_of_tab Tryz.underlying294 Tryz.underlying177 (by kernel_rfl) (by kernel_rfl) hd2;have e6:=Lib.cells_of_tab Tryz.underlying130 Tryz.underlying5 (by kernel_rfl) (by kernel_rfl) hd6;have e7:=cells_of_texts Tryz.underlying142 Tryz.underlying9 (by kernel_rfl) (by kernel_rfl) hd7
 have hPow : Lib.TabIs Tryz.prog W "internal/strconv.uint64pow10" .u64 Lib.pow10Tab := by unfold Lib.TabIs; rw [hv2, ← e2]
 have hAsc : Lib.TabIs Tryz.prog W "strings.asciiSpace" .u8 Lib.asciiSpaceTab := by unfold Lib.TabIs; rw [hv6, ← e6]
 have hSp:∃ tt fr,W.heap[1]? = some (.cells spellA tt fr):=by
  unfold World.var? at hv7;rw[gSpl] at hv7;simp only[Option.bind_some] at hv7
  split at hv7
  ·rename_i c tt fr hh
   injection hv7 with hv7;refine⟨tt,fr,?_⟩;rw[hh];have:c=spellA:=by
    rw[hv7]
    apply Array.toList_inj.1
    rw[e7];rfl
   rw[this]
  ·cases hv7
 obtain⟨tt,fr,hh⟩:=hSp;exact⟨⟨Lib.tabBelow_of_tabIs hPow,Lib.tabBelow_of_tabIs hAsc,Nat.le_refl _⟩,⟨tt,fr,hh⟩,lt_of_block hh⟩
end
section
open Go.RowKit
theorem keyStr_le {x:ByteArray} {kl:Lit} (h:keyOf Tryz.prog 9 (.string x)=some kl):kl=.string x.data.toList/\x.data.toList.length<=maxLen:=by
 simp[keyOf,Tryz.underlying9,mapKey] at h;exact⟨h.2.symm,h.1⟩
section
variable {D:GD} {w:World} {bk mb:Nat}
structure TnAt (D:GD) (bk mb r:Nat) (defs:List Def) (obs:List Nat) (DD:DataW Value) (w wr:World) (left:Lit->Bool) (cnt:Nat):Prop where
 rg:wr.ranges Tryz.prog 9 heldR mb r defs.length DD left cnt
 sub:∀ kl,left kl=true->Maps.has DD kl=true
 kp:Kp w wr (FU D w bk)
 pr:Pres D D w wr bk
 ex:EX D wr bk defs.length (frA defs) (fun k=>obs.getD k 0) (slX (XD defs) (fun i=>left (.string (frA defs i).name)=false)) (fun _=>False)
theorem getD_map {defs:List Def} {k:Nat} (hk:k < defs.length):(defs.map slowD).getD k dd0=slowD (defs.getD k dd0):=by
 simp[List.getD,hk]
theorem EX.slow {defs:List Def} {oo:Nat->Nat} {A:Nat->Prop} (h:EX D w bk defs.length (frA defs) oo (slX (XD defs) A) (fun _=>False)) (hA:∀ i,i < defs.length->A i):EX D w bk (defs.map slowD).length (frA (defs.map slowD)) oo (XD (defs.map slowD)) (fun _=>False):=by
 have hfr:∀ k,k < defs.length->frA (defs.map slowD) k=frA defs k:=fun k hk=>by unfold frA;rw[getD_map hk];rfl
 have h1:EX D w bk defs.length (frA defs) oo (XD (defs.map slowD)) (fun _=>False):=by
  refine h.iff (fun i hi=>?_) (fun i hi=>?_) (fun i j hi _=>?_) (fun i j hi _ _=>?_)
  ·show ((defs.map slowD).getD i dd0).fast=_;rw[getD_map hi];exact (if_pos (hA i hi)).symm
  ·show ((defs.map slowD).getD i dd0).count=_;rw[getD_map hi];exact (if_pos (hA i hi)).symm
  ·refine⟨fun q=>absurd (hA i hi) q.1,fun q=>?_⟩;have q:_∈((defs.map slowD).getD i dd0).built:=q;rw[getD_map hi] at q;cases q
  ·refine⟨fun q=>absurd (hA i hi) q.1,fun q=>?_⟩;have q:_∈((defs.map slowD).getD i dd0).built:=q;rw[getD_map hi] at q;cases q
 rw[List.length_map];refine⟨fun k hk=>by rw[hfr k hk];exact h1.r k hk,fun i j hi hj e=>h1.nd i j hi hj (by rw[hfr i hi,hfr j hj] at e;exact e),fun k hk=>?_⟩;obtain⟨c,hc,a1,a2,a3,a4,a5⟩:=h1.wc k hk;have re:∀ o S,MapX defs.length (frA defs) oo w o S->MapX defs.length (frA (defs.map slowD)) oo w o S:=fun o S q=>q.re (Nat.le_refl _) (fun j hj _=>⟨by rw[hfr j hj],rfl⟩) (fun j hj=>⟨fun q=>⟨hj,q⟩,fun q=>q.2⟩) (fun i j hi hj e=>h1.nd i j hi hj (by rw[hfr i hi,hfr j hj] at e;exact e));exact⟨c,by rw[hfr k hk];exact hc,a1,a2,re _ _ a3,fun e=>re _ _ (a4 e),a5⟩
theorem tuneBadM (w:World) (bk:Nat) (hot blt:Int) (hb:badT hot blt):Calls Tryz.prog 47 #[pt bk,.int .i64 hot,.int .i64 blt] w fun e w'=>e=.returned (.int .i64 1)/\w'=w:=by
 by_cases h1:hot < 1
 ·clear hb;go_enter Tryz.func47,Tryz.ntmps47;go_wp2;go_ret;exact⟨rfl,rfl⟩
 by_cases h2:1000 < hot
 ·clear hb;go_enter Tryz.func47,Tryz.ntmps47;go_wp2;go_ret;exact⟨rfl,rfl⟩
 by_cases h3:blt < 0
 ·clear hb;go_enter Tryz.func47,Tryz.ntmps47;go_wp2;go_ret;exact⟨rfl,rfl⟩
 have h4:3 < blt:=by unfold badT at hb;omega
 clear hb;go_enter Tryz.func47,Tryz.ntmps47;go_wp2;go_ret;exact⟨rfl,rfl⟩
theorem tuneOkM (hot blt h0 b0:Int) (hg:¬ badT hot blt) {defs:List Def} {obs:List Nat} {DD:DataW Value} (hwr:WR D w bk mb defs obs DD) (hbk:Blk w bk 106 #[.map (some mb),.int .i64 h0,.int .i64 b0]) (hmu:¬ D.u mb) (hbu:¬ D.u bk) (hbd:¬ D.d bk):
  Calls Tryz.prog 47 #[pt bk,.int .i64 hot,.int .i64 blt] w fun e w'=>e=.returned (.int .i64 0)/\Kp w w' (fun k=>FU D w bk k\/k=bk)/\Pres D D w w' bk/\EX D w' bk (defs.map slowD).length (frA (defs.map slowD)) (fun k=>obs.getD k 0) (XD (defs.map slowD)) (fun _=>False)/\Blk w' bk 106 #[.map (some mb),.int .i64 hot,.int .i64 blt]:=by
 have g1:¬ hot < 1:=by unfold badT at hg;omega
 have g2:¬ 1000 < hot:=by unfold badT at hg;omega
 have g3:¬ blt < 0:=by unfold badT at hg;omega
 have g4:¬ 3 < blt:=by unfold badT at hg;omega
 obtain⟨W1,hW1⟩:∃ W1,W1=(w.setCell ⟨bk,1,none⟩ (.int .i64 hot)).setCell ⟨bk,2,none⟩ (.int .i64 blt):=⟨_,rfl⟩;have hk1:Kp w W1 (fun k=>k=bk):=by rw[hW1];exact ((Kp.refl w (fun k=>k=bk)).set (a:=⟨bk,1,none⟩) (fun _=>rfl) _).set (a:=⟨bk,2,none⟩) (fun _=>rfl) _
 have hs1:W1.heap.size=w.heap.size:=by rw[hW1];simp
 have hbk1:Blk W1 bk 106 #[.map (some mb),.int .i64 hot,.int .i64 blt]:=by rw[hW1];exact (hbk.set 1 _).set 2 _
 have hml:=hwr.mp.lt;have hmb:¬ mb=bk:=map_ne hwr.mp hbk;have hown:W1.ownsMap Tryz.prog 9 heldR mb defs.length DD:=ownsMap_same hwr.mp (hk1.block mb hml hmb);obtain⟨hpr1,hwd1⟩:=hwr.wd.out hk1 (fun k hu e=>hbu ((show k=bk from e) ▸ hu)) (fun k hd e=>hbd ((show k=bk from e) ▸ hd));have hx1:=hwr.ex.out hk1 (fun k hu e=>hbu ((show k=bk from e) ▸ hu)) (fun k hd e=>hbd ((show k=bk from e) ▸ hd));have hE:∀ t:Tok,t.length<=maxLen->Maps.has DD (.string t)=true->∃ k,k < defs.length/\(frA defs k).name=t/\DD.atKey (.string t) (.held (.pointer none))=.held (pt (obs.getD k 0)):=fun t ht hh=>by
  have h1:=hwr.hs t ht;rw[hh] at h1;obtain⟨k,hk⟩:=Option.isSome_iff_exists.1 h1.symm;obtain⟨hkl,hkn,_⟩:=List.findIdx?_eq_some_iff_getElem.1 hk;have h2:=hwr.lk t ht;rw[hk] at h2;exact⟨k,hkl,by unfold frA;rw[getD_lt hkl];simpa using hkn,h2⟩
 have hX0:EX D W1 bk defs.length (frA defs) (fun k=>obs.getD k 0) (slX (XD defs) (fun i=>Maps.has DD (.string (frA defs i).name)=false)) (fun _=>False):=hx1.sl0 (fun i hi e=>by
  obtain⟨c,hc,_⟩:=hx1.wc i hi;have h1:=congrArg List.length hc.nm;have h2:=hc.ns;have h3:c.nm.data.toList.length=c.nm.size:=rfl;have h4:=hwr.hs (frA defs i).name (by rw[<-h1,h3];exact Nat.le_trans h2 (by decide));rw[e] at h4;have h5:=List.findIdx?_eq_none_iff.1 (Option.isNone_iff_eq_none.1 (by rw[<-Option.not_isSome,<-h4];rfl)) defs[i] (List.getElem_mem hi);unfold frA at h5;rw[getD_lt hi] at h5;simp at h5)
 have c0:w.cell? ⟨bk,0,none⟩=some (.map (some mb)):=hbk.cell rfl;have c1:w.cell? ⟨bk,1,none⟩=some (.int .i64 h0):=hbk.cell rfl;have c2:w.cell? ⟨bk,2,none⟩=some (.int .i64 b0):=hbk.cell rfl;have f1:=hbk.free 1;have f2:=hbk.free 2;have HWd:=hide hwd1;have HPR:=hide hpr1;have HK1:=hide hk1;have HBK:=hide hbk1;have HE:=hide hE;have HX0:=hide hX0;have HND:=hide hwr.ex.nd;have HW:=hide hwr.wd;have HW1:=hide hW1;clear hwr hbk hk1 hbk1 hpr1 hwd1 hE hg hW1 hx1 hX0;go_enter Tryz.func47,Tryz.ntmps47
 go_wp2_with (first
  | (at_range;(rw[<-HW1.out]);refine wpList_range_own _ rfl _ 104 rfl 9 107 (Maps.string_keyed Tryz.underlying9) Tryz.underlying104 _ mb defs.length _ rfl hown ?_;intro w0 hrg0 hg0 hs0)
  | go_in)
 rw[hs1] at hrg0 hs0
 go_loopw [8] (fun _ wr=>∃ left cnt,TnAt D bk mb w.heap.size defs obs DD W1 wr left cnt) (fun _ wr=>wr.rangeLeft mb w.heap.size)
 case atStart=>
  have hk0:Kp W1 w0 (fun _=>False):=(Kp.refl W1 _).grown hg0 (fun k _ e=>by cases e);exact⟨_,_,⟨hrg0,fun _ h=>h,hk0.mono (fun _ _ e=>e.elim),(HWd.out.kp hk0).1,HX0.out.kp hk0⟩⟩
 case round=>
  clear HX0;obtain⟨left,cnt,hat0⟩:=hrel;have hWr:=HWd.out.next hat0.kp.size hat0.pr;have hrg:=hat0.rg
  go_wp2_with (first
   | (at_next;refine wpList_next_ranges _ rfl _ rfl 9 (Maps.string_keyed Tryz.underlying9) heldR Value.string (fun v:Value=>v) (fun key kl h=>(keyStr_inv h).imp (fun _ q=>q.1)) (fun v _ _=>⟨v,rfl⟩) mb w.heap.size defs.length _ _ _ rfl hrg ?_ ?_)
   | go_in)
  ·intro hc0 hl0;have HP:Hid (Pres D D w wr bk):=HPR.out.trans (fun _ _ h=>h) hat0.pr;have hnf:¬ FU D W1 bk bk:=fun e=>hbu (e.u HWd.out);have HK:Hid (Kp w wr (fun k=>FU D w bk k\/k=bk)):=(HK1.out.mono (fun _ _ e=>.inr e)).trans (hat0.kp.mono (fun k _ e=>.inl (e.back HW.out HPR.out)));have HB:Hid (Blk wr bk 106 #[.map (some mb),.int .i64 hot,.int .i64 blt]):=hat0.kp.blk HBK.out hnf;have HXX:=hide (hat0.ex.slow (fun i _=>hl0 _));clear hat0 hWr hrg hc0 hl0 hg0 hs0 hrg0 hown hnf;go_wp2;go_ret;exact⟨rfl,HK.out,HP.out,HXX.out,HB.out⟩
  ·intro x v kl yd yp w1 cnt1 hkey hlk hv hat hrg1 hlt hg1 hs1' hen;obtain⟨rfl,hxl⟩:=keyStr_le hkey;obtain⟨j,hj,hjn,hat2⟩:=HE.out _ hxl (hat0.sub _ hlk);obtain⟨o2,ho2⟩:∃ o2,obs.getD j 0=o2:=⟨_,rfl⟩;rw[ho2] at hat2;have hvv:v=pt o2:=by
    have h1:=hat (.held (.pointer none));rw[hat2] at h1;have h2:some (DataW.held v,[])=some (yd,yp):=hv;have h3:DataW.held v=yd:=congrArg Prod.fst (Option.some.inj h2);have h4:DataW.held (pt o2)=yd:=h1;rw[<-h3] at h4;exact (DataW.held.inj h4).symm
   subst hvv;have hrn:w.heap.size < wr.heap.size:=hrg.lt;have hk1:Kp wr w1 (fun k=>k=w.heap.size):=(Kp.refl wr _).grown hg1 (fun k _ e=>(Option.some.inj e).symm);have hnu:∀ k,D.u k->¬ k=w.heap.size:=fun k hk e=>by have:=HWd.out.lt k hk;omega
   obtain⟨hp1,hWd1⟩:=hWr.out hk1 hnu (fun k hd e=>by have:=HWd.out.dl k hd;omega);have hpa:=hat0.pr.trans (fun _ _ h=>h) hp1;have hka:Kp W1 w1 (FU D W1 bk):=((hat0.kp.mono (T:=fun k=>FU D W1 bk k\/k=w.heap.size) (fun _ _ e=>.inl e)).trans (hk1.mono (fun _ _ e=>.inr e))).mono (fun k hk e=>e.elim id (fun e=>by omega));have hX1:=hat0.ex.out hk1 hnu (fun k hd e=>by have:=HWd.out.dl k hd;omega);have HC:=hide (coolM (w:=w1) hWd1 hX1 hj ho2 rfl (fun i hi h=>h));have HN:Hid (∀ w2,Kp w1 w2 (FU D w1 bk)->Pres D D w1 w2 bk->EX D w2 bk defs.length (frA defs) (fun k=>obs.getD k 0) (coolX (slX (XD defs) (fun i=>left (.string (frA defs i).name)=false)) j) (fun _=>False)->TnAt D bk mb w.heap.size defs obs DD W1 w2 (fun z=>left z && !z.sameKey (.string x.data.toList)) cnt1):=by
    intro w2 hk2 hp2 hx2;rw[<-hjn] at hrg1 ⊢;have hk2':=hk2.mono (fun k _ e=>FU.back HWd.out hpa e);have hs2:=hk1.size;refine⟨ranges_same hrg1 (hk2'.block mb (by omega) (fun e=>hmu (e.u HWd.out))) (hk2'.block w.heap.size (by omega) (fun e=>by have:=HWd.out.lt _ (e.u HWd.out);omega)),fun k hk=>hat0.sub k (by simp at hk;exact hk.1),hka.trans hk2',hpa.trans (fun _ _ h=>h) hp2,hx2.sl1 (fun i hi=>?_)⟩;have hl:=left_ne (left:=left) HND.out hi hj
    constructor
    ·intro h2;by_cases e:i=j
     ·exact .inr e
     ·refine .inl ?_
      cases hq:left (.string (frA defs i).name) with
      | false=>rfl
      | true=>have:=hl.2 ⟨hq,e⟩;rw[this] at h2;cases h2
    ·rintro (h2|e)
     ·show (_ && _)=false;rw[h2];rfl
     ·cases hq:(left (.string (frA defs i).name) && !(Lit.string (frA defs i).name).sameKey (.string (frA defs j).name)) with
      | false=>rfl
      | true=>exact absurd e (hl.1 hq).2
   have hcn0:=hrg.left_eq;clear hat0 hWr hrg hrg1 hg1 hs1' hat hat2 hv hkey hlk hk1 hnu hp1 hWd1 hpa hka hX1 ho2 hjn
   go_wp2_with fail
   refine HC.out.mono ?_;rintro e w2 ⟨rfl,hk2,hp2,hx2⟩;have hN:=HN.out w2 hk2 hp2 hx2;have HNN:=hide hN;have hcnt:=hN.rg.left_eq;clear hN hk2 hp2 hx2 HN HC;go_wp2
   go_roundw
   case rel=>exact⟨_,_,HNN.out⟩
   case measure=>rw[hcnt,hcn0];exact hlt
end
end
section
open Go.RowKit
theorem tuneS_nib (s:St) (hot blt:Int):(tuneS s hot blt).defs.map nib=s.defs.map nib:=by
 show (s.defs.map slowD).map nib=_;rw[List.map_map];rfl
section
variable {B:Nat} {I:Int} {W w:World} {xb bk mb:Nat} {sv:Value} {D:GD} {V:Nat->Prop} {s:St}
theorem PSn.tuned (h:PSn B W I w xb bk mb sv D V s) {w':World} {hot blt:Int} (hk:Kp w w' (fun k=>FU D w bk k\/k=bk)) (hp:Pres D D w w' bk) {obs:List Nat} {DD:DataW Value} (hwr:WR D w bk mb s.defs obs DD) (hx:EX D w' bk (s.defs.map slowD).length (frA (s.defs.map slowD)) (fun k=>obs.getD k 0) (XD (s.defs.map slowD)) (fun _=>False)) (hb:Blk w' bk 106 #[.map (some mb),.int .i64 hot,.int .i64 blt]):PSn B W I w' xb bk mb sv D V (tuneS s hot blt)/\Kp w w' V:=by
 have hW:=h.words.wds;have hfu:∀ k,FU D w bk k->D.u k:=fun k e=>e.u hW;have hne:∀ b t c,Blk w b t c->t ≠ 111->t ≠ 106->¬ (FU D w bk b\/b=bk):=fun b t c q t1 t2 e=>by
  rcases e with e|e
  ·rcases (h.us b (hfu b e)).2.2 with⟨c',hc'⟩|⟨n,DD,hm⟩
   ·exact t1 (q.inj hc').1
   ·exact map_ne hm q rfl
  ·subst e;exact t2 (q.inj h.book).1
 have hmb:¬ (FU D w bk mb\/mb=bk):=fun e=>e.elim (fun e=>(h.us mb (hfu mb e)).2.1 rfl) (fun e=>h.words.ne h.book e);have hbs:=h.bs;have hsz:=hk.size;refine⟨⟨hk.blk h.xblk (hne _ _ _ h.xblk (by decide) (by decide)),hk.row h.srow (fun k e e2=>by obtain⟨c,hc⟩:=row_blk h.srow e;exact hne _ _ _ hc (by decide) (by decide) e2),h.len,h.bel.trans (hk.below h.bs (fun k hkb e=>by
   rcases e with e|e
   ·have:=(h.us k (hfu k e)).1;omega
   ·have:=h.bbk;omega)),h.bx,h.bv,Nat.le_trans h.bs hsz,h.bmb,hb,⟨obs,DD,hwr.same (tuneS_nib s hot blt) hp (fun _ _ h=>h) (fun _ _ h=>h) (hW.next hsz hp) (hk.block mb h.words.ltm hmb) hx (fun d hd=>by
   obtain⟨d0,_,rfl⟩:=List.mem_map.1 (show d∈s.defs.map slowD from hd);exact⟨fun _=>rfl,fun t ht=>by cases ht⟩)⟩,fun k e=>?_,fun k e=>?_,h.nb,h.bbk,h.vs,h.ids,h.idr⟩,hk.mono (fun k _ e=>(h.vs k).2 (e.elim (fun e=>.inr (.inr (.inr (.inr (.inr (hfu k e)))))) (fun e=>.inr (.inl e))))⟩
 ·obtain⟨e0,e1⟩:=h.sep k e;exact⟨by omega,e1⟩
 ·obtain⟨e0,e1,e2⟩:=h.us k e;refine⟨e0,e1,?_⟩;by_cases hf:FU D w bk k
  ·rcases hf with⟨g,hg⟩|⟨o,g,c,hg,hc,hm⟩
   ·obtain⟨c,hc⟩:=hW.ok k g hg;obtain⟨c',_,_,_,_,_,hc'⟩:=hp k g c hg hc;exact .inl ⟨_,hc'.blk⟩
   ·obtain⟨c',_,_,_,_,e5,hc'⟩:=hp o g c hg hc;obtain⟨_,_,DD,⟨⟨n,h1⟩,_⟩⟩:=hc'.wm k (e5.trans hm);exact .inr ⟨n,DD,h1⟩
  ·have hkb:¬ (FU D w bk k\/k=bk):=fun q=>q.elim hf (fun q=>by
    subst q;rcases e2 with⟨c,hc⟩|⟨n,DD,hm⟩
    ·exact absurd (hc.inj h.book).1 (by decide)
    ·exact map_ne hm h.book rfl)
   rcases e2 with⟨c,hc⟩|⟨n,DD,hm⟩
   ·exact .inl ⟨c,hk.blk hc hkb⟩
   ·exact .inr ⟨n,DD,ownsMap_same hm (hk.block k hm.lt hkb)⟩
theorem tuneBadS (h:PSn B W I w xb bk mb sv D V s) (hot blt:Int) (hb:badT hot blt):Calls Tryz.prog 22 #[pt xb,.int .i64 hot,.int .i64 blt] w fun e w'=>e=.returned (.int .i64 1)/\w'=w:=by
 have c17:w.cell? ⟨xb,17,none⟩=some (pt bk):=h.xblk.cell rfl;have HT:=hide (tuneBadM w bk hot blt hb);clear h hb;go_enter Tryz.func22,Tryz.ntmps22
 go_wp2_with fail
 refine HT.out.mono ?_;rintro e w1 ⟨rfl,rfl⟩;go_wp2;go_ret;exact⟨rfl,rfl⟩
theorem tuneOkS (h:PSn B W I w xb bk mb sv D V s) (hot blt:Int) (hb:¬ badT hot blt):Calls Tryz.prog 22 #[pt xb,.int .i64 hot,.int .i64 blt] w fun e w'=>e=.returned (.int .i64 0)/\PSn B W I w' xb bk mb sv D V (tuneS s hot blt)/\Kp w w' V:=by
 have c17:w.cell? ⟨xb,17,none⟩=some (pt bk):=h.xblk.cell rfl;obtain⟨obs,DD,hwr⟩:=h.words;have hbu:¬ D.u bk:=fun e=>by
  rcases (h.us bk e).2.2 with⟨c,hc⟩|⟨n,DD,hm⟩
  ·exact absurd (hc.inj h.book).1 (by decide)
  ·exact map_ne hm h.book rfl
 have HT:=hide (tuneOkM hot blt s.hot s.built hb hwr h.book (fun e=>(h.us mb e).2.1 rfl) hbu h.nb);have H:=hide h;have HWR:=hide hwr;clear h hb hwr hbu;go_enter Tryz.func22,Tryz.ntmps22
 go_wp2_with fail
 refine HT.out.mono ?_;rintro e w1 ⟨rfl,q1,q2,qx,q3⟩;have HF:=hide (H.out.tuned q1 q2 HWR.out qx q3);clear q1 q2 qx q3 HT HWR;go_wp2;go_ret;exact⟨rfl,HF.out⟩
end
end
section
open Go.RowKit Go.Sort
structure FsAt (mb r:Nat) (defs:List Def) (DD:DataW Value) (w wr:World) (left:Lit->Bool) (cnt:Nat) (v:Value) (ss:List Tok):Prop where
 rg:wr.ranges Tryz.prog 9 heldR mb r defs.length DD left cnt
 sub:∀ kl,left kl=true->Maps.has DD kl=true
 kp:Kp w wr (fun _=>False)
 row:wr.ownsRow (r+1) 9 1 v ss.length (ss.map encStr)
 nd:ss.Nodup
 me:∀ t,t∈ss<->∃ k,∃ h:k < defs.length,defs[k].name=t/\defs[k].fast=true/\left (.string t)=false
theorem left_two {left:Lit->Bool} {t x:Tok}:(left (.string t) && !(Lit.string t).sameKey (.string x))=false<->(left (.string t)=false\/t=x):=by
 by_cases e:t=x
 ·subst e;simp[Lit.sameKey]
 ·have:(Lit.string t).sameKey (.string x)=false:=Maps.sameKey_ne (fun q=>e (by injection q));rw[this];simp[e]
section
variable {defs:List Def} {left:Lit->Bool} {ss:List Tok}
theorem me_yes (h:∀ t,t∈ss<->∃ k,∃ h:k < defs.length,defs[k].name=t/\defs[k].fast=true/\left (.string t)=false) (j:Nat) (hj:j < defs.length) (hf:defs[j].fast=true):∀ t,t∈ss ++ [defs[j].name]<->∃ k,∃ h:k < defs.length,defs[k].name=t/\defs[k].fast=true/\(left (.string t) && !(Lit.string t).sameKey (.string defs[j].name))=false:=fun t=>by
 rw[List.mem_append,List.mem_singleton,h t]
 constructor
 ·rintro (⟨k,hk,a,b,c⟩|e)
  ·exact⟨k,hk,a,b,left_two.2 (.inl c)⟩
  ·exact⟨j,hj,e.symm,hf,left_two.2 (.inr e)⟩
 ·rintro⟨k,hk,a,b,c⟩;rcases left_two.1 c with c|c
  ·exact .inl ⟨k,hk,a,b,c⟩
  ·exact .inr c
theorem me_no (nd:∀ i j (hi:i < defs.length) (hj:j < defs.length),defs[i].name=defs[j].name->i=j) (h:∀ t,t∈ss<->∃ k,∃ h:k < defs.length,defs[k].name=t/\defs[k].fast=true/\left (.string t)=false) (j:Nat) (hj:j < defs.length) (hf:defs[j].fast=false):∀ t,t∈ss<->∃ k,∃ h:k < defs.length,defs[k].name=t/\defs[k].fast=true/\(left (.string t) && !(Lit.string t).sameKey (.string defs[j].name))=false:=fun t=>by
 rw[h t]
 constructor
 ·rintro⟨k,hk,a,b,c⟩;exact⟨k,hk,a,b,left_two.2 (.inl c)⟩
 ·rintro⟨k,hk,a,b,c⟩;rcases left_two.1 c with c|c
  ·exact⟨k,hk,a,b,c⟩
  ·have:=nd k j hk hj (a.trans c);subst this;rw[hf] at b;cases b
theorem me_end (nd:∀ i j (hi:i < defs.length) (hj:j < defs.length),defs[i].name=defs[j].name->i=j) (hn:ss.Nodup) (h:∀ t,t∈ss<->∃ k,∃ h:k < defs.length,defs[k].name=t/\defs[k].fast=true/\left (.string t)=false) (hl:∀ kl,left kl=false):ss.Perm ((defs.filter (fun d=>d.fast)).map Def.name):=by
 refine (List.perm_ext_iff_of_nodup hn ?_).2 fun t=>?_
 ·have hp:defs.Pairwise (fun a b=>a.name ≠ b.name):=List.pairwise_iff_getElem.2 (fun i j hi hj hij e=>by have:=nd i j hi hj e;omega);exact List.pairwise_map.2 (hp.filter _)
 ·rw[h t,List.mem_map]
  constructor
  ·rintro⟨k,hk,a,b,c⟩;exact⟨defs[k],List.mem_filter.2 ⟨List.getElem_mem hk,b⟩,a⟩
  ·rintro⟨d,hd,rfl⟩;obtain⟨h1,h2⟩:=List.mem_filter.1 hd;obtain⟨k,hk,rfl⟩:=List.getElem_of_mem h1;exact⟨k,hk,rfl,h2,hl _⟩
end
section
variable {D:GD} {w:World} {bk mb:Nat}
theorem fastM (h0 b0:Int) {defs:List Def} {obs:List Nat} {DD:DataW Value} (hwr:WR D w bk mb defs obs DD) (hbk:Blk w bk 106 #[.map (some mb),.int .i64 h0,.int .i64 b0]):
  Calls Tryz.prog 48 #[pt bk] w fun e w'=>∃ (v:Value) (ss:List Tok),e=.returned v/\ss.Perm ((defs.filter (fun d=>d.fast)).map Def.name)/\w'.ownsRow w.heap.size 9 1 v ss.length ((ss.mergeSort leB).map encStr)/\Kp w w' (fun _=>False):=by
 have c0:w.cell? ⟨bk,0,none⟩=some (.map (some mb)):=hbk.cell rfl;have hml:=hwr.mp.lt;have hE:∀ t:Tok,t.length<=maxLen->Maps.has DD (.string t)=true->∃ k,∃ hk:k < defs.length,defs[k].name=t/\DD.atKey (.string t) (.held (.pointer none))=.held (pt (obs.getD k 0))/\∃ c:WC,Blk w (obs.getD k 0) 111 c.arr/\c.fa=defs[k].fast:=fun t ht hh=>by
  have h1:=hwr.hs t ht;rw[hh] at h1;obtain⟨k,hk⟩:=Option.isSome_iff_exists.1 h1.symm;obtain⟨hkl,hkn,_⟩:=List.findIdx?_eq_some_iff_getElem.1 hk;have h2:=hwr.lk t ht;rw[hk] at h2;obtain⟨c,hc,a1,_⟩:=hwr.ex.wc k hkl;have a1:c.fa=(defs.getD k dd0).fast:=a1;rw[getD_lt hkl] at a1;exact⟨k,hkl,by simpa using hkn,h2,c,hc.blk,a1⟩
 have hA0:∀ k (h:k < defs.length),Maps.has DD (.string defs[k].name)=true:=fun i hi=>by
  obtain⟨c,hc,_⟩:=hwr.ex.wc i hi;have h1:=congrArg List.length hc.nm;have h2:=hc.ns;have h3:c.nm.data.toList.length=c.nm.size:=rfl;have h5:(frA defs i).name=defs[i].name:=by unfold frA;rw[getD_lt hi]
  rw[h5] at h1;rw[hwr.hs defs[i].name (by rw[<-h1,h3];exact Nat.le_trans h2 (by decide))];rw[List.findIdx?_isSome,List.any_eq_true];exact⟨defs[i],List.getElem_mem hi,by simp⟩
 have h30:=hwr.l30;have HND:=hide hwr.nd;have HE:=hide hE;have HA0:=hide hA0;have hown:=hwr.mp;obtain⟨i0,hi,hz0,hz1,hz2⟩:=info_parts Tryz.info9;clear hwr hE hA0 hbk;go_enter Tryz.func48,Tryz.ntmps48
 go_wp2_with (first
  | (at_range;refine wpList_range_own _ rfl _ 104 rfl 9 107 (Maps.string_keyed Tryz.underlying9) Tryz.underlying104 _ mb defs.length _ rfl hown ?_;intro w0 hrg0 hg0 hs0)
  | go_in)
 go_frame
 go_loopw [3] (fun v wr=>∃ left cnt ss,FsAt mb w.heap.size defs DD w wr left cnt v ss) (fun _ wr=>wr.rangeLeft mb w.heap.size)
 case atStart=>
  have hk0:Kp w w0 (fun _=>False):=(Kp.refl w _).grown hg0 (fun k _ e=>by cases e);exact⟨_,_,[],⟨hrg0,fun _ h=>h,hk0,World.ownsRow_nil _ _ _ _,List.nodup_nil,fun t=>⟨fun q=>(by cases q),fun ⟨k,hk,a,_,c⟩=>(by rw[<-a,HA0.out k hk] at c;cases c)⟩⟩⟩
 case round=>
  clear HA0;obtain⟨left,cnt,ss,hat0⟩:=hrel;have hrg:=hat0.rg;have hrn:w.heap.size < wr.heap.size:=hrg.lt;obtain⟨ao,cap,rfl⟩:=row_slice (Joins.ownsRow_le hat0.row (Nat.zero_le _))
  go_wp2_with (first
   | (at_next;refine wpList_next_ranges _ rfl _ rfl 9 (Maps.string_keyed Tryz.underlying9) heldR Value.string (fun v:Value=>v) (fun key kl h=>(keyStr_inv h).imp (fun _ q=>q.1)) (fun v _ _=>⟨v,rfl⟩) mb w.heap.size defs.length _ _ _ rfl hrg ?_ ?_)
   | go_in)
  ·intro hc0 hl0;have HP:=hide (me_end HND.out hat0.nd hat0.me hl0);have HK:=hide hat0.kp;have hrow:=hat0.row;have hlen:ss.length<=30:=by
    have h1:=HP.out.length_eq;have h2:=List.length_filter_le (fun d:Def=>d.fast) defs;simp at h1;omega
   clear hat0 hrg hc0 hl0 hg0 hs0 hrg0 hown;rcases hrow.2 with⟨e,hz⟩|⟨gb,cap',cur,e,hbase,hgb,r1,r2,r3,r4⟩
   ·injection e with e1 _ e3;subst e1;subst e3;have hss:ss=[]:=List.eq_nil_of_length_eq_zero hz;subst hss;have HS:Hid (Calls Tryz.prog 61 #[.slice none 0 0] wr fun e w'=>e=.returned (.tuple #[])/\w'=wr):=AnyM.slices_Sort_string_none Tryz.sort61 none 0 wr;clear hrow hz
    go_wp2_with fail
    refine HS.out.mono ?_;rintro e w' ⟨rfl,rfl⟩;clear HS;go_wp2;go_ret;exact⟨.slice none 0 0,[],rfl,HP.out,by simpa using World.ownsRow_nil _ _ _ _,HK.out⟩
   ·injection e with e1 _ e3;subst e1;subst e3;have hgl:gb < wr.heap.size:=(Array.getElem?_eq_some_iff.1 hgb).1;have HS:Hid (Calls Tryz.prog 61 #[.slice (some ⟨gb,0,none⟩) ss.length cap] wr fun e w'=>e=.returned (.tuple #[])/\∃ n os,w'=grow (putRow encStr (Sort.ahead wr n) gb 0 (ss.mergeSort leB).toArray) os):=AnyM.slices_Sort_string Tryz.sort61 gb 0 cap ss wr (holds_of_block hgb (by simpa using r4)) hgl (by omega);have HR:Hid (∀ n os,(grow (putRow encStr (Sort.ahead wr n) gb 0 (ss.mergeSort leB).toArray) os).ownsRow w.heap.size 9 1 (.slice (some ⟨gb,0,none⟩) ss.length cap) ss.length ((ss.mergeSort leB).map encStr)/\Kp w (grow (putRow encStr (Sort.ahead wr n) gb 0 (ss.mergeSort leB).toArray) os) (fun _=>False)):=fun n os=>
     ⟨ownsRow_sorted (by simp) (by omega) hgb r1 r2 r3,HK.out.grown (grownBy_sorted _) (fun k hk e=>by injection e with e;omega)⟩
    clear hrow hgb r1 r2 r3 r4 HK
    go_wp2_with fail
    refine HS.out.mono ?_;rintro e w' ⟨rfl,n1,os1,rfl⟩;have HR2:=hide (HR.out n1 os1);generalize grow (putRow encStr (Sort.ahead wr n1) gb 0 (ss.mergeSort leB).toArray) os1=w9 at HR2 ⊢;clear HS HR;go_wp2;go_ret;exact⟨.slice (some ⟨gb,0,none⟩) ss.length cap,ss,rfl,HP.out,HR2.out.1,HR2.out.2⟩
  ·intro x vv kl yd yp w1 cnt1 hkey hlk hv hat hrg1 hlt hg1 hs1 hen;obtain⟨rfl,hxl⟩:=keyStr_le hkey;obtain⟨j,hj,hjn,hat2,c9,hb9,hf9⟩:=HE.out _ hxl (hat0.sub _ hlk);obtain⟨o2,ho2⟩:∃ o2,obs.getD j 0=o2:=⟨_,rfl⟩;rw[ho2] at hat2 hb9;have hvv:vv=pt o2:=by
    have h1:=hat (.held (.pointer none));rw[hat2] at h1;have h2:some (DataW.held vv,[])=some (yd,yp):=hv;have h3:DataW.held vv=yd:=congrArg Prod.fst (Option.some.inj h2);have h4:DataW.held (pt o2)=yd:=h1;rw[<-h3] at h4;exact (DataW.held.inj h4).symm
   subst hvv;have hk1:Kp wr w1 (fun k=>k=w.heap.size):=(Kp.refl wr _).grown hg1 (fun k _ e=>(Option.some.inj e).symm);have hkw:Kp w w1 (fun _=>False):=((hat0.kp.mono (T:=fun k=>k=w.heap.size) (fun _ _ e=>e.elim)).trans hk1).mono (fun k hk e=>by omega);have d4:w1.cell? ⟨o2,4,none⟩=some (.bool defs[j].fast):=by rw[<-hf9];exact (hkw.blk hb9 (fun e=>e)).cell rfl
   have hol:=(hkw.blk hb9 (fun e=>e)).lt;have hrow1:w1.ownsRow (w.heap.size+1) 9 1 (.slice ao ss.length cap) ss.length (ss.map encStr):=hk1.row hat0.row (fun k hk e=>by have:=(hat0.row.lt k hk).1;omega);have hcn0:=hrg.left_eq;have hxe:encStr x.data.toList=.string x:=by simp[encStr]
   have hnew:x.data.toList ∉ ss:=fun q=>by
    obtain⟨_,_,_,_,c⟩:=(hat0.me _).1 q;rw[hlk] at c;cases c
   have hlen:ss.length<=30:=by
    have h1:=hat0.nd.length_le_of_subset (l₂:=defs.map Def.name) (fun t ht=>by
     obtain⟨k,hk,a,_⟩:=(hat0.me t).1 ht;exact List.mem_map.2 ⟨defs[k],List.getElem_mem hk,a⟩)
    simp at h1;omega
   have hs9:=hk1.size;rw[<-hjn] at hrg1 hnew hxe
   cases hf:defs[j].fast with
   | false=>
    rw[hf] at d4;have HN:Hid (FsAt mb w.heap.size defs DD w w1 (fun z=>left z && !z.sameKey (.string defs[j].name)) cnt1 (.slice ao ss.length cap) ss):=⟨hrg1,fun k hk=>hat0.sub k (by simp at hk;exact hk.1),hkw,hrow1,hat0.nd,me_no HND.out hat0.me j hj hf⟩;have hcnt:=hrg1.left_eq;clear hat0 hrg hrg1 hg1 hs1 hat hat2 hv hkey hlk hk1 hkw hrow1 hnew hb9 hf9 hxe;go_wp2
    go_roundw
    case rel=>exact⟨_,_,_,HN.out⟩
    case measure=>rw[hcnt,hcn0];exact hlt
   | true=>
    rw[hf] at d4;have HN:Hid (∀ v2 w2,w2.ownsRow (w.heap.size+1) 9 1 v2 (ss.length+1) (ss.map encStr ++ [.string x])->(w1.alloc (.cells #[.string x] 9)).grownBy w2 (Value.slice ao ss.length cap).ownBlock->FsAt mb w.heap.size defs DD w w2 (fun z=>left z && !z.sameKey (.string defs[j].name)) cnt1 v2 (ss ++ [defs[j].name])):=fun v2 w2 hr2 hg2=>by
     have hk2:Kp w1 w2 (fun k=>own (.slice ao ss.length cap) k):=((Kp.refl w1 (fun k=>own (.slice ao ss.length cap) k)).alloc _).grown hg2 (fun b _ e=>e);have hno:∀ k,k<=w.heap.size->¬ own (.slice ao ss.length cap) k:=fun k hk e=>by have:=(hrow1.lt k e).1;omega
     refine⟨ranges_same hrg1 (hk2.block mb (by omega) (hno mb (by omega))) (hk2.block w.heap.size (by omega) (hno _ (Nat.le_refl _))),fun k hk=>hat0.sub k (by simp at hk;exact hk.1),(hkw.mono (T:=fun k=>own (.slice ao ss.length cap) k) (fun _ _ e=>e.elim)).trans hk2 |>.mono (fun k hk e=>hno k (by omega) e),?_,?_,me_yes hat0.me j hj hf⟩
     ·rw[List.length_append,List.map_append,List.map_singleton,hxe];exact hr2
     ·exact List.nodup_append.2 ⟨hat0.nd,by simp,fun a ha b hb e=>by simp at hb;subst hb;exact hnew (e ▸ ha)⟩
    have HL:Hid (∀ w2:World,w2.ranges Tryz.prog 9 heldR mb w.heap.size defs.length DD (fun z=>left z && !z.sameKey (.string defs[j].name)) cnt1->w2.rangeLeft mb w.heap.size=cnt1):=fun w2 h=>h.left_eq;clear hat0 hrg hrg1 hg1 hs1 hat hat2 hv hkey hlk hk1 hkw hnew hb9 hf9 hxe
    go_wp2_with (first
     | (at_builtin;refine wpList_append_own _ rfl _ _ 47 rfl (w.heap.size+1) 9 i0 (.string ByteArray.empty) 1 16 Tryz.underlying47 hi hz0 hz1 hz2 rfl (by decide) _ _ _ rfl (hrow1.alloc _) ⟨w1.heap.size,0,none⟩ 1 1 [.string x] rfl rfl ?c1 ?c2 ?c3 ?c4 ?c5 ?_)
     | go_in)
    case c1=>intro j u hj;match j,hj with|0,hj=>simp at hj;subst hj;simp[Addr.add]
    case c2=>intro u hu;simp at hu;subst hu;rfl
    case c3=>unfold maxLen;omega
    case c4=>omega
    case c5=>first|omega|(simp;omega)
    intro v2 w2 hr2 hg2 _;have HNN:=hide (HN.out v2 w2 hr2 hg2);have hcnt:=HL.out w2 HNN.out.rg;clear hr2 hg2 HN HL hrow1;go_wp2
    go_roundw
    case rel=>exact⟨_,_,_,HNN.out⟩
    case measure=>rw[hcnt,hcn0];exact hlt
end
section
variable {B:Nat} {I:Int} {W w:World} {xb bk mb:Nat} {sv:Value} {D:GD} {V:Nat->Prop} {s:St}
theorem fastS (h:PSn B W I w xb bk mb sv D V s):
  Calls Tryz.prog 24 #[pt xb] w fun e w'=>∃ v,e=.returned v/\(∃ L:List ByteArray,w'.ownsRow w.heap.size 9 1 v L.length (L.map Value.string)/\texts L=fastP s)/\∃ V',PSes B W I w' xb V' s/\To (fun _=>False) w w' V V'/\∀ k,own v k->¬ V' k:=by
 obtain⟨obs,DD,hwr⟩:=h.words;have HN:=hide (fastM s.hot s.built hwr h.book);have c17:w.cell? ⟨xb,17,none⟩=some (pt bk):=h.xblk.cell rfl;have H:=hide h;clear h hwr;go_enter Tryz.func24,Tryz.ntmps24
 go_wp2_with fail
 refine HN.out.mono ?_;rintro e w1 ⟨v,ss,rfl,hp,hrow,hkp⟩;have HR:=hide hrow;have HB:=hide hkp;have HQ:=hide hp;clear hrow hkp hp;go_wp2;go_ret;refine⟨v,rfl,⟨(ss.mergeSort leB).map fun l=>⟨l.toArray⟩,?_,?_⟩,V,⟨bk,mb,sv,D,H.out.kp HB.out⟩,⟨HB.out.mono (fun _ _ e=>e.elim),fun k e=>.inl e⟩,fun k e hv=>?_⟩
 ·have:=HR.out;rw[List.map_map,List.length_map,(List.mergeSort_perm ss leB).length_eq];exact this
 ·unfold texts fastP;rw[List.map_map,<-sortN_eq _ ss HQ.out];exact List.map_id _
 ·have h1:=(HR.out.lt k e).1;have h2:=H.out.lt k hv;omega
end
end
section
open Go.RowKit
theorem PSn.more {B:Nat} {I J:Int} {W w:World} {xb bk mb:Nat} {sv:Value} {D:GD} {V:Nat->Prop} {s:St} (h:PSn B W I w xb bk mb sv D V s) (hI:I<=J):PSn B W J w xb bk mb sv D V s:=
 ⟨h.xblk,h.srow,h.len,h.bel,h.bx,h.bv,h.bs,h.bmb,h.book,h.words,h.sep,h.us,h.nb,h.bbk,h.vs,⟨h.ids.1,Int.le_trans h.ids.2 hI⟩,h.idr⟩
section
variable {B:Nat} {W:World}
theorem famP (hE:Env B W):PFam B W (PSes B W):=by
 refine⟨fun I hI=>⟨⟨?_,?_,?_,?_,?_,?_,?_⟩,?_,?_,?_⟩,fun I hI hI2=>⟨?_,?_⟩⟩
 ·exact fun w xb V s ⟨bk,mb,sv,D,h⟩=>h.lt
 ·exact fun w w' S xb V s ⟨bk,mb,sv,D,h⟩ hk hV hB _=>⟨bk,mb,sv,D,h.frame hk hV hB⟩
 ·exact fun w hb hs=>newP w hI hb hs
 ·rintro w xb V s t ⟨bk,mb,sv,D,h⟩ hv;refine (lineM_bad w xb t hv).mono ?_;rintro e w' ⟨rfl,rfl⟩;exact⟨rfl,h.to (Kp.refl _ _)⟩
 ·exact fun w xb V s ⟨bk,mb,sv,D,h⟩ hg=>stackP h hg
 ·exact fun w xb V s n ⟨bk,mb,sv,D,h⟩ _=>cellPX h n
 ·exact fun w xb V s ⟨bk,mb,sv,D,h⟩=>wordsM h
 ·exact fun w xb V s ⟨bk,mb,sv,D,h⟩=>fastS h
 ·rintro w xb V s hot built ⟨bk,mb,sv,D,h⟩ hb;refine (tuneOkS h hot built hb).mono ?_;rintro e w' ⟨rfl,q1,q2⟩;exact⟨rfl,V,⟨bk,mb,sv,D,q1⟩,⟨q2.mono (fun _ _ e=>.inr e),fun _ e=>.inl e⟩⟩
 ·rintro w xb V s hot built ⟨bk,mb,sv,D,h⟩ hb;refine (tuneBadS h hot built hb).mono ?_;rintro e w' ⟨rfl,rfl⟩;exact⟨rfl,h.to (Kp.refl _ _)⟩
 ·exact fun w xb V s ⟨bk,mb,sv,D,h⟩=>⟨bk,mb,sv,D,h.more (by omega)⟩
 ·exact fun w xb V s s1 left g t ⟨bk,mb,sv,D,h⟩ _ hg hv hx=>lineOk hE h hI2 hg t hv g s1 left hx
end
end
section
open Go.ChangeShapes Go.WideShapes Go.ChangeAt Go.RowKit
theorem hot_met (os:Os) (args:Array Value):laidMetH Tryz.prog Rows.hotRow.laid ((World.doorLaid Tryz.prog 400 os).forCall (fun _ _=>0) ⟨#[],args,[]⟩).memory:=
 laidMetH_of_parts3 (fuel:=8) (laidMet_of_run' 8 (by kernel_rfl) (by kernel_rfl)) (by kernel_rfl) (by kernel_rfl)
theorem int_inH {H:Type} {enc:TypeId × Value->H} {W:World} {b0 base:Nat} {sp:Nat->Bool} {held:Bool} {v:Value} {d:DataW H} {p:List MemPlace} (hv:Value.okWide Tryz.prog W .any b0 3 v) (h:DataW.Trod enc Tryz.prog W base sp held 3 v d p):∃ n:Int,v=.int .i64 n/\In n:=by
 obtain⟨n,e,_,_,hw⟩:=open_int Tryz.underlying3 hv h;exact⟨n,e,bounds_i64 hw⟩
theorem hot_lifted (os:Os) (started:os.Started) (H:Type) (enc:TypeId × Value->H):
  ReturnsInHanded {} Tryz.checked os 10 .any (fun w args=>(Rows.hotSpec.pre enc Tryz.prog Tryz.f10 [] false w args/\laidMetH Tryz.prog Rows.hotRow.laid w)/\sizedMet enc Tryz.prog Tryz.f10 (OpenSpec.ofChange Rows.hotSpec) false w args)
   (Rows.hotSpec.post enc Tryz.prog Tryz.f10 false true false false):=by
 refine returnsInHanded_of_change_and (C:=Tryz.checked) (X:=fun w _=>laidMetH Tryz.prog Rows.hotRow.laid w) (fun _ _ _ hh h=>h.of_heap hh) Tryz.own started (by kernel_rfl) Tryz.func10
  (ChangeSpec.witness_shaped (enc:=enc) (C:=Tryz.checked) (os:=os) (X:=fun w _=>laidMetH Tryz.prog Rows.hotRow.laid w) false (World.doorLaid Tryz.prog 400 os) #[.int .i64 0,.int .i64 0,.int .i64 0] 8 rfl (World.shaped_of_RefB (by kernel_rfl) (by kernel_rfl)) (by kernel_rfl) (by kernel_rfl) (by kernel_rfl) (hot_met os _)) ?_
 intro W base args ds gs before hval0 hW _ hsz0 hL _;have hval:∀ (j:Nat) t v,Tryz.f10.params[j]? = some t->args[j]? = some v->Value.okWide Tryz.prog W .any base t v:=hval0;have hW':=hW;obtain⟨p,q,hA0,hV,rfl,hfz,hnd⟩:=hW;have hA:DataW.TrodAll enc Tryz.prog W 0 (fun _=>true) true Tryz.f10.params.toList args.toList ds p:=hA0;rw[Tryz.params10] at hA hval;obtain⟨v0,v1,v2,d0,d1,d2,p0,p1,p2,rfl,rfl,rfl,t0,t1,t2⟩:=trodAll_three hA;obtain⟨rfl,rfl⟩:=trodVars_none hV;have hE:Env W.heap.size W:=of_laid hL;clear hA0 hval0;simp only[List.append_nil] at hW';have hlt:∀ x∈p0 ++ (p1 ++ p2),x.block < W.heap.size:=fun x hx=>by simpa using hW'.lt x (by simpa using hx)
 obtain⟨n0,rfl,b0⟩:=int_inH (hval 0 3 v0 rfl rfl) t0;obtain⟨n1,rfl,b1⟩:=int_inH (hval 1 3 v1 rfl rfl) t1;obtain⟨n2,rfl,b2⟩:=int_inH (hval 2 3 v2 rfl rfl) t2;have walk:=hotL W (famP hE) n0 n1 n2 b0 b1 b2;refine walk.mono fun e W' ⟨he,hB⟩=>?_;subst he;refine⟨_,rfl,_,_,_,[],p0 ++ p1 ++ p2,[],hW',?_,?_,rfl,hB.frame _,fun h=>by cases h⟩
 ·exact trodAll_mk1 (shut_bool Tryz.underlying4 _)
 ·rw[List.append_assoc];exact trodAll_mk3 (Below.trod Tryz.laidOut (by kernel_rfl) (of_decide_eq_true (by kernel_rfl)) t0 hB (fun x hx=>hlt x (by simp[hx]))) (Below.trod Tryz.laidOut (by kernel_rfl) (of_decide_eq_true (by kernel_rfl)) t1 hB (fun x hx=>hlt x (by simp[hx]))) (Below.trod Tryz.laidOut (by kernel_rfl) (of_decide_eq_true (by kernel_rfl)) t2 hB (fun x hx=>hlt x (by simp[hx])))
end
section
open Go
theorem hot_said:Rows.HotSaid:=
 OpenClaim.holds_of_wide 10 Tryz.f10 rfl rfl rfl rfl rfl rfl rfl ⟨rfl,rfl,rfl,rfl,rfl⟩ rfl rfl rfl rfl rfl (by kernel_rfl) Tryz.func10 (by kernel_rfl)
  (of_decide_eq_true (by kernel_rfl)) (by unfold Func.isWrapper;first|(rw[if_pos (by decide +kernel)];kernel_rfl)|(rw[if_neg (by decide +kernel)];exact⟨rfl,rfl⟩))
  (fun os started H enc _=>hot_lifted os started H enc)
theorem hot_plain (f : FuncId) (fn : Func) (hf : Tryz.pinned.checked.prog.funcNamed "anvil/anvilkeep.Hot" = some f) (hfn : Tryz.pinned.checked.prog.funcs[f]? = some fn) :
  true=Tryz.pinned.checked.prog.looks []/\∀ (j:Nat) t,fn.params[j]? = some t->Tryz.pinned.checked.prog.wantsStandIn t=false:=by
 obtain rfl : f = 10 := Option.some.inj ((show Tryz.prog.funcNamed "anvil/anvilkeep.Hot" = some 10 by kernel_rfl).symm.trans hf) |>.symm
 obtain rfl:fn=Tryz.f10:=(Option.some.inj (Tryz.func10.symm.trans hfn)).symm;refine⟨by kernel_rfl,fun j t ht=>?_⟩;rw[Tryz.params10] at ht;obtain rfl:t=3:=by simpa using Array.mem_of_getElem? ht
 exact (show Tryz.prog.wantsStandIn 3=false by kernel_rfl)
theorem hot_card:Rows.HotCardSaid:=
 Claim7.holds_tied_plain_at .later [] _ _ _ _ hot_said (fun _ h=>by cases h) (by kernel_rfl) (fun _ h=>by cases h) hot_row_tie rfl ⟨rfl,rfl⟩ (by kernel_rfl) rfl hot_plain (by kernel_rfl)
end
#print axioms hot_card
end Go.Proofs.YteainaiebcphlaaGreatDoor
