import Derived.Test.YteainaiebcphlaaGreatDoorV1
import Derived.Laws.CopyOwn
import Derived.BigRegion
import Derived.Test.YteainaiebcphlaaGreatDoorProg
import Derived.WalkKit
import Derived.WalkSpells
import Derived.WalkLawsBesides
import Derived.Lib.ItoaNum
import Derived.Laws.BytesArg
namespace Go.Proofs.YteainaiebcphlaaGreatDoor
set_option maxRecDepth 1000000
set_option maxHeartbeats 4000000
set_option linter.all false
section
open Go.RowKit
theorem takeM_under (w:World) (xb rb:Nat) (m:MS) (ns:List Int) (n:Int) (h:MInv w xb rb m ns) (hlt:(ns.length:Int) < n) (hn:n<=10):
  Calls Tryz.prog 149 #[.pointer (some ⟨rb,0,none⟩),.int .i64 n] w fun e w'=>e=.returned (.tuple #[.agg #[.int .i64 0,.int .i64 0,.int .i64 0],.int .i64 6])/\Kp w w' (fun _=>False):=by
 obtain⟨bo,c0,hv⟩:=form_of h.srow;have k0:w.cell? ⟨rb,0,none⟩=some (.pointer (some ⟨xb,0,none⟩)):=h.rblk.cell rfl;have k1:w.cell? ⟨xb,0,none⟩=some m.sv:=h.xblk.cell rfl;rw[hv] at k1;have hlen:=h.len;have hl1:=h.xblk.lt;have hl2:=h.rblk.lt;clear hv;go_enter Tryz.func149,Tryz.ntmps149;go_wp2;refine bodyPost_ret (v:=.tuple #[.agg #[.int .i64 0,.int .i64 0,.int .i64 0],.int .i64 6]) (by simp[results,Tryz.results149,go_sem]) rfl ⟨rfl,?_⟩;exact ((Kp.refl _ _).alloc _).alloc _
def z3:List Value:=[.int .i64 0,.int .i64 0,.int .i64 0]
theorem splice_z3 (xs:List Int) (h:xs.length<=3):splice z3 0 (ints xs)=[.int .i64 (xs.getD 0 0),.int .i64 (xs.getD 1 0),.int .i64 (xs.getD 2 0)]:=by
 match xs,h with
 | [],_=>rfl
 | [a],_=>rfl
 | [a,b],_=>rfl
 | [a,b,c],_=>rfl
 | a :: b :: c :: d :: r,h=>simp at h
theorem Tryz.size2:(Tryz.prog.info? 2).map (·.size)=some 1:=by kernel_rfl
theorem row_at2 {cur:Array Value} {ns:List Int} (h:cur.toList.take (ns.length * 1)=ints ns) (j:Nat) (hj:j < ns.length):cur[j]? = some (.int .i64 (ns.getD j 0)):=by
 have h1:(cur.toList.take (ns.length * 1))[j]? = (ints ns)[j]?:=by rw[h]
 rw[List.getElem?_take,if_pos (by omega)] at h1
 simpa [ints,hj] using h1
theorem row_cut {w:World} {g cap:Nat} {cur:Array Value} {r xs:List Int} (hb:Blk w g 2 cur) (hc:(r ++ xs).length<=cap) (hm:cap<=maxLen) (hs:cur.size=cap * 1) (ht:cur.toList.take ((r ++ xs).length * 1)=ints (r ++ xs)):
  w.ownsRow 0 2 1 (.slice (some ⟨g,0,none⟩) r.length cap) r.length (ints r):=by
 simp only[List.length_append] at hc ht;refine⟨by simp[ints],.inr ⟨g,cap,cur,rfl,Nat.zero_le _,hb,by omega,hm,hs,?_⟩⟩;have:(cur.toList.take ((r.length+xs.length) * 1)).take r.length=(ints (r ++ xs)).take r.length:=by rw[ht]
 rw[List.take_take,Nat.min_eq_left (by omega)] at this
 simpa [ints] using this
theorem takeM (w:World) (xb rb:Nat) (m:MS) (r xs:List Int) (h:MInv w xb rb m (r ++ xs)) (h1:1<=xs.length) (h3:xs.length<=3):
  Calls Tryz.prog 149 #[.pointer (some ⟨rb,0,none⟩),.int .i64 xs.length] w fun e w'=>∃ v',e=.returned (.tuple #[.agg #[.int .i64 (xs.getD 0 0),.int .i64 (xs.getD 1 0),.int .i64 (xs.getD 2 0)],.int .i64 0]) /\
   MInv w' xb rb { m with sv:=v' } r/\MTo xb rb w w' m { m with sv:=v' }:=by
 have hlen:=h.len;have k0:w.cell? ⟨rb,0,none⟩=some (.pointer (some ⟨xb,0,none⟩)):=h.rblk.cell rfl;have k1:w.cell? ⟨xb,0,none⟩=some m.sv:=h.xblk.cell rfl;have f1:=h.xblk.free 0;have hl1:=h.xblk.lt;have hl2:=h.rblk.lt;obtain⟨g0,cap,cur,hv,-,hg0,hnc,hcm,hcs,htake⟩:∃ g cap cur,m.sv=.slice (some ⟨g,0,none⟩) (r ++ xs).length cap/\0<=g/\w.heap[g]? = some (.cells cur 2 (0,0))/\(r ++ xs).length<=cap/\cap<=maxLen/\cur.size=cap * 1/\cur.toList.take ((r ++ xs).length * 1)=ints (r ++ xs):=by
  rcases h.srow.2 with⟨_,h0⟩|h0
  ·simp only[List.length_append] at h0;omega
  ·exact h0
 rw[hv] at k1;have hx0:Blk w xb 80 (marr m.bk (.slice (some ⟨g0,0,none⟩) (r.length+xs.length) cap) m.mem):=by have:=h.xblk;rw[hv,List.length_append] at this;exact this
 have HX0:Hid (Blk w xb 80 (marr m.bk (.slice (some ⟨g0,0,none⟩) (r.length+xs.length) cap) m.mem)):=hx0;clear hx0;have hb0:Blk w g0 2 cur:=hg0;have hxg:xb ≠ g0:=by rintro rfl;exact absurd (hb0.inj h.xblk).1 (by decide)
 have hrg:rb ≠ g0:=by rintro rfl;exact absurd (hb0.inj h.rblk).1 (by decide)
 have hglt:=hb0.lt;have HV:Hid (m.sv=.slice (some ⟨g0,0,none⟩) (r ++ xs).length cap):=hv;have HT:Hid (cur.toList.take ((r ++ xs).length * 1)=ints (r ++ xs)):=htake;have HC:Hid (cur.size=cap * 1):=hcs;have HB:Hid (Blk w g0 2 cur):=hb0;clear htake hcs hv hg0 hb0;have HM:Hid (cap<=maxLen):=hcm;unfold maxLen at hcm;simp only[List.length_append] at hlen hnc k1;obtain⟨W,hW⟩:∃ W,W=((w.alloc (.cells #[.int .i64 0,.int .i64 0,.int .i64 0] 195)).alloc (.cells #[.int .i64 0,.int .i64 0,.int .i64 0] 195)):=⟨_,rfl⟩;have HW:Hid (W=((w.alloc (.cells #[.int .i64 0,.int .i64 0,.int .i64 0] 195)).alloc (.cells #[.int .i64 0,.int .i64 0,.int .i64 0] 195))):=hW;have hsrc:∀ j v,(ints xs)[j]? = some v->W.cell? ((⟨g0,r.length,none⟩:Addr).add j)=some v:=by
  intro j v hj;have hjl:j < xs.length:=by have:=(List.getElem?_eq_some_iff.1 hj).1;simpa [ints] using this
  have e:(⟨g0,r.length,none⟩:Addr).add j=⟨g0,r.length+j,none⟩:=by unfold Addr.add;split <;> simp_all
  have hc:=((HB.out.alloc (.cells #[.int .i64 0,.int .i64 0,.int .i64 0] 195)).alloc (.cells #[.int .i64 0,.int .i64 0,.int .i64 0] 195)).cell (row_at2 HT.out (r.length+j) (by simp;omega));rw[e,hW,hc];simp[ints,hjl] at hj;rw[<-hj];simp[List.getD,hjl]
 have hcut:Blk W (w.heap.size+1) 195 z3.toArray:=by rw[hW];have:=Blk.new (w.alloc (.cells #[.int .i64 0,.int .i64 0,.int .i64 0] 195)) #[.int .i64 0,.int .i64 0,.int .i64 0] 195;rw[World.size_alloc] at this;exact this
 have HCU:Hid (Blk W (w.heap.size+1) 195 z3.toArray):=hcut;have HSR:Hid (∀ j v,(ints xs)[j]? = some v->W.cell? ((⟨g0,r.length,none⟩:Addr).add j)=some v):=hsrc;have h1c:Hid (∀ u∈ints xs,u.oneCell'=true):=by intro u hu;simp only[ints,List.mem_map] at hu;obtain⟨a,_,rfl⟩:=hu;rfl
 clear hW hcut hsrc;have b1:(r.length:Int)<=(r.length:Int)+(xs.length:Int):=by omega
 have b2:¬ cap=r.length:=by omega
 go_enter Tryz.func149,Tryz.ntmps149;go_wp2;rw[<-HW.out];have j0:W.cell? ⟨rb,0,none⟩=some (.pointer (some ⟨xb,0,none⟩)):=by rw[HW.out];exact ((h.rblk.alloc _).alloc _).cell rfl
 have j1:W.cell? ⟨xb,0,none⟩=some (.slice (some ⟨g0,0,none⟩) (r.length+xs.length) cap):=by rw[HW.out];exact ((HX0.out.alloc _).alloc _).cell rfl
 go_region_law (refine step_copy_splice rfl (.tmp 21) (.tmp 30) 74 74 rfl 2 Tryz.underlying74 Tryz.size2 _ _ 3 3 xs.length _ rfl rfl (w.heap.size+1) 0 z3 195 HCU.out (ints xs) (by show (ints xs).length=min xs.length 3;simp[ints];omega) (fun _=>⟨rfl,_,rfl,HSR.out⟩) (by simp[ints,z3];omega) h1c.out (w.heap.size+1) W (Below.refl _ _).drew (Nat.le_refl _) ?_;intro w4 hg4 hb4)
 have hb5:Below (w.heap.size+1) W w4:=hb4;have hA:Blk w4 (w.heap.size+1) 195 #[.int .i64 (xs.getD 0 0),.int .i64 (xs.getD 1 0),.int .i64 (xs.getD 2 0)]:=by have:=hg4.out;rw[splice_z3 xs h3] at this;exact this
 have hZ:Blk w4 w.heap.size 195 #[.int .i64 0,.int .i64 0,.int .i64 0]:=by
  refine Blk.same (w:=W) ?_ (hb5.block _ (by omega));rw[HW.out];exact (Blk.new w _ _).alloc _
 have hX:Blk w4 xb 80 (marr m.bk (.slice (some ⟨g0,0,none⟩) (r.length+xs.length) cap) m.mem):=by
  refine Blk.same (w:=W) ?_ (hb5.block _ (by omega));rw[HW.out];exact (HX0.out.alloc _).alloc _
 have hRb:Blk w4 rb 100 (rarr xb m.ov m.st m.dp):=by
  refine Blk.same (w:=W) ?_ (hb5.block _ (by omega));rw[HW.out];exact (h.rblk.alloc _).alloc _
 have hG:Blk w4 g0 2 cur:=by
  refine Blk.same (w:=W) ?_ (hb5.block _ (by omega));rw[HW.out];exact (HB.out.alloc _).alloc _
 have hO:w4.ownsRow 0 5 1 m.ov m.out.size (Lib.byteCells m.out.data.toList):=by
  have hk:Kp w w4 (fun _=>False):=by
   refine Kp.ofBelow ?_;have:Below w.heap.size w W:=by rw[HW.out];exact ((Below.refl _ _).alloc (Nat.le_refl _) _).alloc (by simp) _
   exact this.trans (hb5.mono (by omega))
  exact hk.row h.orow (by simp)
 have hK:Kp w w4 (fun _=>False):=by
  refine Kp.ofBelow ?_;have:Below w.heap.size w W:=by rw[HW.out];exact ((Below.refl _ _).alloc (Nat.le_refl _) _).alloc (by simp) _
  exact this.trans (hb5.mono (by omega))
 have p0:w4.cell? ⟨rb,0,none⟩=some (.pointer (some ⟨xb,0,none⟩)):=hRb.cell rfl;have p1:w4.cell? ⟨xb,0,none⟩=some (.slice (some ⟨g0,0,none⟩) (r.length+xs.length) cap):=hX.cell rfl;have p2:=hX.free 0;have a0:w4.cell? ⟨w.heap.size+1,0,none⟩=some (.int .i64 (xs.getD 0 0)):=hA.cell rfl;have a1:w4.cell? ⟨w.heap.size+1,1,none⟩=some (.int .i64 (xs.getD 1 0)):=hA.cell rfl;have a2:w4.cell? ⟨w.heap.size+1,2,none⟩=some (.int .i64 (xs.getD 2 0)):=hA.cell rfl;obtain⟨x0,hx0⟩:∃ x,x=xs.getD 0 0:=⟨_,rfl⟩;obtain⟨x1,hx1⟩:∃ x,x=xs.getD 1 0:=⟨_,rfl⟩;obtain⟨x2,hx2⟩:∃ x,x=xs.getD 2 0:=⟨_,rfl⟩;rw[<-hx0] at a0;rw[<-hx1] at a1;rw[<-hx2] at a2;have z0:w4.cell? ⟨w.heap.size,0,none⟩=some (.int .i64 0):=hZ.cell rfl;have z1:w4.cell? ⟨w.heap.size,1,none⟩=some (.int .i64 0):=hZ.cell rfl;have z2:w4.cell? ⟨w.heap.size,2,none⟩=some (.int .i64 0):=hZ.cell rfl;have y0:=hZ.free 0;have y1:=hZ.free 1;have y2:=hZ.free 2;have H0:Hid (x0=xs.getD 0 0):=hx0;have H1:Hid (x1=xs.getD 1 0):=hx1;have H2:Hid (x2=xs.getD 2 0):=hx2;clear hx0 hx1 hx2 hg4 hb4 j0 j1 k0 k1 f1;go_wp2
 go_region
 all_goals go_wp2
 have hZ5:Blk (((((w4.setCell ⟨xb,0,none⟩ (.slice (some ⟨g0,0,none⟩) r.length cap)).setCell ⟨w.heap.size,0,none⟩ (.int .i64 x0)).setCell ⟨w.heap.size,1,none⟩ (.int .i64 x1)).setCell ⟨w.heap.size,2,none⟩ (.int .i64 x2)).drew) w.heap.size 195 #[.int .i64 x0,.int .i64 x1,.int .i64 x2]:=
  ((((hZ.setOther (a:=⟨xb,0,none⟩) (by show w.heap.size ≠ xb;omega) _).set 0 _).set 1 _).set 2 _)
 have e0:=hZ5.cell (o:=0) (v:=.int .i64 x0) rfl;have e1:=hZ5.cell (o:=1) (v:=.int .i64 x1) rfl;have e2:=hZ5.cell (o:=2) (v:=.int .i64 x2) rfl;have hX5:=(((hX.set 0 (.slice (some ⟨g0,0,none⟩) r.length cap)).setOther (a:=⟨w.heap.size,0,none⟩) (by show xb ≠ w.heap.size;omega) (.int .i64 x0)).setOther (a:=⟨w.heap.size,1,none⟩) (by show xb ≠ w.heap.size;omega) (.int .i64 x1)).setOther (a:=⟨w.heap.size,2,none⟩) (by show xb ≠ w.heap.size;omega) (.int .i64 x2);have hR5:=(((hRb.setOther (a:=⟨xb,0,none⟩) h.ne.symm (.slice (some ⟨g0,0,none⟩) r.length cap)).setOther (a:=⟨w.heap.size,0,none⟩) (by show rb ≠ w.heap.size;omega) (.int .i64 x0)).setOther (a:=⟨w.heap.size,1,none⟩) (by show rb ≠ w.heap.size;omega) (.int .i64 x1)).setOther (a:=⟨w.heap.size,2,none⟩) (by show rb ≠ w.heap.size;omega) (.int .i64 x2);have hG5:=(((hG.setOther (a:=⟨xb,0,none⟩) hxg.symm (.slice (some ⟨g0,0,none⟩) r.length cap)).setOther (a:=⟨w.heap.size,0,none⟩) (by show g0 ≠ w.heap.size;omega) (.int .i64 x0)).setOther (a:=⟨w.heap.size,1,none⟩) (by show g0 ≠ w.heap.size;omega) (.int .i64 x1)).setOther (a:=⟨w.heap.size,2,none⟩) (by show g0 ≠ w.heap.size;omega) (.int .i64 x2);have hK5:Kp w ((((w4.setCell ⟨xb,0,none⟩ (.slice (some ⟨g0,0,none⟩) r.length cap)).setCell ⟨w.heap.size,0,none⟩ (.int .i64 x0)).setCell ⟨w.heap.size,1,none⟩ (.int .i64 x1)).setCell ⟨w.heap.size,2,none⟩ (.int .i64 x2)) (fun k=>k=xb):=
  ((((hK.mono (T:=fun k=>k=xb) (fun _ _ h=>h.elim)).set (a:=⟨xb,0,none⟩) (fun _=>rfl) _).set (a:=⟨w.heap.size,0,none⟩) (fun hh=>absurd hh (Nat.lt_irrefl _)) _).set (a:=⟨w.heap.size,1,none⟩) (fun hh=>absurd hh (Nat.lt_irrefl _)) _).set (a:=⟨w.heap.size,2,none⟩) (fun hh=>absurd hh (Nat.lt_irrefl _)) _
 have hO5:=hK5.row h.orow (fun k hk e=>own_ne h.orow h.xblk (by decide) (by rw[<-e];exact hk));have hrow:=row_cut hG5 (by simpa using hnc) HM.out HC.out HT.out;have hlen5:r.length<=32:=by omega
 clear hA hZ hX hRb hG hO hK p0 p1 p2 a0 a1 a2 z0 z1 z2 y0 y1 y2 hZ5;refine bodyPost_ret (v:=.tuple #[.agg #[.int .i64 x0,.int .i64 x1,.int .i64 x2],.int .i64 0]) (by simp[results,Tryz.results149,go_sem,e0,e1,e2]) rfl ?_;refine⟨.slice (some ⟨g0,0,none⟩) r.length cap,by rw[H0.out,H1.out,H2.out],⟨hX5,hR5,hrow,hO5,hlen5⟩,⟨(hK5.drew).mono (fun k _ e=>.inl (.inl e)),?_⟩⟩;rintro k (hk|hk)
 ·left;left;rw[HV.out];exact hk
 ·exact .inl (.inr hk)
end
section
open Go.RowKit
def fdiv (a b:Int):Int:=
 if (a.tmod b != 0)=true/\(!decide (a < 0) == decide (b < 0))=true then wrap64 (wrap64 (a.tdiv b) - 1) else wrap64 (a.tdiv b)
theorem fdiv_pos {a b:Int} (h1:(a.tmod b != 0)=true) (h2:(!decide (a < 0) == decide (b < 0))=true):fdiv a b=wrap64 (wrap64 (a.tdiv b) - 1):=by
 unfold fdiv;rw[if_pos ⟨h1,h2⟩]
theorem fdiv_neg {a b:Int} (h:(a.tmod b != 0)=false\/(!decide (a < 0) == decide (b < 0))=false):fdiv a b=wrap64 (a.tdiv b):=by
 unfold fdiv;rw[if_neg];rintro⟨h1,h2⟩;rcases h with h|h <;> simp_all
def sonum (b:Bool):Int:=if b then -1 else 0
theorem ret_int {k:IntKind} {a b:Int} (h:a=b):Ending.returned (.int k a)=.returned (.int k b):=by rw[h]
theorem quotR (a b:Int) (w:World) (hb:¬ b=0):
  Calls Tryz.prog 140 #[.int .i64 a,.int .i64 b] w fun e w'=>e=.returned (.int .i64 (fdiv a b))/\w'=w:=by
 go_enter Tryz.func140,Tryz.ntmps140;go_wp2
 ·go_ret;exact⟨ret_int (fdiv_neg (.inl (by simp[*]))).symm,rfl⟩
 ·go_ret;exact⟨ret_int (fdiv_pos (by simp_all) (by simp_all)).symm,rfl⟩
 ·go_ret;exact⟨ret_int (fdiv_neg (by assumption)).symm,rfl⟩
theorem soR (a:Bool) (w:World):
  Calls Tryz.prog 141 #[.bool a] w fun e w'=>e=.returned (.int .i64 (sonum a))/\w'=w:=by
 go_enter Tryz.func141,Tryz.ntmps141;go_wp2
 all_goals go_ret
 all_goals simp[sonum, *]
end
section
open Go.RowKit
theorem quotM (a b:Int) (w:World) (hb:¬ b=0):
  Calls Tryz.prog 103 #[.int .i64 a,.int .i64 b] w fun e w'=>e=.returned (.int .i64 (fdiv a b))/\w'=w:=by
 go_enter Tryz.func103,Tryz.ntmps103;go_wp2
 ·go_ret;exact⟨ret_int (fdiv_neg (.inl (by simp[*]))).symm,rfl⟩
 ·go_ret;exact⟨ret_int (fdiv_pos (by simp_all) (by simp_all)).symm,rfl⟩
 ·go_ret;exact⟨ret_int (fdiv_neg (by assumption)).symm,rfl⟩
theorem remM (a b:Int) (w:World) (hb:¬ b=0):
  Calls Tryz.prog 104 #[.int .i64 a,.int .i64 b] w fun e w'=>e=.returned (.int .i64 (wrap64 (a - wrap64 (b * fdiv a b))))/\w'=w:=by
 go_enter Tryz.func104,Tryz.ntmps104
 go_wp2_with (go_at_call 103;refine (quotM _ _ _ hb).mono ?_;rintro e w' ⟨rfl,rfl⟩)
 go_ret;exact⟨rfl,rfl⟩
theorem truthM (a:Bool) (w:World):
  Calls Tryz.prog 106 #[.bool a] w fun e w'=>e=.returned (.int .i64 (sonum a))/\w'=w:=by
 go_enter Tryz.func106,Tryz.ntmps106;go_wp2
 all_goals go_ret
 all_goals simp[sonum, *]
theorem isCellM (a:Int) (w:World):
  Calls Tryz.prog 66 #[.int .i64 a] w fun e w'=>e=.returned (.bool (decide (0<=a/\a < 16)))/\w'=w:=by
 go_enter Tryz.func66,Tryz.ntmps66;go_wp2
 all_goals go_ret
 all_goals (simp[*] <;> omega)
theorem addM (a b:Int) (w:World):
  Calls Tryz.prog 99 #[.int .i64 a,.int .i64 b] w fun e w'=>e=.returned (.int .i64 (wrap64 (a+b)))/\w'=w:=by
 go_enter Tryz.func99,Tryz.ntmps99;go_wp2;go_ret;exact⟨rfl,rfl⟩
theorem subM (a b:Int) (w:World):
  Calls Tryz.prog 100 #[.int .i64 a,.int .i64 b] w fun e w'=>e=.returned (.int .i64 (wrap64 (a - b)))/\w'=w:=by
 go_enter Tryz.func100,Tryz.ntmps100;go_wp2;go_ret;exact⟨rfl,rfl⟩
theorem mulM (a b:Int) (w:World):
  Calls Tryz.prog 101 #[.int .i64 a,.int .i64 b] w fun e w'=>e=.returned (.int .i64 (wrap64 (a * b)))/\w'=w:=by
 go_enter Tryz.func101,Tryz.ntmps101;go_wp2;go_ret;exact⟨rfl,rfl⟩
theorem eqM (a b:Int) (w:World):
  Calls Tryz.prog 105 #[.int .i64 a,.int .i64 b] w fun e w'=>e=.returned (.int .i64 (sonum (a == b)))/\w'=w:=by
 go_enter Tryz.func105,Tryz.ntmps105
 go_wp2_with (go_at_call 106;refine (truthM _ _).mono ?_;rintro e w' ⟨rfl,rfl⟩)
 go_ret;exact⟨rfl,rfl⟩
theorem ltM (a b:Int) (w:World):
  Calls Tryz.prog 107 #[.int .i64 a,.int .i64 b] w fun e w'=>e=.returned (.int .i64 (sonum (decide (a < b))))/\w'=w:=by
 go_enter Tryz.func107,Tryz.ntmps107
 go_wp2_with (go_at_call 106;refine (truthM _ _).mono ?_;rintro e w' ⟨rfl,rfl⟩)
 go_ret;exact⟨rfl,rfl⟩
theorem kindPlain (a:Int) (w:World):
  Calls Tryz.prog 71 #[.int .i64 a] w fun e w'=>e=.returned (.bool (decide (2<=a/\a<=17)))/\w'=w:=by
 go_enter Tryz.func71,Tryz.ntmps71;go_wp2
 all_goals go_ret
 all_goals (simp[*] <;> omega)
end
section
open Go.RowKit
def tk (ns:List Int) (n j:Nat):Int:=if j < n then ns.getD (ns.length - 1 - j) 0 else 0
def tkArr (ns:List Int) (n:Nat):Array Value:=#[.int .i64 (tk ns n 0),.int .i64 (tk ns n 1),.int .i64 (tk ns n 2)]
theorem row_at {cur:Array Value} {ns:List Int} (h:cur.toList.take (ns.length * 1)=ints ns) (j:Nat) (hj:j < ns.length):cur[j]? = some (.int .i64 (ns.getD j 0)):=by
 have h1:(cur.toList.take (ns.length * 1))[j]? = (ints ns)[j]?:=by rw[h]
 rw[List.getElem?_take,if_pos (by omega)] at h1
 simpa [ints,hj] using h1
theorem tkArr_size (ns:List Int) (k:Nat):(tkArr ns k).size=3:=rfl
theorem tkArr_succ (ns:List Int) (k:Nat) (hk:k < 3):(tkArr ns k).setIfInBounds k (.int .i64 (ns.getD (ns.length - 1 - k) 0))=tkArr ns (k+1):=by
 have:k=0\/k=1\/k=2:=by omega
 rcases this with h|h|h <;> subst h <;> rfl
theorem row_of {w:World} {g cap:Nat} {cur:Array Value} {ns:List Int} (hb:Blk w g 3 cur) (hc:ns.length<=cap) (hm:cap<=maxLen) (hs:cur.size=cap * 1) (ht:cur.toList.take (ns.length * 1)=ints ns) (m:Nat) (hm':m<=ns.length):
  w.ownsRow 0 3 1 (.slice (some ⟨g,0,none⟩) m cap) (ns.take m).length (ints (ns.take m)):=by
 have hl:(ns.take m).length=m:=by simp;omega
 rw[hl];refine⟨by simp[ints];omega,.inr ⟨g,cap,cur,rfl,Nat.zero_le _,hb,by omega,hm,hs,?_⟩⟩;have:(cur.toList.take (ns.length * 1)).take m=(ints ns).take m:=by rw[ht]
 rw[List.take_take,Nat.min_eq_left (by omega)] at this
 simpa [ints,List.map_take] using this
theorem takeR (w:World) (yb:Nat) (s:RS) (ns:List Int) (n:Nat) (h:RInv w yb s ns) (h1:1<=n) (h3:n<=3) (hle:n<=ns.length):
  Calls Tryz.prog 139 #[.pointer (some ⟨yb,0,none⟩),.int .i64 n] w fun e w'=>∃ g v',e=.returned (.tuple #[.slice (some ⟨g,0,none⟩) 3 3,.bool true]) /\
   Blk w' g 3 (tkArr ns n)/\w.heap.size<=g/\RInv w' yb { s with nv:=v' } (ns.take (ns.length - n))/\RTo yb w w' s { s with nv:=v' }/\¬ own v' g:=by
 have hlen:=h.len;have c0:w.cell? ⟨yb,0,none⟩=some s.nv:=h.blk.cell rfl;obtain⟨g0,cap,cur,hv,-,hg0,hnc,hcm,hcs,htake⟩:∃ g cap cur,s.nv=.slice (some ⟨g,0,none⟩) ns.length cap/\0<=g/\w.heap[g]? = some (.cells cur 3 (0,0))/\ns.length<=cap/\cap<=maxLen/\cur.size=cap * 1/\cur.toList.take (ns.length * 1)=ints ns:=by
  rcases h.row.2 with⟨_,h0⟩|h0
  ·omega
  ·exact h0
 rw[hv] at c0;have hb0:Blk w g0 3 cur:=hg0;have hyg:yb ≠ g0:=by rintro rfl;exact absurd (hb0.inj h.blk).1 (by decide)
 have hylt:=h.blk.lt;have hglt:=hb0.lt;have hmk:∀ w,(Instr.makeSlice 34 (.int .i64 3) (.int .i64 3)).run Tryz.prog w=.ok (.slice (some ⟨w.heap.size,0,none⟩) 3 3) (w.alloc (.cells #[.int .i64 0,.int .i64 0,.int .i64 0] 3)):=fun _=>by kernel_rfl
 have HV:Hid (s.nv=.slice (some ⟨g0,0,none⟩) ns.length cap):=hv;clear hv;have HT:Hid (cur.toList.take (ns.length * 1)=ints ns):=htake;have HC:Hid (cur.size=cap * 1):=hcs;clear htake hcs;unfold maxLen at hcm;go_enter Tryz.func139,Tryz.ntmps139;go_wp2
 go_loopw [7] (fun i wr=>∃ k:Nat,k<=n/\i=.int .i64 k/\Blk wr yb 67 { s with nv:=.slice (some ⟨g0,0,none⟩) (ns.length - k) cap }.arr/\Blk wr g0 3 cur/\Blk wr w.heap.size 3 (tkArr ns k)/\Kp w wr (fun b=>b=yb))
  (fun i _=>n - (intOf i).toNat)
 case atStart => 
  refine⟨0,by omega,rfl,?_,hb0.alloc _,?_,(Kp.refl _ _).alloc _⟩
  ·have:=h.blk.alloc (.cells #[.int .i64 0,.int .i64 0,.int .i64 0] 3);rw[RS.arr,HV.out] at this;exact this
  ·exact Blk.new w _ _
 case round=>
  obtain⟨k,hk,rfl,hbs,hbg,hbo,hkp⟩:=hrel;by_cases hlt:k < n
  ·have d0:wr.cell? ⟨yb,0,none⟩=some (.slice (some ⟨g0,0,none⟩) (ns.length - k) cap):=hbs.cell rfl;have d1:=hbs.free 0;have d2:wr.cell? ⟨g0,ns.length - k - 1,none⟩=some (.int .i64 (ns.getD (ns.length - 1 - k) 0)):=by
    have:=hbg.cell (row_at HT.out (ns.length - 1 - k) (by omega));rw[show ns.length - k - 1=ns.length - 1 - k from by omega];exact this
   obtain⟨u,d3⟩:∃ u,wr.cell? ⟨w.heap.size,k,none⟩=some u:=⟨_,hbo.cell (Array.getElem?_eq_getElem (by rw[tkArr_size];omega))⟩;have d4:=hbo.free k;obtain⟨x,hx⟩:∃ x,x=ns.getD (ns.length - 1 - k) 0:=⟨_,rfl⟩;rw[<-hx] at d2;have HX:Hid (x=ns.getD (ns.length - 1 - k) 0):=hx;clear hx;go_wp2
   go_region
   go_wp2
   go_region
   go_wp2
   go_roundw
   case rel=>
    refine⟨k+1,by omega,by go_num,?_,?_,?_,?_⟩
    ·exact (((hbs.setOther (a:=⟨w.heap.size,k,none⟩) (by simp;omega) _).set 0 _).drew).drew
    ·exact (((hbg.setOther (a:=⟨w.heap.size,k,none⟩) (by simp;omega) _).setOther (a:=⟨yb,0,none⟩) (by simp;omega) _).drew).drew
    ·have:=(((hbo.set k (.int .i64 x)).setOther (a:=⟨yb,0,none⟩) (by simp;omega) (.slice (some ⟨g0,0,none⟩) (ns.length - k - 1) cap)).drew).drew;rw[HX.out,tkArr_succ _ _ (by omega),<-HX.out] at this;exact this
    ·exact (((hkp.set (a:=⟨w.heap.size,k,none⟩) (by simp) _).set (a:=⟨yb,0,none⟩) (fun _=>rfl) _).drew).drew
   case measure=>simp[intOf];omega
  ·have hkn:k=n:=by omega
   subst hkn;go_wp2;go_ret2;refine⟨_,_,rfl,hbo,Nat.le_refl _,⟨hbs,row_of hbg hnc hcm HC.out HT.out _ (by omega),by simp;omega⟩,⟨hkp.mono (fun _ _=>.inl),fun b hb=>.inl ?_⟩,?_⟩
   ·rw[HV.out];exact hb
   ·simp[own,Value.ownBlock];omega
end
section
open Go.RowKit
theorem tk_rev (rs:List Int) (n j:Nat) (h:j < n) (h':j < rs.length):tk rs.reverse n j=rs.getD j 0:=by
 unfold tk;rw[if_pos h];simp only[List.length_reverse,List.getD_eq_getElem?_getD];rw[List.getElem?_reverse (by omega)]
 congr 2;omega
theorem take_rev (xs r:List Int):((xs ++ r).reverse).take ((xs ++ r).reverse.length - xs.length)=r.reverse:=by
 simp[List.reverse_append]
theorem takeR_under (w:World) (yb:Nat) (s:RS) (ns:List Int) (n:Int) (h:RInv w yb s ns) (hlt:(ns.length:Int) < n):
  Calls Tryz.prog 139 #[.pointer (some ⟨yb,0,none⟩),.int .i64 n] w fun e w'=>∃ v,e=.returned (.tuple #[v,.bool false])/\RInv w' yb { s with e:=6 } ns/\RTo yb w w' s { s with e:=6 }:=by
 have c0:w.cell? ⟨yb,0,none⟩=some s.nv:=h.blk.cell rfl;obtain⟨ao,cap,hv⟩:∃ ao cap,s.nv=.slice ao ns.length cap:=by
  rcases h.row.2 with⟨hv,h0⟩|⟨g,cap,_,hv,_⟩
  ·exact⟨none,0,by rw[hv,h0]⟩
  ·exact⟨some ⟨g,0,none⟩,cap,hv⟩
 rw[hv] at c0;have HV:Hid (s.nv=.slice ao ns.length cap):=hv;clear hv;have c1:w.cell? ⟨yb,21,none⟩=some (.int .i64 s.e):=h.blk.cell rfl;have f1:=h.blk.free 21;have hylt:=h.blk.lt;have hmk:∀ w,(Instr.makeSlice 34 (.int .i64 3) (.int .i64 3)).run Tryz.prog w=.ok (.slice (some ⟨w.heap.size,0,none⟩) 3 3) (w.alloc (.cells #[.int .i64 0,.int .i64 0,.int .i64 0] 3)):=fun _=>by kernel_rfl
 go_enter Tryz.func139,Tryz.ntmps139;go_wp2;go_ret2;refine⟨_,rfl,(h.setE _).alloc _,⟨((Kp.refl _ _).set (fun _=>.inl rfl) _).alloc _,fun k hk=>.inl hk⟩⟩
structure Took (w w':World) (yb:Nat) (s:RS) (x0 x1 x2:Int) (r:List Int) (g:Nat) (v':Value):Prop where
 blk:Blk w' g 3 #[.int .i64 x0,.int .i64 x1,.int .i64 x2]
 new:w.heap.size<=g
 inv:RInv w' yb { s with nv:=v' } r.reverse
 to:RTo yb w w' s { s with nv:=v' }
 apart:¬ own v' g
theorem takeR1 (w:World) (yb:Nat) (s:RS) (a:Int) (r:List Int) (h:RInv w yb s (a :: r).reverse):
  Calls Tryz.prog 139 #[.pointer (some ⟨yb,0,none⟩),.int .i64 1] w fun e w'=>∃ g v',e=.returned (.tuple #[.slice (some ⟨g,0,none⟩) 3 3,.bool true])/\Took w w' yb s a 0 0 r g v':=by
 refine (takeR w yb s _ 1 h (by omega) (by omega) (by simp)).mono ?_;rintro e w' ⟨g,v',rfl,hb,hn,hi,ht,ha⟩;refine⟨g,v',rfl,?_,hn,?_,ht,ha⟩
 ·have:=hb;unfold tkArr at this;rw[tk_rev _ _ _ (by omega) (by simp)] at this;exact this
 ·have:=take_rev [a] r;simp only[List.cons_append,List.nil_append,List.length_cons,List.length_nil] at this;rw[this] at hi;exact hi
theorem takeR2 (w:World) (yb:Nat) (s:RS) (b a:Int) (r:List Int) (h:RInv w yb s (b :: a :: r).reverse):
  Calls Tryz.prog 139 #[.pointer (some ⟨yb,0,none⟩),.int .i64 2] w fun e w'=>∃ g v',e=.returned (.tuple #[.slice (some ⟨g,0,none⟩) 3 3,.bool true])/\Took w w' yb s b a 0 r g v':=by
 refine (takeR w yb s _ 2 h (by omega) (by omega) (by simp)).mono ?_;rintro e w' ⟨g,v',rfl,hb,hn,hi,ht,ha⟩;refine⟨g,v',rfl,?_,hn,?_,ht,ha⟩
 ·have:=hb;unfold tkArr at this;rw[tk_rev _ _ _ (by omega) (by simp),tk_rev _ _ _ (by omega) (by simp)] at this;exact this
 ·have:=take_rev [b,a] r;simp only[List.cons_append,List.nil_append,List.length_cons,List.length_nil] at this;rw[this] at hi;exact hi
theorem takeR3 (w:World) (yb:Nat) (s:RS) (c b a:Int) (r:List Int) (h:RInv w yb s (c :: b :: a :: r).reverse):
  Calls Tryz.prog 139 #[.pointer (some ⟨yb,0,none⟩),.int .i64 3] w fun e w'=>∃ g v',e=.returned (.tuple #[.slice (some ⟨g,0,none⟩) 3 3,.bool true])/\Took w w' yb s c b a r g v':=by
 refine (takeR w yb s _ 3 h (by omega) (by omega) (by simp)).mono ?_;rintro e w' ⟨g,v',rfl,hb,hn,hi,ht,ha⟩;refine⟨g,v',rfl,?_,hn,?_,ht,ha⟩
 ·have:=hb;unfold tkArr at this;rw[tk_rev _ _ _ (by omega) (by simp),tk_rev _ _ _ (by omega) (by simp),tk_rev _ _ _ (by omega) (by simp)] at this;exact this
 ·have:=take_rev [c,b,a] r;simp only[List.cons_append,List.nil_append,List.length_cons,List.length_nil] at this;rw[this] at hi;exact hi
theorem layR1 (w:World) (yb:Nat) (s:RS) (r:List Int) (n:Int) (h:RInv w yb s r.reverse) (he:s.e=0) (hl:r.length < 32):
  Calls Tryz.prog 87 #[.pointer (some ⟨yb,0,none⟩),.int .i64 n] w fun e w'=>e=.returned (.tuple #[])/\∃ v',RInv w' yb { s with nv:=v' } (n :: r).reverse/\RTo yb w w' s { s with nv:=v' }:=by
 refine (layR_ok w yb s _ n h he (by simpa using hl)).mono ?_;rintro e w' ⟨rfl,v',hi,ht⟩;exact⟨rfl,v',by rw[List.reverse_cons];exact hi,ht⟩
structure Res where
 e:Int
 rs:List Int
 mem:Nat->Int
 out:ByteArray
structure RPost (w w':World) (yb:Nat) (s:RS) (R:Res):Prop where
 ex:∃ s' ns,RInv w' yb s' ns/\RTo yb w w' s s'/\s'.e=R.e/\s'.mem=R.mem/\s'.out=R.out/\(s'.st,s'.d)=(s.st,s.d)/\(R.e=0->ns=R.rs.reverse)
end
section
open Go.RowKit
theorem nDigits_le:∀ (k u:Nat),u < 10 ^ (k+1)->Lib.nDigits u<=k+1
 | 0,u,h=>by rw[Lib.nDigits_small (by simpa using h)];omega
 | k+1,u,h=>by
  by_cases hu:u < 10
  ·rw[Lib.nDigits_small hu];omega
  ·rw[Lib.nDigits_big hu];have:=nDigits_le k (u / 10) (by rw[Nat.pow_succ] at h;omega);omega
theorem conv1 (w:World) (x:Int):(convert 85 9 (.slice (some ⟨w.heap.size,0,none⟩) 1 1)).run Tryz.prog (w.alloc (.cells #[.int .u8 x] 5))=.ok (.string ⟨#[UInt8.ofNat x.toNat]⟩) (w.alloc (.cells #[.int .u8 x] 5)):=by
 refine run_convert_bytes_arg _ 85 5 Tryz.underlying85 Tryz.underlying5 w.heap.size 0 1 1 [x] rfl ?_ 9 Tryz.underlying9;intro i hi;have:i=0:=by omega
 subst this;simp
def laid (m:Nat):List UInt8:=if m < 10 then [] else Lib.decDigits (m / 10)
theorem laid_start (m:Nat):Lib.decDigits m=laid m ++ [UInt8.ofNat (48+m % 10)]:=by
 unfold laid;by_cases h:m < 10
 ·rw[if_pos h,Lib.decDigits_one h,Nat.mod_eq_of_lt h];rfl
 ·rw[if_neg h];rw[Lib.decDigits];rw[dif_neg h]
theorem laid_step (m:Nat) (h:10<=m):laid m=laid (m / 10) ++ [UInt8.ofNat (48+m / 10 % 10)]:=by
 rw[<-laid_start];unfold laid;rw[if_neg (by omega)]
theorem ba_app (a b:Array UInt8):(⟨a⟩ ++ ⟨b⟩:ByteArray)=⟨a ++ b⟩:=by
 apply ByteArray.ext;rw[ByteArray.data_append]
theorem itoa_least:Lib.itoa (-9223372036854775808)=[45,57,50,50,51,51,55,50,48,51,54,56,53,52,55,55,53,56,48,56]:=by
 unfold Lib.itoa;rw[if_pos (by decide)];have:(-9223372036854775808:Int).natAbs=9223372036854775808:=by decide
 rw[this];simp[Lib.decDigits]
theorem neg_least (n:Int) (h0:-9223372036854775808<=n) (hn:n < 0) (h:(n == wrap64 (-n))=true):n = -9223372036854775808:=by
 have h':n=wrap64 (-n):=by simpa using h
 unfold wrap64 at h';omega
theorem neg_other (n:Int) (h0:-9223372036854775808<=n) (hn:n < 0) (h:(n == wrap64 (-n))=false):wrap64 (-n)=(n.natAbs:Int)/\n.natAbs<=9223372036854775807:=by
 have h':¬ n=wrap64 (-n):=by simpa using h
 unfold wrap64 at h' ⊢;omega
theorem itoa_neg (n:Int) (hn:n < 0):Lib.itoa n=45 :: Lib.decDigits n.natAbs:=by unfold Lib.itoa;rw[if_pos hn]
theorem ofNat48 (k:Nat):UInt8.ofNat (48+k)=48+UInt8.ofNat k:=by rw[UInt8.ofNat_add];rfl
theorem digR_pos (n:Nat) (w:World) (hn:n<=9223372036854775807):
  Calls Tryz.prog 172 #[.int .i64 n] w fun e w'=>e=.returned (.string ⟨(Lib.decDigits n).toArray⟩)/\Kp w w' (fun _=>False):=by
 have hcv:=conv1;have hd:(Lib.decDigits n).length<=20:=by rw[Lib.decDigits_length];exact nDigits_le 19 n (by omega)
 go_enter Tryz.func172,Tryz.ntmps172;go_wp2
 go_loopw [0,3] (fun i s wr=>∃ (m:Nat) (l:List UInt8),m<=n/\i=.int .i64 m/\s=.string ⟨l.toArray⟩/\Lib.decDigits n=laid m ++ l/\Kp w wr (fun _=>False))
  (fun i _ _=>(intOf i).toNat)
 case atStart=>
  refine⟨n,[UInt8.ofNat (48+n % 10)],Nat.le_refl _,rfl,?_,laid_start n,(Kp.refl _ _).alloc _⟩;rw[ofNat48]
 case round=>
  obtain⟨m,l,hm,rfl,rfl,hl,hkp⟩:=hrel;have hll:l.length<=20:=by rw[hl] at hd;simp at hd;omega
  have HL:Hid (Lib.decDigits n=laid m ++ l):=hl;clear hl;have hsz:(ByteArray.mk l.toArray).size=l.length:=rfl;by_cases h10:10<=m
  ·go_wp2
   go_roundw
   case rel=>
    refine⟨m / 10,UInt8.ofNat (48+m / 10 % 10) :: l,by omega,by go_num,?_,?_,?_⟩
    ·rw[ofNat48,ba_app];simp
    ·rw[HL.out,laid_step m h10];simp
    ·exact hkp.alloc _
   case measure=>simp[intOf];omega
  ·go_wp2;go_ret;refine⟨?_,hkp⟩;rw[HL.out];unfold laid;rw[if_pos (by omega)];rfl
theorem digR (n:Int) (w:World) (h0:-9223372036854775808<=n) (h1:n<=9223372036854775807):
  Calls Tryz.prog 172 #[.int .i64 n] w fun e w'=>e=.returned (.string ⟨(Lib.itoa n).toArray⟩)/\Kp w w' (fun _=>False):=by
 by_cases hp:0<=n
 ·obtain⟨m,rfl⟩:∃ m:Nat,n=m:=⟨n.toNat,by omega⟩;have:Lib.itoa (m:Int)=Lib.decDigits m:=by unfold Lib.itoa;rw[if_neg (by omega)];simp
  rw[this];exact digR_pos m w (by omega)
 ·have hn:n < 0:=by omega
  have H0:Hid (-9223372036854775808<=n):=h0;clear hp h0 h1;go_enter Tryz.func172,Tryz.ntmps172
  go_wp2_with fail
  ·have hl:n = -9223372036854775808:=neg_least n H0.out hn (by assumption);have hit:Lib.itoa n=[45,57,50,50,51,51,55,50,48,51,54,56,53,52,55,55,53,56,48,56]:=by rw[hl,itoa_least]
   clear hl;go_ret;refine⟨?_,Kp.refl _ _⟩;rw[hit];rfl
  ·have hl:=neg_other n H0.out hn (by assumption);rw[hl.1];refine (digR_pos _ _ hl.2).mono ?_;rintro e w' ⟨rfl,hk⟩;have hsz:(ByteArray.mk (Lib.decDigits n.natAbs).toArray).size=(Lib.decDigits n.natAbs).length:=rfl;have hll:(Lib.decDigits n.natAbs).length<=20:=by rw[Lib.decDigits_length];exact nDigits_le 19 _ (by have:=hl.2;omega)
   clear hl;go_wp2;go_ret;refine⟨?_,hk⟩;rw[ba_app,itoa_neg n hn];simp
end
section
open Go.RowKit
theorem siR_dup (w:World) (yb:Nat) (s:RS) (a:Int) (r:List Int) (h:RInv w yb s r.reverse) (he:s.e=0) (hl:r.length < 31):
  Calls Tryz.prog 142 #[.pointer (some ⟨yb,0,none⟩),.string { data:=#[100,117,112] },.int .i64 a] w fun e w'=>e=.returned (.tuple #[])/\RPost w w' yb s ⟨0,a :: a :: r,s.mem,s.out⟩:=by
 go_enter Tryz.func142,Tryz.ntmps142
 go_wp2_with fail
 refine (layR1 _ _ _ _ _ h he (by omega)).mono ?_;rintro e w1 ⟨rfl,v1,hi1,ht1⟩
 go_wp2_with fail
 refine (layR1 _ _ _ _ _ hi1 he (by simp;omega)).mono ?_;rintro e w2 ⟨rfl,v2,hi2,ht2⟩;go_wp2
 go_end0
 exact⟨rfl,⟨_,_,hi2,ht1.trans ht2,he,rfl,rfl,rfl,fun _=>rfl⟩⟩
theorem siR_dup_over (w:World) (yb:Nat) (s:RS) (a:Int) (r:List Int) (h:RInv w yb s r.reverse) (he:s.e=0) (hl:r.length=31):
  Calls Tryz.prog 142 #[.pointer (some ⟨yb,0,none⟩),.string { data:=#[100,117,112] },.int .i64 a] w fun e w'=>e=.returned (.tuple #[])/\RPost w w' yb s ⟨7,[],s.mem,s.out⟩:=by
 go_enter Tryz.func142,Tryz.ntmps142
 go_wp2_with fail
 refine (layR1 _ _ _ _ _ h he (by omega)).mono ?_;rintro e w1 ⟨rfl,v1,hi1,ht1⟩
 go_wp2_with fail
 refine (layR_full _ _ _ _ _ hi1 he (by simp;omega)).mono ?_;rintro e w2 ⟨rfl,hi2,ht2⟩;go_wp2
 go_end0
 exact⟨rfl,⟨_,_,hi2,ht1.trans ht2,rfl,rfl,rfl,rfl,fun h=>by cases h⟩⟩
theorem siR_drop (w:World) (yb:Nat) (s:RS) (a:Int) (r:List Int) (h:RInv w yb s r.reverse) (he:s.e=0):
  Calls Tryz.prog 142 #[.pointer (some ⟨yb,0,none⟩),.string { data:=#[100,114,111,112] },.int .i64 a] w fun e w'=>e=.returned (.tuple #[])/\RPost w w' yb s ⟨0,r,s.mem,s.out⟩:=by
 go_enter Tryz.func142,Tryz.ntmps142;go_wp2
 go_end0
 exact⟨rfl,⟨_,_,h,To.refl _ _ _,he,rfl,rfl,rfl,fun _=>rfl⟩⟩
theorem RPost.ofR {w w1 w2:World} {yb:Nat} {s s1:RS} {R:Res} (ht:RTo yb w w1 s s1) (hs:(s1.st,s1.d)=(s.st,s.d)) (h:RPost w1 w2 yb s1 R):RPost w w2 yb s R:=by
 obtain⟨s',ns,h1,h2,h3,h4,h5,h6,h7⟩:=h.ex;exact⟨s',ns,h1,ht.trans h2,h3,h4,h5,h6.trans hs,h7⟩
theorem RInv.kp {w w':World} {yb:Nat} {s:RS} {ns:List Int} (h:RInv w yb s ns) (hk:Kp w w' (fun _=>False)):RInv w' yb s ns:=
 ⟨hk.blk h.blk (by simp),hk.row h.row (by simp),h.len⟩
theorem RTo.kp {w w':World} {yb:Nat} {s:RS} (hk:Kp w w' (fun _=>False)):RTo yb w w' s s:=⟨hk.mono (fun _ _ h=>h.elim),fun _ h=>.inl h⟩
def dot (a:Int):ByteArray:=⟨(Lib.itoa a ++ [32]).toArray⟩
theorem itoa_len (a:Int) (h0:-9223372036854775808<=a) (h1:a<=9223372036854775807):(Lib.itoa a).length<=21:=by
 unfold Lib.itoa
 split
 ·simp only[List.length_cons];rw[Lib.decDigits_length];have:=nDigits_le 19 a.natAbs (by omega);omega
 ·rw[Lib.decDigits_length];have:=nDigits_le 19 a.toNat (by omega);omega
def prt (s:RS) (r:List Int) (t:ByteArray):Res:=if 300 < s.out.size+t.size then ⟨11,[],s.mem,s.out⟩ else ⟨0,r,s.mem,s.out ++ t⟩
theorem printR (w:World) (yb:Nat) (s:RS) (r:List Int) (t:ByteArray) (h:RInv w yb s r.reverse) (he:s.e=0) (ho:s.out.size<=300) (ht:t.size<=1000):
  Calls Tryz.prog 171 #[.pointer (some ⟨yb,0,none⟩),.string t] w fun e w'=>e=.returned (.tuple #[])/\RPost w w' yb s (prt s r t):=by
 unfold prt;by_cases hl:300 < s.out.size+t.size
 ·rw[if_pos hl];refine (printR_full w yb s _ t h ho ht hl).mono ?_;rintro e w' ⟨rfl,hi,hto⟩;exact⟨rfl,⟨_,_,hi,hto,rfl,rfl,rfl,rfl,fun h=>by cases h⟩⟩
 ·rw[if_neg hl];refine (printR_ok w yb s _ t h ho ht (by omega)).mono ?_;rintro e w' ⟨rfl,hi,hto⟩;exact⟨rfl,⟨_,_,hi,hto,he,rfl,rfl,rfl,fun _=>rfl⟩⟩
theorem dot_eq (a:Int):(⟨(Lib.itoa a).toArray⟩ ++ ⟨#[32]⟩:ByteArray)=dot a:=by rw[ba_app];simp[dot]
theorem dot_size (a:Int) (h0:-9223372036854775808<=a) (h1:a<=9223372036854775807):(dot a).size<=1000:=by
 have:=itoa_len a h0 h1;show (dot a).data.size<=1000;simp[dot];omega
theorem siR_dot (w:World) (yb:Nat) (s:RS) (a:Int) (r:List Int) (h:RInv w yb s r.reverse) (he:s.e=0) (ho:s.out.size<=300) (h0:-9223372036854775808<=a) (h1:a<=9223372036854775807):
  Calls Tryz.prog 142 #[.pointer (some ⟨yb,0,none⟩),.string { data:=#[46] },.int .i64 a] w fun e w'=>e=.returned (.tuple #[])/\RPost w w' yb s (prt s r (dot a)):=by
 have H:=digR a w h0 h1;have hd:=dot_size a h0 h1;have hll:=itoa_len a h0 h1;clear h0 h1;go_enter Tryz.func142,Tryz.ntmps142
 go_wp2_with fail
 refine H.mono ?_;clear H;rintro e w1 ⟨rfl,hk⟩;have hsz:(ByteArray.mk (Lib.itoa a).toArray).size=(Lib.itoa a).length:=rfl
 go_wp2_with fail
 rw[dot_eq];refine (printR _ _ _ _ _ (h.kp hk) he ho hd).mono ?_;rintro e w2 ⟨rfl,hp⟩;go_wp2
 go_end0
 exact⟨rfl,RPost.ofR (RTo.kp hk) rfl hp⟩
def chR (a:Int):ByteArray:=⟨#[UInt8.ofNat (wrap64 (wrap64 (32+a) - wrap64 (95 * fdiv a 95)) % 256).toNat]⟩
theorem siR_emit (w:World) (yb:Nat) (s:RS) (a:Int) (r:List Int) (h:RInv w yb s r.reverse) (he:s.e=0) (ho:s.out.size<=300):
  Calls Tryz.prog 142 #[.pointer (some ⟨yb,0,none⟩),.string { data:=#[101,109,105,116] },.int .i64 a] w fun e w'=>e=.returned (.tuple #[])/\RPost w w' yb s (prt s r (chR a)):=by
 have hcv:=conv1;go_enter Tryz.func142,Tryz.ntmps142
 go_wp2_with fail
 refine (quotR _ _ _ (by decide)).mono ?_;rintro e w' ⟨rfl,hw⟩;rw[hw];clear hw
 go_wp2_with fail
 refine (printR _ _ _ _ _ (h.alloc _) he ho (by show (1:Nat)<=1000;omega)).mono ?_;rintro e w2 ⟨rfl,hp⟩;go_wp2
 go_end0
 exact⟨rfl,RPost.ofR (RTo.kp ((Kp.refl _ _).alloc _)) rfl hp⟩
theorem siR_fetch (w:World) (yb:Nat) (s:RS) (a:Int) (r:List Int) (h:RInv w yb s r.reverse) (he:s.e=0) (hl:r.length < 32) (ha:0<=a) (hb:a < 16):
  Calls Tryz.prog 142 #[.pointer (some ⟨yb,0,none⟩),.string { data:=#[64] },.int .i64 a] w fun e w'=>e=.returned (.tuple #[])/\RPost w w' yb s ⟨0,s.mem a.toNat :: r,s.mem,s.out⟩:=by
 have c1:w.cell? ⟨yb,1+a.toNat,none⟩=some (.int .i64 (s.mem a.toNat)):=h.blk.cell (RS.at s _ (by omega));go_enter Tryz.func142,Tryz.ntmps142
 go_wp2_with fail
 refine (layR1 _ _ _ _ _ h he (by omega)).mono ?_;rintro e w1 ⟨rfl,v1,hi1,ht1⟩;go_wp2
 go_end0
 exact⟨rfl,⟨_,_,hi1,ht1,he,rfl,rfl,rfl,fun _=>rfl⟩⟩
theorem siR_fetch_no (w:World) (yb:Nat) (s:RS) (a:Int) (r:List Int) (h:RInv w yb s r.reverse) (he:s.e=0) (ha:¬ (0<=a/\a < 16)):
  Calls Tryz.prog 142 #[.pointer (some ⟨yb,0,none⟩),.string { data:=#[64] },.int .i64 a] w fun e w'=>e=.returned (.tuple #[])/\RPost w w' yb s ⟨10,[],s.mem,s.out⟩:=by
 have c1:w.cell? ⟨yb,21,none⟩=some (.int .i64 s.e):=h.blk.cell rfl;have f1:=h.blk.free 21;rcases (show a < 0\/(0<=a/\16<=a) by omega) with h1|⟨h1,h2⟩
 all_goals
  clear ha;go_enter Tryz.func142,Tryz.ntmps142;go_wp2;refine bodyPost_ret (results_none rfl _ _ _) rfl ?_;exact⟨rfl,⟨_,_,h.setE _,RTo.set rfl _ _,rfl,rfl,rfl,rfl,fun h=>by cases h⟩⟩
end
end Go.Proofs.YteainaiebcphlaaGreatDoor
