import Derived.Test.YteainaiebcphlaaGreatDoorV47
import Derived.Test.YteainaiebcphlaaGreatDoorV39
import Derived.SizedLaws
import Derived.Deep.Slices
import Derived.Handy
namespace Go.Proofs.YteainaiebcphlaaGreatDoor
set_option maxRecDepth 1000000
set_option maxHeartbeats 4000000
set_option linter.all false
section
open Go.RowKit
section
variable {PS:World->Nat->(Nat->Prop)->St->Prop} {B:Nat} {W0:World} (P:PCon B W0 PS)
include P
theorem saysL (w:World) (xb g:Nat) (V:Nat->Prop) (s s1:St) (t want:ByteArray) (hx:PS w xb V s) (hw:WFs s) (hv:validB t.data.toList=true) (ha:after g s t.data.toList=some s1) (ho:s1.out.data.toList=want.data.toList) (he:s1.e=0):
  Calls Tryz.prog 28 #[.pointer (some ⟨xb,0,none⟩),.string t,.string want] w fun e w'=>e=.returned (.bool true)/\WFs s1/\∃ V',PS w' xb V' s1/\To (fun _=>False) w w' V V':=by
 obtain⟨left,hrun⟩:=after_run ha;have hwf:=run_wf hw hv hrun;have hend:endL s1=s1:=if_pos he;rw[hend] at hwf;have hl:=P.line w xb V s s1 left g t hx hw hw.g hv hrun;rw[hend] at hl;have HL:=hide hl;have HWF:=hide hwf;have hoo:s1.out=want:=ByteArray.ext (Array.ext' ho);rw[he,hoo] at HL;clear hl hwf hend hrun ha ho hx hw hv;go_enter Tryz.func28,Tryz.ntmps28
 go_wp2_with fail
 refine HL.out.mono ?_;rintro e w1 ⟨rfl,V',hx1,hto1⟩;have HN:Hid (∃ V',PS w1 xb V' s1/\To (fun _=>False) w w1 V V'):=⟨V',hx1,hto1⟩;clear hx1 hto1;go_wp2;go_ret;exact⟨by simp,HWF.out,HN.out⟩
end
def hl1:ByteArray:=⟨#[49,32,50,32,43,32,46,32,45,55,32,50,32,47,32,46,32,45,55,32,50,32,109,111,100,32,46]⟩
def hw1:ByteArray:=⟨#[51,32,45,52,32,49,32]⟩
def hl2:ByteArray:=⟨#[58,32,102,32,100,117,112,32,50,32,60,32,105,102,32,100,114,111,112,32,49,32,101,108,115,101,32,100,117,112,32,49,32,45,32,114,101,99,117,114,115,101,32,42,32,116,104,101,110,32,59,32,53,32,102,32,46]⟩
def hw2:ByteArray:=⟨#[49,50,48,32]⟩
def hl3:ByteArray:=⟨#[58,32,97,32,49,32,46,32,59,32,58,32,98,32,97,32,123,32,58,32,97,32,50,32,46,32,59,32,125,32,97,32,59,32,98,32,98,32,55]⟩
def hw3:ByteArray:=⟨#[49,32,50,32,50,32,50,32]⟩
def hg:Nat:=150
def hs1:St:=(after hg st0 hl1.data.toList).getD st0
def hs2:St:=(after hg hs1 hl2.data.toList).getD st0
def hs3:St:=(after hg hs2 hl3.data.toList).getD st0
theorem ha1:after hg st0 hl1.data.toList=some hs1:=some_getD (by decide +kernel)
theorem ha2:after hg hs1 hl2.data.toList=some hs2:=some_getD (by decide +kernel)
theorem ha3:after hg hs2 hl3.data.toList=some hs3:=some_getD (by decide +kernel)
theorem ho1:hs1.out.data.toList=hw1.data.toList/\hs1.e=0:=by decide +kernel
theorem ho2:hs2.out.data.toList=hw2.data.toList/\hs2.e=0:=by decide +kernel
theorem ho3:hs3.out.data.toList=hw3.data.toList/\hs3.e=0/\hs3.rs=[7]:=by decide +kernel
theorem hv1:validB hl1.data.toList=true:=by decide +kernel
theorem hv2:validB hl2.data.toList=true:=by decide +kernel
theorem hv3:validB hl3.data.toList=true:=by decide +kernel
section
variable {PS:World->Nat->(Nat->Prop)->St->Prop} {B:Nat} {W0:World} (P:PCon B W0 PS)
include P
theorem headsL (w:World) (hb:Below B W0 w) (hB:B<=w.heap.size):Calls Tryz.prog 13 #[.int .i64 5] w fun e w'=>e=.returned (.bool true)/\Kp w w' (fun _=>False):=by
 go_enter Tryz.func13,Tryz.ntmps13
 go_wp2_with fail
 refine (P.new w hb hB).mono ?_;rintro e w1 ⟨xb,V,rfl,hx,hk1,hV⟩;have H1:=hide (saysL P w1 xb hg V st0 hs1 hl1 hw1 hx WFs.first hv1 ha1 ho1.1 ho1.2)
 have HK1:=hide hk1;have HV:=hide hV;clear hx hk1 hV
 go_wp2_with fail
 refine H1.out.mono ?_;rintro e w2 ⟨rfl,wf1,V1,hx1,hto1⟩;have H2:=hide (saysL P w2 xb hg V1 hs1 hs2 hl2 hw2 hx1 wf1 hv2 ha2 ho2.1 ho2.2);have HT1:=hide hto1;clear hx1 hto1 wf1 H1
 go_wp2_with fail
 refine H2.out.mono ?_;rintro e w3 ⟨rfl,wf2,V2,hx2,hto2⟩;have H3:=hide (saysL P w3 xb hg V2 hs2 hs3 hl3 hw3 hx2 wf2 hv3 ha3 ho3.1 ho3.2.1);have HT2:=hide hto2;clear hx2 hto2 wf2 H2
 go_wp2_with fail
 refine H3.out.mono ?_;rintro e w4 ⟨rfl,wf3,V3,hx3,hto3⟩;have H4:=hide (P.stack w4 xb V3 hs3 hx3 wf3.g);have HT3:=hide hto3;clear hx3 hto3 wf3 H3
 go_wp2_with fail
 refine H4.out.mono ?_;rintro e w5 ⟨v,rfl,hrow,V4,hx4,hto4,hn4⟩;have hrs:hs3.rs=[7]:=ho3.2.2;rw[hrs] at hrow;have HK:Hid (Kp w w5 (fun _=>False)):=by
  have t1:=HT1.out.trans (HT2.out.trans (HT3.out.trans hto4));exact⟨t1.kp.os.trans HK1.out.os,t1.kp.tape.trans HK1.out.tape,t1.kp.output.trans HK1.out.output,Nat.le_trans HK1.out.size t1.kp.size,fun k hk _=>(t1.kp.block k (Nat.lt_of_lt_of_le hk HK1.out.size) (fun h=>by
   rcases h with h|h
   ·exact h
   ·have:=HV.out k h;omega)).trans (HK1.out.block k hk (fun h=>h))⟩
 have hrow':=Joins.ownsRow_le hrow (Nat.zero_le _);obtain⟨gv,capv,e1,hc⟩:=row_cell hrow' (by simp);have c7:=hc 0 (.int .i64 7) (by simp[ints]);subst e1;clear hrow hrow' hc hx4 hto4 hn4 H4 HT1 HT2 HT3 HV HK1 hrs;simp only[List.length_cons,List.length_nil] at *;go_wp2;go_ret;exact⟨rfl,HK.out⟩
end
section
variable {PS:World->Nat->(Nat->Prop)->St->Prop}
theorem runsL (W:World) (P:PCon W.heap.size W PS) (b off len cap:Nat) (hb:b < W.heap.size) (hlen:len<=2000000) (hS:∀ i,i < len->∃ K A N M S,Scr W b off i K A N M S):
  Calls Tryz.prog 4 #[.slice (some ⟨b,off,none⟩) len cap] W fun e w'=>e=.returned (.bool true)/\Below W.heap.size W w':=by
 have HU:=hide (upToL W P b off len cap hb hlen hS ((headsL P W (Below.refl _ _) (Nat.le_refl _)).mono (by rintro e w' ⟨rfl,hk⟩;exact⟨rfl,hk.below (Nat.le_refl _) (fun _ _ h=>h)⟩)));clear hS;go_enter Tryz.func4,Tryz.ntmps4
 go_wp2_with fail
 refine HU.out.mono ?_;rintro e w' ⟨rfl,hbel⟩;go_wp2;go_ret;exact⟨rfl,hbel⟩
end
end
section
open Go.ChangeShapes Go.WideShapes Go.ChangeAt Go.RowKit
theorem Tryz.cellsStep:Tryz.prog.cellsOf 30=5:=by kernel_rfl
theorem scr_of {H:Type} {enc:TypeId × Value->H} {W:World} {base:Nat} {sp:Nat->Bool} {held:Bool} {n b off i:Nat} {cs:List Value} {x:DataW H × List MemPlace}
  (h1:W.cells? base ((⟨b,off,none⟩:Addr).add (i * 5)) 5=some cs) (h2:DataW.trod enc Tryz.prog W base sp held n 30 cs=some x):∃ K A N M S,Scr W b off i K A N M S/\S.size<=9223372036854775807:=by
 obtain⟨_,hlen,hc⟩:=World.cells?_some h1;obtain⟨xs,m,_,_,_,hxl,hf⟩:=DataW.trod_struct Tryz.underlying30 h2;have hxl':xs.length=5:=hxl
 match cs,hlen with
 | [c0,c1,c2,c3,c4],_=>
  have f0 : DataW.trod enc Tryz.prog W base sp held m 3 (([c0, c1, c2, c3, c4].drop 0).take (Tryz.prog.cellsOf 3)) = xs[0]? := hf 0 { name := "Kind", type := 3, offset := 0, embedded := false, tag := "", pkgPath := "", byteOffset := 0 } rfl
  have f1 : DataW.trod enc Tryz.prog W base sp held m 3 (([c0, c1, c2, c3, c4].drop 1).take (Tryz.prog.cellsOf 3)) = xs[1]? := hf 1 { name := "A", type := 3, offset := 1, embedded := false, tag := "", pkgPath := "", byteOffset := 8 } rfl
  have f2 : DataW.trod enc Tryz.prog W base sp held m 3 (([c0, c1, c2, c3, c4].drop 2).take (Tryz.prog.cellsOf 3)) = xs[2]? := hf 2 { name := "N", type := 3, offset := 2, embedded := false, tag := "", pkgPath := "", byteOffset := 16 } rfl
  have f3 : DataW.trod enc Tryz.prog W base sp held m 3 (([c0, c1, c2, c3, c4].drop 3).take (Tryz.prog.cellsOf 3)) = xs[3]? := hf 3 { name := "M", type := 3, offset := 3, embedded := false, tag := "", pkgPath := "", byteOffset := 24 } rfl
  have f4 : DataW.trod enc Tryz.prog W base sp held m 9 (([c0, c1, c2, c3, c4].drop 4).take (Tryz.prog.cellsOf 9)) = xs[4]? := hf 4 { name := "S", type := 9, offset := 4, embedded := false, tag := "", pkgPath := "", byteOffset := 32 } rfl
  rw[Tryz.cells3] at f0 f1 f2 f3;rw[Tryz.cells9] at f4;rw[List.getElem?_eq_getElem (by omega)] at f0 f1 f2 f3 f4;simp only[List.drop_zero,List.drop_succ_cons,List.take_succ_cons,List.take_zero] at f0 f1 f2 f3 f4;obtain⟨K,e0,_,w0⟩:=DataW.trod_int Tryz.underlying3 f0;obtain⟨A,e1,_,w1⟩:=DataW.trod_int Tryz.underlying3 f1;obtain⟨N,e2,_,w2⟩:=DataW.trod_int Tryz.underlying3 f2;obtain⟨M,e3,_,w3⟩:=DataW.trod_int Tryz.underlying3 f3;obtain⟨S,e4,_,w4⟩:=DataW.trod_string Tryz.underlying9 f4;simp only[List.cons.injEq,and_true] at e0 e1 e2 e3 e4;subst e0 e1 e2 e3 e4;have hadd:∀ j,((⟨b,off,none⟩:Addr).add (i * 5)).add j=⟨b,off+i * 5+j,none⟩:=by
   intro j;have h1:(⟨b,off,none⟩:Addr).add (i * 5)=⟨b,off+i * 5,none⟩:=by unfold Addr.add;split <;> simp_all
   have h2:(⟨b,off+i * 5,none⟩:Addr).add j=⟨b,off+i * 5+j,none⟩:=by unfold Addr.add;split <;> simp_all
   rw[h1,h2]
  have g0:=hc 0 (by omega);have g1:=hc 1 (by omega);have g2:=hc 2 (by omega);have g3:=hc 3 (by omega);have g4:=hc 4 (by omega);rw[hadd] at g0 g1 g2 g3 g4;exact⟨K,A,N,M,S,⟨g0,g1,g2,g3,g4,bounds_i64 w1,bounds_i64 w2⟩,by unfold maxLen at w4;exact w4⟩
theorem runsL_empty (W:World) (hE:Env W.heap.size W) (ao:Option Addr) (cap:Nat):
  Calls Tryz.prog 4 #[.slice ao 0 cap] W fun e w'=>e=.returned (.bool true)/\Below W.heap.size W w':=by
 have HH:=hide (headsL (conP hE) W (Below.refl _ _) (Nat.le_refl _));clear hE;go_enter Tryz.func4,Tryz.ntmps4
 go_wp2_with (go_at_call 15;go_in)
 refine HH.out.mono ?_;rintro e w1 ⟨rfl,hk1⟩;have hsz1:=hk1.size;have HB:=hide ((hk1.below (Nat.le_refl _) (by simp)).alloc hsz1 (.cells #[.slice none 0 0,.int .i64 0,.slice none 0 0] 28));clear hk1;go_wp2;refine wp_loop_rounds 1 ?_;rw[rounds_succ];go_wp2;go_ret;exact⟨rfl,HB.out⟩
theorem bulk_pos {H:Type} (d:DataW H):1<=Rows.uptoBulk d:=by
 cases d with
 | lit l=>cases l <;> simp[Rows.uptoBulk]
 | nil=>simp[Rows.uptoBulk]
 | ptr d=>simp[Rows.uptoBulk]
 | slice elems spare=>simp[Rows.uptoBulk]
 | agg parts=>simp[Rows.uptoBulk]
 | iface t d=>simp[Rows.uptoBulk]
 | map entries=>simp[Rows.uptoBulk]
 | held h=>simp[Rows.uptoBulk]
theorem bulk_len {H:Type}:∀ (l:List (DataW H)),l.length<=Rows.uptoBulkAll l
 | []=>by simp[Rows.uptoBulkAll]
 | x :: r=>by have:=bulk_len r;have:=bulk_pos x;simp only[Rows.uptoBulkAll,List.length_cons];omega
theorem bulk_slice {H:Type} {elems spare:List (DataW H)} (h:Rows.uptoSmall H [.slice elems spare]=true):elems.length<=1048576:=by
 have h:=of_decide_eq_true h;have:=bulk_len elems;simp only[Rows.uptoBulkAll,Rows.uptoBulk] at h;omega
theorem runs_walk {H:Type} {enc:TypeId × Value->H} {W:World} {base:Nat} {v0:Value} {d0:DataW H} {p:List MemPlace} (hv:Value.okWide Tryz.prog W .any base 22 v0) (h0:DataW.Trod enc Tryz.prog W 0 (fun _=>true) true 22 v0 d0 p)
  (hsm:Rows.uptoSmall H [d0]=true) (hE:Env W.heap.size W):
  Calls Tryz.prog 4 #[v0] W fun e w'=>e=.returned (.bool true)/\Below W.heap.size W w':=by
 obtain⟨a0,len,cap,rfl⟩:=okWide_slice Tryz.underlying22 hv;obtain⟨fuel,hf⟩:=h0;rcases Go.Deep.open_slice Tryz.underlying22 hf with⟨hcs,_⟩|⟨a,len',cap',m,n,D,Pl,hcs,_,hl,hm,hmm,hx,hel⟩
 ·simp[Value.cells] at hcs;obtain⟨rfl,rfl,rfl⟩:=hcs;exact runsL_empty W hE _ _
 ·simp[Value.cells] at hcs;obtain⟨rfl,rfl,rfl⟩:=hcs;rw[Tryz.cellsStep] at hel;simp only[if_true] at hmm;subst hmm;by_cases hz:len=0
  ·subst hz;exact runsL_empty W hE _ _
  ·obtain⟨cs0,hc0,_⟩:=hel 0 (by omega);have hfirst:=(World.cells?_some hc0).2.2 0 (by omega);have hl0:=(World.cells?_some hc0).2.1;rw[List.getElem?_eq_getElem (by omega)] at hfirst;obtain⟨b,off,spot⟩:=a
   cases spot with
   | some sp=>
    exfalso
    unfold World.cell? at hfirst
    split at hfirst
    ·simp[Addr.add] at hfirst
    ·cases hfirst
   | none=>
    have hb:b < W.heap.size:=by
     have:=World.block_lt_of_cell? W _ hfirst
     simpa [Addr.add] using this
    simp only[Prod.mk.injEq] at hx;have hs:len<=1048576:=by
     rw[hx.1] at hsm;have:=bulk_slice hsm
     simpa using this
    refine runsL W (conP hE) b off _ _ hb (by omega) (fun i hi=>?_);obtain⟨cs,h1,h2⟩:=hel i (by omega);obtain⟨K,A,N,M,S,h,_⟩:=scr_of h1 h2;exact⟨K,A,N,M,S,h⟩
end
end Go.Proofs.YteainaiebcphlaaGreatDoor
