import Derived.Test.YteainaiebcphlaaGreatDoorX27
import Derived.Test.YteainaiebcphlaaGreatDoorX25
import Derived.Test.YteainaiebcphlaaGreatDoorX14
import Derived.Test.YteainaiebcphlaaGreatDoorX26
import Derived.Deep.DeepWitnessRowRef
import Derived.SizedLaws
import Derived.Deep.Slices
import Derived.Test.YteainaiebcphlaaGreatDoorCards
import Derived.Test.YteainaiebcphlaaGreatDoorTie
import Derived.SevenTiedAt
import Derived.Handy
namespace Go.Proofs.YteainaiebcphlaaGreatDoor
set_option maxRecDepth 1000000
set_option maxHeartbeats 4000000
set_option linter.all false
section
open Go.RowKit
theorem isLine {s0 s1:St} {t:ByteArray} {ts:List Tok} (hv:validB t.data.toList=true) (hf:Lib.fields t.data.toList=ts) (hr:XR (jToks ts) (freshL s0) s1) (he:s1.e=0):LineIs s0 t s1.out 0 s1:=by
 obtain⟨g,hr⟩:=hr;rw[<-hf] at hr;exact .inl ⟨hv,g,s1,false,hr,rfl,he.symm,(if_pos he).symm⟩
def tB0:ByteArray:=⟨#[58,32,97,32,48,32,59,32,58,32,98,32,97,32,59,32,58,32,99,32,98,32,98,32,43,32,59]⟩
def tBs:ByteArray:=⟨#[98,32,100,117,112,32,43,32,99,32,61,32,46]⟩
def tBt:ByteArray:=⟨#[99,32,99,32,99,32,97,32,46]⟩
def tBu:ByteArray:=⟨#[100,114,111,112,32,100,114,111,112,32,100,114,111,112]⟩
theorem is0:LineIs fsC tB0 ⟨#[]⟩ 0 (sL fsC.mem fsC.built):=isLine (by decide +kernel) (by decide +kernel) (line_0 fsC fsC_ok) rfl
def aB (v:Nat):ByteArray:=⟨#[58,32,97,32]⟩ ++ numB v ++ ⟨#[32,59]⟩
def bB (v:Nat):ByteArray:=⟨#[58,32,98,32,97,32]⟩ ++ numB v ++ ⟨#[32,43,32,59,32,58,32,97,32,49,32,59]⟩
theorem aB_list (v:Nat):(aB v).data.toList=textOf [kColon,kA,Lib.itoa v] ++ kSemi:=by
 unfold aB numB;rw[ba_app,ba_app];simp[textOf,kColon,kA,kSemi]
theorem bB_list (v:Nat):(bB v).data.toList=textOf [kColon,kB,kA,Lib.itoa v,kPlus,kSemi,kColon,kA,k1] ++ kSemi:=by
 unfold bB numB;rw[ba_app,ba_app];simp[textOf,kColon,kA,kB,kPlus,k1,kSemi]
theorem aB_toks (v:Nat) (hv:v < 1000):∀ t∈[kColon,kA,Lib.itoa v],t.all tokB=true/\t ≠ []:=by
 intro t ht;simp only[List.mem_cons,List.not_mem_nil,or_false] at ht;rcases ht with rfl|rfl|rfl
 ·exact⟨by decide,by decide⟩
 ·exact⟨by decide,by decide⟩
 ·exact⟨itoa_tok _,itoa_ne _ (by omega) (by omega)⟩
theorem bB_toks (v:Nat) (hv:v < 1000):∀ t∈[kColon,kB,kA,Lib.itoa v,kPlus,kSemi,kColon,kA,k1],t.all tokB=true/\t ≠ []:=by
 intro t ht;simp only[List.mem_cons,List.not_mem_nil,or_false] at ht;rcases ht with rfl|rfl|rfl|rfl|rfl|rfl|rfl|rfl|rfl
 ·exact⟨by decide,by decide⟩
 ·exact⟨by decide,by decide⟩
 ·exact⟨by decide,by decide⟩
 ·exact⟨itoa_tok _,itoa_ne _ (by omega) (by omega)⟩
 ·exact⟨by decide,by decide⟩
 ·exact⟨by decide,by decide⟩
 ·exact⟨by decide,by decide⟩
 ·exact⟨by decide,by decide⟩
 ·exact⟨by decide,by decide⟩
theorem aB_fields (v:Nat) (hv:v < 1000):Lib.fields (aB v).data.toList=[kColon,kA,Lib.itoa v,kSemi]:=by
 rw[aB_list,fields_texts _ _ (aB_toks v hv),fields_end kSemi (by decide) (by decide)];rfl
theorem bB_fields (v:Nat) (hv:v < 1000):Lib.fields (bB v).data.toList=[kColon,kB,kA,Lib.itoa v,kPlus,kSemi,kColon,kA,k1,kSemi]:=by
 rw[bB_list,fields_texts _ _ (bB_toks v hv),fields_end kSemi (by decide) (by decide)];rfl
theorem aB_valid (v:Nat) (hv:v < 1000):validB (aB v).data.toList=true:=by
 have h2:=(numLen v (by omega) (by omega)).2;have hl:(aB v).data.toList.length<=400:=by
  rw[aB_list];simp[textOf,kColon,kA,kSemi];omega
 unfold validB;rw[decide_eq_true hl,aB_list,List.all_append,texts_okB _ (aB_toks v hv)]
 decide
theorem bB_valid (v:Nat) (hv:v < 1000):validB (bB v).data.toList=true:=by
 have h2:=(numLen v (by omega) (by omega)).2;have hl:(bB v).data.toList.length<=400:=by
  rw[bB_list];simp[textOf,kColon,kA,kB,kPlus,k1,kSemi];omega
 unfold validB;rw[decide_eq_true hl,bB_list,List.all_append,texts_okB _ (bB_toks v hv)]
 decide
section
variable {mem:Nat->Int} {N ia ib ic va x sb st:Int} {Bb:List It} {out:ByteArray}
theorem isA (v:Nat) (hv:v < 1000):LineIs (LS mem N ia ib ic va Bb 0 0 0 [] st 0 out) (aB v) ⟨#[]⟩ 0 (LS mem (wrap64 (N+1)) (wrap64 (N+1)) ib ic v Bb 0 0 0 [] 1 0 ⟨#[]⟩):=
 isLine (s0:=LS mem N ia ib ic va Bb 0 0 0 [] st 0 out) (aB_valid v hv) (aB_fields v hv) (line_a (Lib.itoa v) v (good_num v (by omega) (by omega)) (numP_itoa v (by omega) (by omega))) rfl
theorem isB (v:Nat) (hv:v < 1000):LineIs (LS mem N ia ib ic va Bb 0 0 0 [] st 0 out) (bB v) ⟨#[]⟩ 0 (LS mem (wrap64 (wrap64 (N+1)+1)) (wrap64 (wrap64 (N+1)+1)) (wrap64 (N+1)) ic 1 [cIt kA,nIt v,wIt kPlus] 0 0 0 [] (1+1) 0 ⟨#[]⟩):=
 isLine (s0:=LS mem N ia ib ic va Bb 0 0 0 [] st 0 out) (bB_valid v hv) (bB_fields v hv) (line_b (Lib.itoa v) v (good_num v (by omega) (by omega)) (numP_itoa v (by omega) (by omega))) rfl
theorem isS (hB:BOk va Bb x sb):∃ ca cb cc st2,LineIs (LS mem N ia ib ic va Bb 0 0 0 [] st 0 out) tBs ⟨#[45,49,32]⟩ 0 (LS mem N ia ib ic va Bb ca cb cc [] st2 0 ⟨#[45,49,32]⟩):=by
 obtain⟨ca,cb,cc,s2,h⟩:=line_s (mem:=mem) (N:=N) (ia:=ia) (ib:=ib) (ic:=ic) hB;exact⟨ca,cb,cc,s2,isLine (s0:=LS mem N ia ib ic va Bb 0 0 0 [] st 0 out) (by decide +kernel) (by decide +kernel) h rfl⟩
theorem isT (hB:BOk va Bb x sb) (hv0:-10000000 < va) (hv1:va < 10000000):∃ ca cb cc st2,LineIs (LS mem N ia ib ic va Bb 0 0 0 [] st 0 out) tBt (dot va) 0 (LS mem N ia ib ic va Bb ca cb cc [wrap64 (x+x),wrap64 (x+x),wrap64 (x+x)] st2 0 (dot va)):=by
 obtain⟨ca,cb,cc,s2,h⟩:=line_t (mem:=mem) (N:=N) (ia:=ia) (ib:=ib) (ic:=ic) hB hv0 hv1;exact⟨ca,cb,cc,s2,isLine (s0:=LS mem N ia ib ic va Bb 0 0 0 [] st 0 out) (by decide +kernel) (by decide +kernel) h rfl⟩
theorem isU (y:Int):LineIs (LS mem N ia ib ic va Bb 0 0 0 [y,y,y] st 0 out) tBu ⟨#[]⟩ 0 (LS mem N ia ib ic va Bb 0 0 0 [] (0+1+1+1) 0 ⟨#[]⟩):=
 isLine (s0:=LS mem N ia ib ic va Bb 0 0 0 [y,y,y] st 0 out) (by decide +kernel) (by decide +kernel) (line_u y) rfl
end
def LP (PS:World->Nat->(Nat->Prop)->St->Prop) (W w:World) (xb:Nat) (s0:St):Prop:=∃ V s,PS w xb V s/\WFs s/\Sim s s0/\Kp W w (fun _=>False)/\∀ k,V k->W.heap.size<=k
theorem LP.canon {PS:World->Nat->(Nat->Prop)->St->Prop} {W w:World} {xb:Nat} {mem:Nat->Int} {N ia ib ic va ca cb cc st:Int} {Bb:List It} {rs:List Int} {out:ByteArray} (h:LP PS W w xb (LS mem N ia ib ic va Bb ca cb cc rs st 0 out)):LP PS W w xb (LS mem N ia ib ic va Bb 0 0 0 rs st 0 out):=by
 obtain⟨V,s,h1,h2,h3,h4⟩:=h;exact⟨V,s,h1,h2,h3.trans ⟨rfl,rfl,rfl,rfl,rfl,rfl,rfl,rfl⟩,h4⟩
def BForm (Bb:List It):Prop:=Bb=[cIt kA]\/∃ vb,Bb=[cIt kA,nIt vb,wIt kPlus]
theorem bform_ok {Bb:List It} (h:BForm Bb) (va:Int):∃ x sb,BOk va Bb x sb:=by
 rcases h with rfl|⟨vb,rfl⟩
 ·exact⟨_,_,bok1 va⟩
 ·exact⟨_,_,bok2 va vb⟩
def LLoop (PS:World->Nat->(Nat->Prop)->St->Prop) (W w:World) (xb:Nat):Prop:=∃ N ia ib ic va Bb st out,BForm Bb/\-10000000 < va/\va < 10000000/\LP PS W w xb (LS fsC.mem N ia ib ic va Bb 0 0 0 [] st 0 out)
section
variable {PS:World->Nat->(Nat->Prop)->St->Prop} {W:World} (P:PCon W.heap.size W PS)
include P
theorem LP.idle {w w':World} {xb:Nat} {s0:St} (h:LP PS W w xb s0) (hk:Kp w w' (fun _=>False)):LP PS W w' xb s0:=by
 obtain⟨V,s,h1,h2,h3,h4,h5⟩:=h;exact⟨V,s,P.frame _ _ _ _ _ _ h1 hk (fun _ _ e=>e) (fun _ _ e=>e) h4.size,h2,h3,h4.trans hk,h5⟩
theorem lineLP {w:World} {xb:Nat} {s0 s2:St} {t out:ByteArray} {er:Int} (h:LP PS W w xb s0) (hl:LineIs s0 t out er s2):
  Calls Tryz.prog 18 #[.pointer (some ⟨xb,0,none⟩),.string t] w fun e w'=>e=.returned (.tuple #[.string out,.int .i64 er])/\LP PS W w' xb s2:=by
 obtain⟨V,s,h1,h2,h3,h4,h5⟩:=h;refine (line_as P w xb V s s0 s2 t out er h1 h2 h3 hl).mono ?_;rintro e w' ⟨rfl,V',s',hx,hw,hs,hto⟩;have k:=Kp.two h4 h5 hto;exact⟨rfl,V',s',hx,hw,hs,k.1,k.2⟩
theorem lineWs {w:World} {xb:Nat} {mem:Nat->Int} {N ia ib ic va x sb st:Int} {Bb:List It} {out:ByteArray} (h:LP PS W w xb (LS mem N ia ib ic va Bb 0 0 0 [] st 0 out)) (hB:BOk va Bb x sb):
  Calls Tryz.prog 18 #[.pointer (some ⟨xb,0,none⟩),.string tBs] w fun e w'=>e=.returned (.tuple #[.string ⟨#[45,49,32]⟩,.int .i64 0])/\∃ st2,LP PS W w' xb (LS mem N ia ib ic va Bb 0 0 0 [] st2 0 ⟨#[45,49,32]⟩):=by
 obtain⟨ca,cb,cc,st2,hl⟩:=isS (mem:=mem) (N:=N) (ia:=ia) (ib:=ib) (ic:=ic) (st:=st) (out:=out) hB;refine (lineLP P h hl).mono ?_;rintro e w' ⟨rfl,hp⟩;exact⟨rfl,st2,hp.canon⟩
theorem lineTt {w:World} {xb:Nat} {mem:Nat->Int} {N ia ib ic va x sb st:Int} {Bb:List It} {out:ByteArray} (h:LP PS W w xb (LS mem N ia ib ic va Bb 0 0 0 [] st 0 out)) (hB:BOk va Bb x sb) (hv0:-10000000 < va) (hv1:va < 10000000):
  Calls Tryz.prog 18 #[.pointer (some ⟨xb,0,none⟩),.string tBt] w fun e w'=>e=.returned (.tuple #[.string (dot va),.int .i64 0])/\∃ st2,LP PS W w' xb (LS mem N ia ib ic va Bb 0 0 0 [wrap64 (x+x),wrap64 (x+x),wrap64 (x+x)] st2 0 (dot va)):=by
 obtain⟨ca,cb,cc,st2,hl⟩:=isT (mem:=mem) (N:=N) (ia:=ia) (ib:=ib) (ic:=ic) (st:=st) (out:=out) hB hv0 hv1;refine (lineLP P h hl).mono ?_;rintro e w' ⟨rfl,hp⟩;exact⟨rfl,st2,hp.canon⟩
theorem stackLP {w:World} {xb:Nat} {s0:St} (h:LP PS W w xb s0) (y:Int) (hr:s0.rs=[y,y,y]):
  Calls Tryz.prog 19 #[.pointer (some ⟨xb,0,none⟩)] w fun e w'=>∃ g cap,e=.returned (.slice (some ⟨g,0,none⟩) 3 cap)/\g < w'.heap.size/\w'.cell? ⟨g,0,none⟩=some (.int .i64 y)/\w'.cell? ⟨g,1,none⟩=some (.int .i64 y)/\w'.cell? ⟨g,2,none⟩=some (.int .i64 y)/\LP PS W w' xb s0:=by
 obtain⟨V,s,h1,h2,h3,h4,h5⟩:=h;refine (P.stack w xb V s h1 h2.g).mono ?_;rintro e w' ⟨v,rfl,hrow,V',hx',hto,_⟩;have k:=Kp.two h4 h5 hto;have hrs:s.rs=[y,y,y]:=h3.rs.trans hr;rw[hrs] at hrow;have hrow':w'.ownsRow w.heap.size 3 1 v [y,y,y].length (ints [y,y,y]):=hrow;obtain⟨ao,cap,rfl,hc⟩:=row_ints hrow';obtain⟨g,rfl,a1,a2⟩:=hc 0 (by simp);obtain⟨g',e',a3,a4⟩:=hc 1 (by simp);injection e' with e';injection e' with e';subst e';obtain⟨g',e',a5,a6⟩:=hc 2 (by simp);injection e' with e';injection e' with e';subst e';exact⟨g,cap,rfl,a1,a2,a4,a6,V',s,hx',h2,h3,k.1,k.2⟩
theorem tuneLP (T:TuneC PS) {w:World} {xb:Nat} {s0:St} (h:LP PS W w xb s0) (hot built:Int) (h0:1<=hot) (h1:hot<=1000) (h2:0<=built) (h3:built<=3):
  Calls Tryz.prog 22 #[.pointer (some ⟨xb,0,none⟩),.int .i64 hot,.int .i64 built] w fun e w'=>e=.returned (.int .i64 0)/\LP PS W w' xb s0:=by
 obtain⟨V,s,a1,a2,a3,a4,a5⟩:=h;refine (T w xb V s hot built a1 ⟨by omega,by omega⟩ ⟨by omega,by omega⟩).mono ?_;rintro e w' ⟨r,rfl,hr,V',s',hx,hw,hs,hto⟩;obtain rfl:r=0:=hr (by unfold badU;omega);have k:=Kp.two a4 a5 hto;exact⟨rfl,V',s',hx,hw a2,hs.trans a3,k.1,k.2⟩
end
theorem dot_ne (a:Int):((dot a).toList == ([]:List UInt8))=false:=by
 have e:(dot a).toList=Lib.itoa a ++ [32]:=by rw[ByteArray.toList_eq];unfold dot;simp
 rw[e];cases Lib.itoa a <;> rfl
section
variable {PS:World->Nat->(Nat->Prop)->St->Prop}
theorem lateL (W:World) (P:PCon W.heap.size W PS) (T:TuneC PS) (ra:Option Addr) (len cap:Nat) (ht bl:Int) (h1:In ht) (h2:In bl) (hraw:∀ i,i < len->∃ rb off c,ra=some ⟨rb,off,none⟩/\W.cell? ⟨rb,off+i,none⟩=some (.int .i64 c)/\In c):
  Calls Tryz.prog 9 #[.slice ra len cap,.int .i64 ht,.int .i64 bl] W fun e w'=>e=.returned (.bool true)/\Below W.heap.size W w':=by
 obtain⟨a,ha,hal⟩:=pick_natS ht 6 (by decide);obtain⟨b,hb,hbl⟩:=pick_natS bl 4 (by decide);have HA:=hide (fun w=>pickK ht 6 w h1.1 h1.2 (by decide) (by decide));have HB:=hide (fun w=>pickK bl 4 w h2.1 h2.2 (by decide) (by decide));simp only[show ((6:Nat):Int)=6 from rfl,show ((4:Nat):Int)=4 from rfl] at ha hb;simp only[ha] at HA;simp only[hb] at HB;clear ha hb h1 h2;have HT:=hide T;have HR:=hide hraw;have HF1:=hide (freshK P W (Below.refl _ _) (Nat.le_refl _));clear T hraw;go_enter Tryz.func9,Tryz.ntmps9
 go_wp2_with fail
 refine HF1.out.mono ?_;rintro e w1 ⟨xb,rfl,V,hx,hw,hk,hV⟩;have HP0:Hid (LP PS W w1 xb fsC):=⟨V,fsC,hx,hw,Sim.refl _,hk,hV⟩;clear hx hw hk hV HF1
 go_wp2_with fail
 refine (HA.out _).mono ?_;rintro e w' ⟨rfl,hw'⟩;subst hw'
 go_wp2_with fail
 refine (HB.out _).mono ?_;rintro e w'' ⟨rfl,hw'⟩;subst hw';clear HA HB
 go_wp2_with fail
 refine (tuneLP P HT.out HP0.out _ _ (by omega) (by omega) (by omega) (by omega)).mono ?_;rintro e w2 ⟨rfl,hp⟩;have HP2:=hide hp;clear hp HP0 HT;have HL0:=hide (lineLP P HP2.out is0);simp only[tB0] at HL0
 go_wp2_with fail
 refine HL0.out.mono ?_;rintro e w3 ⟨rfl,hp⟩;have HP3:Hid (LLoop PS W w3 xb):=by
  obtain⟨V,s,a1,a2,a3,a4⟩:=hp;exact⟨_,_,_,_,_,_,_,_,.inl rfl,by decide,by decide,V,s,a1,a2,a3.trans (sim_L _ _),a4⟩
 clear hp HP2 HL0;go_wp2
 go_loopw [11] (fun i wr=>∃ k:Nat,k<=len/\k<=20/\i=.int .i64 k/\LLoop PS W wr xb) (fun i _=>20 - (intOf i).toNat)
 case atStart=>exact⟨0,Nat.zero_le _,by omega,rfl,HP3.out⟩
 case round=>
  clear HP3;obtain⟨k,hk,hk20,rfl,N,ia,ib,ic,va,Bb,st,out,hF,hv0,hv1,hp⟩:=hrel;have hbel:Below W.heap.size W wr:=by obtain⟨V,s,a1,a2,a3,a4,a5⟩:=hp;exact a4.below (Nat.le_refl _) (fun _ _ h=>h)
  by_cases hlt1:k < len
  ·by_cases hlt2:k < 20
   case neg=>
    have HBE:=hide hbel;clear hp hF hbel hv0 hv1;go_wp2;go_ret;exact⟨rfl,HBE.out⟩
   obtain⟨rb,off,c,rfl,hc,hin⟩:=HR.out k hlt1;have hrb:=lt_of_cell hc;have d:wr.cell? ⟨rb,off+k,none⟩=some (.int .i64 c):=(hbel.cell (p:=⟨rb,off+k,none⟩) hrb).trans hc;obtain⟨v,hv,hvl⟩:=pick_natS c 1000 (by decide);have HPK:=hide (fun w=>pickK c 1000 w hin.1 hin.2 (by decide) (by decide));simp only[show ((1000:Nat):Int)=1000 from rfl] at hv;simp only[hv] at HPK;clear hc hv hin hbel;have HP:=hide hp;have HFF:=hide hF;clear hp hF hv0 hv1;have hns:=numB_size (v:Int) (by omega) (by omega)
   go_wp2_with fail
   refine (HPK.out _).mono ?_;rintro e w'' ⟨rfl,hw'⟩;subst hw';clear HPK;by_cases hm:c.tmod 3=0
   ·go_wp2_with fail
    refine (digitsK _ _ (by omega) (by omega)).mono ?_;rintro e w2' ⟨rfl,hk2⟩;have HLA:=hide (lineLP P (HP.out.idle P hk2) (isA v hvl));simp only[aB] at HLA;have HFG:=hide HFF.out;clear hk2 HP d
    go_wp2_with fail
    refine HLA.out.mono ?_;rintro e w3' ⟨rfl,hp3⟩;have HLL:Hid (LLoop PS W w3' xb):=⟨_,_,_,_,_,_,_,_,HFF.out,by omega,by omega,hp3⟩;clear hp3 HLA HFF HFG hns;obtain⟨N,ia,ib,ic,va,Bb,st,out,hF,hv0,hv1,hp⟩:=HLL.out;obtain⟨x,sb,hB⟩:=bform_ok hF va;have HFF:=hide hF;have HSS:=hide (lineWs P hp hB);simp only[tBs] at HSS;have HBB:=hide hB;clear hp hF hB HLL
    go_wp2_with fail
    refine HSS.out.mono ?_;rintro e w4 ⟨rfl,st4,hp4⟩;have HTT:=hide (lineTt P hp4 HBB.out hv0 hv1);simp only[tBt] at HTT;clear hp4 HSS HBB
    go_wp2_with fail
    refine HTT.out.mono ?_;rintro e w5 ⟨rfl,st5,hp5⟩;have HS5:=hide (stackLP P hp5 _ rfl);clear hp5 HTT;have hdn:=dot_ne va;have HV0:=hide hv0;have HV1:=hide hv1;clear hv0 hv1
    go_wp2_with fail
    refine HS5.out.mono ?_;rintro e w6 ⟨g,cp,rfl,hg,c0,c1,c2,hp6⟩;have HP6:=hide hp6;clear hp6 HS5;have HUU:=hide (fun w' (hk:Kp w6 w' (fun _=>False))=>lineLP P (HP6.out.idle P hk) (isU _));simp only[tBu] at HUU;clear HP6;go_wp2
    go_quiet (fail)
    go_wp2_with fail
    refine (HUU.out _ ((Kp.refl _ _).drewN _)).mono ?_;rintro e w7 ⟨rfl,hp7⟩;have HP7:Hid (LLoop PS W w7 xb):=⟨_,_,_,_,_,_,_,_,HFF.out,HV0.out,HV1.out,hp7⟩;clear hp7 HUU HFF HV0 HV1 c0 c1 c2;go_wp2
    go_roundw
    case rel=>exact⟨k+1,by omega,by omega,by go_num,HP7.out⟩
    case measure=>simp[intOf];omega
   ·go_wp2_with fail
    refine (digitsK _ _ (by omega) (by omega)).mono ?_;rintro e w2' ⟨rfl,hk2⟩;have HLA:=hide (lineLP P (HP.out.idle P hk2) (isB v hvl));simp only[bB] at HLA;have HFG:=hide HFF.out;clear hk2 HP d
    go_wp2_with fail
    refine HLA.out.mono ?_;rintro e w3' ⟨rfl,hp3⟩;have HLL:Hid (LLoop PS W w3' xb):=⟨_,_,_,_,_,_,_,_,.inr ⟨_,rfl⟩,by decide,by decide,hp3⟩;clear hp3 HLA HFF HFG hns;obtain⟨N,ia,ib,ic,va,Bb,st,out,hF,hv0,hv1,hp⟩:=HLL.out;obtain⟨x,sb,hB⟩:=bform_ok hF va;have HFF:=hide hF;have HSS:=hide (lineWs P hp hB);simp only[tBs] at HSS;have HBB:=hide hB;clear hp hF hB HLL
    go_wp2_with fail
    refine HSS.out.mono ?_;rintro e w4 ⟨rfl,st4,hp4⟩;have HTT:=hide (lineTt P hp4 HBB.out hv0 hv1);simp only[tBt] at HTT;clear hp4 HSS HBB
    go_wp2_with fail
    refine HTT.out.mono ?_;rintro e w5 ⟨rfl,st5,hp5⟩;have HS5:=hide (stackLP P hp5 _ rfl);clear hp5 HTT;have hdn:=dot_ne va;have HV0:=hide hv0;have HV1:=hide hv1;clear hv0 hv1
    go_wp2_with fail
    refine HS5.out.mono ?_;rintro e w6 ⟨g,cp,rfl,hg,c0,c1,c2,hp6⟩;have HP6:=hide hp6;clear hp6 HS5;have HUU:=hide (fun w' (hk:Kp w6 w' (fun _=>False))=>lineLP P (HP6.out.idle P hk) (isU _));simp only[tBu] at HUU;clear HP6;go_wp2
    go_quiet (fail)
    go_wp2_with fail
    refine (HUU.out _ ((Kp.refl _ _).drewN _)).mono ?_;rintro e w7 ⟨rfl,hp7⟩;have HP7:Hid (LLoop PS W w7 xb):=⟨_,_,_,_,_,_,_,_,HFF.out,HV0.out,HV1.out,hp7⟩;clear hp7 HUU HFF HV0 HV1 c0 c1 c2;go_wp2
    go_roundw
    case rel=>exact⟨k+1,by omega,by omega,by go_num,HP7.out⟩
    case measure=>simp[intOf];omega
  ·have HBE:=hide hbel;clear hp hF hbel hv0 hv1;go_wp2;go_ret;exact⟨rfl,HBE.out⟩
end
end
section
open Go.RowKit
theorem keyStr_le {x:ByteArray} {kl:Lit} (h:keyOf Tryz.prog 9 (.string x)=some kl):kl=.string x.data.toList/\x.data.toList.length<=maxLen:=by
 simp[keyOf,Tryz.underlying9,mapKey] at h;exact⟨h.2.symm,h.1⟩
section
variable {D:GD} {w:World} {bk mb:Nat}
structure TnAt (D:GD) (bk mb r n:Nat) (DD:DataW Value) (w wr:World) (left:Lit->Bool) (cnt:Nat):Prop where
 rg:wr.ranges Tryz.prog 9 heldR mb r n DD left cnt
 sub:∀ kl,left kl=true->Maps.has DD kl=true
 kp:Kp w wr (FU D w bk)
 pr:Pres D D w wr bk
theorem tuneBadM (w:World) (bk:Nat) (hot blt:Int) (hb:badT hot blt):Calls Tryz.prog 47 #[pt bk,.int .i64 hot,.int .i64 blt] w fun e w'=>e=.returned (.int .i64 1)/\w'=w:=by
 by_cases h1:hot < 1
 ·clear hb;go_enter Tryz.func47,Tryz.ntmps47;go_wp2;go_ret;exact⟨rfl,rfl⟩
 by_cases h2:1000 < hot
 ·clear hb;go_enter Tryz.func47,Tryz.ntmps47;go_wp2;go_ret;exact⟨rfl,rfl⟩
 by_cases h3:blt < 0
 ·clear hb;go_enter Tryz.func47,Tryz.ntmps47;go_wp2;go_ret;exact⟨rfl,rfl⟩
 have h4:3 < blt:=by unfold badT at hb;omega
 clear hb;go_enter Tryz.func47,Tryz.ntmps47;go_wp2;go_ret;exact⟨rfl,rfl⟩
theorem tuneOkM (hot blt h0 b0:Int) (hg:¬ badT hot blt) {defs:List Def} {obs:List Nat} {DD:DataW Value} (hwr:WR D w bk mb defs obs DD) (hbk:Blk w bk 106 #[.map (some mb),.int .i64 h0,.int .i64 b0]) (hmu:¬ D.u mb) (hbu:¬ D.u bk) (hbd:¬ D.d bk):
  Calls Tryz.prog 47 #[pt bk,.int .i64 hot,.int .i64 blt] w fun e w'=>e=.returned (.int .i64 0)/\Kp w w' (fun k=>FU D w bk k\/k=bk)/\Pres D D w w' bk/\Blk w' bk 106 #[.map (some mb),.int .i64 hot,.int .i64 blt]:=by
 have g1:¬ hot < 1:=by unfold badT at hg;omega
 have g2:¬ 1000 < hot:=by unfold badT at hg;omega
 have g3:¬ blt < 0:=by unfold badT at hg;omega
 have g4:¬ 3 < blt:=by unfold badT at hg;omega
 obtain⟨W1,hW1⟩:∃ W1,W1=(w.setCell ⟨bk,1,none⟩ (.int .i64 hot)).setCell ⟨bk,2,none⟩ (.int .i64 blt):=⟨_,rfl⟩;have hk1:Kp w W1 (fun k=>k=bk):=by rw[hW1];exact ((Kp.refl w (fun k=>k=bk)).set (a:=⟨bk,1,none⟩) (fun _=>rfl) _).set (a:=⟨bk,2,none⟩) (fun _=>rfl) _
 have hs1:W1.heap.size=w.heap.size:=by rw[hW1];simp
 have hbk1:Blk W1 bk 106 #[.map (some mb),.int .i64 hot,.int .i64 blt]:=by rw[hW1];exact (hbk.set 1 _).set 2 _
 have hml:=hwr.mp.lt;have hmb:¬ mb=bk:=map_ne hwr.mp hbk;have hown:W1.ownsMap Tryz.prog 9 heldR mb defs.length DD:=ownsMap_same hwr.mp (hk1.block mb hml hmb);obtain⟨hpr1,hwd1⟩:=hwr.wd.out hk1 (fun k hu e=>hbu ((show k=bk from e) ▸ hu)) (fun k hd e=>hbd ((show k=bk from e) ▸ hd));have hE:∀ t:Tok,t.length<=maxLen->Maps.has DD (.string t)=true->∃ o f,D.r o f/\DD.atKey (.string t) (.held (.pointer none))=.held (pt o):=fun t ht hh=>by
  have h1:=hwr.hs t ht;rw[hh] at h1;obtain⟨k,hk⟩:=Option.isSome_iff_exists.1 h1.symm;obtain⟨hkl,_,_⟩:=List.findIdx?_eq_some_iff_getElem.1 hk;have h2:=hwr.lk t ht;rw[hk] at h2;exact⟨_,_,(hwr.cur k hkl).1,h2⟩
 have c0:w.cell? ⟨bk,0,none⟩=some (.map (some mb)):=hbk.cell rfl;have c1:w.cell? ⟨bk,1,none⟩=some (.int .i64 h0):=hbk.cell rfl;have c2:w.cell? ⟨bk,2,none⟩=some (.int .i64 b0):=hbk.cell rfl;have f1:=hbk.free 1;have f2:=hbk.free 2;have HWd:=hide hwd1;have HPR:=hide hpr1;have HK1:=hide hk1;have HBK:=hide hbk1;have HE:=hide hE;have HW:=hide hwr.wd;have HW1:=hide hW1;clear hwr hbk hk1 hbk1 hpr1 hwd1 hE hg hW1;go_enter Tryz.func47,Tryz.ntmps47
 go_wp2_with (first
  | (at_range;(rw[<-HW1.out]);refine wpList_range_own _ rfl _ 104 rfl 9 107 (Maps.string_keyed Tryz.underlying9) Tryz.underlying104 _ mb defs.length _ rfl hown ?_;intro w0 hrg0 hg0 hs0)
  | go_in)
 rw[hs1] at hrg0 hs0
 go_loopw [8] (fun _ wr=>∃ left cnt,TnAt D bk mb w.heap.size defs.length DD W1 wr left cnt) (fun _ wr=>wr.rangeLeft mb w.heap.size)
 case atStart=>
  have hk0:Kp W1 w0 (fun _=>False):=(Kp.refl W1 _).grown hg0 (fun k _ e=>by cases e);exact⟨_,_,⟨hrg0,fun _ h=>h,hk0.mono (fun _ _ e=>e.elim),(HWd.out.kp hk0).1⟩⟩
 case round=>
  obtain⟨left,cnt,hat0⟩:=hrel;have hWr:=HWd.out.next hat0.kp.size hat0.pr;have hrg:=hat0.rg
  go_wp2_with (first
   | (at_next;refine wpList_next_ranges _ rfl _ rfl 9 (Maps.string_keyed Tryz.underlying9) heldR Value.string (fun v:Value=>v) (fun key kl h=>(keyStr_inv h).imp (fun _ q=>q.1)) (fun v _ _=>⟨v,rfl⟩) mb w.heap.size defs.length _ _ _ rfl hrg ?_ ?_)
   | go_in)
  ·intro hc0 hl0;have HP:Hid (Pres D D w wr bk):=HPR.out.trans (fun _ _ h=>h) hat0.pr;have hnf:¬ FU D W1 bk bk:=fun e=>hbu (e.u HWd.out);have HK:Hid (Kp w wr (fun k=>FU D w bk k\/k=bk)):=(HK1.out.mono (fun _ _ e=>.inr e)).trans (hat0.kp.mono (fun k _ e=>.inl (e.back HW.out HPR.out)));have HB:Hid (Blk wr bk 106 #[.map (some mb),.int .i64 hot,.int .i64 blt]):=hat0.kp.blk HBK.out hnf;clear hat0 hWr hrg hc0 hl0 hg0 hs0 hrg0 hown hnf;go_wp2;go_ret;exact⟨rfl,HK.out,HP.out,HB.out⟩
  ·intro x v kl yd yp w1 cnt1 hkey hlk hv hat hrg1 hlt hg1 hs1' hen;obtain⟨rfl,hxl⟩:=keyStr_le hkey;obtain⟨o2,f2,hr2,hat2⟩:=HE.out _ hxl (hat0.sub _ hlk);have hvv:v=pt o2:=by
    have h1:=hat (.held (.pointer none));rw[hat2] at h1;have h2:some (DataW.held v,[])=some (yd,yp):=hv;have h3:DataW.held v=yd:=congrArg Prod.fst (Option.some.inj h2);have h4:DataW.held (pt o2)=yd:=h1;rw[<-h3] at h4;exact (DataW.held.inj h4).symm
   subst hvv;have hrn:w.heap.size < wr.heap.size:=hrg.lt;have hk1:Kp wr w1 (fun k=>k=w.heap.size):=(Kp.refl wr _).grown hg1 (fun k _ e=>(Option.some.inj e).symm);have hnu:∀ k,D.u k->¬ k=w.heap.size:=fun k hk e=>by have:=HWd.out.lt k hk;omega
   obtain⟨hp1,hWd1⟩:=hWr.out hk1 hnu (fun k hd e=>by have:=HWd.out.dl k hd;omega);have hpa:=hat0.pr.trans (fun _ _ h=>h) hp1;have hka:Kp W1 w1 (FU D W1 bk):=((hat0.kp.mono (T:=fun k=>FU D W1 bk k\/k=w.heap.size) (fun _ _ e=>.inl e)).trans (hk1.mono (fun _ _ e=>.inr e))).mono (fun k hk e=>e.elim id (fun e=>by omega));have HC:=hide (coolM (w:=w1) hWd1 hr2);have HN:Hid (∀ w2,Kp w1 w2 (FU D w1 bk)->Pres D D w1 w2 bk->TnAt D bk mb w.heap.size defs.length DD W1 w2 (fun z=>left z && !z.sameKey (.string x.data.toList)) cnt1):=by
    intro w2 hk2 hp2;have hk2':=hk2.mono (fun k _ e=>FU.back HWd.out hpa e);have hs2:=hk1.size;refine⟨ranges_same hrg1 (hk2'.block mb (by omega) (fun e=>hmu (e.u HWd.out))) (hk2'.block w.heap.size (by omega) (fun e=>by have:=HWd.out.lt _ (e.u HWd.out);omega)),fun k hk=>hat0.sub k (by simp at hk;exact hk.1),hka.trans hk2',hpa.trans (fun _ _ h=>h) hp2⟩
   have hcn0:=hrg.left_eq;clear hat0 hWr hrg hrg1 hg1 hs1' hat hat2 hv hkey hlk hk1 hnu hp1 hWd1 hpa hka
   go_wp2_with fail
   refine HC.out.mono ?_;rintro e w2 ⟨rfl,hk2,hp2⟩;have hN:=HN.out w2 hk2 hp2;have HNN:=hide hN;have hcnt:=hN.rg.left_eq;clear hN hk2 hp2 HN HC;go_wp2
   go_roundw
   case rel=>exact⟨_,_,HNN.out⟩
   case measure=>rw[hcnt,hcn0];exact hlt
end
end
section
open Go.RowKit
theorem tuneS_nib (s:St) (hot blt:Int):(tuneS s hot blt).defs.map nib=s.defs.map nib:=by
 show (s.defs.map slowD).map nib=_;rw[List.map_map];rfl
theorem tuneS_known (s:St) (hot blt:Int) (t:Tok):(tuneS s hot blt).known t=s.known t:=by
 unfold St.known St.find;show ((s.defs.map slowD).findIdx? _).isSome=_;rw[List.findIdx?_map];rfl
theorem tuneS_wf {s:St} {hot blt:Int} (h:WFs s) (hb:¬ badT hot blt):WFs (tuneS s hot blt):=by
 have hg:=h.g;refine⟨⟨hg.g,hg.s0,hg.s1,hg.s2,hg.d0,hg.d1,?_,?_,fun d hd=>?_⟩,fun d hd=>?_,h.st⟩
 ·show 0<=blt;unfold badT at hb;omega
 ·show blt<=3;unfold badT at hb;omega
 ·obtain⟨d0,h0,rfl⟩:=List.mem_map.1 (show d∈s.defs.map slowD from hd);exact hg.cb d0 h0
 ·obtain⟨d0,h0,rfl⟩:=List.mem_map.1 (show d∈s.defs.map slowD from hd);obtain⟨G,hG⟩:=h.d d0 h0;exact⟨G,wb_known (fun t ht=>(tuneS_known s hot blt t).trans ht) _ _ _ hG⟩
section
variable {B:Nat} {W w:World} {xb bk mb:Nat} {sv:Value} {D:GD} {V:Nat->Prop} {s:St}
theorem PSn.tuned (h:PSn B W w xb bk mb sv D V s) {w':World} {hot blt:Int} (hk:Kp w w' (fun k=>FU D w bk k\/k=bk)) (hp:Pres D D w w' bk) (hb:Blk w' bk 106 #[.map (some mb),.int .i64 hot,.int .i64 blt]):PSn B W w' xb bk mb sv D V (tuneS s hot blt)/\Kp w w' V:=by
 have hW:=h.words.wds;have hfu:∀ k,FU D w bk k->D.u k:=fun k e=>e.u hW;have hne:∀ b t c,Blk w b t c->t ≠ 111->t ≠ 106->¬ (FU D w bk b\/b=bk):=fun b t c q t1 t2 e=>by
  rcases e with e|e
  ·rcases (h.us b (hfu b e)).2.2 with⟨c',hc'⟩|⟨n,DD,hm⟩
   ·exact t1 (q.inj hc').1
   ·exact map_ne hm q rfl
  ·subst e;exact t2 (q.inj h.book).1
 have hmb:¬ (FU D w bk mb\/mb=bk):=fun e=>e.elim (fun e=>(h.us mb (hfu mb e)).2.1 rfl) (fun e=>h.words.ne h.book e);have hbs:=h.bs;have hsz:=hk.size;refine⟨⟨hk.blk h.xblk (hne _ _ _ h.xblk (by decide) (by decide)),hk.row h.srow (fun k e e2=>by obtain⟨c,hc⟩:=row_blk h.srow e;exact hne _ _ _ hc (by decide) (by decide) e2),h.len,h.bel.trans (hk.below h.bs (fun k hkb e=>by
   rcases e with e|e
   ·have:=(h.us k (hfu k e)).1;omega
   ·have:=h.bbk;omega)),h.bx,h.bv,Nat.le_trans h.bs hsz,h.bmb,hb,((h.words.pres hp (fun _ _ h=>h) (fun _ _ h=>h) (hW.next hsz hp) (hk.block mb h.words.ltm hmb)).same (tuneS_nib s hot blt)),fun k e=>?_,fun k e=>?_,h.nb,h.bbk,h.vs⟩,hk.mono (fun k _ e=>(h.vs k).2 (e.elim (fun e=>.inr (.inr (.inr (.inr (.inr (hfu k e)))))) (fun e=>.inr (.inl e))))⟩
 ·obtain⟨e0,e1⟩:=h.sep k e;exact⟨by omega,e1⟩
 ·obtain⟨e0,e1,e2⟩:=h.us k e;refine⟨e0,e1,?_⟩;by_cases hf:FU D w bk k
  ·rcases hf with⟨g,hg⟩|⟨o,g,c,hg,hc,hm⟩
   ·obtain⟨c,hc⟩:=hW.ok k g hg;obtain⟨c',_,_,_,_,_,hc'⟩:=hp k g c hg hc;exact .inl ⟨_,hc'.blk⟩
   ·obtain⟨c',_,_,_,_,e5,hc'⟩:=hp o g c hg hc;obtain⟨_,_,DD,⟨⟨n,h1⟩,_⟩⟩:=hc'.wm k (e5.trans hm);exact .inr ⟨n,DD,h1⟩
  ·have hkb:¬ (FU D w bk k\/k=bk):=fun q=>q.elim hf (fun q=>by
    subst q;rcases e2 with⟨c,hc⟩|⟨n,DD,hm⟩
    ·exact absurd (hc.inj h.book).1 (by decide)
    ·exact map_ne hm h.book rfl)
   rcases e2 with⟨c,hc⟩|⟨n,DD,hm⟩
   ·exact .inl ⟨c,hk.blk hc hkb⟩
   ·exact .inr ⟨n,DD,ownsMap_same hm (hk.block k hm.lt hkb)⟩
theorem tuneBadS (h:PSn B W w xb bk mb sv D V s) (hot blt:Int) (hb:badT hot blt):Calls Tryz.prog 22 #[pt xb,.int .i64 hot,.int .i64 blt] w fun e w'=>e=.returned (.int .i64 1)/\w'=w:=by
 have c17:w.cell? ⟨xb,17,none⟩=some (pt bk):=h.xblk.cell rfl;have HT:=hide (tuneBadM w bk hot blt hb);clear h hb;go_enter Tryz.func22,Tryz.ntmps22
 go_wp2_with fail
 refine HT.out.mono ?_;rintro e w1 ⟨rfl,rfl⟩;go_wp2;go_ret;exact⟨rfl,rfl⟩
theorem tuneOkS (h:PSn B W w xb bk mb sv D V s) (hot blt:Int) (hb:¬ badT hot blt):Calls Tryz.prog 22 #[pt xb,.int .i64 hot,.int .i64 blt] w fun e w'=>e=.returned (.int .i64 0)/\PSn B W w' xb bk mb sv D V (tuneS s hot blt)/\Kp w w' V:=by
 have c17:w.cell? ⟨xb,17,none⟩=some (pt bk):=h.xblk.cell rfl;obtain⟨obs,DD,hwr⟩:=h.words;have hbu:¬ D.u bk:=fun e=>by
  rcases (h.us bk e).2.2 with⟨c,hc⟩|⟨n,DD,hm⟩
  ·exact absurd (hc.inj h.book).1 (by decide)
  ·exact map_ne hm h.book rfl
 have HT:=hide (tuneOkM hot blt s.hot s.built hb hwr h.book (fun e=>(h.us mb e).2.1 rfl) hbu h.nb);have H:=hide h;clear h hb hwr hbu;go_enter Tryz.func22,Tryz.ntmps22
 go_wp2_with fail
 refine HT.out.mono ?_;rintro e w1 ⟨rfl,q1,q2,q3⟩;have HF:=hide (H.out.tuned q1 q2 q3);clear q1 q2 q3 HT;go_wp2;go_ret;exact⟨rfl,HF.out⟩
end
end
section
open Go.RowKit
theorem tuneS_sim (s:St) (hot blt:Int):Sim (tuneS s hot blt) s:=⟨rfl,rfl,by show (s.defs.map slowD).map strip=_;rw[List.map_map];rfl,rfl,rfl,rfl,rfl,rfl⟩
theorem tuneP (B:Nat) (W:World):TuneC (PSes B W):=fun w xb V s hot built ⟨bk,mb,sv,D,h⟩ _ _=>by
 by_cases hb:badT hot built
 ·refine (tuneBadS h hot built hb).mono ?_;rintro e w' ⟨rfl,rfl⟩;exact⟨1,rfl,fun q=>absurd hb q,V,s,⟨bk,mb,sv,D,h⟩,fun h=>h,Sim.refl _,To.refl _ _ _⟩
 ·refine (tuneOkS h hot built hb).mono ?_;rintro e w' ⟨rfl,q1,q2⟩;exact⟨0,rfl,fun _=>rfl,V,_,⟨bk,mb,sv,D,q1⟩,fun hw=>tuneS_wf hw hb,tuneS_sim _ _ _,⟨q2.mono (fun _ _ e=>.inr e),fun _ e=>.inl e⟩⟩
end
section
open Go.ChangeShapes Go.WideShapes Go.ChangeAt Go.RowKit
theorem late_met (os:Os) (args:Array Value):laidMetH Tryz.prog Rows.lateRow.laid ((World.doorLaid Tryz.prog 400 os).forCall (fun _ _=>0) ⟨#[],args,[]⟩).memory:=
 laidMetH_of_parts3 (fuel:=8) (laidMet_of_run' 8 (by kernel_rfl) (by kernel_rfl)) (by kernel_rfl) (by kernel_rfl)
theorem int_inW {H:Type} {enc:TypeId × Value->H} {W:World} {b0 base:Nat} {sp:Nat->Bool} {held:Bool} {v:Value} {d:DataW H} {p:List MemPlace} (hv:Value.okWide Tryz.prog W .any b0 3 v) (h:DataW.Trod enc Tryz.prog W base sp held 3 v d p):∃ n:Int,v=.int .i64 n/\In n:=by
 obtain⟨n,e,_,_,hw⟩:=open_int Tryz.underlying3 hv h;exact⟨n,e,bounds_i64 hw⟩
theorem raw_inW {H:Type} {enc:TypeId × Value->H} {W:World} {base:Nat} {v0:Value} {d0:DataW H} {p:List MemPlace} (hv:Value.okWide Tryz.prog W .any base 34 v0) (h0:DataW.Trod enc Tryz.prog W 0 (fun _=>true) true 34 v0 d0 p):
  ∃ ra len cap,v0=.slice ra len cap/\∀ i,i < len->∃ rb off c,ra=some ⟨rb,off,none⟩/\W.cell? ⟨rb,off+i,none⟩=some (.int .i64 c)/\In c:=by
 obtain⟨a0,len,cap,rfl⟩:=okWide_slice Tryz.underlying34 hv;refine⟨a0,len,cap,rfl,?_⟩;obtain⟨fuel,hf⟩:=h0;rcases Go.Deep.open_slice Tryz.underlying34 hf with⟨hcs,_⟩|⟨a,len',cap',m,n,D,Pl,hcs,_,hl,hm,hmm,hx,hel⟩
 ·simp[Value.cells] at hcs;obtain⟨rfl,rfl,rfl⟩:=hcs;intro i hi;omega
 ·simp[Value.cells] at hcs;obtain⟨rfl,rfl,rfl⟩:=hcs;rw[Tryz.cells3] at hel;simp only[if_true] at hmm;subst hmm;intro i hi;obtain⟨cs,h1,h2⟩:=hel i (by omega);obtain⟨_,hlen,hc⟩:=World.cells?_some h1;have g0:=hc 0 (by omega);obtain⟨c,e,_,hw⟩:=DataW.trod_int Tryz.underlying3 h2;subst e;obtain⟨b,off,spot⟩:=a
  cases spot with
  | some sp=>
   exfalso
   obtain⟨cs0,hc0,_⟩:=hel 0 (by omega);have hfirst:=(World.cells?_some hc0).2.2 0 (by omega);have hl0:=(World.cells?_some hc0).2.1;rw[List.getElem?_eq_getElem (by omega)] at hfirst;unfold World.cell? at hfirst
   split at hfirst
   ·simp[Addr.add] at hfirst
   ·cases hfirst
  | none=>
   have e1:((⟨b,off,none⟩:Addr).add (i * 1)).add 0=⟨b,off+i,none⟩:=by
    unfold Addr.add;simp
   rw[e1] at g0;exact⟨b,off,c,rfl,g0,bounds_i64 hw⟩
theorem late_lifted (os:Os) (started:os.Started) (H:Type) (enc:TypeId × Value->H):
  ReturnsInHanded {} Tryz.checked os 9 .any (fun w args=>(Rows.lateSpec.pre enc Tryz.prog Tryz.f9 [] false w args/\laidMetH Tryz.prog Rows.lateRow.laid w)/\sizedMet enc Tryz.prog Tryz.f9 (OpenSpec.ofChange Rows.lateSpec) false w args)
   (Rows.lateSpec.post enc Tryz.prog Tryz.f9 false true false false):=by
 refine returnsInHanded_of_change_and (C:=Tryz.checked) (X:=fun w _=>laidMetH Tryz.prog Rows.lateRow.laid w) (fun _ _ _ hh h=>h.of_heap hh) Tryz.own started (by kernel_rfl) Tryz.func9
  (ChangeSpec.witness_shaped (enc:=enc) (C:=Tryz.checked) (os:=os) (X:=fun w _=>laidMetH Tryz.prog Rows.lateRow.laid w) false (World.doorLaid Tryz.prog 400 os) #[.slice none 0 0,.int .i64 0,.int .i64 0] 8 rfl (World.shaped_of_RefB (by kernel_rfl) (by kernel_rfl)) (by kernel_rfl) (by kernel_rfl) (by kernel_rfl) (late_met os _)) ?_
 intro W base args ds gs before hval0 hW _ hsz0 hL _;have hval:∀ (j:Nat) t v,Tryz.f9.params[j]? = some t->args[j]? = some v->Value.okWide Tryz.prog W .any base t v:=hval0;have hW':=hW;obtain⟨p,q,hA0,hV,rfl,hfz,hnd⟩:=hW;have hA:DataW.TrodAll enc Tryz.prog W 0 (fun _=>true) true Tryz.f9.params.toList args.toList ds p:=hA0;rw[Tryz.params9] at hA hval;obtain⟨v0,v1,v2,d0,d1,d2,p0,p1,p2,rfl,rfl,rfl,t0,t1,t2⟩:=trodAll_three hA;obtain⟨rfl,rfl⟩:=trodVars_none hV;have hE:Env W.heap.size W:=of_laid hL;clear hA0 hval0;simp only[List.append_nil] at hW';have hlt:∀ x∈p0 ++ (p1 ++ p2),x.block < W.heap.size:=fun x hx=>by simpa using hW'.lt x (by simpa using hx)
 obtain⟨ra,len,cap,rfl,hraw⟩:=raw_inW (hval 0 34 v0 rfl rfl) t0;obtain⟨n1,rfl,b1⟩:=int_inW (hval 1 3 v1 rfl rfl) t1;obtain⟨n2,rfl,b2⟩:=int_inW (hval 2 3 v2 rfl rfl) t2;have walk:=lateL W (conP hE) (tuneP _ _) ra len cap n1 n2 b1 b2 hraw;refine walk.mono fun e W' ⟨he,hB⟩=>?_;subst he;refine⟨_,rfl,_,_,_,[],p0 ++ p1 ++ p2,[],hW',?_,?_,rfl,hB.frame _,fun h=>by cases h⟩
 ·exact trodAll_mk1 (shut_bool Tryz.underlying4 _)
 ·rw[List.append_assoc];exact trodAll_mk3 (Below.trod Tryz.laidOut (by kernel_rfl) (of_decide_eq_true (by kernel_rfl)) t0 hB (fun x hx=>hlt x (by simp[hx]))) (Below.trod Tryz.laidOut (by kernel_rfl) (of_decide_eq_true (by kernel_rfl)) t1 hB (fun x hx=>hlt x (by simp[hx]))) (Below.trod Tryz.laidOut (by kernel_rfl) (of_decide_eq_true (by kernel_rfl)) t2 hB (fun x hx=>hlt x (by simp[hx])))
end
section
open Go
theorem late_said:Rows.LateSaid:=
 OpenClaim.holds_of_wide 9 Tryz.f9 rfl rfl rfl rfl rfl rfl rfl ⟨rfl,rfl,rfl,rfl,rfl⟩ rfl rfl rfl rfl rfl (by kernel_rfl) Tryz.func9 (by kernel_rfl)
  (of_decide_eq_true (by kernel_rfl)) (by unfold Func.isWrapper;first|(rw[if_pos (by decide +kernel)];kernel_rfl)|(rw[if_neg (by decide +kernel)];exact⟨rfl,rfl⟩))
  (fun os started H enc _=>late_lifted os started H enc)
theorem late_plain (f : FuncId) (fn : Func) (hf : Tryz.pinned.checked.prog.funcNamed "anvil/anvilkeep.Late" = some f) (hfn : Tryz.pinned.checked.prog.funcs[f]? = some fn) :
  true=Tryz.pinned.checked.prog.looks []/\∀ (j:Nat) t,fn.params[j]? = some t->Tryz.pinned.checked.prog.wantsStandIn t=false:=by
 obtain rfl : f = 9 := Option.some.inj ((show Tryz.prog.funcNamed "anvil/anvilkeep.Late" = some 9 by kernel_rfl).symm.trans hf) |>.symm
 obtain rfl:fn=Tryz.f9:=(Option.some.inj (Tryz.func9.symm.trans hfn)).symm;refine⟨by kernel_rfl,fun j t ht=>?_⟩;rw[Tryz.params9] at ht;have hm:t=34\/t=3:=by simpa using Array.mem_of_getElem? ht
 rcases hm with rfl|rfl
 ·exact (show Tryz.prog.wantsStandIn 34=false by kernel_rfl)
 ·exact (show Tryz.prog.wantsStandIn 3=false by kernel_rfl)
theorem late_card:Rows.LateCardSaid:=
 Claim7.holds_tied_plain_at .later [] _ _ _ _ late_said (fun _ h=>by cases h) (by kernel_rfl) (fun _ h=>by cases h) late_row_tie rfl ⟨rfl,rfl⟩ (by kernel_rfl) rfl late_plain (by kernel_rfl)
end
#print axioms late_card
end Go.Proofs.YteainaiebcphlaaGreatDoor
