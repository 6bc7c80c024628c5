import Derived.Test.YteainaiebcphlaaGreatDoorQ31
import Derived.Test.YteainaiebcphlaaGreatDoorQ4
import Derived.Laws.BytesArg
import Derived.Test.YteainaiebcphlaaGreatDoorQ20
import Derived.Test.YteainaiebcphlaaGreatDoorQ21
import Derived.Test.YteainaiebcphlaaGreatDoorQIter
import Derived.Deep.OwnRows
import Derived.Carry
import Derived.Test.YteainaiebcphlaaGreatDoorRows
import Derived.ProofKit
import Derived.LaidMore
import Derived.OpenShut
import Derived.Stop.Joined
import Derived.Lib.LaidTab
import Derived.Test.YteainaiebcphlaaGreatDoorQ24
import Derived.SizedLaws
import Derived.Deep.Slices
import Derived.Handy
namespace Go.Proofs.YteainaiebcphlaaGreatDoor
set_option maxRecDepth 1000000
set_option maxHeartbeats 4000000
set_option linter.all false
open Go.Proofs.Tryz
section
open Go.RowKit
structure TAt (B:Nat)(W:World)(g xb rb mb:Nat)(w wr:World)(m:MS)(D:GD)(s':St)(left:Bool)(v:Value)(k:Int)(g':Nat):Prop where
 ex:∃m1 D1 s1 nX a n p,v=.slice a n p/\k=s1.e/\g'<=g/\PR B W wr xb rb mb m1 D1 s1/\mN xb rb mb w wr m m1 D D1/\(s1.e≠0->s'=s1)/\(s1.e=0->n=nX.length/\fC (aC wr) v nX/\(∀t∈nX,okW t)/\nX.length<=1000/\aI g' (aT (aD nX)) s1=some (s',left))
theorem aaK {B:Nat}{W:World}(hE:Env B W)(g:Nat)(hW:∀g',g'<g->QW B W g'):QT B W g:=by
 intro w xb rb mb m D s s' v ws left hr he ht ho hl hx;obtain⟨ao,cap,rfl⟩:=ht.form;have h0:Hid (TAt B W g xb rb mb w w m D s' left (.slice ao ws.length cap) 0 g):=⟨⟨m,D,s,ws,ao,ws.length,cap,rfl,he.symm,ah _,hr,mN.refl _ _ _ _ _ _,λe=>ax he e,λ_=>⟨rfl,ht,ho,hl,hx⟩⟩⟩;have HW:=az hW;have HE:=az hE;clear hr he ht ho hx hW hE;go_enter func42,ntmps42;go_wp2
 go_loopw [2,7] (λv k wr=>∃kk g',k=.int .i64 kk/\TAt B W g xb rb mb w wr m D s' left v kk g') (λ_ k wr=>if intOf k=0 then 1+(2002-s7 wr rb).toNat else 0)
 case atStart=>exact⟨0,g,rfl,h0.out⟩
 case round=>
  obtain⟨kk,g',rfl,⟨m1,D1,s1,nX,a,n,p,rfl,rfl,hg,hr,hto,hbad,hgo⟩⟩:=hrel;by_cases he:s1.e=0
  ·obtain⟨rfl,hT,hok,hlen,hx⟩:=hgo he;have Rh:=hr.s7 he;have hs2:=hr.good.s2 he
   cases nX with
   | nil=>
    have zk:s'=s1:=by
     cases g' with
     | zero=>cases hx
     | succ g'=>injection hx with hx;injection hx with e1 e2;exact e1.symm
    subst zk;have HR:=az hr;have HT:=az hto;clear hr hto hx hbad hgo Rh;rw[he];go_wp2;go_ret;exact⟨by rw[he];rfl,m1,D1,HR.out,HT.out⟩
   | cons t nX=>
    cases g' with
    | zero=>cases hx
    | succ g'=>
     have hbk:=hto.bk;have HC:=az (rfX HE.out g' (λg2 h2=>HW.out g2 (by omega)) hr he t nX _ hT hok hlen s' left hx);rw[hbk] at HC;have Jr:=az hto;have H1:=az Rh;have H2:=az hs2;have Da:=az he;have hll:(0:Int)<((t::nX).length:Int):=by simp
     rw[he];generalize (t::nX).length=nn at *;clear hr hto hx hbad hgo Rh hs2 hT he hbk
     go_wp2_with fail
     refine HC.out.mono ?_;rintro e w1 ⟨rv,k,rfl,s2,kF,a2,n2,p2,rfl,rfl,hp,hst,hb2,hg2⟩;obtain⟨m2,D2,hr2,ht2⟩:=hp;have kH:=az hr2;have wI:=az (Jr.out.trans ht2);have HST:=az hst;have zh:=az hb2;have HG2:=az hg2;clear hr2 ht2 hst hb2 hg2;go_wp2;refine⟨⟨s2.e,g',rfl,⟨m2,D2,s2,kF,a2,n2,p2,rfl,rfl,by omega,kH.out,wI.out,zh.out,λe=>?_⟩⟩,?_⟩
     ·obtain⟨q1,q2,q3,q4⟩:=HG2.out e;obtain⟨ao,cp,UG⟩:=q1.form;injection UG with e1 e2 e3;exact⟨e2,q1,q2,q3,q4⟩
     ·rw[ag (show intOf (.int .i64 0)=0 from rfl),H1.out];by_cases e:s2.e=0
      ·rw[ag (show intOf (.int .i64 s2.e)=0 from e),kH.out.s7 e];have q1:=HST.out e;have q2:=H2.out;omega
      ·rw[af (show ¬intOf (.int .i64 s2.e)=0 from e)];omega
  ·have zk:=hbad he;subst zk;have HR:=az hr;have HT:=az hto;have h1:(s'.e==0)=false:=by simpa using he
   clear hr hto hbad hgo he;go_wp2;go_ret;exact⟨rfl,m1,D1,HR.out,HT.out⟩
theorem aaL {B:Nat}{W:World}(hE:Env B W):∀g,QB B W g/\QI B W g/\QW B W g/\QT B W g:=by
 intro g
 induction g using Nat.strongRecOn with
 | ind g ih=>
  have hI:QI B W g:=Wi hE g (λg' h=>(ih g' h).1) (λg' h=>(ih g' h).2.2.1) (λg' h=>(ih g' h).2.2.2);have hB:QB B W g:=MD g (λg' h=>(ih g' h).2.1);exact⟨hB,hI,Jm g hB,aaK hE g (λg' h=>(ih g' h).2.2.1)⟩
structure qT (B:Nat)(W:World)(I:Int)(w:World)(xb bk mb:Nat)(sv:Value)(D:GD)(V:Nat->Prop)(s:St):Prop where
 bJ:aC w xb 80 (nW bk sv s.mem)
 dc:w.ownsRow 0 2 1 sv s.rs.reverse.length (bD s.rs.reverse)
 len:s.rs.length<=32
 E9:Below B W w
 bx:B<=xb
 bv:∀k,own sv k->B<=k
 bs:B<=w.heap.size
 E8:B<=mb
 book:aC w bk 106 #[.map (some mb),.int .i64 s.hot,.int .i64 s.built]
 words:eP D w bk mb s.ay
 sep:∀k,D.d k->k<w.heap.size/\k≠xb/\¬own sv k
 us:∀k,D.u k->B<=k/\k≠mb/\jS w k
 nb:¬D.d bk
 Te:B<=bk
 vs:∀k,V k<->k=xb\/k=bk\/k=mb\/own sv k\/D.d k\/D.u k
 ids:0<=s.ids/\s.ids<=I
 Cm:∀o f,D.r o f->f.id<=s.ids
def AP (B:Nat)(W:World)(I:Int)(w:World)(xb:Nat)(V:Nat->Prop)(s:St):Prop:=∃bk mb sv D,qT B W I w xb bk mb sv D V s
section
variable {B:Nat}{I:Int}{W w w':World}{xb bk mb:Nat}{sv:Value}{D:GD}{V:Nat->Prop}{s:St}
theorem qT.lt (h:qT B W I w xb bk mb sv D V s):∀k,V k->k<w.heap.size:=by
 intro k hk;rcases (h.vs k).1 hk with rfl|rfl|rfl|e|e|e
 ·exact h.bJ.lt
 ·exact h.book.lt
 ·exact h.words.Mz
 ·exact bw h.dc e
 ·exact(h.sep k e).1
 ·exact h.words.yI.lt k e
theorem qT.frame {S:Nat->Prop}(h:qT B W I w xb bk mb sv D V s)(hk:Kp w w' S)(hV:∀k,V k->¬S k)(hB:∀k,k<B->¬S k):qT B W I w' xb bk mb sv D V s:=by
 have hv:∀k,(k=xb\/k=bk\/k=mb\/own sv k\/D.d k\/D.u k)->¬S k:=λk e=>hV k ((h.vs k).2 e);have hu:∀k,D.u k->¬S k:=λk e=>hv k (.inr (.inr (.inr (.inr (.inr e)))));have hd:∀k,D.d k->¬S k:=λk e=>hv k (.inr (.inr (.inr (.inr (.inl e)))));obtain⟨nY,hwd⟩:=h.words.yI.out hk hu hd;refine⟨hk.blk h.bJ (hv _ (.inl rfl)),hk.row h.dc (λk e=>hv k (.inr (.inr (.inr (.inl e))))),h.len,h.E9.trans (hk.below h.bs hB),h.bx,h.bv,ai h.bs hk.size,h.E8,hk.blk h.book (hv _ (.inr (.inl rfl))),h.words.E7 nY (λ_ _ h=>h) (λ_ _ h=>h) hwd (hk.block mb h.words.Mz (hv _ (.inr (.inr (.inl rfl))))) (λ_ _ _ _ q=>q.out hk hu hd),λk e=>?_,λk e=>?_,h.nb,h.Te,h.vs,h.ids,h.Cm⟩
 ·obtain⟨e0,e1⟩:=h.sep k e;exact⟨aj e0 hk.size,e1⟩
 ·obtain⟨e0,e1,e2⟩:=h.us k e;refine⟨e0,e1,?_⟩;rcases e2 with⟨c,hc⟩|⟨n,DD,hm⟩
  ·exact .inl ⟨c,hk.blk hc (hu k e)⟩
  ·exact .inr ⟨n,DD,aL hm (hk.block k hm.lt (hu k e))⟩
theorem qT.kp (h:qT B W I w xb bk mb sv D V s)(hk:Kp w w' (λ_=>False)):qT B W I w' xb bk mb sv D V s:=h.frame hk (λ_ _ e=>e) (λ_ _ e=>e)
theorem qT.to (h:qT B W I w xb bk mb sv D V s)(hk:Kp w w' (λ_=>False)):∃V',AP B W I w' xb V' s/\To (λ_=>False) w w' V V':=
 ⟨V,⟨bk,mb,sv,D,h.kp hk⟩,⟨hk.mono (λ_ _ e=>e.elim),λ_ e=>.inl e⟩⟩
theorem WK (w:World)(xb bk:Nat)(sv:Value)(mem:Nat->Int)(h:aC w xb 80 (nW bk sv mem))(n:Int):
  Calls prog 56 #[pt xb,.int .i64 n] w λe w'=>e=.returned (.tuple #[.int .i64 (if n<0\/16<=n then((0:Int),(10:Int)) else(mem n.toNat,0)).1,.int .i64 (if n<0\/16<=n then((0:Int),(10:Int)) else(mem n.toNat,0)).2])/\Kp w w' (λ_=>False):=by
 by_cases hc:n<0\/16<=n
 ·rw[ag hc];have HI:=az (ni n w);rw[decide_eq_false (by omega)] at HI;clear hc;go_enter func56,ntmps56
  go_wp2_with fail
  refine HI.out.mono ?_;rintro e w1 ⟨rfl,rfl⟩;go_wp2;go_ret2;exact⟨rfl,Kp.refl _ _⟩
 ·rw[af hc];have HI:=az (ni n w);rw[decide_eq_true (by omega)] at HI;have c1:w.cell? ⟨xb,1+n.toNat,none⟩=some (.int .i64 (mem n.toNat)):=h.cell (yc _ _ _ _ (by omega));have h0:0<=n:=by omega
  have h1:n<16:=by omega
  clear hc;go_enter func56,ntmps56
  go_wp2_with fail
  refine HI.out.mono ?_;rintro e w1 ⟨rfl,rfl⟩;go_wp2;go_ret2;exact⟨rfl,Kp.refl _ _⟩
end
theorem nQ:∀(l cur:List UInt8),∀x∈Lib.fieldsGo cur l,x≠[]
 | [],cur,x,hx=>by
  unfold Lib.fieldsGo at hx
  split at hx
  ·simp at hx
  ·rename_i h;simp at hx;subst hx;simpa using h
 | b::l,cur,x,hx=>by
  unfold Lib.fieldsGo at hx
  split at hx
  ·split at hx
   ·exact nQ l [] x hx
   ·rename_i h
    rcases List.mem_cons.1 hx with h1|h1
    ·subst h1;simpa using h
    ·exact nQ l [] x h1
  ·exact nQ l _ x hx
theorem ko:∀(l cur:List UInt8),∀x∈Lib.fieldsGo cur l,x.length<=cur.length+l.length
 | [],cur,x,hx=>by
  unfold Lib.fieldsGo at hx
  split at hx
  ·simp at hx
  ·simp at hx;subst hx;omega
 | b::l,cur,x,hx=>by
  unfold Lib.fieldsGo at hx
  split at hx
  ·split at hx
   ·have:=ko l [] x hx;simp at this ⊢;omega
   ·rcases List.mem_cons.1 hx with h1|h1
    ·subst h1;omega
    ·have:=ko l [] x h1;simp at this ⊢;omega
  ·have:=ko l _ x hx;simp at this ⊢;omega
theorem JQ (s:ByteArray)(w:World):
  Calls prog 40 #[.string s] w λe w'=>e=.returned (.bool (cz s.data.toList))/\w'=w:=by
 by_cases hs:s.size<=400
 ·go_enter func40,ntmps40;go_wp2
  go_loop [9] (λi=>∃k:Nat,k<=s.size/\i=.int .i64 k/\(s.data.toList.take k).all okB=true) (λi=>s.size-(intOf i).toNat)
  case atStart=>exact⟨0,Nat.zero_le _,rfl,rfl⟩
  case round=>
   obtain⟨k,hk,rfl,hall⟩:=hrel;have HA:=az hall;clear hall;by_cases hlt:k<s.size
   ·by_cases hok:32<=s[k].toNat/\s[k].toNat<=126
    ·obtain⟨Ge,og⟩:=hok;go_wp2
     go_round
     case rel=>exact⟨k+1,by omega,by go_num,qd hlt HA.out ⟨Ge,og⟩⟩
     case measure=>simp[intOf];omega
    ·have HB:=az (vJ hlt hok);rcases (show s[k].toNat<32\/(32<=s[k].toNat/\126<s[k].toNat) by omega) with h1|⟨h1,h2⟩
     all_goals
      clear hok;go_wp2;go_ret;exact⟨by rw[HB.out];rfl,rfl⟩
   ·have HB:Hid (cz s.data.toList=true):=by
     have h1:=HA.out;have:k=s.size:=by omega
     rw[this] at h1;exact xX hs h1
    go_wp2;go_ret;exact⟨by rw[HB.out];rfl,rfl⟩
 ·have HB:Hid (cz s.data.toList=false):=by
   unfold Hid cz;have:s.data.toList.length=s.size:=rfl;rw[this,decide_eq_false hs];rfl
  go_enter func40,ntmps40;go_wp2;go_ret;exact⟨by rw[HB.out];rfl,rfl⟩
theorem RN (out:ByteArray):strOfNums (out.data.toList.map λb=>(b.toNat:Int))=out:=by
 unfold strOfNums
 apply ByteArray.ext
 simp only[List.map_map];have:((λn:Int=>UInt8.ofNat n.toNat)∘λb:UInt8=>(b.toNat:Int))=id:=by
  funext b;simp
 rw[this];simp
theorem JR {w:World}{v:Value}{out:ByteArray}(h:w.ownsRow 0 5 1 v out.size (Lib.byteCells out.data.toList)):(convert 85 9 v).run prog w=.ok (.string out) w:=by
 rcases h.2 with⟨rfl,h0⟩|⟨g,cap,cur,rfl,_,hg,hnc,_,hcs,htake⟩
 ·rw[run_convert_bytes_nil w 85 5 underlying85 underlying5 0 0 9 underlying9];have:out=ByteArray.empty:=by
   apply ByteArray.ext
   have:out.data.size=0:=h0;exact Array.eq_empty_of_size_eq_zero this
  rw[this]
 ·have:=run_convert_bytes_arg w 85 5 underlying85 underlying5 g 0 out.size cap (out.data.toList.map λb=>(b.toNat:Int)) (by rw[List.length_map];rfl) ?_ 9 underlying9
  ·rw[this,RN]
  ·intro i hi;have hl:i<out.data.toList.length:=hi;have e:out.data.toList[i]? = some out.data.toList[i]:=List.getElem?_eq_getElem hl;have:=h.cells (g:=g) rfl i (.int .u8 ((out.data.toList[i]).toNat:Int)) (by rw[Lib.byteCells,List.getElem?_map,e];rfl);rw[qQ] at this;rw[Nat.zero_add,this,List.getD_eq_getElem?_getD,List.getElem?_map,e];rfl
theorem AQ (w:World)(xb rb:Nat)(m:MS)(ns:List Int)(h:aW w xb rb m ns):
  Calls prog 45 #[.pointer (some ⟨rb,0,none⟩)] w λe w'=>e=.returned (.string m.out)/\w'=w:=by
 have k1:w.cell? ⟨rb,1,none⟩=some m.ov:=h.cF.cell rfl;have hc:=JR h.dY;obtain⟨ao,cap,hv⟩:=iu h.dY;rw[hv] at k1 hc;clear hv;go_enter func45,ntmps45;go_wp2;go_ret;exact⟨rfl,rfl⟩
theorem JS {l:List UInt8}(h:cz l=true):∀(j:Nat) b,l[j]? = some b->b.toNat<128:=by
 intro j b hb;unfold cz at h;rw[Bool.and_eq_true,List.all_eq_true] at h;have:=of_decide_eq_true (h.2 b (List.mem_of_getElem? hb));omega
section
variable {B:Nat}{W w w':World}
theorem RO (hG:Q5 B W)(t:ByteArray)(hv:cz t.data.toList=true)(w:World)(hb:Below B W w)(hs:B<=w.heap.size):
  Calls prog 43 #[.string t] w λe w'=>∃n v ws,e=.returned (.slice (some v) n n)/\Kp w w' (λ_=>False)/\fC (aC w') (.slice (some v) n n) ws/\aD ws=Lib.fields t.data.toList/\(∀x∈ws,okW x)/\ws.length<=1000:=by
 have hsz:t.size<=400:=by unfold cz at hv;rw[Bool.and_eq_true] at hv;exact of_decide_eq_true hv.1
 have HCl:=az (Tryz.stringslite_Clone t);have HC:=az (Tryz.strings_Fields t);have HG:=az hG;have HV:=az hv;clear hG hv;go_enter func43,ntmps43
 go_wp2_with (first
  | (go_at_call 59;go_in)
  | (go_at_call 78;refine(HCl.out _ (by omega)).mono ?_;rintro e w1 ⟨rfl,hk1⟩;have oV:=az hk1;clear hk1)
  | (go_at_call 58;refine(HC.out _ (by omega) (JS HV.out) (by exact(HG.out.asc.on (hb.trans (oV.out.mono hs))).here)).mono ?_;rintro e w2 ⟨rfl,rfl⟩))
 go_ret;have hlen:(Lib.fields t.data.toList).length<=401:=by
  have h1:=iP t.data.toList [];have h3:t.data.toList.length=t.size:=rfl;have:(Lib.fields t.data.toList).length<=t.data.toList.length+1:=h1;omega
 refine⟨_,_,(Lib.fields t.data.toList).map λl=>⟨l.toArray⟩,rfl,(Kp.mY oV.out).alloc _,.inr ⟨_,0,_,_,by rw[List.length_map],aC.new _ _ _,by rw[List.length_map];exact ah _,by unfold maxLen;omega,by simp,λi hi=>?_⟩,?_,λx hx=>?_,by rw[List.length_map];omega⟩
 ·simp at hi;simp[hi]
 ·unfold aD;rw[List.map_map];exact List.map_id _
 ·obtain⟨l,hl,rfl⟩:=List.mem_map.1 hx;have h1:=nQ _ _ _ hl;have h2:=ko _ _ _ hl;have h3:t.data.toList.length=t.size:=rfl;refine⟨by rw[ByteArray.toList_eq];exact h1,?_⟩;show l.toArray.size<=1000;simp at h2 h3 ⊢;omega
theorem Fx (w:World)(xb:Nat)(t:ByteArray)(hv:cz t.data.toList=false):
  Calls prog 18 #[pt xb,.string t] w λe w'=>e=.returned (.tuple #[.string ⟨#[]⟩,.int .i64 2])/\w'=w:=by
 go_enter func18,ntmps18
 go_wp2_with fail
 refine(JQ _ _).mono ?_;rintro e w' ⟨rfl,hw⟩;rw[hw,hv];clear hw;go_wp2;go_ret2;exact⟨rfl,rfl⟩
abbrev kY (xb:Nat):Array Value:=#[pt xb,.slice none 0 0,.int .i64 0,.int .i64 0]
theorem WL (hG:Q5 B W)(w:World)(xb bk:Nat)(sv:Value)(mem:Nat->Int)(t:ByteArray)(hv:cz t.data.toList=true)(hb:Below B W w)(hs:B<=w.heap.size)(hX:aC w xb 80 (nW bk sv mem))(e0:Int)(R:MS->World->Prop)
  (hrun:∀w1 n v ws,Kp w w1 (λ_=>False)->aC w1 w.heap.size 100 (kY xb)->fC (aC w1) (.slice (some v) n n) ws->aD ws=Lib.fields t.data.toList->(∀x∈ws,okW x)->ws.length<=1000->Calls prog 42 #[pt bk,pt w.heap.size,.slice (some v) n n] w1 λe w'=>∃m' ns,e=.returned (.int .i64 e0)/\m'.bk=bk/\aW w' xb w.heap.size m' ns/\R m' w'):
  Calls prog 18 #[pt xb,.string t] w λe w'=>∃m' w3,R m' w3/\e=.returned (.tuple #[.string m'.out,.int .i64 e0])/\w'=if e0=0 then w3 else w3.setCell ⟨xb,0,none⟩ (.slice none 0 0):=by
 have HR:=az hrun;have c17:w.cell? ⟨xb,17,none⟩=some (pt bk):=hX.cell rfl;have hxl:=hX.lt;have bC:=(Kp.refl w (λ_=>False)).alloc (.cells (kY xb) 100);have HB0:=az (aC.new w (kY xb) 100);have OQ:=bC.blk hX (by simp);have DV:=az OQ;have HSP:=az (λw0 hk=>RO hG t hv w0 (hb.trans (Kp.below (S:=λ_=>False) hk hs (λ_ _ e=>e))) (ai hs (Kp.size (S:=λ_=>False) hk)));have c18:(w.alloc (.cells (kY xb) 100)).cell? ⟨xb,17,none⟩=some (pt bk):=OQ.cell rfl;clear hrun hG;go_enter func18,ntmps18
 go_wp2_with fail
 refine(JQ _ _).mono ?_;rintro e w' ⟨rfl,hw⟩;rw[hw,hv];clear hw
 go_wp2_with (go_at_call 41;go_in)
 generalize w.alloc (.cells (kY xb) 100)=w0 at *
 go_region_held3 (λw'=>w'.cell? ⟨xb,17,none⟩=some (pt bk)) (go_keep) (first
  | (go_at_call 43;refine(HSP.out _ bC.drew).mono ?_;rintro e w1 ⟨n,v,ws,rfl,hk1,q1,q2,q3,q4⟩;have oV:=az hk1;have yN:=az q1;have wP:=az q2;have WJ:=az q3;have Na:=az q4;have u0:w1.cell? ⟨xb,17,none⟩=some (pt bk):=(hk1.blk DV.out.drew (by simp)).cell rfl;clear hk1 q1 q2 q3 q4)
  | (go_at_call 42;refine(HR.out w1 n v ws (bC.drew.trans oV.out) (oV.out.blk HB0.out.drew (by simp)) yN.out wP.out WJ.out Na.out).mono ?_;rintro e w3 ⟨m',ns,rfl,hbk,oc,hr3⟩;have Hq:=az hr3;have HI3:=az oc;have u1:w3.cell? ⟨xb,17,none⟩=some (.pointer (some ⟨m'.bk,0,none⟩)):=oc.bJ.cell rfl;rw[hbk] at u1;clear hr3 oc hbk))
 by_cases he:e0=0
 ·have he':(e0 != 0)=false:=by simp[he]
  have HE:=az he;clear he
  go_wp2_with fail
  refine(AQ _ _ _ _ _ HI3.out).mono ?_;rintro e w' ⟨rfl,hw⟩;rw[hw];clear hw;go_wp2;go_ret2
  first
   | exact⟨m',w3,Hq.out,rfl,by rw[ag HE.out]⟩
   | exact⟨m',Hq.out,rfl⟩
 ·have he':(e0 != 0)=true:=by simp[he]
  have HE:=az he;have oc:=HI3.out;have k0:w3.cell? ⟨xb,0,none⟩=some m'.sv:=oc.bJ.cell rfl;have f0:=oc.bJ.free 0;obtain⟨ao,cap,hvv⟩:=iu oc.dc;rw[hvv] at k0;have hi5:aW (w3.setCell ⟨xb,0,none⟩ (.slice none 0 0)) xb w.heap.size {m' with sv:=.slice none 0 0} []:=
   ⟨oc.bJ.set 0 _,oc.cF.setOther oc.ne.symm _,World.ownsRow_nil _ _ _ _,ownsRow_setCell_other oc.dY (aH oc.dY oc.bJ (by decide)) _,by simp⟩
  have H5:=az hi5;clear he hvv hi5 oc
  go_wp2_with (go_at_call 44;go_in)
  refine(AQ _ _ _ _ _ H5.out).mono ?_;rintro e w' ⟨rfl,hw⟩;rw[hw];clear hw;go_wp2;go_ret2
  first
   | exact⟨m',w3,Hq.out,rfl,by rw[af HE.out]⟩
   | exact⟨m',w3,Hq.out,rfl,rfl⟩
end
section
variable {B:Nat}{I:Int}{W w w':World}{xb bk mb:Nat}{sv:Value}{D:GD}{V:Nat->Prop}{s:St}
theorem CA (h:cC s):cC (jP s):=
 ⟨⟨h.g.ins,h.g.sP,h.g.len,by show(0:Nat)<=300;decide⟩,by show(0:Int)<=0;decide,by show(0:Int)<=2001;decide,λ_=>by show(0:Int)<=2000;decide,by show(0:Int)<=0;decide,by show(0:Int)<=20;decide,h.b0,h.b1,h.cb⟩
theorem eP.aaM (h:eP D w bk mb s.ay)(j:Int):eP {D with J:=j} w bk mb s.ay:=by
 have hgl:wD D {D with J:=j} w:=⟨λ_ h=>h,λ_ _ h=>h,λ_ _=>rfl⟩;have hp:fT D {D with J:=j} w w bk:=λo f c hr hc=>⟨c,rfl,rfl,rfl,rfl,rfl,hc.frame (Kp.refl w (λ_=>False)) hgl (λ_ _ _ q=>q) (by simp) (by simp) (by simp)⟩;have hW:=h.yI;refine h.E7 hp (λ_ _ h=>h) (λ_ _ h=>h) ⟨λo f hr=>?_,hW.fn,hW.ud,hW.lt,hW.dl⟩ rfl (λ_ _ _ _ q=>q.frame (Kp.refl w (λ_=>False)) hgl (λ_ _ _ q=>q) (λ_ _ e=>e));obtain⟨c,hc⟩:=hW.ok o f hr;obtain⟨c',_,_,_,_,_,h'⟩:=hp o f c hr hc;exact⟨c',h'⟩
theorem qT.start (h:qT B W I w xb bk mb sv D V s)(hg:cC s)(hI:I<=4611686018427387904)(hk:Kp w w' (λ_=>False))(hr:aC w' w.heap.size 100 (kY xb)):
  PR B W w' xb w.heap.size mb ⟨sv,s.mem,.slice none 0 0,0,⟨#[]⟩,0,bk⟩ {D with J:=s.ids} (jP s):=by
 have h1:=h.kp hk;have Nj:∀k,¬own (.slice none 0 0) k:=λk e=>by simp[own,Value.ownBlock] at e
 refine⟨⟨s.rs.reverse,⟨h1.bJ,hr,h1.dc,World.ownsRow_nil _ _ _ _,by rw[au];exact h.len⟩,λ_=>rfl⟩,rfl,rfl,by show(0:Int)<=0;decide,by show(0:Int)<=2000;decide,λ_=>rfl,rfl,⟨h1.E9,h.bx,h.bs,λk e=>e.elim (h.bv k) (λq=>ax q (Nj k)),h1.bs⟩,h.E8,h1.book,h1.words.aaM s.ids,λk e=>?_,h1.us,CA hg,⟨h.ids.1,by show s.ids<=s.ids+0;omega,by have:=h.ids.2;show s.ids<=_;omega⟩,h.Cm⟩;obtain⟨e0,e1,e2⟩:=h.sep k e;exact⟨aj e0 hk.size,e1,by show k≠w.heap.size;omega,e2,Nj k⟩
theorem RP (hE:Env B W)(h:qT B W I w xb bk mb sv D V s)(hI:I<=4611686018427387904)(hg:cC s)(t:ByteArray)(hv:cz t.data.toList=true)(g:Nat)(s1:St)(left:Bool)(hx:aI g (aT (Lib.fields t.data.toList)) (jP s)=some (s1,left)):
  Calls prog 18 #[pt xb,.string t] w λe w'=>e=.returned (.tuple #[.string s1.out,.int .i64 s1.e])/\∃V',AP B W (I+2000) w' xb V' (yE s1)/\To (λ_=>False) w w' V V':=by
 refine(WL hE.glo w xb bk sv s.mem t hv h.E9 h.bs h.bJ s1.e (λm' w3=>∃D',PR B W w3 xb w.heap.size mb m' D' s1/\Kp w w3 V/\m'.bk=bk/\(∀k,own m'.sv k->(own sv k\/D.u k)\/w.heap.size<=k)/\(∀k,D'.d k->D.d k\/w.heap.size<=k)/\(∀k,D'.u k->(own sv k\/D.u k)\/w.heap.size<=k)/\D'.J=s.ids) ?_).mono ?_
 ·intro w1 n v ws hk hb hT htx hok hl;have h1:=h.start hg hI hk hb;refine((aaL hE g).2.2.2 w1 xb w.heap.size mb _ {D with J:=s.ids} (jP s) s1 _ ws left h1 rfl hT hok hl (by rw[htx];exact hx)).mono ?_;rintro e w' ⟨rfl,m',D',hr,ht⟩;obtain⟨ns,hi,_⟩:=hr.inv;refine⟨m',ns,rfl,ht.bk,hi,D',hr,?_,ht.bk,λk e=>?_,λk e=>?_,λk e=>?_,ht.jj⟩
  ·have hkp:=ht.wt.kp;refine⟨hkp.os.trans hk.os,hkp.tape.trans hk.tape,hkp.output.trans hk.output,ai hk.size hkp.size,λk hlt hn=>?_⟩;refine(hkp.block k (aj hlt hk.size) ?_).trans (hk.block k hlt (by simp));rintro (((e|e)|e)|((e|e)|e))
   ·exact hn ((h.vs k).2 (.inl e))
   ·omega
   ·exact hn ((h.vs k).2 (.inr (.inr (.inl e))))
   ·exact hn ((h.vs k).2 (.inr (.inr (.inr (.inl e)))))
   ·simp[own,Value.ownBlock] at e
   ·exact hn ((h.vs k).2 (.inr (.inr (.inr (.inr (.inr e))))))
  ·rcases ht.wt.nx k (.inl (.inl e)) with ((q|q)|q)|q
   ·exact .inl (.inl q)
   ·simp[own,Value.ownBlock] at q
   ·exact .inl (.inr q)
   ·exact .inr (ai hk.size q)
  ·rcases ht.nw k e with q|q
   ·exact .inl q
   ·exact .inr (ai hk.size q)
  ·rcases ht.wt.nx k (.inr e) with ((q|q)|q)|q
   ·exact .inl (.inl q)
   ·simp[own,Value.ownBlock] at q
   ·exact .inl (.inr q)
   ·exact .inr (ai hk.size q)
 ·rintro e w' ⟨m',w3,⟨D',hr,hkp,hbk,QN,hD',hU',hJ⟩,rfl,hw⟩;refine⟨by rw[hr.out],?_⟩;obtain⟨ns,hi,hns⟩:=hr.inv;have hVn:∀(sv':Value),(∀k,own sv' k->own m'.sv k)->∀k,(k=xb\/k=bk\/k=mb\/own sv' k\/D'.d k\/D'.u k)->V k\/w.heap.size<=k:=by
   rintro sv' hs' k (e|e|e|e|e|e)
   ·exact .inl ((h.vs k).2 (.inl e))
   ·exact .inl ((h.vs k).2 (.inr (.inl e)))
   ·exact .inl ((h.vs k).2 (.inr (.inr (.inl e))))
   ·rcases QN k (hs' k e) with (q|q)|q
    ·exact .inl ((h.vs k).2 (.inr (.inr (.inr (.inl q)))))
    ·exact .inl ((h.vs k).2 (.inr (.inr (.inr (.inr (.inr q))))))
    ·exact .inr q
   ·rcases hD' k e with q|q
    ·exact .inl ((h.vs k).2 (.inr (.inr (.inr (.inr (.inl q))))))
    ·exact .inr q
   ·rcases hU' k e with (q|q)|q
    ·exact .inl ((h.vs k).2 (.inr (.inr (.inr (.inl q)))))
    ·exact .inl ((h.vs k).2 (.inr (.inr (.inr (.inr (.inr q))))))
    ·exact .inr q
  have mR:aC w3 bk 106 #[.map (some mb),.int .i64 s1.hot,.int .i64 s1.built]:=by have:=hr.book;rw[hbk] at this;exact this
  have o9:eP D' w3 bk mb s1.ay:=by have:=hr.words;rw[hbk] at this;exact this
  have ir:aC w3 xb 80 (nW bk m'.sv s1.mem):=by have:=hi.bJ;rw[hbk,hr.mem] at this;exact this
  have uY:0<=s1.ids/\s1.ids<=I+2000:=by have h1:=hr.ids;have h2:=hr.Di;have h3:=h.ids.2;rw[hJ] at h1;omega
  have hnb:¬D'.d bk:=λe=>(hD' bk e).elim h.nb (λq=>by have:=h.book.lt;omega);by_cases he:s1.e=0
  ·rw[ag he] at hw;subst hw;have hee:yE s1=s1:=by unfold yE;rw[ag he]
   rw[hee];refine⟨λk=>k=xb\/k=bk\/k=mb\/own m'.sv k\/D'.d k\/D'.u k,⟨bk,mb,m'.sv,D',⟨ir,?_,?_,hr.safe.E9,hr.safe.bx,λk e=>hr.safe.bv k (.inl e),hr.safe.bs,hr.E8,mR,o9,λk e=>?_,hr.us,hnb,h.Te,λk=>Iff.rfl,uY,hr.Cm⟩⟩,⟨hkp.mono (λk _ e=>.inr e),hVn m'.sv (λ_ e=>e)⟩⟩
   ·rw[<-hns he];exact hi.dc
   ·have:=hi.len;rw[hns he,au] at this;exact this
   ·obtain⟨q0,q1,q2,q3,q4⟩:=hr.sep k e;exact⟨q0,q1,q3⟩
  ·rw[af he] at hw;subst hw;have hee:yE s1={s1 with rs:=[]}:=by unfold yE;rw[af he]
   rw[hee];have fS:Kp w3 (w3.setCell ⟨xb,0,none⟩ (.slice none 0 0)) (λk=>k=xb):=Kp.one _ _ _ _;have Nj:∀k,¬own (.slice none 0 0) k:=λk e=>by simp[own,Value.ownBlock] at e
   have Ym:∀k,D'.u k->¬k=xb:=λk e=>(hr.ux e).1;obtain⟨nY,hwd⟩:=o9.yI.out fS Ym (λk e=>(hr.sep k e).2.1);refine⟨λk=>k=xb\/k=bk\/k=mb\/own (.slice none 0 0) k\/D'.d k\/D'.u k,⟨bk,mb,.slice none 0 0,D',⟨ir.set 0 _,World.ownsRow_nil _ _ _ _,by show(0:Nat)<=32;decide,hr.safe.E9.trans (fS.below hr.safe.bs (λk hk e=>by have:=hr.safe.bx;omega)),hr.safe.bx,λk e=>ax e (Nj k),ai hr.safe.bs fS.size,hr.E8,fS.blk mR (λe=>by subst e;exact ax (mR.inj hi.bJ).1 (by decide)),o9.E7 nY (λ_ _ h=>h) (λ_ _ h=>h) hwd (fS.block mb o9.Mz (λe=>o9.ne hi.bJ e)) (λ_ _ _ _ q=>q.out fS Ym (λk e=>(hr.sep k e).2.1)),λk e=>?_,λk e=>?_,hnb,h.Te,λk=>Iff.rfl,uY,hr.Cm⟩⟩,⟨?_,hVn (.slice none 0 0) (λk e=>ax e (Nj k))⟩⟩
   ·obtain⟨q0,q1,q2,q3,q4⟩:=hr.sep k e;exact⟨aj q0 fS.size,q1,Nj k⟩
   ·obtain⟨q0,q1,q2⟩:=hr.us k e;refine⟨q0,q1,?_⟩;rcases q2 with⟨c,hc⟩|⟨n,DD,hm⟩
    ·exact .inl ⟨c,fS.blk hc (Ym k e)⟩
    ·exact .inr ⟨n,DD,aL hm (fS.block k hm.lt (Ym k e))⟩
   ·refine⟨fS.os.trans hkp.os,fS.tape.trans hkp.tape,fS.output.trans hkp.output,ai hkp.size fS.size,λk hlt hn=>?_⟩;exact(fS.block k (aj hlt hkp.size) (λe=>hn (.inr ((h.vs k).2 (.inl e))))).trans (hkp.block k hlt (λe=>hn (.inr e)))
end
theorem vK:∀(a b:List Tok),a.Nodup->(∀x∈a,x∈b)->b.length<=a.length->a.Perm b
 | [],b,_,_,h=>by
  have:b=[]:=List.length_eq_zero_iff.1 (by simpa using h);subst this;exact List.Perm.refl _
 | x::a,b,hn,hs,hl=>by
  rw[List.nodup_cons] at hn;have hx:x∈b:=hs x (by simp);have hp:=List.perm_cons_erase hx;have hle:=hp.length_eq;simp only[aq] at hle hl;refine((vK a (b.erase x) hn.2 (λy hy=>?_) (by omega)).cons x).trans hp.symm;have hne:y≠x:=by rintro rfl;exact hn.1 hy
  exact(List.mem_erase_of_ne hne).2 (hs y (by simp[hy]))
theorem qU (x:Tok):∀(l:List Tok),(mg x l).Perm (x::l)
 | []=>List.Perm.refl _
 | b::r=>by
  unfold mg
  split
  ·exact((qU x r).cons b).trans (List.Perm.swap x b r)
  ·exact List.Perm.refl _
theorem sG (x:Tok):∀(l:List Tok),l.Pairwise (λa b=>leB b a=true)->(mg x l).Pairwise (λa b=>leB b a=true)
 | [],_=>by simp[mg]
 | b::r,h=>by
  rw[List.pairwise_cons] at h;unfold mg;by_cases hx:Op.bytesLess x b=true
  ·rw[ag hx,List.pairwise_cons];refine⟨λy hy=>?_,sG x r h.2⟩;rcases List.mem_cons.1 ((qU x r).mem_iff.1 hy) with e|e
   ·subst e;rw[bytesLess_eq] at hx;simp only[leB,decide_eq_true_eq] at hx ⊢;exact List.le_of_lt hx
   ·exact h.1 y e
  ·rw[af hx,List.pairwise_cons,List.pairwise_cons];have Tx:leB b x=true:=by
    rw[bytesLess_eq] at hx;simp only[leB,decide_eq_true_eq] at hx ⊢;exact List.not_lt.1 hx
   refine⟨λy hy=>?_,h⟩;rcases List.mem_cons.1 hy with e|e
   ·subst e;exact Tx
   ·have:=h.1 y e;simp only[leB,decide_eq_true_eq] at this Tx ⊢;exact List.le_trans this Tx
theorem Fy (l:List Tok):(jk l).Perm l/\(jk l).Pairwise (λa b=>leB b a=true):=by
 have key:∀(l rp:List Tok),rp.Pairwise (λa b=>leB b a=true)->(l.foldl (λrp x=>mg x rp) rp).Perm (l++rp)/\(l.foldl (λrp x=>mg x rp) rp).Pairwise (λa b=>leB b a=true):=by
  intro l
  induction l with
  | nil=>intro rp h;exact⟨List.Perm.refl _,h⟩
  | cons x l ih=>
   intro rp h;obtain⟨h1,h2⟩:=ih (mg x rp) (sG x rp h);refine⟨h1.trans (((qU x rp).append_left l).trans ?_),h2⟩;exact List.perm_middle
 have:=key l [] List.Pairwise.nil;rw[List.append_nil] at this;exact this
theorem AR (l ss:List Tok)(h:ss.Perm l):ss.mergeSort leB=pT l:=by
 obtain⟨h1,h2⟩:=Fy l;have tr:∀a b c:List UInt8,leB a b=true->leB b c=true->leB a c=true:=λa b c h1 h2=>by simp only[leB,decide_eq_true_eq] at *;exact List.le_trans h1 h2
 have tot:∀a b:List UInt8,(leB a b||leB b a)=true:=λa b=>by simp only[leB,Bool.or_eq_true,decide_eq_true_eq];exact List.le_total a b
 refine List.Perm.eq_of_pairwise (le:=λa b=>leB a b=true) (λa b _ _ h1 h2=>?_) (List.pairwise_mergeSort tr tot ss) ?_ (((List.mergeSort_perm ss leB).trans h).trans ?_)
 ·simp only[leB,decide_eq_true_eq] at h1 h2;exact List.le_antisymm h1 h2
 ·unfold pT;exact List.pairwise_reverse.2 h2
 ·exact h1.symm.trans (List.reverse_perm _).symm
theorem eP.keys {D:GD}{w:World}{bk mb:Nat}{ay:List Def}(h:eP D w bk mb ay):∃DD,w.ownsMap prog 9 bQ mb ay.length DD/\Maps.size DD=ay.length/\ay.length<=30/\(strKeys DD).Perm (ay.map Def.name):=by
 obtain⟨obs,DD,hwr⟩:=h;have hown:=hwr.mp;have hsz:=hwr.sz;have hhas:=hwr.hs;refine⟨DD,hown,hsz,hwr.KQ,?_⟩;have hle:=strKeys_le hown underlying9;obtain⟨es,hD,hpw,_⟩:=hown.entries (Maps.string_keyed underlying9);obtain⟨es',hD',hko⟩:=hown.keysOf;obtain rfl:es=es':=by rw[hD] at hD';simpa using hD'
 subst hD;have hk:∀p∈es,∃x,p.1=.string x:=λp hp=>by obtain⟨v,hv⟩:=hko p hp;obtain⟨x,_,hx,_⟩:=Maps.keyOf_str underlying9 hv;exact⟨x,hx⟩
 refine vK _ _ ?_ (λx hx=>?_) ?_
 ·show(es.map λp=>strOf p.1).Nodup;refine List.pairwise_map.2 (hpw.imp_of_mem λ{p q} hp' hq' hne e=>hne ?_);obtain⟨a,ha⟩:=hk p hp';obtain⟨b,hb⟩:=hk q hq';rw[ha,hb] at e ⊢;exact congrArg _ e
 ·have hl:=hle x hx;have:=hhas x hl;have hin:Maps.has (.map es) (.string x)=true:=by
   obtain⟨p,hp,rfl⟩:=List.mem_map.1 hx;obtain⟨a,ha⟩:=hk p hp;rw[Maps.has_eq,List.any_eq_true];exact⟨p,hp,by rw[ha];simp[Lit.sameKey,strOf]⟩
  rw[hin] at this;obtain⟨i,hi⟩:=Option.isSome_iff_exists.1 this.symm;obtain⟨hlt,hp,_⟩:=List.findIdx?_eq_some_iff_getElem.1 hi;exact List.mem_map.2 ⟨ay[i],List.getElem_mem hlt,beq_iff_eq.1 hp⟩
 ·show(ay.map Def.name).length<=(es.map λp=>strOf p.1).length;have hsz:es.length=ay.length:=hsz;rw[List.length_map,List.length_map,hsz];exact ah _
section
variable {B:Nat}{I:Int}{W w w':World}{xb bk mb:Nat}{sv:Value}{D:GD}{V:Nat->Prop}{s:St}
theorem RQ (w:World)(bk mb n:Nat)(DD:DataW Value){hh bl:Value}(hb:aC w bk 106 #[.map (some mb),hh,bl])(hown:w.ownsMap prog 9 bQ mb n DD)(mD:Maps.size DD<=30):
  Calls prog 53 #[pt bk] w λe w'=>∃(v:Value) (ss:List (List UInt8)),e=.returned v/\ss.Perm (strKeys DD)/\w'.ownsRow w.heap.size 9 1 v ss.length ((ss.mergeSort leB).map encStr)/\Below w.heap.size w w':=by
 have HK:=az (λw=>callsIn_wide.1 (Tryz.maps_Keys_65 (some mb) w));have HS:=az (callsIn_wide.1 (Tryz.slices_Sorted_keys_64_65 mb n DD bQ w hown (by unfold maxLen;omega) (by omega)));have c0:w.cell? ⟨bk,0,none⟩=some (.map (some mb)):=hb.cell rfl;clear hown;go_enter func53,ntmps53
 go_wp2_with fail
 refine(HK.out _).mono ?_;rintro e w1 ⟨rfl,rfl⟩
 go_wp2_with fail
 refine HS.out.mono ?_;rintro e w1 ⟨v,ss,rfl,hp,aJ,hnil,hbl⟩;have HR:=az aJ;have HB:=az hbl;have HP:=az hp;clear aJ hbl hnil hp;go_wp2;go_ret;exact⟨v,ss,rfl,HP.out,ownsRow_base_a HR.out (by simp),((Below.refl _ w).alloc (ah _) _).trans (HB.out.mono (by simp))⟩
theorem RR (h:qT B W I w xb bk mb sv D V s):
  Calls prog 33 #[pt xb] w λe w'=>∃v,e=.returned v/\(∃L:List ByteArray,w'.ownsRow w.heap.size 9 1 v L.length (L.map Value.string)/\aD L=o5 s)/\∃V',AP B W I w' xb V' s/\To (λ_=>False) w w' V V'/\∀k,own v k->¬V' k:=by
 obtain⟨DD,hown,hsz,mD,hperm⟩:=h.words.keys;have HN:=az (RQ w bk mb _ DD h.book hown (by omega));have c17:w.cell? ⟨xb,17,none⟩=some (pt bk):=h.bJ.cell rfl;have H:=az h;have HP:=az hperm;clear h hown hperm;go_enter func33,ntmps33
 go_wp2_with fail
 refine HN.out.mono ?_;rintro e w1 ⟨v,ss,rfl,hp,aJ,hbl⟩;have HR:=az aJ;have HB:=az hbl;have HQ:=az hp;clear aJ hbl hp;go_wp2;go_ret;refine⟨v,rfl,⟨(ss.mergeSort leB).map λl=>⟨l.toArray⟩,?_,?_⟩,V,⟨bk,mb,sv,D,H.out.kp (Kp.mY HB.out)⟩,⟨(Kp.mY HB.out).mono (λ_ _ e=>e),λk e=>.inl e⟩,λk e hv=>?_⟩
 ·have:=HR.out;rw[List.map_map,List.length_map,(List.mergeSort_perm ss leB).length_eq];exact this
 ·unfold aD o5;rw[List.map_map,<-AR _ ss (HQ.out.trans HP.out)];exact List.map_id _
 ·have h1:=(HR.out.lt k e).1;have h2:=H.out.lt k hv;omega
end
theorem JT:(prog.info? 3).map (λi=>(i.zero,i.size,i.bytes))=some (some (.int .i64 0),1,8):=by kernel_rfl
section
variable {B:Nat}{I:Int}{W w w':World}{xb bk mb:Nat}{sv:Value}{D:GD}{V:Nat->Prop}{s:St}
structure RT (w wr:World)(ns:List Int)(k:Nat):Prop where
 blk:∃c:Array Value,aC wr w.heap.size 3 c/\c.size=ns.length/\(∀i (h:i<ns.length),i<k->c[i]? = some (.int .i64 ns[i]))/\∀i,i<ns.length->¬i<k->c[i]? = some (.int .i64 0)
 kp:Kp w wr (λ_=>False)
theorem RU (w:World)(xb bk:Nat)(sv:Value)(mem:Nat->Int)(ns:List Int)(h:aC w xb 80 (nW bk sv mem))(aJ:w.ownsRow 0 2 1 sv ns.length (bD ns))(hin:∀n∈ns,In n)(hl:ns.length<=32):
  Calls prog 46 #[pt xb] w λe w'=>e=.returned (.slice (some ⟨w.heap.size,0,none⟩) ns.length ns.length)/\RT w w' ns ns.length:=by
 have hmk:=run_make_row' 34 3 (.int .i64 0) 8 underlying34 JT rfl .i64 .i64 ns.length (by omega) (by omega) w;have c0:w.cell? ⟨xb,0,none⟩=some sv:=h.cell rfl;obtain⟨ao,cap,rfl⟩:=iu aJ;have h0:Hid (RT w (w.alloc (.cells (madeCells #[.int .i64 0] ns.length) 3)) ns 0):=⟨⟨_,aC.new _ _ _,size_madeCells _ _,λi _ hi=>by omega,λi hi _=>by simp[madeCells,hi,Nat.mod_one]⟩,(Kp.refl _ _).alloc _⟩;have HX:=az h;have HR:=az aJ;have c1:(w.alloc (.cells (madeCells #[.int .i64 0] ns.length) 3)).cell? ⟨xb,0,none⟩=some (.slice ao ns.length cap):=(h.alloc _).cell rfl;clear h aJ;go_enter func46,ntmps46;go_wp2
 go_loopw [17] (λi wr=>∃k:Nat,k<=ns.length/\i=.int .i64 k/\RT w wr ns k) (λi _=>ns.length-(intOf i).toNat)
 case atStart=>exact⟨0,Nat.zero_le _,rfl,h0.out⟩
 case round=>
  obtain⟨k,hk,rfl,⟨⟨c,hb,hcs,h1,h2⟩,hkp⟩⟩:=hrel;by_cases hlt:k<ns.length
  ·have aJ:=hkp.row HR.out (by simp);obtain⟨gd,cap',hv,hcell⟩:=bE aJ (by omega);injection hv with e1 e2 e3;subst e1;clear e2 e3;have c2:=hcell _ _ (show(bD ns)[k]? = some (.int .i64 ns[k]) by simp[bD,hlt]);have c3:wr.cell? ⟨w.heap.size,k,none⟩=some (.int .i64 0):=hb.cell (h2 k hlt (by omega));have f3:=hb.free k;have hIn:=hin _ (List.getElem_mem hlt);have H1:Hid (RT w (wr.setCell ⟨w.heap.size,k,none⟩ (.int .i64 ns[k])) ns (k+1)):=by
    refine⟨⟨c.setIfInBounds k (.int .i64 ns[k]),hb.set k _,by simpa using hcs,λi hi hik=>?_,λi hi hik=>?_⟩,?_⟩
    ·by_cases e:i=k
     ·subst e;rw[Array.getElem?_setIfInBounds_self,ag (by omega)]
     ·rw[Array.getElem?_setIfInBounds_ne (λq=>e q.symm)];exact h1 i hi (by omega)
    ·rw[Array.getElem?_setIfInBounds_ne (by omega)];exact h2 i hi (by omega)
    ·exact Kp.newer hkp (Kp.one _ _ _ _) (ah _)
   generalize ns[k]=nk at *;clear aJ hcell hb h1 h2 hkp hcs;go_wp2
   go_round
   case rel=>exact⟨k+1,by omega,by go_num,H1.out⟩
   case measure=>simp[intOf];omega
  ·have hkn:k=ns.length:=by omega
   subst hkn;have H1:Hid (RT w wr ns ns.length):=⟨⟨c,hb,hcs,h1,h2⟩,hkp⟩;clear hb h1 h2 hkp hcs;go_wp2;go_ret;exact⟨rfl,H1.out⟩
theorem RT.row {wr:World}{ns:List Int}(h:RT w wr ns ns.length)(hl:ns.length<=32):wr.ownsRow w.heap.size 3 1 (.slice (some ⟨w.heap.size,0,none⟩) ns.length ns.length) ns.length (bD ns):=by
 obtain⟨c,hb,hcs,h1,_⟩:=h.blk;refine⟨by simp[bD],.inr ⟨_,_,c,rfl,ah _,hb,ah _,by unfold maxLen;omega,by omega,?_⟩⟩;rw[Nat.mul_one,List.take_of_length_le (by simp[hcs])]
 apply List.ext_getElem?
 intro i;by_cases hi:i<ns.length
 ·rw[Array.getElem?_toList,h1 i hi hi];simp[bD,hi]
 ·rw[List.getElem?_eq_none (by simp[hcs];omega),List.getElem?_eq_none (by simp[bD];omega)]
theorem RV (h:qT B W I w xb bk mb sv D V s)(hg:cC s):
  Calls prog 19 #[pt xb] w λe w'=>∃v,e=.returned v/\w'.ownsRow w.heap.size 3 1 v s.rs.length (bD s.rs.reverse)/\∃V',AP B W I w' xb V' s/\To (λ_=>False) w w' V V'/\∀k,own v k->¬V' k:=by
 have hl:=h.len;have HS:=az (RU w xb bk sv s.mem s.rs.reverse h.bJ h.dc (λn hn=>hg.g.ins n (List.mem_reverse.1 hn)) (by rw[au];exact h.len));have H:=az h;have hxl:=h.bJ.lt;clear h;go_enter func19,ntmps19
 go_wp2_with fail
 refine HS.out.mono ?_;rintro e w1 ⟨rfl,hst⟩;have HT:=az hst;clear hst;go_wp2;go_ret;have aJ:=HT.out.row (by rw[au];exact hl);refine⟨_,rfl,by have:=aJ;simpa using this,V,⟨bk,mb,sv,D,H.out.kp HT.out.kp⟩,⟨HT.out.kp.mono (λ_ _ e=>e.elim),λk e=>.inl e⟩,λk e hv=>?_⟩;have h1:=(aJ.lt k e).1;have h2:=H.out.lt k hv;omega
theorem RX (h:qT B W I w xb bk mb sv D V s)(n:Int):
  Calls prog 39 #[pt xb,.int .i64 n] w λe w'=>e=.returned (.tuple #[.int .i64 (jQ s n).1,.int .i64 (jQ s n).2])/\∃V',AP B W I w' xb V' s/\To (λ_=>False) w w' V V':=by
 have HS:=az (WK w xb bk sv s.mem h.bJ n);have hh:jQ s n=if n<0\/16<=n then((0:Int),(10:Int)) else(s.mem n.toNat,0):=rfl;rw[<-hh] at HS;clear hh;generalize jQ s n=cc at *;have H:=az h;have hxl:=h.bJ.lt;clear h;go_enter func39,ntmps39
 go_wp2_with fail
 refine HS.out.mono ?_;rintro e w1 ⟨rfl,hk⟩;have HK:=az hk;clear hk;go_wp2;go_ret2;exact⟨rfl,H.out.to HK.out⟩
end
theorem aaO (w:World):Calls prog 27 #[] w λe w'=>∃xb bk mb,e=.returned (.pointer (some ⟨xb,0,none⟩))/\Kp w w' (λ_=>False)/\w.heap.size<=xb/\w.heap.size<=bk/\w.heap.size<=mb/\aC w' xb 80 (nW bk (.slice none 0 0) (λ_=>0))/\aC w' bk 106 #[.map (some mb),.int .i64 5,.int .i64 1]/\w'.ownsMap prog 9 bQ mb 0 (.map []):=by
 have hmm:=run_makeMap (P:=prog) 104 w;go_enter func27,ntmps27
 go_wp2_with (go_at_call 51;go_in)
 go_ret;refine⟨_,w.heap.size+1,w.heap.size,rfl,(((Kp.refl _ _).alloc _).alloc _).alloc _,by omega,by omega,ah _,aC.new2 w _ _ _ _,(aC.new1 w _ _ _).alloc _,?_⟩;exact((World.ownsMap_made w prog 9 bQ).alloc _).alloc _
def noG:GD:=⟨λ_=>False,λ_=>False,λ_ _=>False,λ_=>(0,0),0⟩
theorem RY (w:World)(bk mb:Nat)(h:w.ownsMap prog 9 bQ mb 0 (.map [])):eP noG w bk mb []:=
 ⟨[],.map [],rfl,h,rfl,λt _=>rfl,by decide,λt _=>rfl,λi j hi=>ax hi (Nat.not_lt_zero _),⟨λ_ _ h=>h.elim,λ_ _ _ h=>h.elim,λ_ h=>h.elim,λ_ h=>h.elim,λ_ h=>h.elim⟩,λk hk=>ax hk (Nat.not_lt_zero _),λ_ _ h=>h.elim,⟨λk hk=>ax hk (Nat.not_lt_zero _),λi _ hi=>ax hi (Nat.not_lt_zero _),λk hk=>ax hk (Nat.not_lt_zero _)⟩,λ_ hd=>(by cases hd),λ_ hd=>(by cases hd)⟩
section
variable {B:Nat}{I:Int}{W:World}
theorem aaP (w:World)(hI:0<=I)(hb:Below B W w)(hs:B<=w.heap.size):Calls prog 27 #[] w λe w'=>∃xb V,e=.returned (.pointer (some ⟨xb,0,none⟩))/\AP B W I w' xb V st0/\Kp w w' (λ_=>False)/\∀k,V k->w.heap.size<=k:=by
 refine(aaO w).mono ?_;rintro e w' ⟨xb,bk,mb,rfl,hk,h1,h2,h3,b1,b2,hm⟩;have Nj:∀k,¬own (.slice none 0 0) k:=λk e=>by simp[own,Value.ownBlock] at e
 refine⟨xb,λk=>k=xb\/k=bk\/k=mb\/own (.slice none 0 0) k\/False\/False,rfl,⟨bk,mb,.slice none 0 0,noG,⟨b1,World.ownsRow_nil _ _ _ _,by decide,hb.trans (hk.below hs (λ_ _ e=>e)),by omega,λk e=>ax e (Nj k),ai hs hk.size,by omega,b2,RY _ _ _ hm,λk e=>e.elim,λk e=>e.elim,λe=>e.elim,by omega,λk=>Iff.rfl,⟨Int.le_refl _,hI⟩,λ_ _ e=>e.elim⟩⟩,hk,?_⟩;rintro k (e|e|e|e|e|e)
 ·omega
 ·omega
 ·omega
 ·exact ax e (Nj k)
 ·exact e.elim
 ·exact e.elim
end
end
section
open Go.ChangeShapes Go.WideShapes Go.ChangeAt Go.RowKit
theorem aaQ : prog.globalNamed "internal/strconv.uint64pow10" = some 5 := by kernel_rfl
theorem aaR : prog.globalNamed "strings.asciiSpace" = some 0 := by kernel_rfl
theorem WM : prog.globalNamed "anvil/token.spellings" = some 1 := by kernel_rfl
theorem aaS:(prog.globals[5]?).map (·.type)=some 294:=by kernel_rfl
theorem aaT:(prog.globals[0]?).map (·.type)=some 130:=by kernel_rfl
theorem aaU:(prog.globals[1]?).map (·.type)=some 142:=by kernel_rfl
theorem aaV:(Rows.laid_internal_strconv_uint64pow10:DataW Unit)=Lib.tabData .u64 Lib.pow10Tab:=by rfl
theorem aaW:(Rows.laid_strings_asciiSpace:DataW Unit)=Lib.tabData .u8 Lib.asciiSpaceTab:=by rfl
theorem aaX:(Rows.laid_anvil_token_spellings:DataW Unit)=.agg (qV.map λs=>.lit (.string s.data.toList)):=by rfl
theorem vL {H:Type}{enc:TypeId × Value->H}{P:Program}{w:World}{base:Nat}{sp:Nat->Bool}{held:Bool}{fuel:Nat}{t e:TypeId}{n:Nat}{cs:List Value}{zs:List ByteArray}{p:List MemPlace}
  (ht:P.underlying t=some (.array n e)) (he:P.underlying e=some .string) (hce:P.cellsOf e=1) (hct:P.cellsOf t=n)
  (h:DataW.trod enc P w base sp held fuel t cs=some (.agg (zs.map λs=>.lit (.string s.data.toList)),p)):cs=zs.map Value.string:=by
 obtain⟨xs,m,_,hx,hlen,hxl,hel⟩:=DataW.trod_array ht h;simp only[Prod.mk.injEq,DataW.agg.injEq] at hx;have hzl:zs.length=n:=by have:=congrArg List.length hx.1;simp at this;omega
 apply List.ext_getElem?
 intro i;by_cases hi:i<n
 ·have h1:=hel i hi;rw[hce,Nat.mul_one,List.getElem?_eq_getElem (by omega)] at h1;obtain⟨s,e1,e2,_⟩:=DataW.trod_string he h1;have h2:(xs.map (·.1))[i]? = some (.lit (.string s.data.toList)):=by rw[List.getElem?_map,List.getElem?_eq_getElem (by omega),Option.map_some,e2]
  rw[<-hx.1,List.getElem?_map,List.getElem?_eq_getElem (by omega)] at h2;simp only[Option.map_some,Option.some.injEq,DataW.lit.injEq,Lit.string.injEq] at h2;have h3:zs[i]'(by omega)=s:=by apply ByteArray.ext;exact Array.toList_inj.1 h2
  have h4:cs[i]? = some (.string s):=by
   have:=congrArg (·[0]?) e1
   simpa [List.getElem?_take,List.getElem?_drop] using this
  rw[h4,List.getElem?_map,List.getElem?_eq_getElem (by omega),h3];rfl
 ·rw[List.getElem?_eq_none (by omega),List.getElem?_eq_none (by simp;omega)]
theorem Tryz.own:ownKnob prog.godebug=none:=by kernel_rfl
theorem Tryz.laidOut:laidOutB prog=true:=by kernel_rfl
theorem DF {W:World}(h:laidMetH prog Rows.runsUptoRow.laid W):Env W.heap.size W:=by
 rw[MakeChecks.laidMetH_plain _ _ _ (by kernel_rfl)] at h;obtain⟨ps,h,_⟩:=h;simp only[Rows.runsUptoRow] at h;obtain⟨_,_,_,_,_,_,_,_,_,_,h,_⟩:=h;obtain⟨_,_,_,_,_,_,_,_,_,_,h,_⟩:=h;obtain⟨g2,t2,cs2,f2,p2,q2,hg2,ht2,hv2,hd2,h,_⟩:=h;obtain⟨_,_,_,_,_,_,_,_,_,_,h,_⟩:=h;obtain⟨_,_,_,_,_,_,_,_,_,_,h,_⟩:=h;obtain⟨_,_,_,_,_,_,_,_,_,_,h,_⟩:=h;obtain⟨g6,t6,cs6,f6,p6,q6,hg6,ht6,hv6,hd6,h,_⟩:=h;obtain⟨g7,t7,cs7,f7,p7,q7,hg7,ht7,hv7,hd7,h,_⟩:=h;obtain rfl:=Option.some.inj (aaQ.symm.trans hg2);obtain rfl:=Option.some.inj (aaR.symm.trans hg6);obtain rfl:=Option.some.inj (WM.symm.trans hg7);obtain rfl:=Option.some.inj (aaS.symm.trans ht2);obtain rfl:=Option.some.inj (aaT.symm.trans ht6);obtain rfl:=Option.some.inj (aaU.symm.trans ht7);rw[aaV] at hd2;rw[aaW] at hd6;rw[aaX] at hd7;have e2:=Lib.cells_of_tab underlying294 underlying177 (by kernel_rfl) (by kernel_rfl) hd2;have e6:=Lib.cells_of_tab underlying130 underlying5 (by kernel_rfl) (by kernel_rfl) hd6;have e7:=vL underlying142 underlying9 (by kernel_rfl) (by kernel_rfl) hd7
 have hPow : Lib.TabIs prog W "internal/strconv.uint64pow10" .u64 Lib.pow10Tab := by unfold Lib.TabIs; rw [hv2, ← e2]
 have aaY : Lib.TabIs prog W "strings.asciiSpace" .u8 Lib.asciiSpaceTab := by unfold Lib.TabIs; rw [hv6, ← e6]
 have hSp:∃tt fr,W.heap[1]? = some (.cells bY tt fr):=by
  unfold World.var? at hv7;rw[WM] at hv7;simp only[Option.bind_some] at hv7
  split at hv7
  ·rename_i c tt fr hh
   injection hv7 with hv7;refine⟨tt,fr,?_⟩;rw[hh];have:c=bY:=by
    rw[hv7]
    apply Array.toList_inj.1
    rw[e7];rfl
   rw[this]
  ·cases hv7
 obtain⟨tt,fr,hh⟩:=hSp;exact⟨⟨Lib.tabBelow_of_tabIs hPow,Lib.tabBelow_of_tabIs aaY,ah _⟩,⟨tt,fr,hh⟩,lt_of_block hh⟩
theorem Tryz.Fz:prog.cellsOf 30=5:=by kernel_rfl
theorem JU {H:Type}{enc:TypeId × Value->H}{W:World}{base:Nat}{sp:Nat->Bool}{held:Bool}{n b off i:Nat}{cs:List Value}{x:DataW H × List MemPlace}
  (h1:W.cells? base ((⟨b,off,none⟩:Addr).add (i*5)) 5=some cs) (h2:DataW.trod enc prog W base sp held n 30 cs=some x):∃K A N M S,Vu W b off i K A N M S/\∃ps,x.1=.agg ps/\ps.length=5:=by
 obtain⟨_,hlen,hc⟩:=World.cells?_some h1;obtain⟨xs,m,_,aY,_,hxl,hf⟩:=DataW.trod_struct underlying30 h2;have aaZ:xs.length=5:=hxl
 match cs,hlen with
 | [c0,c1,c2,c3,c4],_=>
  have f0 : DataW.trod enc prog W base sp held m 3 (([c0, c1, c2, c3, c4].drop 0).take (prog.cellsOf 3))=xs[0]? := hf 0 {name := "Kind", type := 3, offset := 0, embedded := false, tag := "", pkgPath := "", byteOffset := 0} rfl
  have f1 : DataW.trod enc prog W base sp held m 3 (([c0, c1, c2, c3, c4].drop 1).take (prog.cellsOf 3))=xs[1]? := hf 1 {name := "A", type := 3, offset := 1, embedded := false, tag := "", pkgPath := "", byteOffset := 8} rfl
  have f2 : DataW.trod enc prog W base sp held m 3 (([c0, c1, c2, c3, c4].drop 2).take (prog.cellsOf 3))=xs[2]? := hf 2 {name := "N", type := 3, offset := 2, embedded := false, tag := "", pkgPath := "", byteOffset := 16} rfl
  have f3 : DataW.trod enc prog W base sp held m 3 (([c0, c1, c2, c3, c4].drop 3).take (prog.cellsOf 3))=xs[3]? := hf 3 {name := "M", type := 3, offset := 3, embedded := false, tag := "", pkgPath := "", byteOffset := 24} rfl
  have f4 : DataW.trod enc prog W base sp held m 9 (([c0, c1, c2, c3, c4].drop 4).take (prog.cellsOf 9))=xs[4]? := hf 4 {name := "S", type := 9, offset := 4, embedded := false, tag := "", pkgPath := "", byteOffset := 32} rfl
  rw[Tryz.GU] at f0 f1 f2 f3;rw[Tryz.GS] at f4;rw[List.getElem?_eq_getElem (by omega)] at f0 f1 f2 f3 f4;simp only[List.drop_zero,List.drop_succ_cons,List.take_succ_cons,List.take_zero] at f0 f1 f2 f3 f4;obtain⟨K,e0,_,w0⟩:=DataW.trod_int underlying3 f0;obtain⟨A,e1,_,w1⟩:=DataW.trod_int underlying3 f1;obtain⟨N,e2,_,w2⟩:=DataW.trod_int underlying3 f2;obtain⟨M,e3,_,w3⟩:=DataW.trod_int underlying3 f3;obtain⟨S,e4,_,w4⟩:=DataW.trod_string underlying9 f4;simp only[List.cons.injEq,and_true] at e0 e1 e2 e3 e4;subst e0 e1 e2 e3 e4;have hadd:∀j,((⟨b,off,none⟩:Addr).add (i*5)).add j=⟨b,off+i*5+j,none⟩:=by
   intro j;have h1:(⟨b,off,none⟩:Addr).add (i*5)=⟨b,off+i*5,none⟩:=by unfold Addr.add;split <;> simp_all
   have h2:(⟨b,off+i*5,none⟩:Addr).add j=⟨b,off+i*5+j,none⟩:=by unfold Addr.add;split <;> simp_all
   rw[h1,h2]
  have g0:=hc 0 (by omega);have g1:=hc 1 (by omega);have g2:=hc 2 (by omega);have g3:=hc 3 (by omega);have g4:=hc 4 (by omega);rw[hadd] at g0 g1 g2 g3 g4;exact⟨K,A,N,M,S,⟨g0,g1,g2,g3,g4,bounds_i64 w1,bounds_i64 w2⟩,_,by rw[aY],by rw[List.length_map];exact aaZ⟩
theorem JV {H:Type}(d:DataW H):1<=Rows.uptoBulk d:=by
 cases d with
 | lit l=>cases l <;> simp[Rows.uptoBulk]
 | nil=>simp[Rows.uptoBulk]
 | ptr d=>simp[Rows.uptoBulk]
 | slice elems spare=>simp[Rows.uptoBulk]
 | agg parts=>simp[Rows.uptoBulk]
 | iface t d=>simp[Rows.uptoBulk]
 | map entries=>simp[Rows.uptoBulk]
 | held h=>simp[Rows.uptoBulk]
theorem AU {H:Type}:∀(l:List (DataW H)),l.length<=Rows.uptoBulkAll l
 | []=>by simp[Rows.uptoBulkAll]
 | x::r=>by have:=AU r;have:=JV x;simp only[Rows.uptoBulkAll,aq];omega
theorem AV {H:Type}:∀(l:List (DataW H)),(∀d∈l,∃ps,d=.agg ps/\ps.length=5)->6*l.length<=Rows.uptoBulkAll l
 | [],_=>by simp[Rows.uptoBulkAll]
 | x::r,h=>by
  have h1:=AV r (λd hd=>h d (List.mem_cons_of_mem _ hd));obtain⟨ps,rfl,h2⟩:=h x List.mem_cons_self;have h3:=AU ps;simp only[Rows.uptoBulkAll,Rows.uptoBulk,aq];omega
theorem CD {H:Type}{elems spare:List (DataW H)}(h:Rows.uptoSmall H [.slice elems spare]=true)(h6:∀d∈elems,∃ps,d=.agg ps/\ps.length=5):elems.length<=174762:=by
 have h:=of_decide_eq_true h;have:=AV elems h6;simp only[Rows.uptoBulkAll,Rows.uptoBulk] at h;omega
theorem xY {H:Type}{enc:TypeId × Value->H}{W:World}{base:Nat}{v0:Value}{d0:DataW H}{p:List MemPlace}(hv:Value.okWide prog W .any base 22 v0)(h0:DataW.Trod enc prog W 0 (λ_=>true) true 22 v0 d0 p)
  (hsm:Rows.uptoSmall H [d0]=true):∃ao len cap,v0=.slice ao len cap/\(len=0\/∃b off,ao=some ⟨b,off,none⟩/\b<W.heap.size/\len<=174762/\∀i,i<len->∃K A N M S,Vu W b off i K A N M S):=by
 obtain⟨a0,len,cap,rfl⟩:=okWide_slice underlying22 hv;refine⟨a0,len,cap,rfl,?_⟩;obtain⟨fuel,hf⟩:=h0;rcases Go.Deep.open_slice underlying22 hf with⟨hcs,_⟩|⟨a,len',cap',m,n,D,Pl,hcs,_,hl,hm,hmm,hx,hel⟩
 ·simp[Value.cells] at hcs;exact .inl hcs.2.1
 ·simp[Value.cells] at hcs;obtain⟨rfl,rfl,rfl⟩:=hcs;rw[Tryz.Fz] at hel;simp only[if_true] at hmm;subst hmm;by_cases hz:len=0
  ·exact .inl hz
  ·right
   obtain⟨cs0,hc0,_⟩:=hel 0 (by omega);have qW:=(World.cells?_some hc0).2.2 0 (by omega);have hl0:=(World.cells?_some hc0).2.1;rw[List.getElem?_eq_getElem (by omega)] at qW;obtain⟨b,off,spot⟩:=a
   cases spot with
   | some sp=>
    exfalso
    unfold World.cell? at qW
    split at qW
    ·simp[Addr.add] at qW
    ·cases qW
   | none=>
    have hb:b<W.heap.size:=by
     have:=World.block_lt_of_cell? W _ qW
     simpa [Addr.add] using this
    simp only[Prod.mk.injEq] at hx;have hs:len<=174762:=by
     rw[hx.1] at hsm;have:=CD hsm (λd hd=>by
      obtain⟨i,hi,rfl⟩:=List.mem_map.1 hd;obtain⟨cs,h1,h2⟩:=hel i (by have:=List.mem_range.1 hi;omega);obtain⟨K,A,N,M,S,_,h⟩:=JU h1 h2;exact h)
     simpa using this
    refine⟨b,off,rfl,hb,hs,λi hi=>?_⟩;obtain⟨cs,h1,h2⟩:=hel i (by omega);obtain⟨K,A,N,M,S,h,_⟩:=JU h1 h2;exact⟨K,A,N,M,S,h⟩
end
end Go.Proofs.YteainaiebcphlaaGreatDoor
