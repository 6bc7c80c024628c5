import Derived.Test.YteainaiebcphlaaGreatDoorX13
import Derived.Test.YteainaiebcphlaaGreatDoorX16
import Derived.Handy
namespace Go.Proofs.YteainaiebcphlaaGreatDoor
set_option maxRecDepth 1000000
set_option maxHeartbeats 4000000
set_option linter.all false
section
open Go.RowKit
structure Bld (R C:Nat->Fr->Prop) (K:List Tok) (bo:Tok->Option (List It)) (bk mb:Nat) (E:Nat->Prop) (w:World):Prop where
 book:∃ h b,Blk w bk 106 #[.map (some mb),.int .i64 h,.int .i64 b]
 mp:∃ n DD,w.ownsMap Tryz.prog 9 heldR mb n DD
 kl:K.length<=30
 look:∀ nm:ByteArray,nm.data.toList∈K->∃ (o:Nat) (f:Fr) (c:WC),C o f/\R o f/\f.name=nm.data.toList/\bo f.name=some f.body/\(∀ w0:World,w0.heap[mb]? = w.heap[mb]?->(Instr.lookup 104 (.map (some mb)) (.string nm) false).run Tryz.prog w0=.ok (pt o) w0)/\Blk w o 111 c.arr/\c.nm=nm/\nm.size<=1000/\Items (BD E w) c.iv f.body/\Acts (BD E w) R bk o c.sv f.body/\∃ G,wb (fun t=>t∈K) G false f.body
def MadeOk (R:Nat->Fr->Prop) (K:List Tok) (bo:Tok->Option (List It)) (bk:Nat) (E:Nat->Prop) (S:Tok->Prop) (a:Nat) (w:World):Prop:=
 ∃ DD,(∃ n,w.ownsMap Tryz.prog 284 heldR a n DD)/\∀ kl,Maps.has DD kl=true->∃ (nm:ByteArray) (lf:Nat) (c:Value),keyOf Tryz.prog 284 (siteV nm lf)=some kl/\nm.data.toList∈K/\lf<=3/\(∀ zd,DD.atKey kl zd=.held c)/\callR (BD E w) R bk (Acts (BD E w) R bk) nm.data.toList c/\∀ t,Bc bo lf nm.data.toList t->S t
def PartsOk (C:Nat->Fr->Prop) (K:List Tok) (S:Tok->Prop) (b:Nat) (w:World):Prop:=
 ∃ DD,(∃ n,w.ownsMap Tryz.prog 9 heldR b n DD)/\(∀ t:Tok,t.length<=maxLen->(Maps.has DD (.string t)=true<->S t))/\∀ kl,Maps.has DD kl=true->∃ o f,kl=.string f.name/\f.name∈K/\C o f/\∀ zd,DD.atKey kl zd=.held (pt o)
structure JB (R C:Nat->Fr->Prop) (K:List Tok) (bo:Tok->Option (List It)) (bk mb a b:Nat) (E:Nat->Prop) (S:Tok->Prop) (w:World):Prop where
 bld:Bld R C K bo bk mb E w
 mde:MadeOk R K bo bk E S a w
 pts:PartsOk C K S b w
 ab:a ≠ b
 am:a ≠ mb
 bm:b ≠ mb
theorem map_neG {P:Program} {k:TypeId} {R:Value->Option (DataW Value × List MemPlace)} {w:World} {b n:Nat} {DD:DataW Value} (h:w.ownsMap P k R b n DD) {b':Nat} {t:TypeId} {c:Array Value} (hb:Blk w b' t c):b ≠ b':=by
 obtain⟨es,clock,h1,_⟩:=h;rintro rfl;have:w.heap[b]? = _:=hb;rw[h1] at this;injection this with this;cases this
theorem ownsMap_sameG {P:Program} {k:TypeId} {R:Value->Option (DataW Value × List MemPlace)} {w w':World} {b n:Nat} {DD:DataW Value} (h:w.ownsMap P k R b n DD) (e:w'.heap[b]? = w.heap[b]?):w'.ownsMap P k R b n DD:=by
 obtain⟨es,clock,h1,h2⟩:=h;exact⟨es,clock,e.trans h1,h2⟩
section
variable {R C:Nat->Fr->Prop} {K:List Tok} {bo:Tok->Option (List It)} {bk mb a b:Nat} {E E':Nat->Prop} {S S':Tok->Prop} {w w':World}
theorem Bld.frame {T:Nat->Prop} (h:Bld R C K bo bk mb E w) (hk:Kp w w' T) (hb:∀ k t c,Blk w k t c->t=106\/t=111->¬ T k) (hm:¬ T mb) (hE:∀ b t c,BD E w b t c->BD E' w' b t c):Bld R C K bo bk mb E' w':=by
 obtain⟨h0,b0,hbk⟩:=h.book;obtain⟨n,DD,hmp⟩:=h.mp;have hme:=hk.block mb hmp.lt hm;refine⟨⟨h0,b0,hk.blk hbk (hb _ _ _ hbk (.inl rfl))⟩,⟨n,DD,ownsMap_same hmp hme⟩,h.kl,fun nm hnm=>?_⟩;obtain⟨o,f,c,q1,q2,q3,q4,q5,q6,q7,q8,q9,q10,q11⟩:=h.look nm hnm;exact⟨o,f,c,q1,q2,q3,q4,fun w0 e=>q5 w0 (e.trans hme),hk.blk q6 (hb _ _ _ q6 (.inr rfl)),q7,q8,q9.mono hE,q10.mono hE (fun _ _ h=>h),q11⟩
theorem MadeOk.frame (h:MadeOk R K bo bk E S a w) (hm:w'.heap[a]? = w.heap[a]?) (hE:∀ b t c,BD E w b t c->BD E' w' b t c) (hS:∀ t,S t->S' t):MadeOk R K bo bk E' S' a w':=by
 obtain⟨DD,⟨n,h1⟩,h2⟩:=h;refine⟨DD,⟨n,ownsMap_sameG h1 hm⟩,fun kl hkl=>?_⟩;obtain⟨nm,lf,c,q1,q2,q3,q4,q5,q6⟩:=h2 kl hkl;exact⟨nm,lf,c,q1,q2,q3,q4,callR_mono hE (fun _ _ h=>h) (fun _ _ _ h=>h.mono hE (fun _ _ h=>h)) q5,fun t ht=>hS t (q6 t ht)⟩
theorem PartsOk.frame (h:PartsOk C K S b w) (hm:w'.heap[b]? = w.heap[b]?):PartsOk C K S b w':=by
 obtain⟨DD,⟨n,h1⟩,h2⟩:=h;exact⟨DD,⟨n,ownsMap_same h1 hm⟩,h2⟩
theorem MadeOk.lt (h:MadeOk R K bo bk E S a w):a < w.heap.size:=by obtain⟨DD,⟨n,h1⟩,h2⟩:=h;exact h1.lt
theorem PartsOk.lt (h:PartsOk C K S b w):b < w.heap.size:=by obtain⟨DD,⟨n,h1⟩,h2⟩:=h;exact h1.lt
theorem MadeOk.ne (h:MadeOk R K bo bk E S a w) {b':Nat} {t:TypeId} {c:Array Value} (hb:Blk w b' t c):a ≠ b':=by obtain⟨DD,⟨n,h1⟩,h2⟩:=h;exact map_neG h1 hb
theorem PartsOk.ne (h:PartsOk C K S b w) {b':Nat} {t:TypeId} {c:Array Value} (hb:Blk w b' t c):b ≠ b':=by obtain⟨DD,⟨n,h1⟩,h2⟩:=h;exact map_ne h1 hb
theorem JB.fr {T:Nat->Prop} (h:JB R C K bo bk mb a b E S w) (hk:Kp w w' T) (hT:∀ k,T k->k < w.heap.size->∃ c,Blk w k 243 c) (hE:∀ k,k < w.heap.size->E k->E' k/\¬ T k):JB R C K bo bk mb a b E' S w':=by
 have hEE:=BD_keep (D:=E) (D':=E') hk hE;obtain⟨n,DD,hmp⟩:=h.bld.mp;have nm:∀ k,k < w.heap.size->(∀ t c,¬ Blk w k t c)->¬ T k:=fun k hk hn e=>by obtain⟨c,hc⟩:=hT k e hk;exact hn _ c hc
 refine⟨h.bld.frame hk (fun k t c hb ht e=>?_) (nm mb hmp.lt (fun t c hb=>map_ne hmp hb rfl)) hEE,h.mde.frame (hk.block a h.mde.lt (nm a h.mde.lt (fun t c hb=>h.mde.ne hb rfl))) hEE (fun _ h=>h),h.pts.frame (hk.block b h.pts.lt (nm b h.pts.lt (fun t c hb=>h.pts.ne hb rfl))),h.ab,h.am,h.bm⟩;obtain⟨c',hc'⟩:=hT k e hb.lt;have:=(hb.inj hc').1;rcases ht with ht|ht
 ·rw[ht] at this;exact absurd this (by decide)
 ·rw[ht] at this;exact absurd this (by decide)
theorem JB.kp (h:JB R C K bo bk mb a b E S w) (hk:Kp w w' (fun _=>False)):JB R C K bo bk mb a b E S w':=h.fr hk (fun _ e=>e.elim) (fun _ _ e=>⟨e,fun e=>e⟩)
theorem JB.mp (h:JB R C K bo bk mb a b E S w) (k:Nat) (t:TypeId) (c:Array Value) (hf:Ft (some a) (some b) k):¬ Blk w k t c:=by
 rcases hf with e|e
 ·injection e with e;subst e;exact fun hb=>h.mde.ne hb rfl
 ·injection e with e;subst e;exact fun hb=>h.pts.ne hb rfl
theorem JB.putPart (h:JB R C K bo bk mb a b E S w) (nm:ByteArray) (hnm:nm.data.toList∈K) (hs:nm.size<=1000) (o:Nat) (f:Fr) (hC:C o f) (hf:f.name=nm.data.toList):
  ∃ w2,(Instr.mapUpdate 104 (.map (some b)) (.string nm) (pt o)).run Tryz.prog w=.ok () w2/\Kp w w2 (fun k=>k=b)/\JB R C K bo bk mb a b E (fun t=>S t\/t=nm.data.toList) w2:=by
 obtain⟨DD,⟨n,h1⟩,h2,h3⟩:=h.pts;have hsz:nm.size<=maxLen:=Nat.le_trans hs (by decide);have hle:Maps.size DD<=(K.map Lit.string).length:=map_size_le h1 (Maps.string_keyed Tryz.underlying9) _ (fun kl hkl=>by
  obtain⟨o,f,e1,e2,_⟩:=h3 kl hkl;rw[e1];exact List.mem_map.2 ⟨_,e2,rfl⟩)
 have hkl:=h.bld.kl;have hl30:Maps.size DD < maxLen:=by
  rw[List.length_map] at hle;have h30:(30:Nat) < maxLen:=by decide
  omega
 obtain⟨w2,hrun,hm2,hg⟩:=(own_tightG h1).update (Maps.string_keyed Tryz.underlying9) Tryz.underlying104 hl30 (key:=.string nm) (val:=pt o) (kl:=.string nm.data.toList) (d:=.held (pt o)) (ps:=[]) (keyS nm hsz) rfl;have htd:=h1.tidy (Maps.string_keyed Tryz.underlying9);have hkp:Kp w w2 (fun k=>k=b):=(Kp.refl w _).grown hg (fun k _ e=>(Option.some.inj e).symm);have hne:∀ k t c,Blk w k t c->¬ k=b:=fun k t c hb e=>h.pts.ne hb e.symm;have hk0:WideAt.IsKeyLit (.string nm.data.toList):=trivial;obtain⟨n0,DD0,hmp⟩:=h.bld.mp;refine⟨w2,hrun,hkp,⟨h.bld.frame hkp (fun k t c hb _=>hne k t c hb) (fun e=>h.bm e.symm) (fun k t c hb=>⟨hb.1,hkp.blk hb.2 (hne _ _ _ hb.2)⟩),h.mde.frame (hkp.block a h.mde.lt h.ab) (fun k t c hb=>⟨hb.1,hkp.blk hb.2 (hne _ _ _ hb.2)⟩) (fun _ h=>.inl h),⟨_,⟨_,hm2⟩,fun t ht=>?_,fun kl hkl=>?_⟩,h.ab,h.am,h.bm⟩⟩
 ·by_cases e:t=nm.data.toList
  ·subst e;rw[Maps.has_put_same htd.isMap hk0];exact⟨fun _=>.inr rfl,fun _=>rfl⟩
  ·rw[Maps.has_put_other (fun q=>e (by injection q)),h2 t ht];exact⟨.inl,fun q=>q.elim id (fun q=>absurd q e)⟩
 ·by_cases e:kl=.string nm.data.toList
  ·subst e;exact⟨o,f,by rw[hf],by rw[hf];exact hnm,hC,fun zd=>Maps.atKey_put_same htd.isMap hk0 _ _⟩
  ·rw[Maps.has_put_other e] at hkl;obtain⟨o',f',q1,q2,q3,q4⟩:=h3 kl hkl;exact⟨o',f',q1,q2,q3,fun zd=>by rw[Maps.atKey_put_other e];exact q4 zd⟩
theorem zeroA (w:World):(zeroValue 243).run Tryz.prog w=.ok .nilFunc w:=by kernel_rfl
theorem wfL (lf:Nat) (h:lf<=3):(Lit.int .i64 (lf:Int)).wf=true:=WalkArith.wf_i64 (by omega)
theorem lookG {w:World} {a n:Nat} {DD:DataW Value} (h:w.ownsMap Tryz.prog 284 heldR a n DD) {nm:ByteArray} {lf:Int} {kl:Lit} (hk:keyOf Tryz.prog 284 (siteV nm lf)=some kl) {v:Value} (hv:DD.atKey kl (.held .nilFunc)=.held v):
  (Instr.lookup 204 (.map (some a)) (siteV nm lf) false).run Tryz.prog w=.ok v w:=by
 obtain⟨v',ps,hrun,hv'⟩:=h.lookup Tryz.lawS Tryz.underlying204 (zeroA w) (zd:=.held .nilFunc) (zp:=[]) rfl hk;rw[hv] at hv';have h1:some (DataW.held v',[])=some (DataW.held v,ps):=hv';have h2:DataW.held v'=DataW.held v:=congrArg Prod.fst (Option.some.inj h1);rw[<-DataW.held.inj h2];exact hrun
theorem JB.putMade (h:JB R C K bo bk mb a b E S w) (nm:ByteArray) (hnm:nm.data.toList∈K) (hs:nm.size<=1000) (lf:Nat) (hlf:lf<=3) (c:Value) (hc:callR (BD E w) R bk (Acts (BD E w) R bk) nm.data.toList c) (hS:∀ t,Bc bo lf nm.data.toList t->S t):
  ∃ w2,(Instr.mapUpdate 204 (.map (some a)) (siteV nm lf) c).run Tryz.prog w=.ok () w2/\Kp w w2 (fun k=>k=a)/\JB R C K bo bk mb a b E S w2/\(∀ w0:World,w0.heap[a]? = w2.heap[a]?->(Instr.lookup 204 (.map (some a)) (siteV nm lf) false).run Tryz.prog w0=.ok c w0):=by
 obtain⟨DD,⟨n,h1⟩,h2⟩:=h.mde;have hsz:nm.size<=maxLen:=Nat.le_trans hs (by decide);obtain⟨kl,hkl⟩:=keySite nm hsz lf (wfL lf hlf);have hle:Maps.size DD<=((K.map (fun t=>(keyOf Tryz.prog 284 (siteV ⟨t.toArray⟩ ((0:Nat):Int))).getD .nil)) ++ (K.map (fun t=>(keyOf Tryz.prog 284 (siteV ⟨t.toArray⟩ ((1:Nat):Int))).getD .nil)) ++ (K.map (fun t=>(keyOf Tryz.prog 284 (siteV ⟨t.toArray⟩ ((2:Nat):Int))).getD .nil)) ++ (K.map (fun t=>(keyOf Tryz.prog 284 (siteV ⟨t.toArray⟩ ((3:Nat):Int))).getD .nil))).length:=map_size_le h1 Tryz.lawS _ (fun kl' hkl'=>by
  obtain⟨nm',lf',c',q1,q2,q3,_⟩:=h2 kl' hkl';have he:(⟨nm'.data.toList.toArray⟩:ByteArray)=nm':=by simp
  have hm:∀ j:Nat,lf'=j->kl'∈K.map (fun t=>(keyOf Tryz.prog 284 (siteV ⟨t.toArray⟩ ((j:Nat):Int))).getD .nil):=fun j e=>List.mem_map.2 ⟨_,q2,by rw[he,<-e,q1];rfl⟩;simp only[List.mem_append]
  match lf',q3,hm with
  | 0,_,hm=>exact .inl (.inl (.inl (hm 0 rfl)))
  | 1,_,hm=>exact .inl (.inl (.inr (hm 1 rfl)))
  | 2,_,hm=>exact .inl (.inr (hm 2 rfl))
  | 3,_,hm=>exact .inr (hm 3 rfl))
 simp only[List.length_append,List.length_map] at hle;have hkl30:=h.bld.kl;have hl120:Maps.size DD < maxLen:=by
  have h120:(120:Nat) < maxLen:=by decide
  omega
 obtain⟨w2,hrun,hm2,hg⟩:=(own_tightG h1).update Tryz.lawS Tryz.underlying204 hl120 (key:=siteV nm lf) (val:=c) (kl:=kl) (d:=.held c) (ps:=[]) hkl rfl;have htd:=h1.tidy Tryz.lawS;have hkp:Kp w w2 (fun k=>k=a):=(Kp.refl w _).grown hg (fun k _ e=>(Option.some.inj e).symm);have hne:∀ k t c,Blk w k t c->¬ k=a:=fun k t c hb e=>h.mde.ne hb e.symm;have hEE:∀ k t c,BD E w k t c->BD E w2 k t c:=fun k t c hb=>⟨hb.1,hkp.blk hb.2 (hne _ _ _ hb.2)⟩;refine⟨w2,hrun,hkp,⟨h.bld.frame hkp (fun k t c hb _=>hne k t c hb) (fun e=>h.am e.symm) hEE,⟨_,⟨_,hm2⟩,fun kl' hkl'=>?_⟩,h.pts.frame (hkp.block b h.pts.lt (fun e=>h.ab e.symm)),h.ab,h.am,h.bm⟩,fun w0 e0=>lookG (ownsMap_sameG hm2 e0) hkl (Maps.atKey_put_same htd.isMap (Tryz.lawS.key hkl) _ _)⟩;by_cases e:kl'=kl
 ·subst e;exact⟨nm,lf,c,hkl,hnm,hlf,fun zd=>Maps.atKey_put_same htd.isMap (Tryz.lawS.key hkl) _ _,callR_mono hEE (fun _ _ h=>h) (fun _ _ _ h=>h.mono hEE (fun _ _ h=>h)) hc,hS⟩
 ·rw[Maps.has_put_other e] at hkl';obtain⟨nm',lf',c',q1,q2,q3,q4,q5,q6⟩:=h2 kl' hkl';exact⟨nm',lf',c',q1,q2,q3,fun zd=>by rw[Maps.atKey_put_other e];exact q4 zd,callR_mono hEE (fun _ _ h=>h) (fun _ _ _ h=>h.mono hEE (fun _ _ h=>h)) q5,q6⟩
theorem JB.lookMade (h:JB R C K bo bk mb a b E S w) (nm:ByteArray) (hs:nm.size<=1000) (lf:Nat) (hlf:lf<=3):
  ∃ v,(∀ w0:World,w0.heap[a]? = w.heap[a]?->(Instr.lookup 204 (.map (some a)) (siteV nm lf) false).run Tryz.prog w0=.ok v w0)/\(v=.nilFunc\/(callR (BD E w) R bk (Acts (BD E w) R bk) nm.data.toList v/\∀ t,Bc bo lf nm.data.toList t->S t)):=by
 obtain⟨DD,⟨n,h1⟩,h2⟩:=h.mde;obtain⟨kl,hkl⟩:=keySite nm (Nat.le_trans hs (by decide)) lf (wfL lf hlf)
 cases hh:Maps.has DD kl with
 | false=>exact⟨.nilFunc,fun w0 e0=>lookG (ownsMap_sameG h1 e0) hkl (Maps.atKey_of_not_has hh _),.inl rfl⟩
 | true=>
  obtain⟨nm',lf',c',q1,q2,q3,q4,q5,q6⟩:=h2 kl hh;obtain⟨e1,e2⟩:=siteInj hkl q1;subst e1;have e2:lf=lf':=by omega
  subst e2;exact⟨c',fun w0 e0=>lookG (ownsMap_sameG h1 e0) hkl (q4 _),.inr ⟨q5,q6⟩⟩
end
end
section
open Go.RowKit
section
variable {R C:Nat->Fr->Prop} {K:List Tok} {bo:Tok->Option (List It)} {bk mb a b:Nat} {E:Nat->Prop} {S:Tok->Prop} {w:World}
def BodyC (R C:Nat->Fr->Prop) (K:List Tok) (bo:Tok->Option (List It)) (bk mb a b n:Nat):Prop:=∀ (E:Nat->Prop) (S:Tok->Prop) (w:World) (o:Nat) (f:Fr) (c:WC),JB R C K bo bk mb a b E S w->Up E w->Blk w o 111 c.arr->Items (BD E w) c.iv f.body->Acts (BD E w) R bk o c.sv f.body->(∃ G,wb (fun t=>t∈K) G false f.body) ->
 Calls Tryz.prog 232 #[.agg #[pt bk,pt o,.int .i64 (n:Int),.map (some a),.map (some b)]] w fun e w'=>∃ ao cap,e=.returned (.slice ao f.body.length cap)/\Kp w w' (Ft (some a) (some b))/\Acts (BD E w') R bk o (.slice ao f.body.length cap) f.body/\JB R C K bo bk mb a b E (fun t=>S t\/Bd bo n f.body t) w'
theorem body0:BodyC R C K bo bk mb a b 0:=by
 intro E S w o f c hJ hU hb hI hA hwb;obtain⟨ao,cap,hav⟩:=hA.form;have hb1:=hb.alloc (.cells #[pt bk,pt o,.int .i64 ((0:Nat):Int),.map (some a),.map (some b)] 206);have c2:(w.alloc (.cells #[pt bk,pt o,.int .i64 ((0:Nat):Int),.map (some a),.map (some b)] 206)).cell? ⟨o,2,none⟩=some (.slice ao f.body.length cap):=by rw[<-hav];exact hb1.cell rfl
 have c20:w.cell? ⟨o,2,none⟩=some (.slice ao f.body.length cap):=by rw[<-hav];exact hb.cell rfl
 have hol:=hb.lt;have HJ:=hide hJ;rw[hav] at hA;have HA:=hide hA;clear hJ hA hI hb hb1 hwb hav hU;go_enter Tryz.func232,Tryz.ntmps232;go_wp2;go_ret;have hk:=(Kp.refl w (fun _=>False)).alloc (.cells #[pt bk,pt o,.int .i64 ((0:Nat):Int),.map (some a),.map (some b)] 206);refine⟨ao,cap,rfl,hk.ft _ _,HA.out.mono (fun b t c h=>⟨h.1,h.2.alloc _⟩) (fun _ _ h=>h),?_⟩;rw[show (fun t=>S t\/Bd bo 0 f.body t)=S by funext t;exact propext ⟨fun q=>q.elim id (fun q=>absurd q (Bd.zero _ _ _)),.inl⟩];exact HJ.out.kp hk
theorem bodyS (n:Nat) (hn:n+1<=3) (hC:JC R (fun t=>t∈K) bo bk (n+1) (some a) (some b) (JB R C K bo bk mb a b)):BodyC R C K bo bk mb a b (n+1):=by
 intro E S w o f c hJ hU hb hI hA hwb;obtain⟨g,hg⟩:=hI;have hk:=(Kp.refl w (fun _=>False)).alloc (.cells #[pt bk,pt o,.int .i64 ((n+1:Nat):Int),.map (some a),.map (some b)] 206);have hf:∃ a m p,c.iv=.slice a m p:=by
  cases g with
  | zero=>exact hg.elim
  | succ g=>obtain⟨_,hq,_⟩:=hg;obtain⟨a,p,hv⟩:=hq.form;exact⟨a,_,p,hv⟩
 obtain⟨a9,m9,p9,hiv⟩:=hf;rw[hiv] at hg;have HC:=hide ((actsAll hC g).at hC o hJ hU hg (by obtain⟨G,hG⟩:=hwb;exact⟨G,false,hG⟩) hk);have HK:=hide (hk.ft (some a) (some b));have hb1:=hb.alloc (.cells #[pt bk,pt o,.int .i64 ((n+1:Nat):Int),.map (some a),.map (some b)] 206);have c1:(w.alloc (.cells #[pt bk,pt o,.int .i64 ((n+1:Nat):Int),.map (some a),.map (some b)] 206)).cell? ⟨o,1,none⟩=some (.slice a9 m9 p9):=by rw[<-hiv];exact hb1.cell rfl
 have c10:w.cell? ⟨o,1,none⟩=some (.slice a9 m9 p9):=by rw[<-hiv];exact hb.cell rfl
 have hol:=hb.lt;obtain⟨ln,hln⟩:∃ ln:Int,ln=((n+1:Nat):Int):=⟨_,rfl⟩;have hl1:¬ ln=0:=by omega
 have hl2:(ln == 0)=false:=by simpa using hl1
 rw[<-hln] at c1 HC HK;rw[<-hln];clear hJ hA hg hb hb1 hwb hU hC hiv hk hln hl1;go_enter Tryz.func232,Tryz.ntmps232;go_wp2
 go_region_with (go_at_call 156;refine (HC.out _ ?_).mono ?_;exact (Kp.refl _ _).drew;rintro e w1 ⟨ao,cap,rfl,hk1,hA,hJ1⟩;have HA:=hide hA;have HJ1:=hide hJ1;have HK1:=hide hk1;clear hA hJ1 hk1)
 all_goals go_wp2
 all_goals go_ret
 all_goals exact⟨ao,cap,rfl,HK.out.trans HK1.out,HA.out,HJ1.out⟩
end
end
section
open Go.RowKit
section
variable {R C:Nat->Fr->Prop} {K:List Tok} {bo:Tok->Option (List It)} {bk mb a b:Nat} {E:Nat->Prop} {S:Tok->Prop} {w:World}
theorem callMkP (w:World) (bk:Nat) (t:ByteArray):Calls Tryz.prog 75 #[pt bk,.string t] w fun e w'=>∃ db bb nb,e=.returned (fDeep db)/\Kp w w' (fun _=>False)/\BD (New w) w' db 125 #[.func (.func 120) #[] #[pt bb,pt nb]]/\BD (New w) w' bb 78 #[pt bk]/\BD (New w) w' nb 9 #[.string t]:=by
 have hmf:=mkFunc;go_enter Tryz.func75,Tryz.ntmps75;go_wp2;go_ret;exact⟨w.heap.size+1+1,w.heap.size,w.heap.size+1,rfl,(((Kp.refl _ _).alloc _).alloc _).alloc _,⟨by show _<=_;omega,Blk.new2 w _ _ _ _⟩,⟨Nat.le_refl _,((Blk.new w _ _).alloc _).alloc _⟩,⟨by show _<=_;omega,(Blk.new1 w _ _ _).alloc _⟩⟩
theorem stepMkP (w:World) (n:Nat) (ff fc:Array Value):Calls Tryz.prog 199 #[.func (.func n) ff fc] w fun e w'=>e=.returned (fStep w.heap.size)/\w'=w.alloc (.cells #[.func (.func n) ff fc] 125):=by
 have hmf:=mkFunc;go_enter Tryz.func199,Tryz.ntmps199;go_wp2;go_ret;exact⟨rfl,rfl⟩
theorem callPartM (E:Nat->Prop) (w:World) (hU:Up E w) (o:Nat) (f:Fr) (nm:ByteArray) (ca:WC) (hca:ca.nm=nm) (hb:Blk w o 111 ca.arr) (hR:R o f) (hf:f.name=nm.data.toList) (hs:nm.size<=1000) (ao:Option Addr) (n cap:Nat) (hA:Acts (BD E w) R bk o (.slice ao n cap) f.body):
  Calls Tryz.prog 242 #[pt bk,pt o,.slice ao n cap] w fun e w'=>∃ cl,e=.returned cl/\Kp w w' (fun _=>False)/\callR (BD E w') R bk (Acts (BD E w') R bk) nm.data.toList cl:=by
 have hmf:=mkFunc;have HA:=hide hA;obtain⟨W3,hW3⟩:∃ W3,W3=((w.alloc (.cells #[pt bk] 78)).alloc (.cells #[pt o] 107)).alloc (.cells #[.slice ao n cap] 109):=⟨_,rfl⟩;have hk3:Kp w W3 (fun _=>False):=by rw[hW3];exact (((Kp.refl _ _).alloc _).alloc _).alloc _
 have hb0:Blk W3 w.heap.size 78 #[pt bk]:=by rw[hW3];exact ((Blk.new w _ _).alloc _).alloc _
 have hb1:Blk W3 (w.heap.size+1) 107 #[pt o]:=by rw[hW3];exact (Blk.new1 w _ _ _).alloc _
 have hb2:Blk W3 (w.heap.size+1+1) 109 #[.slice ao n cap]:=by rw[hW3];exact Blk.new2 w _ _ _ _
 have hbo:Blk W3 o 111 ca.arr:=hk3.blk hb (by simp);have d0:W3.cell? ⟨w.heap.size,0,none⟩=some (pt bk):=hb0.cell rfl;have d1:W3.cell? ⟨w.heap.size+1,0,none⟩=some (pt o):=hb1.cell rfl;have d2:W3.cell? ⟨o,0,none⟩=some (.string nm):=by rw[<-hca];exact hbo.cell rfl
 have hs3:W3.heap.size=w.heap.size+1+1+1:=by rw[hW3];simp
 have HB:Hid (∀ w1,Kp W3 w1 (fun _=>False)->(w1.cell? ⟨w.heap.size,0,none⟩=some (pt bk)/\w1.cell? ⟨w.heap.size+1,0,none⟩=some (pt o)/\w1.cell? ⟨o,0,none⟩=some (.string nm))/\∀ z o1,((w1.setCell ⟨w.heap.size+1+1+1,0,none⟩ z).alloc o1).cell? ⟨w.heap.size,0,none⟩=some (pt bk)/\((w1.setCell ⟨w.heap.size+1+1+1,0,none⟩ z).alloc o1).cell? ⟨w.heap.size+1,0,none⟩=some (pt o)/\((w1.setCell ⟨w.heap.size+1+1+1,0,none⟩ z).alloc o1).cell? ⟨o,0,none⟩=some (.string nm)):=fun w1 hk=>by
  have hol:=hb.lt;refine⟨⟨(hk.blk hb0 (by simp)).cell rfl,(hk.blk hb1 (by simp)).cell rfl,by rw[<-hca];exact (hk.blk hbo (by simp)).cell rfl⟩,fun z o1=>⟨?_,?_,?_⟩⟩
  ·exact (((hk.blk hb0 (by simp)).setOther (a:=⟨w.heap.size+1+1+1,0,none⟩) (by show ¬ w.heap.size=w.heap.size+1+1+1;omega) z).alloc o1).cell rfl
  ·exact (((hk.blk hb1 (by simp)).setOther (a:=⟨w.heap.size+1+1+1,0,none⟩) (by show ¬ w.heap.size+1=w.heap.size+1+1+1;omega) z).alloc o1).cell rfl
  ·rw[<-hca];exact (((hk.blk hbo (by simp)).setOther (a:=⟨w.heap.size+1+1+1,0,none⟩) (by show ¬ o=w.heap.size+1+1+1;omega) z).alloc o1).cell rfl
 have HF:Hid (∀ (w':World) (db bb nb ab cb:Nat),Kp W3 w' (fun _=>False)->BD (New w) w' db 125 #[.func (.func 120) #[] #[pt bb,pt nb]]->BD (New w) w' bb 78 #[pt bk]->BD (New w) w' nb 9 #[.string nm]->BD (New w) w' ab 125 #[fDeep db]->BD (New w) w' cb 243 #[fStep ab]->∃ cl,.func (.func 247) #[] #[pt (w.heap.size+1),pt cb,pt w.heap.size,pt (w.heap.size+1+1)]=cl/\Kp w w' (fun _=>False)/\callR (BD E w') R bk (Acts (BD E w') R bk) nm.data.toList cl):=by
  intro w' db bb nb ab cb hk q1 q2 q3 q4 q5;have hE:∀ b t c,BD (New w) w' b t c->BD E w' b t c:=fun b t c h=>⟨hU b h.1,h.2⟩;have hkw:=hk3.trans hk;refine⟨_,rfl,hkw,.inr ⟨_,_,_,_,o,f,_,_,rfl,hE _ _ _ ⟨by show _<=_;omega,hk.blk hb1 (by simp)⟩,hE _ _ _ q5,⟨ab,db,bb,nb,nm,rfl,hE _ _ _ q4,hE _ _ _ q1,hE _ _ _ q2,hE _ _ _ q3,rfl,hs⟩,hE _ _ _ ⟨Nat.le_refl _,hk.blk hb0 (by simp)⟩,hE _ _ _ ⟨by show _<=_;omega,hk.blk hb2 (by simp)⟩,hR,hf,HA.out.mono (fun b t c h=>⟨h.1,hkw.blk h.2 (by simp)⟩) (fun _ _ h=>h)⟩⟩
 have hol:=hb.lt;have HW3:=hide hW3;clear hA hk3 hb0 hb1 hb2 hbo hb HA hU hR hf hW3;go_enter Tryz.func242,Tryz.ntmps242;go_wp2;rw[<-HW3.out];have y1:¬ o=w.heap.size+1+1+1:=by omega
 have y2:¬ w.heap.size=w.heap.size+1+1+1:=by omega
 have y3:¬ w.heap.size+1=w.heap.size+1+1+1:=by omega
 go_region_held3 (fun w'=>w'.cell? ⟨w.heap.size,0,none⟩=some (pt bk)/\w'.cell? ⟨w.heap.size+1,0,none⟩=some (pt o)/\w'.cell? ⟨o,0,none⟩=some (.string nm)) (first|go_keep|exact U3.out _ _) (first
  | (go_at_call 75;refine (callMkP (W3.drew.alloc (.cells #[.nilFunc] 243)) bk nm).mono ?_;rintro e w1 ⟨db,bb,nb,rfl,hk1,hd1,hd2,hd3⟩;have hkw:Kp W3 w1 (fun _=>False):=(((Kp.refl _ _).drew).alloc _).trans hk1;have hbq:=hk1.blk (Blk.new W3.drew #[.nilFunc] 243) (by simp);have hq0:w1.cell? ⟨w.heap.size+1+1+1,0,none⟩=some .nilFunc:=(by rw[<-hs3];exact hbq.cell rfl);have hq1:w1.frozen? ⟨w.heap.size+1+1+1,0,none⟩=false:=(by rw[<-hs3];exact hbq.free 0);have hq2:w.heap.size+1+1+1 < w1.heap.size:=(by rw[<-hs3];exact hbq.lt);have hq3:¬ w.heap.size+1+1+1=w1.heap.size:=(by omega);have HBQ:=hide hbq;clear hbq;obtain⟨⟨u0,u1,u2⟩,u3⟩:=HB.out w1 hkw;have U3:=hide u3;clear u3;have z0:w.heap.size+1+1+1<=w1.heap.size:=(by rw[<-hs3];exact hkw.size);have z1:¬ w.heap.size=w1.heap.size:=(by omega);have z2:¬ w.heap.size+1=w1.heap.size:=(by omega);have z3:¬ o=w1.heap.size:=(by omega);have HK1:=hide hkw;have HD1:=hide hd1;have HD2:=hide hd2;have HD3:=hide hd3;clear hk1 hd1 hd2 hd3 hkw)
  | (go_at_call 75;refine (callMkP W3.drew bk nm).mono ?_;rintro e w1 ⟨db,bb,nb,rfl,hk1,hd1,hd2,hd3⟩;have hkw:Kp W3 w1 (fun _=>False):=((Kp.refl _ _).drew).trans hk1;obtain⟨⟨u0,u1,u2⟩,u3⟩:=HB.out w1 hkw;have U3:=hide u3;clear u3;have z0:w.heap.size+1+1+1<=w1.heap.size:=(by rw[<-hs3];exact hkw.size);have z1:¬ w.heap.size=w1.heap.size:=(by omega);have z2:¬ w.heap.size+1=w1.heap.size:=(by omega);have z3:¬ o=w1.heap.size:=(by omega);have HK1:=hide hkw;have HD1:=hide hd1;have HD2:=hide hd2;have HD3:=hide hd3;clear hk1 hd1 hd2 hd3 hkw)
  | (go_at_call 199;refine (stepMkP _ _ _ _).mono ?_;rintro e w2 ⟨rfl,rfl⟩))
 all_goals go_wp2
 all_goals go_ret
 all_goals have hnw:∀ b,W3.heap.size<=b->w.heap.size<=b:=fun b hb=>by omega
 all_goals first
  | (obtain⟨cl,rfl,q⟩:=HF.out _ db bb nb w1.heap.size (w1.heap.size+1) ((HK1.out.alloc _).alloc _) ⟨hnw _ HD1.out.1,(HD1.out.2.alloc _).alloc _⟩ ⟨hnw _ HD2.out.1,(HD2.out.2.alloc _).alloc _⟩ ⟨hnw _ HD3.out.1,(HD3.out.2.alloc _).alloc _⟩ ⟨by show w.heap.size<=w1.heap.size;omega,(Blk.new w1 _ _).alloc _⟩ ⟨by show w.heap.size<=w1.heap.size+1;omega,Blk.new1 w1 _ _ _⟩;exact⟨_,rfl,q⟩)
  | (obtain⟨cl,rfl,q⟩:=HF.out _ db bb nb (w1.heap.size+1) w1.heap.size ((HK1.out.alloc _).alloc _) ⟨hnw _ HD1.out.1,(HD1.out.2.alloc _).alloc _⟩ ⟨hnw _ HD2.out.1,(HD2.out.2.alloc _).alloc _⟩ ⟨hnw _ HD3.out.1,(HD3.out.2.alloc _).alloc _⟩ ⟨by show w.heap.size<=w1.heap.size+1;omega,Blk.new1 w1 _ _ _⟩ ⟨by show w.heap.size<=w1.heap.size;omega,(Blk.new w1 _ _).alloc _⟩;exact⟨_,rfl,q⟩)
  | skip
 have hq:W3.drew.heap.size=w.heap.size+1+1+1:=hs3;have hbq:=HBQ.out;rw[hq] at hbq;have hn4:∀ b,New (W3.drew.alloc (.cells #[.nilFunc] 243)) b->w.heap.size+1+1+1 < b:=fun b hb=>by
  have hb:(W3.drew.alloc _).heap.size<=b:=hb;rw[World.size_alloc,hq] at hb;omega
 have hset:∀ b t c,BD (New (W3.drew.alloc (.cells #[.nilFunc] 243))) w1 b t c->BD (New w) ((w1.setCell ⟨w.heap.size+1+1+1,0,none⟩ (fStep w1.heap.size)).alloc (.cells #[fDeep db] 125)) b t c:=fun b t c hb=>by
  have h4:=hn4 b hb.1;exact⟨by show w.heap.size<=b;omega,(hb.2.setOther (a:=⟨w.heap.size+1+1+1,0,none⟩) (by show ¬ b=w.heap.size+1+1+1;omega) _).alloc _⟩
 have hka:Kp W3 ((w1.setCell ⟨w.heap.size+1+1+1,0,none⟩ (fStep w1.heap.size)).alloc (.cells #[fDeep db] 125)) (fun _=>False):=(HK1.out.set (a:=⟨w.heap.size+1+1+1,0,none⟩) (fun h=>absurd h (by show ¬ w.heap.size+1+1+1 < W3.heap.size;omega)) _).alloc _;have hna:=Blk.new (w1.setCell ⟨w.heap.size+1+1+1,0,none⟩ (fStep w1.heap.size)) #[fDeep db] 125;rw[World.size_setCell] at hna;obtain⟨cl,rfl,q⟩:=HF.out _ db bb nb w1.heap.size (w.heap.size+1+1+1) hka (hset _ _ _ HD1.out) (hset _ _ _ HD2.out) (hset _ _ _ HD3.out) ⟨by show w.heap.size<=w1.heap.size;omega,hna⟩ ⟨by show w.heap.size<=w.heap.size+1+1+1;omega,(hbq.set 0 _).alloc _⟩;exact⟨_,rfl,q⟩
end
end
section
open Go.RowKit
section
variable {R C:Nat->Fr->Prop} {K:List Tok} {bo:Tok->Option (List It)} {bk mb a b:Nat}
theorem builtInM (n:Nat) (hn:n+1<=3) (hB:BodyC R C K bo bk mb a b n) (E:Nat->Prop) (S:Tok->Prop) (w:World) (ob o:Nat) (f:Fr) (c:WC) (nm:ByteArray) (hJ:JB R C K bo bk mb a b E S w) (hU:Up E w) (hnm:nm.data.toList∈K) (hCo:C o f) (hR:R o f) (hf:f.name=nm.data.toList) (hbo:bo f.name=some f.body) (hb:Blk w o 111 c.arr) (hcn:c.nm=nm) (hs:nm.size<=1000) (hI:Items (BD E w) c.iv f.body) (hA:Acts (BD E w) R bk o c.sv f.body) (hwb:∃ G,wb (fun t=>t∈K) G false f.body):
  Calls Tryz.prog 221 #[.agg #[pt bk,pt ob,.int .i64 ((n+1:Nat):Int),.map (some a),.map (some b)],pt o] w fun e w'=>∃ cl,e=.returned cl/\Kp w w' (Ft (some a) (some b))/\callR (BD E w') R bk (Acts (BD E w') R bk) nm.data.toList cl/\JB R C K bo bk mb a b E (fun t=>S t\/Bc bo (n+1) nm.data.toList t) w':=by
 obtain⟨m,hm⟩:∃ m:Int,m=(n:Int):=⟨_,rfl⟩;have hm1:((n+1:Nat):Int)=m+1:=by rw[hm];omega
 rw[hm1];obtain⟨W1,hW1⟩:∃ W1,W1=w.alloc (.cells #[pt bk,pt ob,.int .i64 (m+1),.map (some a),.map (some b)] 206):=⟨_,rfl⟩;have hk1:Kp w W1.drew (fun _=>False):=by rw[hW1];exact ((Kp.refl _ _).alloc _).drew
 have hs1:W1.heap.size=w.heap.size+1:=by rw[hW1];simp
 have hbs:Blk W1.drew w.heap.size 206 #[pt bk,pt ob,.int .i64 (m+1),.map (some a),.map (some b)]:=by rw[hW1];exact Blk.new w _ _
 have hbo1:Blk W1.drew o 111 c.arr:=hk1.blk hb (by simp);have hJ1:=hJ.kp hk1;obtain⟨w2,hrun,hk2,hJ2⟩:=hJ1.putPart nm hnm hs o f hCo hf;have hkf:Kp w w2 (Ft (some a) (some b)):=(hk1.ft _ _).trans (hk2.mono (fun k _ e=>.inr (by rw[show k=b from e])));have hbs2:=hk2.blk hbs (fun e=>hJ1.pts.ne hbs (show w.heap.size=b from e).symm);have hbo2:=hk2.blk hbo1 (fun e=>hJ1.pts.ne hbo1 (show o=b from e).symm);have e0:W1.cell? ⟨w.heap.size,4,none⟩=some (.map (some b)):=hbs.cell rfl;have e1:W1.cell? ⟨o,0,none⟩=some (.string nm):=by rw[<-hcn];exact hbo1.cell rfl
 have f0:w2.cell? ⟨w.heap.size,0,none⟩=some (pt bk):=hbs2.cell rfl;have f1:w2.cell? ⟨w.heap.size,1,none⟩=some (pt ob):=hbs2.cell rfl;have f2:w2.cell? ⟨w.heap.size,2,none⟩=some (.int .i64 (m+1)):=hbs2.cell rfl;have f3:w2.cell? ⟨w.heap.size,3,none⟩=some (.map (some a)):=hbs2.cell rfl;have f4:w2.cell? ⟨w.heap.size,4,none⟩=some (.map (some b)):=hbs2.cell rfl;have f5:w2.cell? ⟨o,0,none⟩=some (.string nm):=by rw[<-hcn];exact hbo2.cell rfl
 have hlt2:=hbs2.lt;have hm0:0<=m:=by omega
 have hm3:m<=2:=by omega
 have hkE:∀ k t c,BD E w k t c->BD E w2 k t c:=fun k t c h=>⟨h.1,hkf.blk h.2 (fun e=>hJ.mp k t c e h.2)⟩;have HBd:Hid (∀ w0,Kp w2 w0 (fun _=>False)->Calls Tryz.prog 232 #[.agg #[pt bk,pt o,.int .i64 m,.map (some a),.map (some b)]] w0 fun e w'=>∃ ao cap,e=.returned (.slice ao f.body.length cap)/\Kp w0 w' (Ft (some a) (some b))/\Acts (BD E w') R bk o (.slice ao f.body.length cap) f.body/\JB R C K bo bk mb a b E (fun t=>(S t\/t=nm.data.toList)\/Bd bo n f.body t) w'):=by
  intro w0 hk0;have hE0:=BD_keep (D:=E) (D':=E) hk0 (fun b _ h=>⟨h,by simp⟩);rw[hm];refine (hB E _ w0 o f c (hJ2.kp hk0) ((hU.kp hkf).kp hk0) (hk0.blk hbo2 (by simp)) ((hI.mono hkE).mono hE0) ((hA.mono hkE (fun _ _ h=>h)).mono hE0 (fun _ _ h=>h)) hwb).mono ?_;rintro e w' ⟨ao,cap,rfl,h1,h2,h3⟩;exact⟨ao,cap,rfl,h1,h2,h3⟩
 have HBS:=hide hbs2;have HST:Hid (∀ w0 w',Kp w2 w0 (fun _=>False)->Kp w0 w' (Ft (some a) (some b))->∀ k t c,Blk w0 k t c->Blk w' k t c):=fun w0 w' hk0 hkk k t c h=>hkk.blk h (fun e=>(hJ2.kp hk0).mp k t c e h);have HCP:Hid (∀ w3 ao cap,Kp w2 w3 (Ft (some a) (some b))->Acts (BD E w3) R bk o (.slice ao f.body.length cap) f.body->JB R C K bo bk mb a b E (fun t=>(S t\/t=nm.data.toList)\/Bd bo n f.body t) w3->∀ w4,Kp w3 w4 (fun _=>False)->Calls Tryz.prog 242 #[pt bk,pt o,.slice ao f.body.length cap] w4 fun e w'=>∃ fn ff fc,e=.returned (.func (.func fn) ff fc)/\Kp w4 w' (fun _=>False)/\Kp w w' (Ft (some a) (some b))/\callR (BD E w') R bk (Acts (BD E w') R bk) nm.data.toList (.func (.func fn) ff fc)/\JB R C K bo bk mb a b E (fun t=>S t\/Bc bo (n+1) nm.data.toList t) w'):=by
  intro w3 ao cap hk3 hA3 hJ3 w4 hk4;have hk34:=hkf.trans (hk3.trans (hk4.ft _ _));refine (callPartM E w4 (hU.kp hk34) o f nm c hcn (hk4.blk (hk3.blk hbo2 (fun e=>hJ2.mp _ _ _ e hbo2)) (by simp)) hR hf hs ao f.body.length cap (hA3.mono (BD_keep (D:=E) (D':=E) hk4 (fun b _ h=>⟨h,by simp⟩)) (fun _ _ h=>h))).mono ?_;rintro e w' ⟨cl,rfl,q1,q2⟩;obtain⟨fn,ff,fc,rfl⟩:=callR_form q2;refine⟨fn,ff,fc,rfl,q1,hk34.trans (q1.ft _ _),q2,?_⟩;rw[show (fun t=>S t\/Bc bo (n+1) nm.data.toList t)=(fun t=>(S t\/t=nm.data.toList)\/Bd bo n f.body t) by
   funext t
   rw[or_assoc];refine propext (or_congr_right ⟨fun q=>?_,fun q=>?_⟩)
   ·rcases q with q|⟨b',hb',q⟩
    ·exact .inl q
    ·rw[<-hf,hbo] at hb';injection hb' with hb';subst hb';exact .inr q
   ·rcases q with q|q
    ·exact .inl q
    ·exact .inr ⟨f.body,by rw[<-hf];exact hbo,q⟩]
  exact (hJ3.kp hk4).kp q1
 have HW1:=hide hW1;have hol:=hbo2.lt;clear hW1 hm hm1 hJ hJ1 hJ2 hB hU hI hA hwb hbs hbo1 hb hbo2 hkE hk1 hkf hk2 hCo hR hf hbo hnm hcn hs;go_enter Tryz.func221,Tryz.ntmps221;go_wp2;rw[<-HW1.out]
 go_region_held3 (fun w'=>w'.cell? ⟨w.heap.size,4,none⟩=some (.map (some b))/\w'.cell? ⟨o,0,none⟩=some (.string nm)) (go_keep) (fail)
 go_wp2
 go_region_held3 (fun w'=>w'.cell? ⟨w.heap.size,0,none⟩=some (pt bk)/\w'.cell? ⟨w2.heap.size,0,none⟩=some (pt bk)/\w'.cell? ⟨w2.heap.size,1,none⟩=some (pt o)/\w'.cell? ⟨w2.heap.size,2,none⟩=some (.int .i64 m)/\w'.cell? ⟨w2.heap.size,3,none⟩=some (.map (some a))/\w'.cell? ⟨w2.heap.size,4,none⟩=some (.map (some b))) (go_keep) (first
  | (go_at_call 232;refine (HBd.out _ ?_).mono ?_;exact ((Kp.refl _ _).alloc _).drew;rintro e w3 ⟨ao,cap,rfl,hk3,hA3,hJ3⟩;have hbs3:=HST.out _ _ (((Kp.refl _ _).alloc _).drew) hk3 _ _ _ (HBS.out.alloc _);have hbn:=HST.out _ _ (((Kp.refl _ _).alloc _).drew) hk3 _ _ _ (Blk.new w2 _ _);have u0:w3.cell? ⟨w.heap.size,0,none⟩=some (pt bk):=hbs3.cell rfl;have v0:w3.cell? ⟨w2.heap.size,0,none⟩=some (pt bk):=hbn.cell rfl;have v1:w3.cell? ⟨w2.heap.size,1,none⟩=some (pt o):=hbn.cell rfl;have v2:w3.cell? ⟨w2.heap.size,2,none⟩=some (.int .i64 m):=hbn.cell rfl;have v3:w3.cell? ⟨w2.heap.size,3,none⟩=some (.map (some a)):=hbn.cell rfl;have v4:w3.cell? ⟨w2.heap.size,4,none⟩=some (.map (some b)):=hbn.cell rfl;have HK3:=hide ((((Kp.refl w2 (fun _=>False)).alloc _).drew.ft (some a) (some b)).trans hk3);have HA3:=hide hA3;have HJ3:=hide hJ3;have HB3:=hide hbs3;have HBN:=hide hbn;clear hk3 hA3 hJ3 hbs3 hbn)
  | (go_at_call 242;refine (HCP.out w3 ao cap HK3.out HA3.out HJ3.out _ ?_).mono ?_;exact Kp.refl _ _;rintro e w5 ⟨fn,ff,fc,rfl,q0,q1,q2,q3⟩;have hbs3:=q0.blk HB3.out (by simp);have hbn:=q0.blk HBN.out (by simp);have x6:w5.cell? ⟨w.heap.size,0,none⟩=some (pt bk):=hbs3.cell rfl;have x0:w5.cell? ⟨w2.heap.size,0,none⟩=some (pt bk):=hbn.cell rfl;have x1:w5.cell? ⟨w2.heap.size,1,none⟩=some (pt o):=hbn.cell rfl;have x2:w5.cell? ⟨w2.heap.size,2,none⟩=some (.int .i64 m):=hbn.cell rfl;have x3:w5.cell? ⟨w2.heap.size,3,none⟩=some (.map (some a)):=hbn.cell rfl;have x4:w5.cell? ⟨w2.heap.size,4,none⟩=some (.map (some b)):=hbn.cell rfl;clear q0 hbs3 hbn;have Q1:=hide q1;have Q2:=hide q2;have Q3:=hide q3;clear q1 q2 q3))
 all_goals go_wp2
 all_goals go_ret
 all_goals exact⟨_,rfl,Q1.out,Q2.out,Q3.out⟩
end
end
section
open Go.RowKit
theorem eqF (w:World) (fn:Nat) (ff fc:Array Value):(binOp BinOp.eql 243 (.func (.func fn) ff fc) .nilFunc).run Tryz.prog w=.ok (.bool false) w:=by
 first
  | kernel_rfl
  | simp[binOp,go_sem]
theorem eqN (w:World):(binOp BinOp.eql 243 .nilFunc .nilFunc).run Tryz.prog w=.ok (.bool true) w:=by
 first
  | kernel_rfl
  | simp[binOp,go_sem]
section
variable {R C:Nat->Fr->Prop} {K:List Tok} {bo:Tok->Option (List It)} {bk mb a b:Nat}
theorem callOld (w:World) (ob:Nat) (m:Int) (hm0:0<=m) (hm3:m<=2) (nm:ByteArray) (fn:Nat) (ff fc:Array Value)
  (hl:∀ w0:World,Kp w w0 (fun _=>False)->(Instr.lookup 204 (.map (some a)) (.agg #[.string nm,.int .i64 (m+1)]) false).run Tryz.prog w0=.ok (.func (.func fn) ff fc) w0):
  Calls Tryz.prog 200 #[.agg #[pt bk,pt ob,.int .i64 (m+1),.map (some a),.map (some b)],.string nm] w fun e w'=>e=.returned (.func (.func fn) ff fc)/\Kp w w' (fun _=>False):=by
 have heF:=eqF;have heN:=eqN;have h1:¬ m+1=0:=by omega
 have h2:(m+1 == 0)=false:=by simpa using h1
 have hk2:=((Kp.refl w (fun _=>False)).alloc (.cells #[pt bk,pt ob,.int .i64 (m+1),.map (some a),.map (some b)] 206)).alloc (.cells #[.string nm,.int .i64 (m+1)] 284);have hr0:=hl _ hk2;have hr1:=hl _ hk2.drew;clear hl;go_enter Tryz.func200,Tryz.ntmps200;go_wp2;go_ret;exact⟨rfl,hk2⟩
theorem callNew (w:World) (ob o:Nat) (m:Int) (hm0:0<=m) (hm3:m<=2) (nm:ByteArray) (hh hl0:Value) (hbk:Blk w bk 106 #[.map (some mb),hh,hl0]) (Q:Value->World->Prop)
  (hl:∀ w0:World,Kp w w0 (fun _=>False)->(Instr.lookup 204 (.map (some a)) (.agg #[.string nm,.int .i64 (m+1)]) false).run Tryz.prog w0=.ok .nilFunc w0)
  (hw:∀ w0:World,Kp w w0 (fun _=>False)->(Instr.lookup 104 (.map (some mb)) (.string nm) false).run Tryz.prog w0=.ok (pt o) w0)
  (hB:∀ w0,Kp w w0 (fun _=>False)->Calls Tryz.prog 221 #[.agg #[pt bk,pt ob,.int .i64 (m+1),.map (some a),.map (some b)],pt o] w0 fun e w'=>∃ fn ff fc w2,e=.returned (.func (.func fn) ff fc)/\(Instr.mapUpdate 204 (.map (some a)) (.agg #[.string nm,.int .i64 (m+1)]) (.func (.func fn) ff fc)).run Tryz.prog w'=.ok () w2/\(∀ k t c,Blk w0 k t c->Blk w' k t c/\Blk w2 k t c)/\(Instr.lookup 204 (.map (some a)) (.agg #[.string nm,.int .i64 (m+1)]) false).run Tryz.prog w2=.ok (.func (.func fn) ff fc) w2/\Q (.func (.func fn) ff fc) w2):
  Calls Tryz.prog 200 #[.agg #[pt bk,pt ob,.int .i64 (m+1),.map (some a),.map (some b)],.string nm] w fun e w'=>∃ c,e=.returned c/\Q c w':=by
 have heF:=eqF;have heN:=eqN;have h1:¬ m+1=0:=by omega
 have h2:(m+1 == 0)=false:=by simpa using h1
 obtain⟨W2,hW2⟩:∃ W2,W2=(w.alloc (.cells #[pt bk,pt ob,.int .i64 (m+1),.map (some a),.map (some b)] 206)).alloc (.cells #[.string nm,.int .i64 (m+1)] 284):=⟨_,rfl⟩;have hk2:Kp w W2 (fun _=>False):=by rw[hW2];exact ((Kp.refl w (fun _=>False)).alloc _).alloc _
 have hb0:Blk W2 w.heap.size 206 #[pt bk,pt ob,.int .i64 (m+1),.map (some a),.map (some b)]:=by rw[hW2];exact (Blk.new w _ _).alloc _
 have hb1:Blk W2 (w.heap.size+1) 284 #[.string nm,.int .i64 (m+1)]:=by rw[hW2];exact Blk.new1 w _ _ _
 have hb2:Blk W2 bk 106 #[.map (some mb),hh,hl0]:=hk2.blk hbk (by simp);have hr0:=hl _ hk2;rw[hW2] at hr0;have hw0:=hw _ hk2;have hw1:=hw _ hk2.drew;have HB:=hide (hB _ hk2.drew);have HF:Hid (∀ w',(∀ k t c,Blk W2.drew k t c->Blk w' k t c)->w'.cell? ⟨w.heap.size,0,none⟩=some (pt bk)/\w'.cell? ⟨w.heap.size,1,none⟩=some (pt ob)/\w'.cell? ⟨w.heap.size,2,none⟩=some (.int .i64 (m+1))/\w'.cell? ⟨w.heap.size,3,none⟩=some (.map (some a))/\w'.cell? ⟨w.heap.size,4,none⟩=some (.map (some b))/\w'.cell? ⟨w.heap.size+1,0,none⟩=some (.string nm)/\w'.cell? ⟨w.heap.size+1,1,none⟩=some (.int .i64 (m+1))/\w'.cell? ⟨bk,0,none⟩=some (.map (some mb))):=fun w' hk=>⟨(hk _ _ _ hb0).cell rfl,(hk _ _ _ hb0).cell rfl,(hk _ _ _ hb0).cell rfl,(hk _ _ _ hb0).cell rfl,(hk _ _ _ hb0).cell rfl,(hk _ _ _ hb1).cell rfl,(hk _ _ _ hb1).cell rfl,(hk _ _ _ hb2).cell rfl⟩;obtain⟨d0,d1,d2,d3,d4,d5,d6,d7⟩:=HF.out W2 (fun _ _ _ h=>h);have HW2:=hide hW2;clear hl hw hB hb0 hb1 hb2 hbk hk2 hW2;go_enter Tryz.func200,Tryz.ntmps200;go_wp2;rw[<-HW2.out]
 go_region_held3 (fun w'=>w'.cell? ⟨w.heap.size,0,none⟩=some (pt bk)/\w'.cell? ⟨w.heap.size,1,none⟩=some (pt ob)/\w'.cell? ⟨w.heap.size,2,none⟩=some (.int .i64 (m+1))/\w'.cell? ⟨w.heap.size,3,none⟩=some (.map (some a))/\w'.cell? ⟨w.heap.size,4,none⟩=some (.map (some b))/\w'.cell? ⟨w.heap.size+1,0,none⟩=some (.string nm)/\w'.cell? ⟨w.heap.size+1,1,none⟩=some (.int .i64 (m+1))/\w'.cell? ⟨bk,0,none⟩=some (.map (some mb))) (go_keep) (first
  | (go_at_call 221;refine HB.out.mono ?_;rintro e w1 ⟨fn,ff,fc,w2,rfl,hup,hbk,hlk,hq⟩;obtain⟨u0,u1,u2,u3,u4,u5,u6,u7⟩:=HF.out w1 (fun k t c h=>(hbk k t c h).1);obtain⟨v0,v1,v2,v3,v4,v5,v6,v7⟩:=HF.out w2 (fun k t c h=>(hbk k t c h).2);have HQ:=hide hq;clear hbk hq))
 go_wp2;go_ret;exact⟨_,rfl,HQ.out⟩
end
end
end Go.Proofs.YteainaiebcphlaaGreatDoor
