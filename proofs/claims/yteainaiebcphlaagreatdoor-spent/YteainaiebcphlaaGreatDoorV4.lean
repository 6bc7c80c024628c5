import Derived.Test.YteainaiebcphlaaGreatDoorV2
import Derived.WalkKit
import Derived.Lib.ItoaNum
import Derived.Lib.IndexBytes
namespace Go.Proofs.YteainaiebcphlaaGreatDoor
set_option maxRecDepth 1000000
set_option maxHeartbeats 4000000
set_option linter.all false
section
open Go.RowKit
theorem plR_add (w:World) (yb:Nat) (s:RS) (b a:Int) (r:List Int) (h:RInv w yb s (b :: a :: r).reverse) (he:s.e=0):
  Calls Tryz.prog 88 #[.pointer (some ⟨yb,0,none⟩),.string { data:=#[43] }] w fun e w'=>e=.returned (.tuple #[])/\RPost w w' yb s ⟨0,wrap64 (a+b) :: r,s.mem,s.out⟩:=by
 have hl:=h.len;simp only[List.length_reverse,List.length_cons] at hl;go_enter Tryz.func88,Tryz.ntmps88
 go_wp2_with fail
 refine (takeR2 _ _ _ _ _ _ h).mono ?_;rintro e w1 ⟨g,v',rfl,hT⟩;have k0:=hT.blk.cell (o:=0) rfl;have k1:=hT.blk.cell (o:=1) rfl
 go_wp2_with fail
 refine (layR1 _ _ _ _ _ hT.inv he (by omega)).mono ?_;rintro e w2 ⟨rfl,v2,hi2,ht2⟩;go_wp2
 go_end0
 exact⟨rfl,⟨_,_,hi2,hT.to.trans ht2,he,rfl,rfl,rfl,fun _=>rfl⟩⟩
theorem plR_sub (w:World) (yb:Nat) (s:RS) (b a:Int) (r:List Int) (h:RInv w yb s (b :: a :: r).reverse) (he:s.e=0):
  Calls Tryz.prog 88 #[.pointer (some ⟨yb,0,none⟩),.string { data:=#[45] }] w fun e w'=>e=.returned (.tuple #[])/\RPost w w' yb s ⟨0,wrap64 (a - b) :: r,s.mem,s.out⟩:=by
 have hl:=h.len;simp only[List.length_reverse,List.length_cons] at hl;go_enter Tryz.func88,Tryz.ntmps88
 go_wp2_with fail
 refine (takeR2 _ _ _ _ _ _ h).mono ?_;rintro e w1 ⟨g,v',rfl,hT⟩;have k0:=hT.blk.cell (o:=0) rfl;have k1:=hT.blk.cell (o:=1) rfl
 go_wp2_with fail
 refine (layR1 _ _ _ _ _ hT.inv he (by omega)).mono ?_;rintro e w2 ⟨rfl,v2,hi2,ht2⟩;go_wp2
 go_end0
 exact⟨rfl,⟨_,_,hi2,hT.to.trans ht2,he,rfl,rfl,rfl,fun _=>rfl⟩⟩
theorem plR_mul (w:World) (yb:Nat) (s:RS) (b a:Int) (r:List Int) (h:RInv w yb s (b :: a :: r).reverse) (he:s.e=0):
  Calls Tryz.prog 88 #[.pointer (some ⟨yb,0,none⟩),.string { data:=#[42] }] w fun e w'=>e=.returned (.tuple #[])/\RPost w w' yb s ⟨0,wrap64 (a * b) :: r,s.mem,s.out⟩:=by
 have hl:=h.len;simp only[List.length_reverse,List.length_cons] at hl;go_enter Tryz.func88,Tryz.ntmps88
 go_wp2_with fail
 refine (takeR2 _ _ _ _ _ _ h).mono ?_;rintro e w1 ⟨g,v',rfl,hT⟩;have k0:=hT.blk.cell (o:=0) rfl;have k1:=hT.blk.cell (o:=1) rfl
 go_wp2_with fail
 refine (layR1 _ _ _ _ _ hT.inv he (by omega)).mono ?_;rintro e w2 ⟨rfl,v2,hi2,ht2⟩;go_wp2
 go_end0
 exact⟨rfl,⟨_,_,hi2,hT.to.trans ht2,he,rfl,rfl,rfl,fun _=>rfl⟩⟩
theorem plR_eq (w:World) (yb:Nat) (s:RS) (b a:Int) (r:List Int) (h:RInv w yb s (b :: a :: r).reverse) (he:s.e=0):
  Calls Tryz.prog 88 #[.pointer (some ⟨yb,0,none⟩),.string { data:=#[61] }] w fun e w'=>e=.returned (.tuple #[])/\RPost w w' yb s ⟨0,sonum (a == b) :: r,s.mem,s.out⟩:=by
 have hl:=h.len;simp only[List.length_reverse,List.length_cons] at hl;go_enter Tryz.func88,Tryz.ntmps88
 go_wp2_with fail
 refine (takeR2 _ _ _ _ _ _ h).mono ?_;rintro e w1 ⟨g,v',rfl,hT⟩;have k0:=hT.blk.cell (o:=0) rfl;have k1:=hT.blk.cell (o:=1) rfl
 go_wp2_with fail
 refine (soR _ _).mono ?_;rintro e w' ⟨rfl,hw⟩;rw[hw];clear hw
 go_wp2_with fail
 refine (layR1 _ _ _ _ _ hT.inv he (by omega)).mono ?_;rintro e w2 ⟨rfl,v2,hi2,ht2⟩;go_wp2
 go_end0
 exact⟨rfl,⟨_,_,hi2,hT.to.trans ht2,he,rfl,rfl,rfl,fun _=>rfl⟩⟩
theorem plR_lt (w:World) (yb:Nat) (s:RS) (b a:Int) (r:List Int) (h:RInv w yb s (b :: a :: r).reverse) (he:s.e=0):
  Calls Tryz.prog 88 #[.pointer (some ⟨yb,0,none⟩),.string { data:=#[60] }] w fun e w'=>e=.returned (.tuple #[])/\RPost w w' yb s ⟨0,sonum (decide (a < b)) :: r,s.mem,s.out⟩:=by
 have hl:=h.len;simp only[List.length_reverse,List.length_cons] at hl;go_enter Tryz.func88,Tryz.ntmps88
 go_wp2_with fail
 refine (takeR2 _ _ _ _ _ _ h).mono ?_;rintro e w1 ⟨g,v',rfl,hT⟩;have k0:=hT.blk.cell (o:=0) rfl;have k1:=hT.blk.cell (o:=1) rfl
 go_wp2_with fail
 refine (soR _ _).mono ?_;rintro e w' ⟨rfl,hw⟩;rw[hw];clear hw
 go_wp2_with fail
 refine (layR1 _ _ _ _ _ hT.inv he (by omega)).mono ?_;rintro e w2 ⟨rfl,v2,hi2,ht2⟩;go_wp2
 go_end0
 exact⟨rfl,⟨_,_,hi2,hT.to.trans ht2,he,rfl,rfl,rfl,fun _=>rfl⟩⟩
theorem plR_quo (w:World) (yb:Nat) (s:RS) (b a:Int) (r:List Int) (h:RInv w yb s (b :: a :: r).reverse) (he:s.e=0) (hb:¬ b=0):
  Calls Tryz.prog 88 #[.pointer (some ⟨yb,0,none⟩),.string { data:=#[47] }] w fun e w'=>e=.returned (.tuple #[])/\RPost w w' yb s ⟨0,fdiv a b :: r,s.mem,s.out⟩:=by
 have hl:=h.len;simp only[List.length_reverse,List.length_cons] at hl;go_enter Tryz.func88,Tryz.ntmps88
 go_wp2_with fail
 refine (takeR2 _ _ _ _ _ _ h).mono ?_;rintro e w1 ⟨g,v',rfl,hT⟩;have k0:=hT.blk.cell (o:=0) rfl;have k1:=hT.blk.cell (o:=1) rfl
 go_wp2_with fail
 refine (quotR _ _ _ hb).mono ?_;rintro e w' ⟨rfl,hw⟩;rw[hw];clear hw
 go_wp2_with fail
 refine (layR1 _ _ _ _ _ hT.inv he (by omega)).mono ?_;rintro e w2 ⟨rfl,v2,hi2,ht2⟩;go_wp2
 go_end0
 exact⟨rfl,⟨_,_,hi2,hT.to.trans ht2,he,rfl,rfl,rfl,fun _=>rfl⟩⟩
theorem plR_quo_zero (w:World) (yb:Nat) (s:RS) (a:Int) (r:List Int) (h:RInv w yb s (0 :: a :: r).reverse) (he:s.e=0):
  Calls Tryz.prog 88 #[.pointer (some ⟨yb,0,none⟩),.string { data:=#[47] }] w fun e w'=>e=.returned (.tuple #[])/\RPost w w' yb s ⟨9,[],s.mem,s.out⟩:=by
 have hl:=h.len;simp only[List.length_reverse,List.length_cons] at hl;go_enter Tryz.func88,Tryz.ntmps88
 go_wp2_with fail
 refine (takeR2 _ _ _ _ _ _ h).mono ?_;rintro e w1 ⟨g,v',rfl,hT⟩;have k0:=hT.blk.cell (o:=0) rfl;have k1:=hT.blk.cell (o:=1) rfl;have c1:=hT.inv.blk.cell (o:=21) rfl;have f1:=hT.inv.blk.free 21;go_wp2;refine bodyPost_ret (results_none rfl _ _ _) rfl ?_;exact⟨rfl,⟨_,_,hT.inv.setE _,hT.to.trans (RTo.set rfl _ _),rfl,rfl,rfl,rfl,fun h=>by cases h⟩⟩
theorem plR_mod (w:World) (yb:Nat) (s:RS) (b a:Int) (r:List Int) (h:RInv w yb s (b :: a :: r).reverse) (he:s.e=0) (hb:¬ b=0):
  Calls Tryz.prog 88 #[.pointer (some ⟨yb,0,none⟩),.string { data:=#[109,111,100] }] w fun e w'=>e=.returned (.tuple #[])/\RPost w w' yb s ⟨0,wrap64 (a - wrap64 (b * fdiv a b)) :: r,s.mem,s.out⟩:=by
 have hl:=h.len;simp only[List.length_reverse,List.length_cons] at hl;go_enter Tryz.func88,Tryz.ntmps88
 go_wp2_with fail
 refine (takeR2 _ _ _ _ _ _ h).mono ?_;rintro e w1 ⟨g,v',rfl,hT⟩;have k0:=hT.blk.cell (o:=0) rfl;have k1:=hT.blk.cell (o:=1) rfl
 go_wp2_with fail
 refine (quotR _ _ _ hb).mono ?_;rintro e w' ⟨rfl,hw⟩;rw[hw];clear hw
 go_wp2_with fail
 refine (layR1 _ _ _ _ _ hT.inv he (by omega)).mono ?_;rintro e w2 ⟨rfl,v2,hi2,ht2⟩;go_wp2
 go_end0
 exact⟨rfl,⟨_,_,hi2,hT.to.trans ht2,he,rfl,rfl,rfl,fun _=>rfl⟩⟩
theorem plR_mod_zero (w:World) (yb:Nat) (s:RS) (a:Int) (r:List Int) (h:RInv w yb s (0 :: a :: r).reverse) (he:s.e=0):
  Calls Tryz.prog 88 #[.pointer (some ⟨yb,0,none⟩),.string { data:=#[109,111,100] }] w fun e w'=>e=.returned (.tuple #[])/\RPost w w' yb s ⟨9,[],s.mem,s.out⟩:=by
 have hl:=h.len;simp only[List.length_reverse,List.length_cons] at hl;go_enter Tryz.func88,Tryz.ntmps88
 go_wp2_with fail
 refine (takeR2 _ _ _ _ _ _ h).mono ?_;rintro e w1 ⟨g,v',rfl,hT⟩;have k0:=hT.blk.cell (o:=0) rfl;have k1:=hT.blk.cell (o:=1) rfl;have c1:=hT.inv.blk.cell (o:=21) rfl;have f1:=hT.inv.blk.free 21;go_wp2;refine bodyPost_ret (results_none rfl _ _ _) rfl ?_;exact⟨rfl,⟨_,_,hT.inv.setE _,hT.to.trans (RTo.set rfl _ _),rfl,rfl,rfl,rfl,fun h=>by cases h⟩⟩
theorem plR_swap (w:World) (yb:Nat) (s:RS) (b a:Int) (r:List Int) (h:RInv w yb s (b :: a :: r).reverse) (he:s.e=0):
  Calls Tryz.prog 88 #[.pointer (some ⟨yb,0,none⟩),.string { data:=#[115,119,97,112] }] w fun e w'=>e=.returned (.tuple #[])/\RPost w w' yb s ⟨0,a :: b :: r,s.mem,s.out⟩:=by
 have hl:=h.len;simp only[List.length_reverse,List.length_cons] at hl;go_enter Tryz.func88,Tryz.ntmps88
 go_wp2_with fail
 refine (takeR2 _ _ _ _ _ _ h).mono ?_;rintro e w1 ⟨g,v',rfl,hT⟩;have k0:=hT.blk.cell (o:=0) rfl;have k1:=hT.blk.cell (o:=1) rfl
 go_wp2_with fail
 refine (layR1 _ _ _ _ _ hT.inv he (by omega)).mono ?_;rintro e w2 ⟨rfl,v2,hi2,ht2⟩
 go_wp2_with fail
 refine (layR1 _ _ _ _ _ hi2 he (by simp;omega)).mono ?_;rintro e w3 ⟨rfl,v3,hi3,ht3⟩;go_wp2
 go_end0
 exact⟨rfl,⟨_,_,hi3,(hT.to.trans ht2).trans ht3,he,rfl,rfl,rfl,fun _=>rfl⟩⟩
theorem plR_over (w:World) (yb:Nat) (s:RS) (b a:Int) (r:List Int) (h:RInv w yb s (b :: a :: r).reverse) (he:s.e=0) (hr:r.length < 30):
  Calls Tryz.prog 88 #[.pointer (some ⟨yb,0,none⟩),.string { data:=#[111,118,101,114] }] w fun e w'=>e=.returned (.tuple #[])/\RPost w w' yb s ⟨0,a :: b :: a :: r,s.mem,s.out⟩:=by
 have hl:=h.len;simp only[List.length_reverse,List.length_cons] at hl;go_enter Tryz.func88,Tryz.ntmps88
 go_wp2_with fail
 refine (takeR2 _ _ _ _ _ _ h).mono ?_;rintro e w1 ⟨g,v',rfl,hT⟩;have k0:=hT.blk.cell (o:=0) rfl;have k1:=hT.blk.cell (o:=1) rfl
 go_wp2_with fail
 refine (layR1 _ _ _ _ _ hT.inv he (by omega)).mono ?_;rintro e w2 ⟨rfl,v2,hi2,ht2⟩
 go_wp2_with fail
 refine (layR1 _ _ _ _ _ hi2 he (by simp;omega)).mono ?_;rintro e w3 ⟨rfl,v3,hi3,ht3⟩
 go_wp2_with fail
 refine (layR1 _ _ _ _ _ hi3 he (by simp;omega)).mono ?_;rintro e w4 ⟨rfl,v4,hi4,ht4⟩;go_wp2
 go_end0
 exact⟨rfl,⟨_,_,hi4,((hT.to.trans ht2).trans ht3).trans ht4,he,rfl,rfl,rfl,fun _=>rfl⟩⟩
theorem plR_over_full (w:World) (yb:Nat) (s:RS) (b a:Int) (r:List Int) (h:RInv w yb s (b :: a :: r).reverse) (he:s.e=0) (hr:r.length=30):
  Calls Tryz.prog 88 #[.pointer (some ⟨yb,0,none⟩),.string { data:=#[111,118,101,114] }] w fun e w'=>e=.returned (.tuple #[])/\RPost w w' yb s ⟨7,[],s.mem,s.out⟩:=by
 have hl:=h.len;simp only[List.length_reverse,List.length_cons] at hl;go_enter Tryz.func88,Tryz.ntmps88
 go_wp2_with fail
 refine (takeR2 _ _ _ _ _ _ h).mono ?_;rintro e w1 ⟨g,v',rfl,hT⟩;have k0:=hT.blk.cell (o:=0) rfl;have k1:=hT.blk.cell (o:=1) rfl
 go_wp2_with fail
 refine (layR1 _ _ _ _ _ hT.inv he (by omega)).mono ?_;rintro e w2 ⟨rfl,v2,hi2,ht2⟩
 go_wp2_with fail
 refine (layR1 _ _ _ _ _ hi2 he (by simp;omega)).mono ?_;rintro e w3 ⟨rfl,v3,hi3,ht3⟩
 go_wp2_with fail
 refine (layR_full _ _ _ _ _ hi3 he (by simp;omega)).mono ?_;rintro e w4 ⟨rfl,hi4,ht4⟩;go_wp2
 go_end0
 exact⟨rfl,⟨_,_,hi4,((hT.to.trans ht2).trans ht3).trans ht4,rfl,rfl,rfl,rfl,fun h=>by cases h⟩⟩
theorem plR_rot (w:World) (yb:Nat) (s:RS) (c b a:Int) (r:List Int) (h:RInv w yb s (c :: b :: a :: r).reverse) (he:s.e=0):
  Calls Tryz.prog 88 #[.pointer (some ⟨yb,0,none⟩),.string { data:=#[114,111,116] }] w fun e w'=>e=.returned (.tuple #[])/\RPost w w' yb s ⟨0,a :: c :: b :: r,s.mem,s.out⟩:=by
 have hl:=h.len;simp only[List.length_reverse,List.length_cons] at hl;go_enter Tryz.func88,Tryz.ntmps88
 go_wp2_with fail
 refine (takeR3 _ _ _ _ _ _ _ h).mono ?_;rintro e w1 ⟨g,v',rfl,hT⟩;have k0:=hT.blk.cell (o:=0) rfl;have k1:=hT.blk.cell (o:=1) rfl
 go_wp2_with fail
 refine (layR1 _ _ _ _ _ hT.inv he (by omega)).mono ?_;rintro e w2 ⟨rfl,v2,hi2,ht2⟩
 go_wp2_with fail
 refine (layR1 _ _ _ _ _ hi2 he (by simp;omega)).mono ?_;rintro e w3 ⟨rfl,v3,hi3,ht3⟩;have hgy:¬ g=yb:=by rintro rfl;exact absurd (hT.blk.inj hT.inv.blk).1 (by decide)
 have hb2:=ht2.blk hT.blk hgy hT.apart;have ha2:¬ own v2 g:=fun ho=>by rcases ht2.nx g ho with h1|h1;exact hT.apart h1;have:=hT.blk.lt;omega
 have hb3:=ht3.blk hb2 hgy ha2;have k2:=hb3.cell (o:=2) rfl
 go_wp2_with fail
 refine (layR1 _ _ _ _ _ hi3 he (by simp;omega)).mono ?_;rintro e w4 ⟨rfl,v4,hi4,ht4⟩;go_wp2
 go_end0
 exact⟨rfl,⟨_,_,hi4,((hT.to.trans ht2).trans ht3).trans ht4,he,rfl,rfl,rfl,fun _=>rfl⟩⟩
theorem plR_store (w:World) (yb:Nat) (s:RS) (b a:Int) (r:List Int) (h:RInv w yb s (b :: a :: r).reverse) (he:s.e=0) (h0:0<=b) (h1:b < 16):
  Calls Tryz.prog 88 #[.pointer (some ⟨yb,0,none⟩),.string { data:=#[33] }] w fun e w'=>e=.returned (.tuple #[])/\RPost w w' yb s ⟨0,r,fun j=>if j=b.toNat then a else s.mem j,s.out⟩:=by
 have hl:=h.len;simp only[List.length_reverse,List.length_cons] at hl;go_enter Tryz.func88,Tryz.ntmps88
 go_wp2_with fail
 refine (takeR2 _ _ _ _ _ _ h).mono ?_;rintro e w1 ⟨g,v',rfl,hT⟩;have k0:=hT.blk.cell (o:=0) rfl;have k1:=hT.blk.cell (o:=1) rfl;have c1:w1.cell? ⟨yb,1+b.toNat,none⟩=some (.int .i64 (s.mem b.toNat)):=hT.inv.blk.cell (RS.at _ _ (by omega));have f1:=hT.inv.blk.free (1+b.toNat);go_wp2
 go_end0
 exact⟨rfl,⟨_,_,hT.inv.setMem _ (by omega) _,hT.to.trans (RTo.set rfl _ _),he,rfl,rfl,rfl,fun _=>rfl⟩⟩
theorem plR_store_noa (w:World) (yb:Nat) (s:RS) (b a:Int) (r:List Int) (h:RInv w yb s (b :: a :: r).reverse) (he:s.e=0) (h0:b < 0):
  Calls Tryz.prog 88 #[.pointer (some ⟨yb,0,none⟩),.string { data:=#[33] }] w fun e w'=>e=.returned (.tuple #[])/\RPost w w' yb s ⟨10,[],s.mem,s.out⟩:=by
 have hl:=h.len;simp only[List.length_reverse,List.length_cons] at hl;go_enter Tryz.func88,Tryz.ntmps88
 go_wp2_with fail
 refine (takeR2 _ _ _ _ _ _ h).mono ?_;rintro e w1 ⟨g,v',rfl,hT⟩;have k0:=hT.blk.cell (o:=0) rfl;have k1:=hT.blk.cell (o:=1) rfl;have c1:=hT.inv.blk.cell (o:=21) rfl;have f1:=hT.inv.blk.free 21;go_wp2;refine bodyPost_ret (results_none rfl _ _ _) rfl ?_;exact⟨rfl,⟨_,_,hT.inv.setE _,hT.to.trans (RTo.set rfl _ _),rfl,rfl,rfl,rfl,fun h=>by cases h⟩⟩
theorem plR_store_nob (w:World) (yb:Nat) (s:RS) (b a:Int) (r:List Int) (h:RInv w yb s (b :: a :: r).reverse) (he:s.e=0) (h0:0<=b) (h1:16<=b):
  Calls Tryz.prog 88 #[.pointer (some ⟨yb,0,none⟩),.string { data:=#[33] }] w fun e w'=>e=.returned (.tuple #[])/\RPost w w' yb s ⟨10,[],s.mem,s.out⟩:=by
 have hl:=h.len;simp only[List.length_reverse,List.length_cons] at hl;go_enter Tryz.func88,Tryz.ntmps88
 go_wp2_with fail
 refine (takeR2 _ _ _ _ _ _ h).mono ?_;rintro e w1 ⟨g,v',rfl,hT⟩;have k0:=hT.blk.cell (o:=0) rfl;have k1:=hT.blk.cell (o:=1) rfl;have c1:=hT.inv.blk.cell (o:=21) rfl;have f1:=hT.inv.blk.free 21;go_wp2;refine bodyPost_ret (results_none rfl _ _ _) rfl ?_;exact⟨rfl,⟨_,_,hT.inv.setE _,hT.to.trans (RTo.set rfl _ _),rfl,rfl,rfl,rfl,fun h=>by cases h⟩⟩
theorem plR_dup (w:World) (yb:Nat) (s:RS) (a:Int) (r:List Int) (h:RInv w yb s (a :: r).reverse) (he:s.e=0) (hr:r.length < 31):
  Calls Tryz.prog 88 #[.pointer (some ⟨yb,0,none⟩),.string { data:=#[100,117,112] }] w fun e w'=>e=.returned (.tuple #[])/\RPost w w' yb s ⟨0,a :: a :: r,s.mem,s.out⟩:=by
 have hl:=h.len;simp only[List.length_reverse,List.length_cons] at hl;go_enter Tryz.func88,Tryz.ntmps88
 go_wp2_with fail
 refine (takeR1 _ _ _ _ _ h).mono ?_;rintro e w1 ⟨g,v',rfl,hT⟩;have k0:=hT.blk.cell (o:=0) rfl;have k1:=hT.blk.cell (o:=1) rfl
 go_wp2_with fail
 refine (siR_dup _ _ _ _ _ hT.inv he hr).mono ?_;rintro e w2 ⟨rfl,hp⟩;go_wp2
 go_end0
 exact⟨rfl,RPost.ofR hT.to rfl hp⟩
theorem plR_dup_full (w:World) (yb:Nat) (s:RS) (a:Int) (r:List Int) (h:RInv w yb s (a :: r).reverse) (he:s.e=0) (hr:r.length=31):
  Calls Tryz.prog 88 #[.pointer (some ⟨yb,0,none⟩),.string { data:=#[100,117,112] }] w fun e w'=>e=.returned (.tuple #[])/\RPost w w' yb s ⟨7,[],s.mem,s.out⟩:=by
 have hl:=h.len;simp only[List.length_reverse,List.length_cons] at hl;go_enter Tryz.func88,Tryz.ntmps88
 go_wp2_with fail
 refine (takeR1 _ _ _ _ _ h).mono ?_;rintro e w1 ⟨g,v',rfl,hT⟩;have k0:=hT.blk.cell (o:=0) rfl;have k1:=hT.blk.cell (o:=1) rfl
 go_wp2_with fail
 refine (siR_dup_over _ _ _ _ _ hT.inv he hr).mono ?_;rintro e w2 ⟨rfl,hp⟩;go_wp2
 go_end0
 exact⟨rfl,RPost.ofR hT.to rfl hp⟩
theorem plR_drop (w:World) (yb:Nat) (s:RS) (a:Int) (r:List Int) (h:RInv w yb s (a :: r).reverse) (he:s.e=0):
  Calls Tryz.prog 88 #[.pointer (some ⟨yb,0,none⟩),.string { data:=#[100,114,111,112] }] w fun e w'=>e=.returned (.tuple #[])/\RPost w w' yb s ⟨0,r,s.mem,s.out⟩:=by
 have hl:=h.len;simp only[List.length_reverse,List.length_cons] at hl;go_enter Tryz.func88,Tryz.ntmps88
 go_wp2_with fail
 refine (takeR1 _ _ _ _ _ h).mono ?_;rintro e w1 ⟨g,v',rfl,hT⟩;have k0:=hT.blk.cell (o:=0) rfl;have k1:=hT.blk.cell (o:=1) rfl
 go_wp2_with fail
 refine (siR_drop _ _ _ _ _ hT.inv he).mono ?_;rintro e w2 ⟨rfl,hp⟩;go_wp2
 go_end0
 exact⟨rfl,RPost.ofR hT.to rfl hp⟩
theorem plR_dot (w:World) (yb:Nat) (s:RS) (a:Int) (r:List Int) (h:RInv w yb s (a :: r).reverse) (he:s.e=0) (ho:s.out.size<=300) (h0:-9223372036854775808<=a) (h1:a<=9223372036854775807):
  Calls Tryz.prog 88 #[.pointer (some ⟨yb,0,none⟩),.string { data:=#[46] }] w fun e w'=>e=.returned (.tuple #[])/\RPost w w' yb s (prt s r (dot a)):=by
 have hl:=h.len;simp only[List.length_reverse,List.length_cons] at hl;go_enter Tryz.func88,Tryz.ntmps88
 go_wp2_with fail
 refine (takeR1 _ _ _ _ _ h).mono ?_;rintro e w1 ⟨g,v',rfl,hT⟩;have k0:=hT.blk.cell (o:=0) rfl;have k1:=hT.blk.cell (o:=1) rfl
 go_wp2_with fail
 refine (siR_dot _ _ _ _ _ hT.inv he ho h0 h1).mono ?_;rintro e w2 ⟨rfl,hp⟩;go_wp2
 go_end0
 exact⟨rfl,RPost.ofR hT.to rfl hp⟩
theorem plR_emit (w:World) (yb:Nat) (s:RS) (a:Int) (r:List Int) (h:RInv w yb s (a :: r).reverse) (he:s.e=0) (ho:s.out.size<=300):
  Calls Tryz.prog 88 #[.pointer (some ⟨yb,0,none⟩),.string { data:=#[101,109,105,116] }] w fun e w'=>e=.returned (.tuple #[])/\RPost w w' yb s (prt s r (chR a)):=by
 have hl:=h.len;simp only[List.length_reverse,List.length_cons] at hl;go_enter Tryz.func88,Tryz.ntmps88
 go_wp2_with fail
 refine (takeR1 _ _ _ _ _ h).mono ?_;rintro e w1 ⟨g,v',rfl,hT⟩;have k0:=hT.blk.cell (o:=0) rfl;have k1:=hT.blk.cell (o:=1) rfl
 go_wp2_with fail
 refine (siR_emit _ _ _ _ _ hT.inv he ho).mono ?_;rintro e w2 ⟨rfl,hp⟩;go_wp2
 go_end0
 exact⟨rfl,RPost.ofR hT.to rfl hp⟩
theorem plR_fetch (w:World) (yb:Nat) (s:RS) (a:Int) (r:List Int) (h:RInv w yb s (a :: r).reverse) (he:s.e=0) (h0:0<=a) (h1:a < 16):
  Calls Tryz.prog 88 #[.pointer (some ⟨yb,0,none⟩),.string { data:=#[64] }] w fun e w'=>e=.returned (.tuple #[])/\RPost w w' yb s ⟨0,s.mem a.toNat :: r,s.mem,s.out⟩:=by
 have hl:=h.len;simp only[List.length_reverse,List.length_cons] at hl;go_enter Tryz.func88,Tryz.ntmps88
 go_wp2_with fail
 refine (takeR1 _ _ _ _ _ h).mono ?_;rintro e w1 ⟨g,v',rfl,hT⟩;have k0:=hT.blk.cell (o:=0) rfl;have k1:=hT.blk.cell (o:=1) rfl
 go_wp2_with fail
 refine (siR_fetch _ _ _ _ _ hT.inv he (by omega) h0 h1).mono ?_;rintro e w2 ⟨rfl,hp⟩;go_wp2
 go_end0
 exact⟨rfl,RPost.ofR hT.to rfl hp⟩
theorem plR_fetch_no (w:World) (yb:Nat) (s:RS) (a:Int) (r:List Int) (h:RInv w yb s (a :: r).reverse) (he:s.e=0) (h0:¬ (0<=a/\a < 16)):
  Calls Tryz.prog 88 #[.pointer (some ⟨yb,0,none⟩),.string { data:=#[64] }] w fun e w'=>e=.returned (.tuple #[])/\RPost w w' yb s ⟨10,[],s.mem,s.out⟩:=by
 have hl:=h.len;simp only[List.length_reverse,List.length_cons] at hl;go_enter Tryz.func88,Tryz.ntmps88
 go_wp2_with fail
 refine (takeR1 _ _ _ _ _ h).mono ?_;rintro e w1 ⟨g,v',rfl,hT⟩;have k0:=hT.blk.cell (o:=0) rfl;have k1:=hT.blk.cell (o:=1) rfl
 go_wp2_with fail
 refine (siR_fetch_no _ _ _ _ _ hT.inv he h0).mono ?_;rintro e w2 ⟨rfl,hp⟩;go_wp2
 go_end0
 exact⟨rfl,RPost.ofR hT.to rfl hp⟩
theorem plR_add_under (w:World) (yb:Nat) (s:RS) (ns:List Int) (h:RInv w yb s ns) (hl:ns.length < 2):
  Calls Tryz.prog 88 #[.pointer (some ⟨yb,0,none⟩),.string { data:=#[43] }] w fun e w'=>e=.returned (.tuple #[])/\RPost w w' yb s ⟨6,[],s.mem,s.out⟩:=by
 go_enter Tryz.func88,Tryz.ntmps88
 go_wp2_with fail
 refine (takeR_under _ _ _ _ _ h (by omega)).mono ?_;rintro e w1 ⟨v,rfl,hi,ht⟩;go_wp2;refine bodyPost_ret (results_none rfl _ _ _) rfl ?_;exact⟨rfl,⟨_,_,hi,ht,rfl,rfl,rfl,rfl,fun h=>by cases h⟩⟩
theorem plR_sub_under (w:World) (yb:Nat) (s:RS) (ns:List Int) (h:RInv w yb s ns) (hl:ns.length < 2):
  Calls Tryz.prog 88 #[.pointer (some ⟨yb,0,none⟩),.string { data:=#[45] }] w fun e w'=>e=.returned (.tuple #[])/\RPost w w' yb s ⟨6,[],s.mem,s.out⟩:=by
 go_enter Tryz.func88,Tryz.ntmps88
 go_wp2_with fail
 refine (takeR_under _ _ _ _ _ h (by omega)).mono ?_;rintro e w1 ⟨v,rfl,hi,ht⟩;go_wp2;refine bodyPost_ret (results_none rfl _ _ _) rfl ?_;exact⟨rfl,⟨_,_,hi,ht,rfl,rfl,rfl,rfl,fun h=>by cases h⟩⟩
theorem plR_mul_under (w:World) (yb:Nat) (s:RS) (ns:List Int) (h:RInv w yb s ns) (hl:ns.length < 2):
  Calls Tryz.prog 88 #[.pointer (some ⟨yb,0,none⟩),.string { data:=#[42] }] w fun e w'=>e=.returned (.tuple #[])/\RPost w w' yb s ⟨6,[],s.mem,s.out⟩:=by
 go_enter Tryz.func88,Tryz.ntmps88
 go_wp2_with fail
 refine (takeR_under _ _ _ _ _ h (by omega)).mono ?_;rintro e w1 ⟨v,rfl,hi,ht⟩;go_wp2;refine bodyPost_ret (results_none rfl _ _ _) rfl ?_;exact⟨rfl,⟨_,_,hi,ht,rfl,rfl,rfl,rfl,fun h=>by cases h⟩⟩
theorem plR_quo_under (w:World) (yb:Nat) (s:RS) (ns:List Int) (h:RInv w yb s ns) (hl:ns.length < 2):
  Calls Tryz.prog 88 #[.pointer (some ⟨yb,0,none⟩),.string { data:=#[47] }] w fun e w'=>e=.returned (.tuple #[])/\RPost w w' yb s ⟨6,[],s.mem,s.out⟩:=by
 go_enter Tryz.func88,Tryz.ntmps88
 go_wp2_with fail
 refine (takeR_under _ _ _ _ _ h (by omega)).mono ?_;rintro e w1 ⟨v,rfl,hi,ht⟩;go_wp2;refine bodyPost_ret (results_none rfl _ _ _) rfl ?_;exact⟨rfl,⟨_,_,hi,ht,rfl,rfl,rfl,rfl,fun h=>by cases h⟩⟩
theorem plR_mod_under (w:World) (yb:Nat) (s:RS) (ns:List Int) (h:RInv w yb s ns) (hl:ns.length < 2):
  Calls Tryz.prog 88 #[.pointer (some ⟨yb,0,none⟩),.string { data:=#[109,111,100] }] w fun e w'=>e=.returned (.tuple #[])/\RPost w w' yb s ⟨6,[],s.mem,s.out⟩:=by
 go_enter Tryz.func88,Tryz.ntmps88
 go_wp2_with fail
 refine (takeR_under _ _ _ _ _ h (by omega)).mono ?_;rintro e w1 ⟨v,rfl,hi,ht⟩;go_wp2;refine bodyPost_ret (results_none rfl _ _ _) rfl ?_;exact⟨rfl,⟨_,_,hi,ht,rfl,rfl,rfl,rfl,fun h=>by cases h⟩⟩
theorem plR_eq_under (w:World) (yb:Nat) (s:RS) (ns:List Int) (h:RInv w yb s ns) (hl:ns.length < 2):
  Calls Tryz.prog 88 #[.pointer (some ⟨yb,0,none⟩),.string { data:=#[61] }] w fun e w'=>e=.returned (.tuple #[])/\RPost w w' yb s ⟨6,[],s.mem,s.out⟩:=by
 go_enter Tryz.func88,Tryz.ntmps88
 go_wp2_with fail
 refine (takeR_under _ _ _ _ _ h (by omega)).mono ?_;rintro e w1 ⟨v,rfl,hi,ht⟩;go_wp2;refine bodyPost_ret (results_none rfl _ _ _) rfl ?_;exact⟨rfl,⟨_,_,hi,ht,rfl,rfl,rfl,rfl,fun h=>by cases h⟩⟩
theorem plR_lt_under (w:World) (yb:Nat) (s:RS) (ns:List Int) (h:RInv w yb s ns) (hl:ns.length < 2):
  Calls Tryz.prog 88 #[.pointer (some ⟨yb,0,none⟩),.string { data:=#[60] }] w fun e w'=>e=.returned (.tuple #[])/\RPost w w' yb s ⟨6,[],s.mem,s.out⟩:=by
 go_enter Tryz.func88,Tryz.ntmps88
 go_wp2_with fail
 refine (takeR_under _ _ _ _ _ h (by omega)).mono ?_;rintro e w1 ⟨v,rfl,hi,ht⟩;go_wp2;refine bodyPost_ret (results_none rfl _ _ _) rfl ?_;exact⟨rfl,⟨_,_,hi,ht,rfl,rfl,rfl,rfl,fun h=>by cases h⟩⟩
theorem plR_dup_under (w:World) (yb:Nat) (s:RS) (ns:List Int) (h:RInv w yb s ns) (hl:ns.length < 1):
  Calls Tryz.prog 88 #[.pointer (some ⟨yb,0,none⟩),.string { data:=#[100,117,112] }] w fun e w'=>e=.returned (.tuple #[])/\RPost w w' yb s ⟨6,[],s.mem,s.out⟩:=by
 go_enter Tryz.func88,Tryz.ntmps88
 go_wp2_with fail
 refine (takeR_under _ _ _ _ _ h (by omega)).mono ?_;rintro e w1 ⟨v,rfl,hi,ht⟩;go_wp2;refine bodyPost_ret (results_none rfl _ _ _) rfl ?_;exact⟨rfl,⟨_,_,hi,ht,rfl,rfl,rfl,rfl,fun h=>by cases h⟩⟩
theorem plR_drop_under (w:World) (yb:Nat) (s:RS) (ns:List Int) (h:RInv w yb s ns) (hl:ns.length < 1):
  Calls Tryz.prog 88 #[.pointer (some ⟨yb,0,none⟩),.string { data:=#[100,114,111,112] }] w fun e w'=>e=.returned (.tuple #[])/\RPost w w' yb s ⟨6,[],s.mem,s.out⟩:=by
 go_enter Tryz.func88,Tryz.ntmps88
 go_wp2_with fail
 refine (takeR_under _ _ _ _ _ h (by omega)).mono ?_;rintro e w1 ⟨v,rfl,hi,ht⟩;go_wp2;refine bodyPost_ret (results_none rfl _ _ _) rfl ?_;exact⟨rfl,⟨_,_,hi,ht,rfl,rfl,rfl,rfl,fun h=>by cases h⟩⟩
theorem plR_swap_under (w:World) (yb:Nat) (s:RS) (ns:List Int) (h:RInv w yb s ns) (hl:ns.length < 2):
  Calls Tryz.prog 88 #[.pointer (some ⟨yb,0,none⟩),.string { data:=#[115,119,97,112] }] w fun e w'=>e=.returned (.tuple #[])/\RPost w w' yb s ⟨6,[],s.mem,s.out⟩:=by
 go_enter Tryz.func88,Tryz.ntmps88
 go_wp2_with fail
 refine (takeR_under _ _ _ _ _ h (by omega)).mono ?_;rintro e w1 ⟨v,rfl,hi,ht⟩;go_wp2;refine bodyPost_ret (results_none rfl _ _ _) rfl ?_;exact⟨rfl,⟨_,_,hi,ht,rfl,rfl,rfl,rfl,fun h=>by cases h⟩⟩
theorem plR_over_under (w:World) (yb:Nat) (s:RS) (ns:List Int) (h:RInv w yb s ns) (hl:ns.length < 2):
  Calls Tryz.prog 88 #[.pointer (some ⟨yb,0,none⟩),.string { data:=#[111,118,101,114] }] w fun e w'=>e=.returned (.tuple #[])/\RPost w w' yb s ⟨6,[],s.mem,s.out⟩:=by
 go_enter Tryz.func88,Tryz.ntmps88
 go_wp2_with fail
 refine (takeR_under _ _ _ _ _ h (by omega)).mono ?_;rintro e w1 ⟨v,rfl,hi,ht⟩;go_wp2;refine bodyPost_ret (results_none rfl _ _ _) rfl ?_;exact⟨rfl,⟨_,_,hi,ht,rfl,rfl,rfl,rfl,fun h=>by cases h⟩⟩
theorem plR_rot_under (w:World) (yb:Nat) (s:RS) (ns:List Int) (h:RInv w yb s ns) (hl:ns.length < 3):
  Calls Tryz.prog 88 #[.pointer (some ⟨yb,0,none⟩),.string { data:=#[114,111,116] }] w fun e w'=>e=.returned (.tuple #[])/\RPost w w' yb s ⟨6,[],s.mem,s.out⟩:=by
 go_enter Tryz.func88,Tryz.ntmps88
 go_wp2_with fail
 refine (takeR_under _ _ _ _ _ h (by omega)).mono ?_;rintro e w1 ⟨v,rfl,hi,ht⟩;go_wp2;refine bodyPost_ret (results_none rfl _ _ _) rfl ?_;exact⟨rfl,⟨_,_,hi,ht,rfl,rfl,rfl,rfl,fun h=>by cases h⟩⟩
theorem plR_dot_under (w:World) (yb:Nat) (s:RS) (ns:List Int) (h:RInv w yb s ns) (hl:ns.length < 1):
  Calls Tryz.prog 88 #[.pointer (some ⟨yb,0,none⟩),.string { data:=#[46] }] w fun e w'=>e=.returned (.tuple #[])/\RPost w w' yb s ⟨6,[],s.mem,s.out⟩:=by
 go_enter Tryz.func88,Tryz.ntmps88
 go_wp2_with fail
 refine (takeR_under _ _ _ _ _ h (by omega)).mono ?_;rintro e w1 ⟨v,rfl,hi,ht⟩;go_wp2;refine bodyPost_ret (results_none rfl _ _ _) rfl ?_;exact⟨rfl,⟨_,_,hi,ht,rfl,rfl,rfl,rfl,fun h=>by cases h⟩⟩
theorem plR_emit_under (w:World) (yb:Nat) (s:RS) (ns:List Int) (h:RInv w yb s ns) (hl:ns.length < 1):
  Calls Tryz.prog 88 #[.pointer (some ⟨yb,0,none⟩),.string { data:=#[101,109,105,116] }] w fun e w'=>e=.returned (.tuple #[])/\RPost w w' yb s ⟨6,[],s.mem,s.out⟩:=by
 go_enter Tryz.func88,Tryz.ntmps88
 go_wp2_with fail
 refine (takeR_under _ _ _ _ _ h (by omega)).mono ?_;rintro e w1 ⟨v,rfl,hi,ht⟩;go_wp2;refine bodyPost_ret (results_none rfl _ _ _) rfl ?_;exact⟨rfl,⟨_,_,hi,ht,rfl,rfl,rfl,rfl,fun h=>by cases h⟩⟩
theorem plR_fetch_under (w:World) (yb:Nat) (s:RS) (ns:List Int) (h:RInv w yb s ns) (hl:ns.length < 1):
  Calls Tryz.prog 88 #[.pointer (some ⟨yb,0,none⟩),.string { data:=#[64] }] w fun e w'=>e=.returned (.tuple #[])/\RPost w w' yb s ⟨6,[],s.mem,s.out⟩:=by
 go_enter Tryz.func88,Tryz.ntmps88
 go_wp2_with fail
 refine (takeR_under _ _ _ _ _ h (by omega)).mono ?_;rintro e w1 ⟨v,rfl,hi,ht⟩;go_wp2;refine bodyPost_ret (results_none rfl _ _ _) rfl ?_;exact⟨rfl,⟨_,_,hi,ht,rfl,rfl,rfl,rfl,fun h=>by cases h⟩⟩
theorem plR_store_under (w:World) (yb:Nat) (s:RS) (ns:List Int) (h:RInv w yb s ns) (hl:ns.length < 2):
  Calls Tryz.prog 88 #[.pointer (some ⟨yb,0,none⟩),.string { data:=#[33] }] w fun e w'=>e=.returned (.tuple #[])/\RPost w w' yb s ⟨6,[],s.mem,s.out⟩:=by
 go_enter Tryz.func88,Tryz.ntmps88
 go_wp2_with fail
 refine (takeR_under _ _ _ _ _ h (by omega)).mono ?_;rintro e w1 ⟨v,rfl,hi,ht⟩;go_wp2;refine bodyPost_ret (results_none rfl _ _ _) rfl ?_;exact⟨rfl,⟨_,_,hi,ht,rfl,rfl,rfl,rfl,fun h=>by cases h⟩⟩
end
section
open Go.RowKit
def plainL:List (List UInt8):=[[43],[45],[42],[47],[109,111,100],[61],[60],[100,117,112],[100,114,111,112],[115,119,97,112],[111,118,101,114],[114,111,116],[46],[101,109,105,116],[64],[33]]
def keptL:List (List UInt8):=[[105,102],[101,108,115,101],[116,104,101,110],[98,101,103,105,110],[117,110,116,105,108],[119,104,105,108,101],[114,101,112,101,97,116],[100,111],[108,111,111,112],[105],[114,101,99,117,114,115,101],[101,120,105,116]]
def digB (c:UInt8):Bool:=decide (48<=c.toNat/\c.toNat<=57)
def valD (l:List UInt8):Nat:=l.foldl (fun n c=>10 * n+(c.toNat - 48)) 0
def digitsB (r:List UInt8):Bool:=decide (1<=r.length/\r.length<=18) && r.all digB
def numP:List UInt8->Option Int
 | []=>none
 | c :: r=>if c=45 then (if digitsB r=true then some (-(valD r:Int)) else none) else (if digitsB (c :: r)=true then some (valD (c :: r):Int) else none)
theorem valD_snoc (l:List UInt8) (c:UInt8):valD (l ++ [c])=10 * valD l+(c.toNat - 48):=by simp[valD,List.foldl_append]
theorem valD_lt:∀ (l:List UInt8),l.all digB=true->valD l < 10 ^ l.length:=by
 intro l;generalize hn:l.length=n
 induction n generalizing l with
 | zero=>intro _;have:l=[]:=List.eq_nil_of_length_eq_zero hn;subst this;decide
 | succ n ih=>
  intro h;rcases List.eq_nil_or_concat l with rfl|⟨l',c,hlc⟩
  ·simp at hn
  ·rw[List.concat_eq_append] at hlc;subst hlc;simp only[List.length_append,List.length_cons,List.length_nil] at hn;simp only[List.all_append,List.all_cons,List.all_nil,Bool.and_true,Bool.and_eq_true] at h;have h1:=ih l' (by omega) h.1;have h2:=of_decide_eq_true h.2;rw[valD_snoc,Nat.pow_succ];omega
theorem pow_le18 {k:Nat} (h:k<=18):(10:Nat) ^ k<=1000000000000000000:=by
 have:=Nat.pow_le_pow_right (show 0 < 10 by decide) h
 simpa using this
theorem pow_le17 {k:Nat} (h:k<=17):(10:Nat) ^ k<=100000000000000000:=by
 have:=Nat.pow_le_pow_right (show 0 < 10 by decide) h
 simpa using this
theorem take_snoc (s:ByteArray) (k:Nat) (h:k < s.size):s.data.toList.take (k+1)=s.data.toList.take k ++ [s[k]]:=by
 rw[List.take_succ_eq_append_getElem (by simpa using h)];rfl
theorem numP_range {l:List UInt8} {n:Int} (h:numP l=some n):-9223372036854775808<=n/\n<=9223372036854775807:=by
 have key:∀ r,digitsB r=true->(valD r:Int) < 1000000000000000000:=by
  intro r hr;simp only[digitsB,Bool.and_eq_true,decide_eq_true_eq] at hr;have h1:=valD_lt r hr.2;have h2:=pow_le18 hr.1.2;omega
 cases l with
 | nil=>simp[numP] at h
 | cons c r=>
  simp only[numP] at h
  split at h
  ·split at h
   ·rename_i hd;injection h with h;have:=key _ hd;omega
   ·cases h
  ·split at h
   ·rename_i hd;injection h with h;have:=key _ hd;omega
   ·cases h
end
section
open Go.RowKit
theorem amongR (s:ByteArray) (g:Nat) (ws:List ByteArray) (w:World) (hb:Blk w g 9 (ws.map Value.string).toArray) (hl:ws.length<=100):
  Calls Tryz.prog 134 #[.string s,.slice (some ⟨g,0,none⟩) ws.length ws.length] w fun e w'=>e=.returned (.bool (ws.any fun t=>t.toList == s.toList))/\w'=w:=by
 go_enter Tryz.func134,Tryz.ntmps134;go_wp2
 go_loop [5] (fun i=>∃ k:Nat,k<=ws.length/\i=.int .i64 k/\(ws.take k).any (fun t=>t.toList == s.toList)=false) (fun i=>ws.length - (intOf i).toNat)
 case atStart=>exact⟨0,Nat.zero_le _,rfl,rfl⟩
 case round=>
  obtain⟨k,hk,rfl,hno⟩:=hrel;have HN:Hid ((ws.take k).any (fun t=>t.toList == s.toList)=false):=hno;clear hno;by_cases hlt:k < ws.length
  ·have c:w.cell? ⟨g,k,none⟩=some (.string ws[k]):=hb.cell (by simp[hlt]);go_wp2
   ·have hx:(ws[k].toList == s.toList)=true:=by assumption
    go_ret;refine⟨?_,rfl⟩;have:(ws.any fun t=>t.toList == s.toList)=true:=List.any_eq_true.2 ⟨ws[k],List.getElem_mem hlt,hx⟩;rw[this];rfl
   ·have hx:(ws[k].toList == s.toList)=false:=by assumption
    go_round
    case rel=>
     refine⟨k+1,by omega,by go_num,?_⟩;rw[List.take_succ_eq_append_getElem hlt,List.any_append,HN.out];simp[hx]
    case measure=>simp[intOf];omega
  ·go_wp2;go_ret;refine⟨?_,rfl⟩;have:=HN.out;rw[List.take_of_length_le (by omega)] at this;rw[this];rfl
def plainWs:List ByteArray:=[⟨#[43]⟩,⟨#[45]⟩,⟨#[42]⟩,⟨#[47]⟩,⟨#[109,111,100]⟩,⟨#[61]⟩,⟨#[60]⟩,⟨#[100,117,112]⟩,⟨#[100,114,111,112]⟩,⟨#[115,119,97,112]⟩,⟨#[111,118,101,114]⟩,⟨#[114,111,116]⟩,⟨#[46]⟩,⟨#[101,109,105,116]⟩,⟨#[64]⟩,⟨#[33]⟩]
def keptWs:List ByteArray:=[⟨#[105,102]⟩,⟨#[101,108,115,101]⟩,⟨#[116,104,101,110]⟩,⟨#[98,101,103,105,110]⟩,⟨#[117,110,116,105,108]⟩,⟨#[119,104,105,108,101]⟩,⟨#[114,101,112,101,97,116]⟩,⟨#[100,111]⟩,⟨#[108,111,111,112]⟩,⟨#[105]⟩,⟨#[114,101,99,117,114,115,101]⟩,⟨#[101,120,105,116]⟩]
theorem plainWs_any (l:List UInt8):(plainWs.any fun t=>t.toList == l)=plainL.any (· == l):=by simp[plainWs,plainL,ByteArray.toList_eq]
theorem keptWs_any (l:List UInt8):(keptWs.any fun t=>t.toList == l)=keptL.any (· == l):=by simp[keptWs,keptL,ByteArray.toList_eq]
theorem isPlainR (s:ByteArray) (w:World):
  Calls Tryz.prog 82 #[.string s] w fun e w'=>e=.returned (.bool (plainL.any (· == s.toList)))/\Kp w w' (fun _=>False):=by
 go_enter Tryz.func82,Tryz.ntmps82
 go_wp2_with fail
 refine (amongR s _ plainWs _ (Blk.new w _ _) (by decide)).mono ?_;rintro e w' ⟨rfl,hw⟩;rw[hw];clear hw;rw[plainWs_any];go_wp2;go_ret;exact⟨rfl,(Kp.refl _ _).alloc _⟩
theorem isKeptR (s:ByteArray) (w:World):
  Calls Tryz.prog 83 #[.string s] w fun e w'=>e=.returned (.bool (keptL.any (· == s.toList)))/\Kp w w' (fun _=>False):=by
 go_enter Tryz.func83,Tryz.ntmps83
 go_wp2_with fail
 refine (amongR s _ keptWs _ (Blk.new w _ _) (by decide)).mono ?_;rintro e w' ⟨rfl,hw⟩;rw[hw];clear hw;rw[keptWs_any];go_wp2;go_ret;exact⟨rfl,(Kp.refl _ _).alloc _⟩
end
section
open Go.RowKit
theorem toList_of_size {s:ByteArray} (h:0 < s.size):s.toList=s[0] :: (s.extract 1 s.size).toList:=by
 rw[ByteArray.toList_eq,ByteArray.toList_eq,Lib.extract_to_end];obtain⟨⟨l⟩⟩:=s
 cases l with
 | nil=>exact absurd h (by decide)
 | cons c r=>rfl
def numV (l:List UInt8):Value:=.tuple #[.int .i64 ((numP l).getD 0),.bool (numP l).isSome]
theorem numV_none {l:List UInt8} (h:numP l=none):numV l=.tuple #[.int .i64 0,.bool false]:=by unfold numV;rw[h];rfl
theorem numV_some {l:List UInt8} {n:Int} (h:numP l=some n):numV l=.tuple #[.int .i64 n,.bool true]:=by unfold numV;rw[h];rfl
theorem numP_minus (r:List UInt8):numP (45 :: r)=if digitsB r=true then some (-(valD r:Int)) else none:=by simp[numP]
theorem numP_other (c:UInt8) (r:List UInt8) (h:¬ c=45):numP (c :: r)=if digitsB (c :: r)=true then some (valD (c :: r):Int) else none:=by simp[numP,h]
theorem digitsB_bad {l:List UInt8} {k:Nat} (hk:k < l.length) (hb:digB l[k]=false):digitsB l=false:=by
 simp only[digitsB,Bool.and_eq_false_iff]
 right
 rw[List.all_eq_false];exact⟨l[k],List.getElem_mem hk,by rw[hb];decide⟩
theorem numberR_plain (s:ByteArray) (w:World) (h0:0 < s.size) (h45:¬ s[0]=45) (h18:s.size<=18):
  Calls Tryz.prog 81 #[.string s] w fun e w'=>e=.returned (numV s.toList)/\w'=w:=by
 have hc:((s[0].toNat:Int) == 45)=false:=by
  simp only[beq_eq_false_iff_ne,ne_eq];intro h;exact h45 (by apply UInt8.toNat_inj.1;simpa using (by omega:s[0].toNat=45))
 have HN:Hid (numP s.toList=if digitsB s.toList=true then some (valD s.toList:Int) else none):=by
  have:=toList_of_size h0;unfold Hid;rw[this];exact numP_other _ _ h45
 have H45:Hid (¬ s[0]=45):=h45;clear h45;go_enter Tryz.func81,Tryz.ntmps81;go_wp2
 go_loop [5,6] (fun n i=>∃ k:Nat,k<=s.size/\i=.int .i64 k/\n=.int .i64 (valD (s.data.toList.take k))/\(s.data.toList.take k).all digB=true) (fun _ i=>s.size - (intOf i).toNat)
 case atStart=>exact⟨0,Nat.zero_le _,rfl,rfl,rfl⟩
 case round=>
  obtain⟨k,hk,rfl,rfl,hall⟩:=hrel;have HA:Hid ((s.data.toList.take k).all digB=true):=hall;clear hall;by_cases hlt:k < s.size
  ·obtain⟨v,hv⟩:∃ v:Nat,v=valD (s.data.toList.take k):=⟨_,rfl⟩;rw[<-hv];have hvb:v<=99999999999999999:=by
    have h1:=valD_lt _ HA.out;have h2:(s.data.toList.take k).length<=17:=by have:=List.length_take_le k s.data.toList;omega
    have h3:=pow_le17 h2;omega
   have HV:Hid (v=valD (s.data.toList.take k)):=hv;clear hv;by_cases hd:48<=s[k].toNat/\s[k].toNat<=57
   ·obtain⟨hd1,hd2⟩:=hd;go_wp2
    go_round
    case rel=>
     refine⟨k+1,by omega,by go_num,?_,?_⟩
     ·rw[take_snoc s k hlt,valD_snoc,<-HV.out];go_num
     ·rw[take_snoc s k hlt,List.all_append,HA.out];simp[digB,hd1,hd2]
    case measure=>simp[intOf];omega
   ·have hbad:numP s.toList=none:=by
     rw[HN.out,if_neg];rw[digitsB_bad (l:=s.toList) (k:=k) (by rw[ByteArray.toList_eq];exact hlt) (by simp only[ByteArray.toList_eq];exact decide_eq_false hd)];decide
    have HB:=numV_none hbad;clear hbad;have HB':Hid (numV s.toList=.tuple #[.int .i64 0,.bool false]):=HB;clear HB;rcases (show s[k].toNat < 48\/(48<=s[k].toNat/\57 < s[k].toNat) by omega) with h1|⟨h1,h2⟩
    all_goals
     go_wp2;go_ret2;exact⟨by rw[HB'.out];rfl,rfl⟩
  ·have hfull:s.data.toList.take k=s.toList:=by rw[ByteArray.toList_eq];exact List.take_of_length_le (by show s.data.size<=k;simpa using hlt)
   have hok:numP s.toList=some (valD (s.data.toList.take k):Int):=by
    rw[HN.out,if_pos,hfull];unfold digitsB;rw[<-hfull,HA.out];simp;omega
   have HB:Hid (numV s.toList=.tuple #[.int .i64 (valD (s.data.toList.take k)),.bool true]):=numV_some hok;clear hok hfull;go_wp2;go_ret2;exact⟨by rw[HB.out];rfl,rfl⟩
theorem numberR_minus (s t:ByteArray) (w:World) (h0:0 < s.size) (h45:s[0]=45) (ht:s.extract 1 s.size=t) (h1:1<=t.size) (h18:t.size<=18):
  Calls Tryz.prog 81 #[.string s] w fun e w'=>e=.returned (numV s.toList)/\w'=w:=by
 have hc:((s[0].toNat:Int) == 45)=true:=by rw[h45];rfl
 have HN:Hid (numP s.toList=if digitsB t.toList=true then some (-(valD t.toList:Int)) else none):=by
  have:=toList_of_size h0;unfold Hid;rw[this,h45,ht];exact numP_minus _
 have hsz:t.size < s.size:=by rw[<-ht];simp;omega
 have H45:Hid (s[0]=45):=h45;clear h45;go_enter Tryz.func81,Tryz.ntmps81;go_wp2
 go_loop [5,6] (fun n i=>∃ k:Nat,k<=t.size/\i=.int .i64 k/\n=.int .i64 (valD (t.data.toList.take k))/\(t.data.toList.take k).all digB=true) (fun _ i=>t.size - (intOf i).toNat)
 case atStart=>exact⟨0,Nat.zero_le _,rfl,rfl,rfl⟩
 case round=>
  obtain⟨k,hk,rfl,rfl,hall⟩:=hrel;have HA:Hid ((t.data.toList.take k).all digB=true):=hall;clear hall;by_cases hlt:k < t.size
  ·obtain⟨v,hv⟩:∃ v:Nat,v=valD (t.data.toList.take k):=⟨_,rfl⟩;rw[<-hv];have hvb:v<=99999999999999999:=by
    have h1:=valD_lt _ HA.out;have h2:(t.data.toList.take k).length<=17:=by have:=List.length_take_le k t.data.toList;omega
    have h3:=pow_le17 h2;omega
   have HV:Hid (v=valD (t.data.toList.take k)):=hv;clear hv;by_cases hd:48<=t[k].toNat/\t[k].toNat<=57
   ·obtain⟨hd1,hd2⟩:=hd;go_wp2
    go_round
    case rel=>
     refine⟨k+1,by omega,by go_num,?_,?_⟩
     ·rw[take_snoc t k hlt,valD_snoc,<-HV.out];go_num
     ·rw[take_snoc t k hlt,List.all_append,HA.out];simp[digB,hd1,hd2]
    case measure=>simp[intOf];omega
   ·have hbad:numP s.toList=none:=by
     rw[HN.out,if_neg];rw[digitsB_bad (l:=t.toList) (k:=k) (by rw[ByteArray.toList_eq];exact hlt) (by simp only[ByteArray.toList_eq];exact decide_eq_false hd)];decide
    have HB:=numV_none hbad;clear hbad;have HB':Hid (numV s.toList=.tuple #[.int .i64 0,.bool false]):=HB;clear HB;rcases (show t[k].toNat < 48\/(48<=t[k].toNat/\57 < t[k].toNat) by omega) with h1|⟨h1,h2⟩
    all_goals
     go_wp2;go_ret2;exact⟨by rw[HB'.out];rfl,rfl⟩
  ·have hfull:t.data.toList.take k=t.toList:=by rw[ByteArray.toList_eq];exact List.take_of_length_le (by show t.data.size<=k;simpa using hlt)
   have hvb:valD (t.data.toList.take k)<=999999999999999999:=by
    have h1:=valD_lt _ HA.out;have h2:(t.data.toList.take k).length<=18:=by have:=List.length_take_le k t.data.toList;omega
    have h3:=pow_le18 h2;omega
   have hok:numP s.toList=some (-(valD (t.data.toList.take k):Int)):=by
    rw[HN.out,if_pos,hfull];unfold digitsB;rw[<-hfull,HA.out];simp;omega
   have HB:Hid (numV s.toList=.tuple #[.int .i64 (-(valD (t.data.toList.take k):Int)),.bool true]):=numV_some hok;clear hok hfull;go_wp2;go_ret2;exact⟨by rw[HB.out];rfl,rfl⟩
end
end Go.Proofs.YteainaiebcphlaaGreatDoor
