import Derived.Test.YteainaiebcphlaaGreatDoorV2
import Derived.WalkKit
import Derived.Lib.ItoaNum
import Derived.Lib.IndexBytes
import Derived.Lib.Fields
namespace Go.Proofs.YteainaiebcphlaaGreatDoor
set_option maxRecDepth 1000000
set_option maxHeartbeats 4000000
set_option linter.all false
section
open Go.RowKit
theorem plR_add (w:World) (yb:Nat) (s:RS) (b a:Int) (r:List Int) (h:RInv w yb s (b :: a :: r).reverse) (he:s.e=0):
  Calls Tryz.prog 88 #[.pointer (some ⟨yb,0,none⟩),.string { data:=#[43] }] w fun e w'=>e=.returned (.tuple #[])/\RPost w w' yb s ⟨0,wrap64 (a+b) :: r,s.mem,s.out⟩:=by
 have hl:=h.len;simp only[List.length_reverse,List.length_cons] at hl;go_enter Tryz.func88,Tryz.ntmps88
 go_wp2_with fail
 refine (takeR2 _ _ _ _ _ _ h).mono ?_;rintro e w1 ⟨g,v',rfl,hT⟩;have k0:=hT.blk.cell (o:=0) rfl;have k1:=hT.blk.cell (o:=1) rfl
 go_wp2_with fail
 refine (layR1 _ _ _ _ _ hT.inv he (by omega)).mono ?_;rintro e w2 ⟨rfl,v2,hi2,ht2⟩;go_wp2
 go_end0
 exact⟨rfl,⟨_,_,hi2,hT.to.trans ht2,he,rfl,rfl,rfl,fun _=>rfl⟩⟩
theorem plR_sub (w:World) (yb:Nat) (s:RS) (b a:Int) (r:List Int) (h:RInv w yb s (b :: a :: r).reverse) (he:s.e=0):
  Calls Tryz.prog 88 #[.pointer (some ⟨yb,0,none⟩),.string { data:=#[45] }] w fun e w'=>e=.returned (.tuple #[])/\RPost w w' yb s ⟨0,wrap64 (a - b) :: r,s.mem,s.out⟩:=by
 have hl:=h.len;simp only[List.length_reverse,List.length_cons] at hl;go_enter Tryz.func88,Tryz.ntmps88
 go_wp2_with fail
 refine (takeR2 _ _ _ _ _ _ h).mono ?_;rintro e w1 ⟨g,v',rfl,hT⟩;have k0:=hT.blk.cell (o:=0) rfl;have k1:=hT.blk.cell (o:=1) rfl
 go_wp2_with fail
 refine (layR1 _ _ _ _ _ hT.inv he (by omega)).mono ?_;rintro e w2 ⟨rfl,v2,hi2,ht2⟩;go_wp2
 go_end0
 exact⟨rfl,⟨_,_,hi2,hT.to.trans ht2,he,rfl,rfl,rfl,fun _=>rfl⟩⟩
theorem plR_mul (w:World) (yb:Nat) (s:RS) (b a:Int) (r:List Int) (h:RInv w yb s (b :: a :: r).reverse) (he:s.e=0):
  Calls Tryz.prog 88 #[.pointer (some ⟨yb,0,none⟩),.string { data:=#[42] }] w fun e w'=>e=.returned (.tuple #[])/\RPost w w' yb s ⟨0,wrap64 (a * b) :: r,s.mem,s.out⟩:=by
 have hl:=h.len;simp only[List.length_reverse,List.length_cons] at hl;go_enter Tryz.func88,Tryz.ntmps88
 go_wp2_with fail
 refine (takeR2 _ _ _ _ _ _ h).mono ?_;rintro e w1 ⟨g,v',rfl,hT⟩;have k0:=hT.blk.cell (o:=0) rfl;have k1:=hT.blk.cell (o:=1) rfl
 go_wp2_with fail
 refine (layR1 _ _ _ _ _ hT.inv he (by omega)).mono ?_;rintro e w2 ⟨rfl,v2,hi2,ht2⟩;go_wp2
 go_end0
 exact⟨rfl,⟨_,_,hi2,hT.to.trans ht2,he,rfl,rfl,rfl,fun _=>rfl⟩⟩
theorem plR_eq (w:World) (yb:Nat) (s:RS) (b a:Int) (r:List Int) (h:RInv w yb s (b :: a :: r).reverse) (he:s.e=0):
  Calls Tryz.prog 88 #[.pointer (some ⟨yb,0,none⟩),.string { data:=#[61] }] w fun e w'=>e=.returned (.tuple #[])/\RPost w w' yb s ⟨0,sonum (a == b) :: r,s.mem,s.out⟩:=by
 have hl:=h.len;simp only[List.length_reverse,List.length_cons] at hl;go_enter Tryz.func88,Tryz.ntmps88
 go_wp2_with fail
 refine (takeR2 _ _ _ _ _ _ h).mono ?_;rintro e w1 ⟨g,v',rfl,hT⟩;have k0:=hT.blk.cell (o:=0) rfl;have k1:=hT.blk.cell (o:=1) rfl
 go_wp2_with fail
 refine (soR _ _).mono ?_;rintro e w' ⟨rfl,hw⟩;rw[hw];clear hw
 go_wp2_with fail
 refine (layR1 _ _ _ _ _ hT.inv he (by omega)).mono ?_;rintro e w2 ⟨rfl,v2,hi2,ht2⟩;go_wp2
 go_end0
 exact⟨rfl,⟨_,_,hi2,hT.to.trans ht2,he,rfl,rfl,rfl,fun _=>rfl⟩⟩
theorem plR_lt (w:World) (yb:Nat) (s:RS) (b a:Int) (r:List Int) (h:RInv w yb s (b :: a :: r).reverse) (he:s.e=0):
  Calls Tryz.prog 88 #[.pointer (some ⟨yb,0,none⟩),.string { data:=#[60] }] w fun e w'=>e=.returned (.tuple #[])/\RPost w w' yb s ⟨0,sonum (decide (a < b)) :: r,s.mem,s.out⟩:=by
 have hl:=h.len;simp only[List.length_reverse,List.length_cons] at hl;go_enter Tryz.func88,Tryz.ntmps88
 go_wp2_with fail
 refine (takeR2 _ _ _ _ _ _ h).mono ?_;rintro e w1 ⟨g,v',rfl,hT⟩;have k0:=hT.blk.cell (o:=0) rfl;have k1:=hT.blk.cell (o:=1) rfl
 go_wp2_with fail
 refine (soR _ _).mono ?_;rintro e w' ⟨rfl,hw⟩;rw[hw];clear hw
 go_wp2_with fail
 refine (layR1 _ _ _ _ _ hT.inv he (by omega)).mono ?_;rintro e w2 ⟨rfl,v2,hi2,ht2⟩;go_wp2
 go_end0
 exact⟨rfl,⟨_,_,hi2,hT.to.trans ht2,he,rfl,rfl,rfl,fun _=>rfl⟩⟩
theorem plR_quo (w:World) (yb:Nat) (s:RS) (b a:Int) (r:List Int) (h:RInv w yb s (b :: a :: r).reverse) (he:s.e=0) (hb:¬ b=0):
  Calls Tryz.prog 88 #[.pointer (some ⟨yb,0,none⟩),.string { data:=#[47] }] w fun e w'=>e=.returned (.tuple #[])/\RPost w w' yb s ⟨0,fdiv a b :: r,s.mem,s.out⟩:=by
 have hl:=h.len;simp only[List.length_reverse,List.length_cons] at hl;go_enter Tryz.func88,Tryz.ntmps88
 go_wp2_with fail
 refine (takeR2 _ _ _ _ _ _ h).mono ?_;rintro e w1 ⟨g,v',rfl,hT⟩;have k0:=hT.blk.cell (o:=0) rfl;have k1:=hT.blk.cell (o:=1) rfl
 go_wp2_with fail
 refine (quotR _ _ _ hb).mono ?_;rintro e w' ⟨rfl,hw⟩;rw[hw];clear hw
 go_wp2_with fail
 refine (layR1 _ _ _ _ _ hT.inv he (by omega)).mono ?_;rintro e w2 ⟨rfl,v2,hi2,ht2⟩;go_wp2
 go_end0
 exact⟨rfl,⟨_,_,hi2,hT.to.trans ht2,he,rfl,rfl,rfl,fun _=>rfl⟩⟩
theorem plR_quo_zero (w:World) (yb:Nat) (s:RS) (a:Int) (r:List Int) (h:RInv w yb s (0 :: a :: r).reverse) (he:s.e=0):
  Calls Tryz.prog 88 #[.pointer (some ⟨yb,0,none⟩),.string { data:=#[47] }] w fun e w'=>e=.returned (.tuple #[])/\RPost w w' yb s ⟨9,[],s.mem,s.out⟩:=by
 have hl:=h.len;simp only[List.length_reverse,List.length_cons] at hl;go_enter Tryz.func88,Tryz.ntmps88
 go_wp2_with fail
 refine (takeR2 _ _ _ _ _ _ h).mono ?_;rintro e w1 ⟨g,v',rfl,hT⟩;have k0:=hT.blk.cell (o:=0) rfl;have k1:=hT.blk.cell (o:=1) rfl;have c1:=hT.inv.blk.cell (o:=21) rfl;have f1:=hT.inv.blk.free 21;go_wp2;refine bodyPost_ret (results_none rfl _ _ _) rfl ?_;exact⟨rfl,⟨_,_,hT.inv.setE _,hT.to.trans (RTo.set rfl _ _),rfl,rfl,rfl,rfl,fun h=>by cases h⟩⟩
theorem plR_mod (w:World) (yb:Nat) (s:RS) (b a:Int) (r:List Int) (h:RInv w yb s (b :: a :: r).reverse) (he:s.e=0) (hb:¬ b=0):
  Calls Tryz.prog 88 #[.pointer (some ⟨yb,0,none⟩),.string { data:=#[109,111,100] }] w fun e w'=>e=.returned (.tuple #[])/\RPost w w' yb s ⟨0,wrap64 (a - wrap64 (b * fdiv a b)) :: r,s.mem,s.out⟩:=by
 have hl:=h.len;simp only[List.length_reverse,List.length_cons] at hl;go_enter Tryz.func88,Tryz.ntmps88
 go_wp2_with fail
 refine (takeR2 _ _ _ _ _ _ h).mono ?_;rintro e w1 ⟨g,v',rfl,hT⟩;have k0:=hT.blk.cell (o:=0) rfl;have k1:=hT.blk.cell (o:=1) rfl
 go_wp2_with fail
 refine (quotR _ _ _ hb).mono ?_;rintro e w' ⟨rfl,hw⟩;rw[hw];clear hw
 go_wp2_with fail
 refine (layR1 _ _ _ _ _ hT.inv he (by omega)).mono ?_;rintro e w2 ⟨rfl,v2,hi2,ht2⟩;go_wp2
 go_end0
 exact⟨rfl,⟨_,_,hi2,hT.to.trans ht2,he,rfl,rfl,rfl,fun _=>rfl⟩⟩
theorem plR_mod_zero (w:World) (yb:Nat) (s:RS) (a:Int) (r:List Int) (h:RInv w yb s (0 :: a :: r).reverse) (he:s.e=0):
  Calls Tryz.prog 88 #[.pointer (some ⟨yb,0,none⟩),.string { data:=#[109,111,100] }] w fun e w'=>e=.returned (.tuple #[])/\RPost w w' yb s ⟨9,[],s.mem,s.out⟩:=by
 have hl:=h.len;simp only[List.length_reverse,List.length_cons] at hl;go_enter Tryz.func88,Tryz.ntmps88
 go_wp2_with fail
 refine (takeR2 _ _ _ _ _ _ h).mono ?_;rintro e w1 ⟨g,v',rfl,hT⟩;have k0:=hT.blk.cell (o:=0) rfl;have k1:=hT.blk.cell (o:=1) rfl;have c1:=hT.inv.blk.cell (o:=21) rfl;have f1:=hT.inv.blk.free 21;go_wp2;refine bodyPost_ret (results_none rfl _ _ _) rfl ?_;exact⟨rfl,⟨_,_,hT.inv.setE _,hT.to.trans (RTo.set rfl _ _),rfl,rfl,rfl,rfl,fun h=>by cases h⟩⟩
theorem plR_swap (w:World) (yb:Nat) (s:RS) (b a:Int) (r:List Int) (h:RInv w yb s (b :: a :: r).reverse) (he:s.e=0):
  Calls Tryz.prog 88 #[.pointer (some ⟨yb,0,none⟩),.string { data:=#[115,119,97,112] }] w fun e w'=>e=.returned (.tuple #[])/\RPost w w' yb s ⟨0,a :: b :: r,s.mem,s.out⟩:=by
 have hl:=h.len;simp only[List.length_reverse,List.length_cons] at hl;go_enter Tryz.func88,Tryz.ntmps88
 go_wp2_with fail
 refine (takeR2 _ _ _ _ _ _ h).mono ?_;rintro e w1 ⟨g,v',rfl,hT⟩;have k0:=hT.blk.cell (o:=0) rfl;have k1:=hT.blk.cell (o:=1) rfl
 go_wp2_with fail
 refine (layR1 _ _ _ _ _ hT.inv he (by omega)).mono ?_;rintro e w2 ⟨rfl,v2,hi2,ht2⟩
 go_wp2_with fail
 refine (layR1 _ _ _ _ _ hi2 he (by simp;omega)).mono ?_;rintro e w3 ⟨rfl,v3,hi3,ht3⟩;go_wp2
 go_end0
 exact⟨rfl,⟨_,_,hi3,(hT.to.trans ht2).trans ht3,he,rfl,rfl,rfl,fun _=>rfl⟩⟩
theorem plR_over (w:World) (yb:Nat) (s:RS) (b a:Int) (r:List Int) (h:RInv w yb s (b :: a :: r).reverse) (he:s.e=0) (hr:r.length < 30):
  Calls Tryz.prog 88 #[.pointer (some ⟨yb,0,none⟩),.string { data:=#[111,118,101,114] }] w fun e w'=>e=.returned (.tuple #[])/\RPost w w' yb s ⟨0,a :: b :: a :: r,s.mem,s.out⟩:=by
 have hl:=h.len;simp only[List.length_reverse,List.length_cons] at hl;go_enter Tryz.func88,Tryz.ntmps88
 go_wp2_with fail
 refine (takeR2 _ _ _ _ _ _ h).mono ?_;rintro e w1 ⟨g,v',rfl,hT⟩;have k0:=hT.blk.cell (o:=0) rfl;have k1:=hT.blk.cell (o:=1) rfl
 go_wp2_with fail
 refine (layR1 _ _ _ _ _ hT.inv he (by omega)).mono ?_;rintro e w2 ⟨rfl,v2,hi2,ht2⟩
 go_wp2_with fail
 refine (layR1 _ _ _ _ _ hi2 he (by simp;omega)).mono ?_;rintro e w3 ⟨rfl,v3,hi3,ht3⟩
 go_wp2_with fail
 refine (layR1 _ _ _ _ _ hi3 he (by simp;omega)).mono ?_;rintro e w4 ⟨rfl,v4,hi4,ht4⟩;go_wp2
 go_end0
 exact⟨rfl,⟨_,_,hi4,((hT.to.trans ht2).trans ht3).trans ht4,he,rfl,rfl,rfl,fun _=>rfl⟩⟩
theorem plR_over_full (w:World) (yb:Nat) (s:RS) (b a:Int) (r:List Int) (h:RInv w yb s (b :: a :: r).reverse) (he:s.e=0) (hr:r.length=30):
  Calls Tryz.prog 88 #[.pointer (some ⟨yb,0,none⟩),.string { data:=#[111,118,101,114] }] w fun e w'=>e=.returned (.tuple #[])/\RPost w w' yb s ⟨7,[],s.mem,s.out⟩:=by
 have hl:=h.len;simp only[List.length_reverse,List.length_cons] at hl;go_enter Tryz.func88,Tryz.ntmps88
 go_wp2_with fail
 refine (takeR2 _ _ _ _ _ _ h).mono ?_;rintro e w1 ⟨g,v',rfl,hT⟩;have k0:=hT.blk.cell (o:=0) rfl;have k1:=hT.blk.cell (o:=1) rfl
 go_wp2_with fail
 refine (layR1 _ _ _ _ _ hT.inv he (by omega)).mono ?_;rintro e w2 ⟨rfl,v2,hi2,ht2⟩
 go_wp2_with fail
 refine (layR1 _ _ _ _ _ hi2 he (by simp;omega)).mono ?_;rintro e w3 ⟨rfl,v3,hi3,ht3⟩
 go_wp2_with fail
 refine (layR_full _ _ _ _ _ hi3 he (by simp;omega)).mono ?_;rintro e w4 ⟨rfl,hi4,ht4⟩;go_wp2
 go_end0
 exact⟨rfl,⟨_,_,hi4,((hT.to.trans ht2).trans ht3).trans ht4,rfl,rfl,rfl,rfl,fun h=>by cases h⟩⟩
theorem plR_rot (w:World) (yb:Nat) (s:RS) (c b a:Int) (r:List Int) (h:RInv w yb s (c :: b :: a :: r).reverse) (he:s.e=0):
  Calls Tryz.prog 88 #[.pointer (some ⟨yb,0,none⟩),.string { data:=#[114,111,116] }] w fun e w'=>e=.returned (.tuple #[])/\RPost w w' yb s ⟨0,a :: c :: b :: r,s.mem,s.out⟩:=by
 have hl:=h.len;simp only[List.length_reverse,List.length_cons] at hl;go_enter Tryz.func88,Tryz.ntmps88
 go_wp2_with fail
 refine (takeR3 _ _ _ _ _ _ _ h).mono ?_;rintro e w1 ⟨g,v',rfl,hT⟩;have k0:=hT.blk.cell (o:=0) rfl;have k1:=hT.blk.cell (o:=1) rfl
 go_wp2_with fail
 refine (layR1 _ _ _ _ _ hT.inv he (by omega)).mono ?_;rintro e w2 ⟨rfl,v2,hi2,ht2⟩
 go_wp2_with fail
 refine (layR1 _ _ _ _ _ hi2 he (by simp;omega)).mono ?_;rintro e w3 ⟨rfl,v3,hi3,ht3⟩;have hgy:¬ g=yb:=by rintro rfl;exact absurd (hT.blk.inj hT.inv.blk).1 (by decide)
 have hb2:=ht2.blk hT.blk hgy hT.apart;have ha2:¬ own v2 g:=fun ho=>by rcases ht2.nx g ho with h1|h1;exact hT.apart h1;have:=hT.blk.lt;omega
 have hb3:=ht3.blk hb2 hgy ha2;have k2:=hb3.cell (o:=2) rfl
 go_wp2_with fail
 refine (layR1 _ _ _ _ _ hi3 he (by simp;omega)).mono ?_;rintro e w4 ⟨rfl,v4,hi4,ht4⟩;go_wp2
 go_end0
 exact⟨rfl,⟨_,_,hi4,((hT.to.trans ht2).trans ht3).trans ht4,he,rfl,rfl,rfl,fun _=>rfl⟩⟩
theorem plR_store (w:World) (yb:Nat) (s:RS) (b a:Int) (r:List Int) (h:RInv w yb s (b :: a :: r).reverse) (he:s.e=0) (h0:0<=b) (h1:b < 16):
  Calls Tryz.prog 88 #[.pointer (some ⟨yb,0,none⟩),.string { data:=#[33] }] w fun e w'=>e=.returned (.tuple #[])/\RPost w w' yb s ⟨0,r,fun j=>if j=b.toNat then a else s.mem j,s.out⟩:=by
 have hl:=h.len;simp only[List.length_reverse,List.length_cons] at hl;go_enter Tryz.func88,Tryz.ntmps88
 go_wp2_with fail
 refine (takeR2 _ _ _ _ _ _ h).mono ?_;rintro e w1 ⟨g,v',rfl,hT⟩;have k0:=hT.blk.cell (o:=0) rfl;have k1:=hT.blk.cell (o:=1) rfl;have c1:w1.cell? ⟨yb,1+b.toNat,none⟩=some (.int .i64 (s.mem b.toNat)):=hT.inv.blk.cell (RS.at _ _ (by omega));have f1:=hT.inv.blk.free (1+b.toNat);go_wp2
 go_end0
 exact⟨rfl,⟨_,_,hT.inv.setMem _ (by omega) _,hT.to.trans (RTo.set rfl _ _),he,rfl,rfl,rfl,fun _=>rfl⟩⟩
theorem plR_store_noa (w:World) (yb:Nat) (s:RS) (b a:Int) (r:List Int) (h:RInv w yb s (b :: a :: r).reverse) (he:s.e=0) (h0:b < 0):
  Calls Tryz.prog 88 #[.pointer (some ⟨yb,0,none⟩),.string { data:=#[33] }] w fun e w'=>e=.returned (.tuple #[])/\RPost w w' yb s ⟨10,[],s.mem,s.out⟩:=by
 have hl:=h.len;simp only[List.length_reverse,List.length_cons] at hl;go_enter Tryz.func88,Tryz.ntmps88
 go_wp2_with fail
 refine (takeR2 _ _ _ _ _ _ h).mono ?_;rintro e w1 ⟨g,v',rfl,hT⟩;have k0:=hT.blk.cell (o:=0) rfl;have k1:=hT.blk.cell (o:=1) rfl;have c1:=hT.inv.blk.cell (o:=21) rfl;have f1:=hT.inv.blk.free 21;go_wp2;refine bodyPost_ret (results_none rfl _ _ _) rfl ?_;exact⟨rfl,⟨_,_,hT.inv.setE _,hT.to.trans (RTo.set rfl _ _),rfl,rfl,rfl,rfl,fun h=>by cases h⟩⟩
theorem plR_store_nob (w:World) (yb:Nat) (s:RS) (b a:Int) (r:List Int) (h:RInv w yb s (b :: a :: r).reverse) (he:s.e=0) (h0:0<=b) (h1:16<=b):
  Calls Tryz.prog 88 #[.pointer (some ⟨yb,0,none⟩),.string { data:=#[33] }] w fun e w'=>e=.returned (.tuple #[])/\RPost w w' yb s ⟨10,[],s.mem,s.out⟩:=by
 have hl:=h.len;simp only[List.length_reverse,List.length_cons] at hl;go_enter Tryz.func88,Tryz.ntmps88
 go_wp2_with fail
 refine (takeR2 _ _ _ _ _ _ h).mono ?_;rintro e w1 ⟨g,v',rfl,hT⟩;have k0:=hT.blk.cell (o:=0) rfl;have k1:=hT.blk.cell (o:=1) rfl;have c1:=hT.inv.blk.cell (o:=21) rfl;have f1:=hT.inv.blk.free 21;go_wp2;refine bodyPost_ret (results_none rfl _ _ _) rfl ?_;exact⟨rfl,⟨_,_,hT.inv.setE _,hT.to.trans (RTo.set rfl _ _),rfl,rfl,rfl,rfl,fun h=>by cases h⟩⟩
theorem plR_dup (w:World) (yb:Nat) (s:RS) (a:Int) (r:List Int) (h:RInv w yb s (a :: r).reverse) (he:s.e=0) (hr:r.length < 31):
  Calls Tryz.prog 88 #[.pointer (some ⟨yb,0,none⟩),.string { data:=#[100,117,112] }] w fun e w'=>e=.returned (.tuple #[])/\RPost w w' yb s ⟨0,a :: a :: r,s.mem,s.out⟩:=by
 have hl:=h.len;simp only[List.length_reverse,List.length_cons] at hl;go_enter Tryz.func88,Tryz.ntmps88
 go_wp2_with fail
 refine (takeR1 _ _ _ _ _ h).mono ?_;rintro e w1 ⟨g,v',rfl,hT⟩;have k0:=hT.blk.cell (o:=0) rfl;have k1:=hT.blk.cell (o:=1) rfl
 go_wp2_with fail
 refine (siR_dup _ _ _ _ _ hT.inv he hr).mono ?_;rintro e w2 ⟨rfl,hp⟩;go_wp2
 go_end0
 exact⟨rfl,RPost.ofR hT.to rfl hp⟩
theorem plR_dup_full (w:World) (yb:Nat) (s:RS) (a:Int) (r:List Int) (h:RInv w yb s (a :: r).reverse) (he:s.e=0) (hr:r.length=31):
  Calls Tryz.prog 88 #[.pointer (some ⟨yb,0,none⟩),.string { data:=#[100,117,112] }] w fun e w'=>e=.returned (.tuple #[])/\RPost w w' yb s ⟨7,[],s.mem,s.out⟩:=by
 have hl:=h.len;simp only[List.length_reverse,List.length_cons] at hl;go_enter Tryz.func88,Tryz.ntmps88
 go_wp2_with fail
 refine (takeR1 _ _ _ _ _ h).mono ?_;rintro e w1 ⟨g,v',rfl,hT⟩;have k0:=hT.blk.cell (o:=0) rfl;have k1:=hT.blk.cell (o:=1) rfl
 go_wp2_with fail
 refine (siR_dup_over _ _ _ _ _ hT.inv he hr).mono ?_;rintro e w2 ⟨rfl,hp⟩;go_wp2
 go_end0
 exact⟨rfl,RPost.ofR hT.to rfl hp⟩
theorem plR_drop (w:World) (yb:Nat) (s:RS) (a:Int) (r:List Int) (h:RInv w yb s (a :: r).reverse) (he:s.e=0):
  Calls Tryz.prog 88 #[.pointer (some ⟨yb,0,none⟩),.string { data:=#[100,114,111,112] }] w fun e w'=>e=.returned (.tuple #[])/\RPost w w' yb s ⟨0,r,s.mem,s.out⟩:=by
 have hl:=h.len;simp only[List.length_reverse,List.length_cons] at hl;go_enter Tryz.func88,Tryz.ntmps88
 go_wp2_with fail
 refine (takeR1 _ _ _ _ _ h).mono ?_;rintro e w1 ⟨g,v',rfl,hT⟩;have k0:=hT.blk.cell (o:=0) rfl;have k1:=hT.blk.cell (o:=1) rfl
 go_wp2_with fail
 refine (siR_drop _ _ _ _ _ hT.inv he).mono ?_;rintro e w2 ⟨rfl,hp⟩;go_wp2
 go_end0
 exact⟨rfl,RPost.ofR hT.to rfl hp⟩
theorem plR_dot (w:World) (yb:Nat) (s:RS) (a:Int) (r:List Int) (h:RInv w yb s (a :: r).reverse) (he:s.e=0) (ho:s.out.size<=300) (h0:-9223372036854775808<=a) (h1:a<=9223372036854775807):
  Calls Tryz.prog 88 #[.pointer (some ⟨yb,0,none⟩),.string { data:=#[46] }] w fun e w'=>e=.returned (.tuple #[])/\RPost w w' yb s (prt s r (dot a)):=by
 have hl:=h.len;simp only[List.length_reverse,List.length_cons] at hl;go_enter Tryz.func88,Tryz.ntmps88
 go_wp2_with fail
 refine (takeR1 _ _ _ _ _ h).mono ?_;rintro e w1 ⟨g,v',rfl,hT⟩;have k0:=hT.blk.cell (o:=0) rfl;have k1:=hT.blk.cell (o:=1) rfl
 go_wp2_with fail
 refine (siR_dot _ _ _ _ _ hT.inv he ho h0 h1).mono ?_;rintro e w2 ⟨rfl,hp⟩;go_wp2
 go_end0
 exact⟨rfl,RPost.ofR hT.to rfl hp⟩
theorem plR_emit (w:World) (yb:Nat) (s:RS) (a:Int) (r:List Int) (h:RInv w yb s (a :: r).reverse) (he:s.e=0) (ho:s.out.size<=300):
  Calls Tryz.prog 88 #[.pointer (some ⟨yb,0,none⟩),.string { data:=#[101,109,105,116] }] w fun e w'=>e=.returned (.tuple #[])/\RPost w w' yb s (prt s r (chR a)):=by
 have hl:=h.len;simp only[List.length_reverse,List.length_cons] at hl;go_enter Tryz.func88,Tryz.ntmps88
 go_wp2_with fail
 refine (takeR1 _ _ _ _ _ h).mono ?_;rintro e w1 ⟨g,v',rfl,hT⟩;have k0:=hT.blk.cell (o:=0) rfl;have k1:=hT.blk.cell (o:=1) rfl
 go_wp2_with fail
 refine (siR_emit _ _ _ _ _ hT.inv he ho).mono ?_;rintro e w2 ⟨rfl,hp⟩;go_wp2
 go_end0
 exact⟨rfl,RPost.ofR hT.to rfl hp⟩
theorem plR_fetch (w:World) (yb:Nat) (s:RS) (a:Int) (r:List Int) (h:RInv w yb s (a :: r).reverse) (he:s.e=0) (h0:0<=a) (h1:a < 16):
  Calls Tryz.prog 88 #[.pointer (some ⟨yb,0,none⟩),.string { data:=#[64] }] w fun e w'=>e=.returned (.tuple #[])/\RPost w w' yb s ⟨0,s.mem a.toNat :: r,s.mem,s.out⟩:=by
 have hl:=h.len;simp only[List.length_reverse,List.length_cons] at hl;go_enter Tryz.func88,Tryz.ntmps88
 go_wp2_with fail
 refine (takeR1 _ _ _ _ _ h).mono ?_;rintro e w1 ⟨g,v',rfl,hT⟩;have k0:=hT.blk.cell (o:=0) rfl;have k1:=hT.blk.cell (o:=1) rfl
 go_wp2_with fail
 refine (siR_fetch _ _ _ _ _ hT.inv he (by omega) h0 h1).mono ?_;rintro e w2 ⟨rfl,hp⟩;go_wp2
 go_end0
 exact⟨rfl,RPost.ofR hT.to rfl hp⟩
theorem plR_fetch_no (w:World) (yb:Nat) (s:RS) (a:Int) (r:List Int) (h:RInv w yb s (a :: r).reverse) (he:s.e=0) (h0:¬ (0<=a/\a < 16)):
  Calls Tryz.prog 88 #[.pointer (some ⟨yb,0,none⟩),.string { data:=#[64] }] w fun e w'=>e=.returned (.tuple #[])/\RPost w w' yb s ⟨10,[],s.mem,s.out⟩:=by
 have hl:=h.len;simp only[List.length_reverse,List.length_cons] at hl;go_enter Tryz.func88,Tryz.ntmps88
 go_wp2_with fail
 refine (takeR1 _ _ _ _ _ h).mono ?_;rintro e w1 ⟨g,v',rfl,hT⟩;have k0:=hT.blk.cell (o:=0) rfl;have k1:=hT.blk.cell (o:=1) rfl
 go_wp2_with fail
 refine (siR_fetch_no _ _ _ _ _ hT.inv he h0).mono ?_;rintro e w2 ⟨rfl,hp⟩;go_wp2
 go_end0
 exact⟨rfl,RPost.ofR hT.to rfl hp⟩
theorem plR_add_under (w:World) (yb:Nat) (s:RS) (ns:List Int) (h:RInv w yb s ns) (hl:ns.length < 2):
  Calls Tryz.prog 88 #[.pointer (some ⟨yb,0,none⟩),.string { data:=#[43] }] w fun e w'=>e=.returned (.tuple #[])/\RPost w w' yb s ⟨6,[],s.mem,s.out⟩:=by
 go_enter Tryz.func88,Tryz.ntmps88
 go_wp2_with fail
 refine (takeR_under _ _ _ _ _ h (by omega)).mono ?_;rintro e w1 ⟨v,rfl,hi,ht⟩;go_wp2;refine bodyPost_ret (results_none rfl _ _ _) rfl ?_;exact⟨rfl,⟨_,_,hi,ht,rfl,rfl,rfl,rfl,fun h=>by cases h⟩⟩
theorem plR_sub_under (w:World) (yb:Nat) (s:RS) (ns:List Int) (h:RInv w yb s ns) (hl:ns.length < 2):
  Calls Tryz.prog 88 #[.pointer (some ⟨yb,0,none⟩),.string { data:=#[45] }] w fun e w'=>e=.returned (.tuple #[])/\RPost w w' yb s ⟨6,[],s.mem,s.out⟩:=by
 go_enter Tryz.func88,Tryz.ntmps88
 go_wp2_with fail
 refine (takeR_under _ _ _ _ _ h (by omega)).mono ?_;rintro e w1 ⟨v,rfl,hi,ht⟩;go_wp2;refine bodyPost_ret (results_none rfl _ _ _) rfl ?_;exact⟨rfl,⟨_,_,hi,ht,rfl,rfl,rfl,rfl,fun h=>by cases h⟩⟩
theorem plR_mul_under (w:World) (yb:Nat) (s:RS) (ns:List Int) (h:RInv w yb s ns) (hl:ns.length < 2):
  Calls Tryz.prog 88 #[.pointer (some ⟨yb,0,none⟩),.string { data:=#[42] }] w fun e w'=>e=.returned (.tuple #[])/\RPost w w' yb s ⟨6,[],s.mem,s.out⟩:=by
 go_enter Tryz.func88,Tryz.ntmps88
 go_wp2_with fail
 refine (takeR_under _ _ _ _ _ h (by omega)).mono ?_;rintro e w1 ⟨v,rfl,hi,ht⟩;go_wp2;refine bodyPost_ret (results_none rfl _ _ _) rfl ?_;exact⟨rfl,⟨_,_,hi,ht,rfl,rfl,rfl,rfl,fun h=>by cases h⟩⟩
theorem plR_quo_under (w:World) (yb:Nat) (s:RS) (ns:List Int) (h:RInv w yb s ns) (hl:ns.length < 2):
  Calls Tryz.prog 88 #[.pointer (some ⟨yb,0,none⟩),.string { data:=#[47] }] w fun e w'=>e=.returned (.tuple #[])/\RPost w w' yb s ⟨6,[],s.mem,s.out⟩:=by
 go_enter Tryz.func88,Tryz.ntmps88
 go_wp2_with fail
 refine (takeR_under _ _ _ _ _ h (by omega)).mono ?_;rintro e w1 ⟨v,rfl,hi,ht⟩;go_wp2;refine bodyPost_ret (results_none rfl _ _ _) rfl ?_;exact⟨rfl,⟨_,_,hi,ht,rfl,rfl,rfl,rfl,fun h=>by cases h⟩⟩
theorem plR_mod_under (w:World) (yb:Nat) (s:RS) (ns:List Int) (h:RInv w yb s ns) (hl:ns.length < 2):
  Calls Tryz.prog 88 #[.pointer (some ⟨yb,0,none⟩),.string { data:=#[109,111,100] }] w fun e w'=>e=.returned (.tuple #[])/\RPost w w' yb s ⟨6,[],s.mem,s.out⟩:=by
 go_enter Tryz.func88,Tryz.ntmps88
 go_wp2_with fail
 refine (takeR_under _ _ _ _ _ h (by omega)).mono ?_;rintro e w1 ⟨v,rfl,hi,ht⟩;go_wp2;refine bodyPost_ret (results_none rfl _ _ _) rfl ?_;exact⟨rfl,⟨_,_,hi,ht,rfl,rfl,rfl,rfl,fun h=>by cases h⟩⟩
theorem plR_eq_under (w:World) (yb:Nat) (s:RS) (ns:List Int) (h:RInv w yb s ns) (hl:ns.length < 2):
  Calls Tryz.prog 88 #[.pointer (some ⟨yb,0,none⟩),.string { data:=#[61] }] w fun e w'=>e=.returned (.tuple #[])/\RPost w w' yb s ⟨6,[],s.mem,s.out⟩:=by
 go_enter Tryz.func88,Tryz.ntmps88
 go_wp2_with fail
 refine (takeR_under _ _ _ _ _ h (by omega)).mono ?_;rintro e w1 ⟨v,rfl,hi,ht⟩;go_wp2;refine bodyPost_ret (results_none rfl _ _ _) rfl ?_;exact⟨rfl,⟨_,_,hi,ht,rfl,rfl,rfl,rfl,fun h=>by cases h⟩⟩
theorem plR_lt_under (w:World) (yb:Nat) (s:RS) (ns:List Int) (h:RInv w yb s ns) (hl:ns.length < 2):
  Calls Tryz.prog 88 #[.pointer (some ⟨yb,0,none⟩),.string { data:=#[60] }] w fun e w'=>e=.returned (.tuple #[])/\RPost w w' yb s ⟨6,[],s.mem,s.out⟩:=by
 go_enter Tryz.func88,Tryz.ntmps88
 go_wp2_with fail
 refine (takeR_under _ _ _ _ _ h (by omega)).mono ?_;rintro e w1 ⟨v,rfl,hi,ht⟩;go_wp2;refine bodyPost_ret (results_none rfl _ _ _) rfl ?_;exact⟨rfl,⟨_,_,hi,ht,rfl,rfl,rfl,rfl,fun h=>by cases h⟩⟩
theorem plR_dup_under (w:World) (yb:Nat) (s:RS) (ns:List Int) (h:RInv w yb s ns) (hl:ns.length < 1):
  Calls Tryz.prog 88 #[.pointer (some ⟨yb,0,none⟩),.string { data:=#[100,117,112] }] w fun e w'=>e=.returned (.tuple #[])/\RPost w w' yb s ⟨6,[],s.mem,s.out⟩:=by
 go_enter Tryz.func88,Tryz.ntmps88
 go_wp2_with fail
 refine (takeR_under _ _ _ _ _ h (by omega)).mono ?_;rintro e w1 ⟨v,rfl,hi,ht⟩;go_wp2;refine bodyPost_ret (results_none rfl _ _ _) rfl ?_;exact⟨rfl,⟨_,_,hi,ht,rfl,rfl,rfl,rfl,fun h=>by cases h⟩⟩
theorem plR_drop_under (w:World) (yb:Nat) (s:RS) (ns:List Int) (h:RInv w yb s ns) (hl:ns.length < 1):
  Calls Tryz.prog 88 #[.pointer (some ⟨yb,0,none⟩),.string { data:=#[100,114,111,112] }] w fun e w'=>e=.returned (.tuple #[])/\RPost w w' yb s ⟨6,[],s.mem,s.out⟩:=by
 go_enter Tryz.func88,Tryz.ntmps88
 go_wp2_with fail
 refine (takeR_under _ _ _ _ _ h (by omega)).mono ?_;rintro e w1 ⟨v,rfl,hi,ht⟩;go_wp2;refine bodyPost_ret (results_none rfl _ _ _) rfl ?_;exact⟨rfl,⟨_,_,hi,ht,rfl,rfl,rfl,rfl,fun h=>by cases h⟩⟩
theorem plR_swap_under (w:World) (yb:Nat) (s:RS) (ns:List Int) (h:RInv w yb s ns) (hl:ns.length < 2):
  Calls Tryz.prog 88 #[.pointer (some ⟨yb,0,none⟩),.string { data:=#[115,119,97,112] }] w fun e w'=>e=.returned (.tuple #[])/\RPost w w' yb s ⟨6,[],s.mem,s.out⟩:=by
 go_enter Tryz.func88,Tryz.ntmps88
 go_wp2_with fail
 refine (takeR_under _ _ _ _ _ h (by omega)).mono ?_;rintro e w1 ⟨v,rfl,hi,ht⟩;go_wp2;refine bodyPost_ret (results_none rfl _ _ _) rfl ?_;exact⟨rfl,⟨_,_,hi,ht,rfl,rfl,rfl,rfl,fun h=>by cases h⟩⟩
theorem plR_over_under (w:World) (yb:Nat) (s:RS) (ns:List Int) (h:RInv w yb s ns) (hl:ns.length < 2):
  Calls Tryz.prog 88 #[.pointer (some ⟨yb,0,none⟩),.string { data:=#[111,118,101,114] }] w fun e w'=>e=.returned (.tuple #[])/\RPost w w' yb s ⟨6,[],s.mem,s.out⟩:=by
 go_enter Tryz.func88,Tryz.ntmps88
 go_wp2_with fail
 refine (takeR_under _ _ _ _ _ h (by omega)).mono ?_;rintro e w1 ⟨v,rfl,hi,ht⟩;go_wp2;refine bodyPost_ret (results_none rfl _ _ _) rfl ?_;exact⟨rfl,⟨_,_,hi,ht,rfl,rfl,rfl,rfl,fun h=>by cases h⟩⟩
theorem plR_rot_under (w:World) (yb:Nat) (s:RS) (ns:List Int) (h:RInv w yb s ns) (hl:ns.length < 3):
  Calls Tryz.prog 88 #[.pointer (some ⟨yb,0,none⟩),.string { data:=#[114,111,116] }] w fun e w'=>e=.returned (.tuple #[])/\RPost w w' yb s ⟨6,[],s.mem,s.out⟩:=by
 go_enter Tryz.func88,Tryz.ntmps88
 go_wp2_with fail
 refine (takeR_under _ _ _ _ _ h (by omega)).mono ?_;rintro e w1 ⟨v,rfl,hi,ht⟩;go_wp2;refine bodyPost_ret (results_none rfl _ _ _) rfl ?_;exact⟨rfl,⟨_,_,hi,ht,rfl,rfl,rfl,rfl,fun h=>by cases h⟩⟩
theorem plR_dot_under (w:World) (yb:Nat) (s:RS) (ns:List Int) (h:RInv w yb s ns) (hl:ns.length < 1):
  Calls Tryz.prog 88 #[.pointer (some ⟨yb,0,none⟩),.string { data:=#[46] }] w fun e w'=>e=.returned (.tuple #[])/\RPost w w' yb s ⟨6,[],s.mem,s.out⟩:=by
 go_enter Tryz.func88,Tryz.ntmps88
 go_wp2_with fail
 refine (takeR_under _ _ _ _ _ h (by omega)).mono ?_;rintro e w1 ⟨v,rfl,hi,ht⟩;go_wp2;refine bodyPost_ret (results_none rfl _ _ _) rfl ?_;exact⟨rfl,⟨_,_,hi,ht,rfl,rfl,rfl,rfl,fun h=>by cases h⟩⟩
theorem plR_emit_under (w:World) (yb:Nat) (s:RS) (ns:List Int) (h:RInv w yb s ns) (hl:ns.length < 1):
  Calls Tryz.prog 88 #[.pointer (some ⟨yb,0,none⟩),.string { data:=#[101,109,105,116] }] w fun e w'=>e=.returned (.tuple #[])/\RPost w w' yb s ⟨6,[],s.mem,s.out⟩:=by
 go_enter Tryz.func88,Tryz.ntmps88
 go_wp2_with fail
 refine (takeR_under _ _ _ _ _ h (by omega)).mono ?_;rintro e w1 ⟨v,rfl,hi,ht⟩;go_wp2;refine bodyPost_ret (results_none rfl _ _ _) rfl ?_;exact⟨rfl,⟨_,_,hi,ht,rfl,rfl,rfl,rfl,fun h=>by cases h⟩⟩
theorem plR_fetch_under (w:World) (yb:Nat) (s:RS) (ns:List Int) (h:RInv w yb s ns) (hl:ns.length < 1):
  Calls Tryz.prog 88 #[.pointer (some ⟨yb,0,none⟩),.string { data:=#[64] }] w fun e w'=>e=.returned (.tuple #[])/\RPost w w' yb s ⟨6,[],s.mem,s.out⟩:=by
 go_enter Tryz.func88,Tryz.ntmps88
 go_wp2_with fail
 refine (takeR_under _ _ _ _ _ h (by omega)).mono ?_;rintro e w1 ⟨v,rfl,hi,ht⟩;go_wp2;refine bodyPost_ret (results_none rfl _ _ _) rfl ?_;exact⟨rfl,⟨_,_,hi,ht,rfl,rfl,rfl,rfl,fun h=>by cases h⟩⟩
theorem plR_store_under (w:World) (yb:Nat) (s:RS) (ns:List Int) (h:RInv w yb s ns) (hl:ns.length < 2):
  Calls Tryz.prog 88 #[.pointer (some ⟨yb,0,none⟩),.string { data:=#[33] }] w fun e w'=>e=.returned (.tuple #[])/\RPost w w' yb s ⟨6,[],s.mem,s.out⟩:=by
 go_enter Tryz.func88,Tryz.ntmps88
 go_wp2_with fail
 refine (takeR_under _ _ _ _ _ h (by omega)).mono ?_;rintro e w1 ⟨v,rfl,hi,ht⟩;go_wp2;refine bodyPost_ret (results_none rfl _ _ _) rfl ?_;exact⟨rfl,⟨_,_,hi,ht,rfl,rfl,rfl,rfl,fun h=>by cases h⟩⟩
end
section
open Go.RowKit
def plainL:List (List UInt8):=[[43],[45],[42],[47],[109,111,100],[61],[60],[100,117,112],[100,114,111,112],[115,119,97,112],[111,118,101,114],[114,111,116],[46],[101,109,105,116],[64],[33]]
def keptL:List (List UInt8):=[[105,102],[101,108,115,101],[116,104,101,110],[98,101,103,105,110],[117,110,116,105,108],[119,104,105,108,101],[114,101,112,101,97,116],[100,111],[108,111,111,112],[105],[114,101,99,117,114,115,101],[101,120,105,116]]
def digB (c:UInt8):Bool:=decide (48<=c.toNat/\c.toNat<=57)
def valD (l:List UInt8):Nat:=l.foldl (fun n c=>10 * n+(c.toNat - 48)) 0
def digitsB (r:List UInt8):Bool:=decide (1<=r.length/\r.length<=18) && r.all digB
def numP:List UInt8->Option Int
 | []=>none
 | c :: r=>if c=45 then (if digitsB r=true then some (-(valD r:Int)) else none) else (if digitsB (c :: r)=true then some (valD (c :: r):Int) else none)
theorem valD_snoc (l:List UInt8) (c:UInt8):valD (l ++ [c])=10 * valD l+(c.toNat - 48):=by simp[valD,List.foldl_append]
theorem valD_lt:∀ (l:List UInt8),l.all digB=true->valD l < 10 ^ l.length:=by
 intro l;generalize hn:l.length=n
 induction n generalizing l with
 | zero=>intro _;have:l=[]:=List.eq_nil_of_length_eq_zero hn;subst this;decide
 | succ n ih=>
  intro h;rcases List.eq_nil_or_concat l with rfl|⟨l',c,hlc⟩
  ·simp at hn
  ·rw[List.concat_eq_append] at hlc;subst hlc;simp only[List.length_append,List.length_cons,List.length_nil] at hn;simp only[List.all_append,List.all_cons,List.all_nil,Bool.and_true,Bool.and_eq_true] at h;have h1:=ih l' (by omega) h.1;have h2:=of_decide_eq_true h.2;rw[valD_snoc,Nat.pow_succ];omega
theorem pow_le18 {k:Nat} (h:k<=18):(10:Nat) ^ k<=1000000000000000000:=by
 have:=Nat.pow_le_pow_right (show 0 < 10 by decide) h
 simpa using this
theorem pow_le17 {k:Nat} (h:k<=17):(10:Nat) ^ k<=100000000000000000:=by
 have:=Nat.pow_le_pow_right (show 0 < 10 by decide) h
 simpa using this
theorem take_snoc (s:ByteArray) (k:Nat) (h:k < s.size):s.data.toList.take (k+1)=s.data.toList.take k ++ [s[k]]:=by
 rw[List.take_succ_eq_append_getElem (by simpa using h)];rfl
theorem numP_range {l:List UInt8} {n:Int} (h:numP l=some n):-9223372036854775808<=n/\n<=9223372036854775807:=by
 have key:∀ r,digitsB r=true->(valD r:Int) < 1000000000000000000:=by
  intro r hr;simp only[digitsB,Bool.and_eq_true,decide_eq_true_eq] at hr;have h1:=valD_lt r hr.2;have h2:=pow_le18 hr.1.2;omega
 cases l with
 | nil=>simp[numP] at h
 | cons c r=>
  simp only[numP] at h
  split at h
  ·split at h
   ·rename_i hd;injection h with h;have:=key _ hd;omega
   ·cases h
  ·split at h
   ·rename_i hd;injection h with h;have:=key _ hd;omega
   ·cases h
end
section
open Go.RowKit
theorem amongR (s:ByteArray) (g:Nat) (ws:List ByteArray) (w:World) (hb:Blk w g 9 (ws.map Value.string).toArray) (hl:ws.length<=100):
  Calls Tryz.prog 134 #[.string s,.slice (some ⟨g,0,none⟩) ws.length ws.length] w fun e w'=>e=.returned (.bool (ws.any fun t=>t.toList == s.toList))/\w'=w:=by
 go_enter Tryz.func134,Tryz.ntmps134;go_wp2
 go_loop [5] (fun i=>∃ k:Nat,k<=ws.length/\i=.int .i64 k/\(ws.take k).any (fun t=>t.toList == s.toList)=false) (fun i=>ws.length - (intOf i).toNat)
 case atStart=>exact⟨0,Nat.zero_le _,rfl,rfl⟩
 case round=>
  obtain⟨k,hk,rfl,hno⟩:=hrel;have HN:Hid ((ws.take k).any (fun t=>t.toList == s.toList)=false):=hno;clear hno;by_cases hlt:k < ws.length
  ·have c:w.cell? ⟨g,k,none⟩=some (.string ws[k]):=hb.cell (by simp[hlt]);go_wp2
   ·have hx:(ws[k].toList == s.toList)=true:=by assumption
    go_ret;refine⟨?_,rfl⟩;have:(ws.any fun t=>t.toList == s.toList)=true:=List.any_eq_true.2 ⟨ws[k],List.getElem_mem hlt,hx⟩;rw[this];rfl
   ·have hx:(ws[k].toList == s.toList)=false:=by assumption
    go_round
    case rel=>
     refine⟨k+1,by omega,by go_num,?_⟩;rw[List.take_succ_eq_append_getElem hlt,List.any_append,HN.out];simp[hx]
    case measure=>simp[intOf];omega
  ·go_wp2;go_ret;refine⟨?_,rfl⟩;have:=HN.out;rw[List.take_of_length_le (by omega)] at this;rw[this];rfl
def plainWs:List ByteArray:=[⟨#[43]⟩,⟨#[45]⟩,⟨#[42]⟩,⟨#[47]⟩,⟨#[109,111,100]⟩,⟨#[61]⟩,⟨#[60]⟩,⟨#[100,117,112]⟩,⟨#[100,114,111,112]⟩,⟨#[115,119,97,112]⟩,⟨#[111,118,101,114]⟩,⟨#[114,111,116]⟩,⟨#[46]⟩,⟨#[101,109,105,116]⟩,⟨#[64]⟩,⟨#[33]⟩]
def keptWs:List ByteArray:=[⟨#[105,102]⟩,⟨#[101,108,115,101]⟩,⟨#[116,104,101,110]⟩,⟨#[98,101,103,105,110]⟩,⟨#[117,110,116,105,108]⟩,⟨#[119,104,105,108,101]⟩,⟨#[114,101,112,101,97,116]⟩,⟨#[100,111]⟩,⟨#[108,111,111,112]⟩,⟨#[105]⟩,⟨#[114,101,99,117,114,115,101]⟩,⟨#[101,120,105,116]⟩]
theorem plainWs_any (l:List UInt8):(plainWs.any fun t=>t.toList == l)=plainL.any (· == l):=by simp[plainWs,plainL,ByteArray.toList_eq]
theorem keptWs_any (l:List UInt8):(keptWs.any fun t=>t.toList == l)=keptL.any (· == l):=by simp[keptWs,keptL,ByteArray.toList_eq]
theorem isPlainR (s:ByteArray) (w:World):
  Calls Tryz.prog 82 #[.string s] w fun e w'=>e=.returned (.bool (plainL.any (· == s.toList)))/\Kp w w' (fun _=>False):=by
 go_enter Tryz.func82,Tryz.ntmps82
 go_wp2_with fail
 refine (amongR s _ plainWs _ (Blk.new w _ _) (by decide)).mono ?_;rintro e w' ⟨rfl,hw⟩;rw[hw];clear hw;rw[plainWs_any];go_wp2;go_ret;exact⟨rfl,(Kp.refl _ _).alloc _⟩
theorem isKeptR (s:ByteArray) (w:World):
  Calls Tryz.prog 83 #[.string s] w fun e w'=>e=.returned (.bool (keptL.any (· == s.toList)))/\Kp w w' (fun _=>False):=by
 go_enter Tryz.func83,Tryz.ntmps83
 go_wp2_with fail
 refine (amongR s _ keptWs _ (Blk.new w _ _) (by decide)).mono ?_;rintro e w' ⟨rfl,hw⟩;rw[hw];clear hw;rw[keptWs_any];go_wp2;go_ret;exact⟨rfl,(Kp.refl _ _).alloc _⟩
end
section
open Go.RowKit
theorem toList_of_size {s:ByteArray} (h:0 < s.size):s.toList=s[0] :: (s.extract 1 s.size).toList:=by
 rw[ByteArray.toList_eq,ByteArray.toList_eq,Lib.extract_to_end];obtain⟨⟨l⟩⟩:=s
 cases l with
 | nil=>exact absurd h (by decide)
 | cons c r=>rfl
def numV (l:List UInt8):Value:=.tuple #[.int .i64 ((numP l).getD 0),.bool (numP l).isSome]
theorem numV_none {l:List UInt8} (h:numP l=none):numV l=.tuple #[.int .i64 0,.bool false]:=by unfold numV;rw[h];rfl
theorem numV_some {l:List UInt8} {n:Int} (h:numP l=some n):numV l=.tuple #[.int .i64 n,.bool true]:=by unfold numV;rw[h];rfl
theorem numP_minus (r:List UInt8):numP (45 :: r)=if digitsB r=true then some (-(valD r:Int)) else none:=by simp[numP]
theorem numP_other (c:UInt8) (r:List UInt8) (h:¬ c=45):numP (c :: r)=if digitsB (c :: r)=true then some (valD (c :: r):Int) else none:=by simp[numP,h]
theorem digitsB_bad {l:List UInt8} {k:Nat} (hk:k < l.length) (hb:digB l[k]=false):digitsB l=false:=by
 simp only[digitsB,Bool.and_eq_false_iff]
 right
 rw[List.all_eq_false];exact⟨l[k],List.getElem_mem hk,by rw[hb];decide⟩
theorem numberR_plain (s:ByteArray) (w:World) (h0:0 < s.size) (h45:¬ s[0]=45) (h18:s.size<=18):
  Calls Tryz.prog 81 #[.string s] w fun e w'=>e=.returned (numV s.toList)/\w'=w:=by
 have hc:((s[0].toNat:Int) == 45)=false:=by
  simp only[beq_eq_false_iff_ne,ne_eq];intro h;exact h45 (by apply UInt8.toNat_inj.1;simpa using (by omega:s[0].toNat=45))
 have HN:Hid (numP s.toList=if digitsB s.toList=true then some (valD s.toList:Int) else none):=by
  have:=toList_of_size h0;unfold Hid;rw[this];exact numP_other _ _ h45
 have H45:Hid (¬ s[0]=45):=h45;clear h45;go_enter Tryz.func81,Tryz.ntmps81;go_wp2
 go_loop [5,6] (fun n i=>∃ k:Nat,k<=s.size/\i=.int .i64 k/\n=.int .i64 (valD (s.data.toList.take k))/\(s.data.toList.take k).all digB=true) (fun _ i=>s.size - (intOf i).toNat)
 case atStart=>exact⟨0,Nat.zero_le _,rfl,rfl,rfl⟩
 case round=>
  obtain⟨k,hk,rfl,rfl,hall⟩:=hrel;have HA:Hid ((s.data.toList.take k).all digB=true):=hall;clear hall;by_cases hlt:k < s.size
  ·obtain⟨v,hv⟩:∃ v:Nat,v=valD (s.data.toList.take k):=⟨_,rfl⟩;rw[<-hv];have hvb:v<=99999999999999999:=by
    have h1:=valD_lt _ HA.out;have h2:(s.data.toList.take k).length<=17:=by have:=List.length_take_le k s.data.toList;omega
    have h3:=pow_le17 h2;omega
   have HV:Hid (v=valD (s.data.toList.take k)):=hv;clear hv;by_cases hd:48<=s[k].toNat/\s[k].toNat<=57
   ·obtain⟨hd1,hd2⟩:=hd;go_wp2
    go_round
    case rel=>
     refine⟨k+1,by omega,by go_num,?_,?_⟩
     ·rw[take_snoc s k hlt,valD_snoc,<-HV.out];go_num
     ·rw[take_snoc s k hlt,List.all_append,HA.out];simp[digB,hd1,hd2]
    case measure=>simp[intOf];omega
   ·have hbad:numP s.toList=none:=by
     rw[HN.out,if_neg];rw[digitsB_bad (l:=s.toList) (k:=k) (by rw[ByteArray.toList_eq];exact hlt) (by simp only[ByteArray.toList_eq];exact decide_eq_false hd)];decide
    have HB:=numV_none hbad;clear hbad;have HB':Hid (numV s.toList=.tuple #[.int .i64 0,.bool false]):=HB;clear HB;rcases (show s[k].toNat < 48\/(48<=s[k].toNat/\57 < s[k].toNat) by omega) with h1|⟨h1,h2⟩
    all_goals
     go_wp2;go_ret2;exact⟨by rw[HB'.out];rfl,rfl⟩
  ·have hfull:s.data.toList.take k=s.toList:=by rw[ByteArray.toList_eq];exact List.take_of_length_le (by show s.data.size<=k;simpa using hlt)
   have hok:numP s.toList=some (valD (s.data.toList.take k):Int):=by
    rw[HN.out,if_pos,hfull];unfold digitsB;rw[<-hfull,HA.out];simp;omega
   have HB:Hid (numV s.toList=.tuple #[.int .i64 (valD (s.data.toList.take k)),.bool true]):=numV_some hok;clear hok hfull;go_wp2;go_ret2;exact⟨by rw[HB.out];rfl,rfl⟩
theorem numberR_minus (s t:ByteArray) (w:World) (h0:0 < s.size) (h45:s[0]=45) (ht:s.extract 1 s.size=t) (h1:1<=t.size) (h18:t.size<=18):
  Calls Tryz.prog 81 #[.string s] w fun e w'=>e=.returned (numV s.toList)/\w'=w:=by
 have hc:((s[0].toNat:Int) == 45)=true:=by rw[h45];rfl
 have HN:Hid (numP s.toList=if digitsB t.toList=true then some (-(valD t.toList:Int)) else none):=by
  have:=toList_of_size h0;unfold Hid;rw[this,h45,ht];exact numP_minus _
 have hsz:t.size < s.size:=by rw[<-ht];simp;omega
 have H45:Hid (s[0]=45):=h45;clear h45;go_enter Tryz.func81,Tryz.ntmps81;go_wp2
 go_loop [5,6] (fun n i=>∃ k:Nat,k<=t.size/\i=.int .i64 k/\n=.int .i64 (valD (t.data.toList.take k))/\(t.data.toList.take k).all digB=true) (fun _ i=>t.size - (intOf i).toNat)
 case atStart=>exact⟨0,Nat.zero_le _,rfl,rfl,rfl⟩
 case round=>
  obtain⟨k,hk,rfl,rfl,hall⟩:=hrel;have HA:Hid ((t.data.toList.take k).all digB=true):=hall;clear hall;by_cases hlt:k < t.size
  ·obtain⟨v,hv⟩:∃ v:Nat,v=valD (t.data.toList.take k):=⟨_,rfl⟩;rw[<-hv];have hvb:v<=99999999999999999:=by
    have h1:=valD_lt _ HA.out;have h2:(t.data.toList.take k).length<=17:=by have:=List.length_take_le k t.data.toList;omega
    have h3:=pow_le17 h2;omega
   have HV:Hid (v=valD (t.data.toList.take k)):=hv;clear hv;by_cases hd:48<=t[k].toNat/\t[k].toNat<=57
   ·obtain⟨hd1,hd2⟩:=hd;go_wp2
    go_round
    case rel=>
     refine⟨k+1,by omega,by go_num,?_,?_⟩
     ·rw[take_snoc t k hlt,valD_snoc,<-HV.out];go_num
     ·rw[take_snoc t k hlt,List.all_append,HA.out];simp[digB,hd1,hd2]
    case measure=>simp[intOf];omega
   ·have hbad:numP s.toList=none:=by
     rw[HN.out,if_neg];rw[digitsB_bad (l:=t.toList) (k:=k) (by rw[ByteArray.toList_eq];exact hlt) (by simp only[ByteArray.toList_eq];exact decide_eq_false hd)];decide
    have HB:=numV_none hbad;clear hbad;have HB':Hid (numV s.toList=.tuple #[.int .i64 0,.bool false]):=HB;clear HB;rcases (show t[k].toNat < 48\/(48<=t[k].toNat/\57 < t[k].toNat) by omega) with h1|⟨h1,h2⟩
    all_goals
     go_wp2;go_ret2;exact⟨by rw[HB'.out];rfl,rfl⟩
  ·have hfull:t.data.toList.take k=t.toList:=by rw[ByteArray.toList_eq];exact List.take_of_length_le (by show t.data.size<=k;simpa using hlt)
   have hvb:valD (t.data.toList.take k)<=999999999999999999:=by
    have h1:=valD_lt _ HA.out;have h2:(t.data.toList.take k).length<=18:=by have:=List.length_take_le k t.data.toList;omega
    have h3:=pow_le18 h2;omega
   have hok:numP s.toList=some (-(valD (t.data.toList.take k):Int)):=by
    rw[HN.out,if_pos,hfull];unfold digitsB;rw[<-hfull,HA.out];simp;omega
   have HB:Hid (numV s.toList=.tuple #[.int .i64 (-(valD (t.data.toList.take k):Int)),.bool true]):=numV_some hok;clear hok hfull;go_wp2;go_ret2;exact⟨by rw[HB.out];rfl,rfl⟩
end
section
open Go.RowKit
theorem numberR_empty (s:ByteArray) (w:World) (h0:s.size=0) (HB':Hid (numV s.toList=.tuple #[.int .i64 0,.bool false])):
  Calls Tryz.prog 81 #[.string s] w fun e w'=>e=.returned (numV s.toList)/\w'=w:=by
 go_enter Tryz.func81,Tryz.ntmps81;go_wp2;go_ret2;exact⟨by rw[HB'.out];rfl,rfl⟩
theorem numberR_long (s:ByteArray) (w:World) (h0:0 < s.size) (hc:((s[0].toNat:Int) == 45)=false) (h18:18 < s.size) (HB':Hid (numV s.toList=.tuple #[.int .i64 0,.bool false])):
  Calls Tryz.prog 81 #[.string s] w fun e w'=>e=.returned (numV s.toList)/\w'=w:=by
 go_enter Tryz.func81,Tryz.ntmps81;go_wp2;go_ret2;exact⟨by rw[HB'.out];rfl,rfl⟩
theorem numberR_minus_no (s t:ByteArray) (w:World) (h0:0 < s.size) (hc:((s[0].toNat:Int) == 45)=true) (ht:s.extract 1 s.size=t) (h18:t.size < 1\/(1<=t.size/\18 < t.size)) (HB':Hid (numV s.toList=.tuple #[.int .i64 0,.bool false])):
  Calls Tryz.prog 81 #[.string s] w fun e w'=>e=.returned (numV s.toList)/\w'=w:=by
 rcases h18 with h|⟨h,h'⟩
 all_goals
  go_enter Tryz.func81,Tryz.ntmps81;go_wp2;go_ret2;exact⟨by rw[HB'.out];rfl,rfl⟩
theorem numberR (s:ByteArray) (w:World):
  Calls Tryz.prog 81 #[.string s] w fun e w'=>e=.returned (numV s.toList)/\w'=w:=by
 by_cases h0:0 < s.size
 ·have hl:=toList_of_size h0;by_cases h45:s[0]=45
  ·have hsz:(s.extract 1 s.size).toList.length=(s.extract 1 s.size).size:=by rw[ByteArray.toList_eq];rfl
   by_cases ht:1<=(s.extract 1 s.size).size/\(s.extract 1 s.size).size<=18
   ·exact numberR_minus s _ w h0 h45 rfl ht.1 ht.2
   ·refine numberR_minus_no s _ w h0 (by rw[h45];rfl) rfl (by omega) (numV_none ?_);rw[hl,h45,numP_minus,if_neg];unfold digitsB;rw[hsz,decide_eq_false (by omega)];simp
  ·have hc:((s[0].toNat:Int) == 45)=false:=by
    simp only[beq_eq_false_iff_ne,ne_eq];intro h;exact h45 (by apply UInt8.toNat_inj.1;simpa using (by omega:s[0].toNat=45))
   by_cases h18:s.size<=18
   ·exact numberR_plain s w h0 h45 h18
   ·refine numberR_long s w h0 hc (by omega) (numV_none ?_);have hsz:s.toList.length=s.size:=by rw[ByteArray.toList_eq];rfl
    have hp:numP s.toList=if digitsB s.toList=true then some (valD s.toList:Int) else none:=by rw[hl];exact numP_other _ _ h45
    rw[hp,if_neg];unfold digitsB;rw[hsz,decide_eq_false (by omega)];simp
 ·refine numberR_empty s w (by omega) (numV_none ?_);have:s.toList=[]:=by
   rw[ByteArray.toList_eq];apply List.eq_nil_of_length_eq_zero;show s.data.size=0;have:s.data.size=s.size:=rfl;omega
  rw[this];rfl
end
section
open Go.RowKit
def okB (c:UInt8):Bool:=decide (32<=c.toNat/\c.toNat<=126)
def validB (l:List UInt8):Bool:=decide (l.length<=400) && l.all okB
theorem isSp_ok {c:UInt8} (h:32<=c.toNat/\c.toNat<=126):Lib.isSp c=decide (c.toNat=32):=by
 have key:∀ i:Fin 256,32<=i.val->i.val<=126->Lib.isSp (UInt8.ofNat i.val)=decide (i.val=32):=by decide +kernel
 have:=key ⟨c.toNat,c.toNat_lt⟩ h.1 h.2
 simpa using this
theorem drop_cons (s:ByteArray) (k:Nat) (h:k < s.size):s.data.toList.drop k=s[k] :: s.data.toList.drop (k+1):=by
 rw[List.drop_eq_getElem_cons (by simpa using h)];rfl
theorem Tryz.info9:(Tryz.prog.info? 9).map (fun i=>(i.zero,i.size,i.bytes))=some (some (.string ByteArray.empty),1,16):=by kernel_rfl
structure TkInv (w wr:World) (s:ByteArray) (k:Nat) (v:Value) (wd:ByteArray) (ts:List ByteArray):Prop where
 row:wr.ownsRow w.heap.size 9 1 v ts.length (ts.map Value.string)
 all:(s.data.toList.take k).all okB=true
 flds:Lib.fields s.data.toList=ts.map (fun t=>t.data.toList) ++ Lib.fieldsGo wd.data.toList (s.data.toList.drop k)
 kp:Kp w wr (fun _=>False)
 wl:wd.size<=k
 tl:ts.length<=k
theorem all_snoc {s:ByteArray} {k:Nat} (hlt:k < s.size) (h:(s.data.toList.take k).all okB=true) (ho:32<=s[k].toNat/\s[k].toNat<=126):(s.data.toList.take (k+1)).all okB=true:=by
 rw[take_snoc s k hlt,List.all_append,h];simp[okB,ho]
theorem data_one (s:ByteArray) (k:Nat) (hlt:k < s.size) (wd:ByteArray):(wd ++ s.extract k (k+1)).data.toList=wd.data.toList ++ [s[k]]:=by
 rw[ByteArray.data_append,Array.toList_append,Lib.extract_data,drop_cons s k hlt];simp
theorem size_one (s:ByteArray) (k:Nat) (hlt:k < s.size) (wd:ByteArray):(wd ++ s.extract k (k+1)).size=wd.size+1:=by
 have:=congrArg List.length (data_one s k hlt wd);simp only[List.length_append,List.length_cons,List.length_nil] at this;exact this
theorem empty_toList {wd:ByteArray} (h:wd.toList.isEmpty=true):wd.data.toList=[]:=by
 rw[ByteArray.toList_eq] at h;exact List.isEmpty_iff.1 h
theorem full_toList {wd:ByteArray} (h:wd.toList.isEmpty=false):wd.data.toList ≠ []:=by
 rw[ByteArray.toList_eq] at h;intro h';rw[h'] at h;cases h
theorem TkInv.more {w wr:World} {s:ByteArray} {k:Nat} {v:Value} {wd:ByteArray} {ts:List ByteArray} (H:TkInv w wr s k v wd ts) (hlt:k < s.size) (ho:32<=s[k].toNat/\s[k].toNat<=126) (h32:¬ s[k].toNat=32):
  TkInv w wr s (k+1) v (wd ++ s.extract k (k+1)) ts:=by
 refine⟨H.row,all_snoc hlt H.all ho,?_,H.kp,by rw[size_one s k hlt];have:=H.wl;omega,by have:=H.tl;omega⟩;rw[H.flds,drop_cons s k hlt,Lib.fieldsGo_more _ _ _ (by rw[isSp_ok ho];exact decide_eq_false h32),data_one s k hlt]
theorem TkInv.skip {w wr:World} {s:ByteArray} {k:Nat} {v:Value} {wd:ByteArray} {ts:List ByteArray} (H:TkInv w wr s k v wd ts) (hlt:k < s.size) (h32:s[k].toNat=32) (hw:wd.toList.isEmpty=true):
  TkInv w wr s (k+1) v ⟨#[]⟩ ts:=by
 have ho:32<=s[k].toNat/\s[k].toNat<=126:=by omega
 refine⟨H.row,all_snoc hlt H.all ho,?_,H.kp,Nat.zero_le _,by have:=H.tl;omega⟩;rw[H.flds,drop_cons s k hlt,empty_toList hw,Lib.fieldsGo_sp _ _ (by rw[isSp_ok ho];exact decide_eq_true h32)]
theorem TkInv.cut {w wr w1:World} {s:ByteArray} {k:Nat} {v v':Value} {wd:ByteArray} {ts:List ByteArray} {o:Obj} (H:TkInv w wr s k v wd ts) (hlt:k < s.size) (h32:s[k].toNat=32) (hw:wd.toList.isEmpty=false)
  (hown:w1.ownsRow w.heap.size 9 1 v' (ts.length+1) (List.map Value.string ts ++ [Value.string wd])) (hg:(wr.alloc o).grownBy w1 v.ownBlock):TkInv w w1 s (k+1) v' ⟨#[]⟩ (ts ++ [wd]):=by
 have ho:32<=s[k].toNat/\s[k].toNat<=126:=by omega
 refine⟨by simpa using hown,all_snoc hlt H.all ho,?_,(H.kp.alloc o).grown hg (fun b hb e=>?_),Nat.zero_le _,by have:=H.tl;simp;omega⟩
 ·rw[H.flds,drop_cons s k hlt,Lib.fieldsGo_end _ _ _ (by rw[isSp_ok ho];exact decide_eq_true h32) (full_toList hw)];simp
 ·have:=(H.row.lt b e).1;omega
theorem validB_of {s:ByteArray} (hs:s.size<=400) (h:(s.data.toList.take s.size).all okB=true):validB s.data.toList=true:=by
 have hl:s.data.toList.length=s.size:=rfl;rw[List.take_of_length_le (by omega)] at h;unfold validB;rw[h,hl];simpa using hs
theorem validB_bad {s:ByteArray} {k:Nat} (hlt:k < s.size) (h:¬ (32<=s[k].toNat/\s[k].toNat<=126)):validB s.data.toList=false:=by
 unfold validB;rw[Bool.and_eq_false_iff];right;rw[List.all_eq_false];refine⟨s[k],?_,by simp[okB];omega⟩;have:s.data.toList[k]'hlt=s[k]:=rfl;rw[<-this];exact List.getElem_mem _
theorem tokensR_try (s:ByteArray) (w:World) (hs:s.size<=400):
    Calls Tryz.prog 62 #[.string s] w fun e w'=>∃ v,Kp w w' (fun _=>False) /\ 
      ((validB s.data.toList=true/\e=.returned (.tuple #[v,.bool true])/\∃ ts:List ByteArray,w'.ownsRow w.heap.size 9 1 v ts.length (ts.map Value.string)/\ts.map (fun t=>t.data.toList)=Lib.fields s.data.toList) \/
       (validB s.data.toList=false/\e=.returned (.tuple #[v,.bool false]))):=by
  obtain⟨i0,hi,hz0,hz1,hz2⟩:=info_parts Tryz.info9;go_enter Tryz.func62,Tryz.ntmps62;go_wp2
  go_loopw [4,5,6] (fun v x i wr=>∃ (k:Nat) (wd:ByteArray) (ts:List ByteArray),k<=s.size/\i=.int .i64 k/\x=.string wd/\TkInv w wr s k v wd ts) (fun _ _ i _=>s.size - (intOf i).toNat)
  case atStart=>exact⟨0,⟨#[]⟩,[],Nat.zero_le _,rfl,rfl,⟨World.ownsRow_nil _ _ _ _,rfl,rfl,Kp.refl _ _,Nat.le_refl _,Nat.le_refl _⟩⟩
  case round=>
    obtain⟨k,wd,ts,hk,rfl,rfl,H⟩:=hrel;have hwl:=H.wl;have htl:=H.tl;have hown:=H.row;have hbw:=H.kp.size;by_cases hlt:k < s.size
    · by_cases hok:32<=s[k].toNat/\s[k].toNat<=126
      · obtain⟨ho1,ho2⟩:=hok
        by_cases h32:s[k].toNat=32
        · cases hwe:wd.toList.isEmpty
          · go_wp2_with (first
              | (at_builtin;refine wpList_append_own _ rfl _ _ 47 rfl w.heap.size 9 i0 (.string ByteArray.empty) 1 16 Tryz.underlying47 hi hz0 hz1 hz2 rfl (by decide) _ _ _ rfl (hown.alloc _) ⟨wr.heap.size,0,none⟩ 1 1 [.string wd] rfl rfl ?c1 ?c2 ?c3 ?c4 ?c5 ?_)
              | go_in)
            case c1=>intro j u hj;match j,hj with|0,hj=>simp at hj;subst hj;simp[Addr.add]
            case c2=>intro u hu;simp at hu;subst hu;rfl
            case c3=>unfold maxLen;omega
            case c4=>omega
            case c5=>simp;omega
            intro v' w1 hown' hgrow _;have H2:=H.cut hlt h32 hwe hown' hgrow;clear hown' hgrow hown H;go_wp2
            go_roundw
            case rel=>exact⟨k+1,_,_,by omega,by go_num,rfl,H2⟩
            case measure=>simp[intOf];omega
          · go_wp2
            go_roundw
            case rel=>exact⟨k+1,_,_,by omega,by go_num,rfl,H.skip hlt h32 hwe⟩
            case measure=>simp[intOf];omega
        · go_wp2
          go_roundw
          case rel=>exact⟨k+1,_,_,by omega,by go_num,rfl,H.more hlt ⟨ho1,ho2⟩ h32⟩
          case measure=>simp[intOf];omega
      · have hbad:=validB_bad hlt hok
        have HB:Hid (validB s.data.toList=false):=hbad;clear hbad;rcases (show s[k].toNat < 32\/(32<=s[k].toNat/\126 < s[k].toNat) by omega) with h1|⟨h1,h2⟩
        all_goals
          clear hok;go_wp2;go_ret2
          first|exact⟨_,H.kp,.inr ⟨HB.out,rfl⟩⟩|exact⟨H.kp,_,.inr ⟨HB.out,rfl⟩⟩
    · have hks:k=s.size:=by omega
      have HV:Hid (validB s.data.toList=true):=by have:=H.all;rw[hks] at this;exact validB_of hs this
      have HF:Hid (Lib.fields s.data.toList=ts.map (fun t=>t.data.toList) ++ Lib.fieldsGo wd.data.toList []):=by
        have:=H.flds;rw[List.drop_of_length_le (by show s.data.size<=k;exact Nat.le_of_eq hks.symm)] at this;exact this
      clear hks
      cases hwe:wd.toList.isEmpty
      · go_wp2_with (first
          | (at_builtin;refine wpList_append_own _ rfl _ _ 47 rfl w.heap.size 9 i0 (.string ByteArray.empty) 1 16 Tryz.underlying47 hi hz0 hz1 hz2 rfl (by decide) _ _ _ rfl (hown.alloc _) ⟨wr.heap.size,0,none⟩ 1 1 [.string wd] rfl rfl ?d1 ?d2 ?d3 ?d4 ?d5 ?_)
          | go_in)
        case d1=>intro j u hj;match j,hj with|0,hj=>simp at hj;subst hj;simp[Addr.add]
        case d2=>intro u hu;simp at hu;subst hu;rfl
        case d3=>unfold maxLen;omega
        case d4=>omega
        case d5=>simp;omega
        intro v' w1 hown' hgrow _;have hne:=full_toList hwe;have hk1:Kp w w1 (fun _=>False):=(H.kp.alloc _).grown hgrow (fun b hb e=>by have:=(H.row.lt b e).1;omega);have HO:Hid (w1.ownsRow w.heap.size 9 1 v' (ts.length+1) (List.map Value.string ts ++ [Value.string wd])):=hown';have HF2:Hid (Lib.fields s.data.toList=(ts ++ [wd]).map (fun t=>t.data.toList)):=by
          have:=HF.out;unfold Hid;rw[this];unfold Lib.fieldsGo;rw[if_neg (by simpa using hne)];simp
        clear hown' hgrow hne hown;go_wp2;go_ret2;exact⟨_,hk1,.inl ⟨HV.out,rfl,ts ++ [wd],by simpa using HO.out,HF2.out.symm⟩⟩
      · have HF2:Hid (Lib.fields s.data.toList=ts.map (fun t=>t.data.toList)):=by
          have:=HF.out;unfold Hid;rw[this,empty_toList hwe];simp[Lib.fieldsGo]
        go_wp2;go_ret2;exact⟨_,H.kp,.inl ⟨HV.out,rfl,ts,H.row,HF2.out.symm⟩⟩
theorem tokensR_long (s:ByteArray) (w:World) (hs:400 < s.size):
  Calls Tryz.prog 62 #[.string s] w fun e w'=>e=.returned (.tuple #[.slice none 0 0,.bool false])/\w'=w:=by
 go_enter Tryz.func62,Tryz.ntmps62;go_wp2;go_ret2;exact⟨rfl,rfl⟩
theorem tokensR_valid (s:ByteArray) (w:World) (hv:validB s.data.toList=true):
  Calls Tryz.prog 62 #[.string s] w fun e w'=>∃ v,Kp w w' (fun _=>False)/\e=.returned (.tuple #[v,.bool true])/\∃ ts:List ByteArray,w'.ownsRow w.heap.size 9 1 v ts.length (ts.map Value.string)/\ts.map (fun t=>t.data.toList)=Lib.fields s.data.toList:=by
 have hs:s.size<=400:=by
  unfold validB at hv;rw[Bool.and_eq_true] at hv;exact of_decide_eq_true hv.1
 refine (tokensR_try s w hs).mono ?_;rintro e w' ⟨v,hk,⟨_,he,h⟩|⟨h,_⟩⟩
 ·exact⟨v,hk,he,h⟩
 ·rw[hv] at h;cases h
theorem tokensR_bad (s:ByteArray) (w:World) (hv:validB s.data.toList=false):
  Calls Tryz.prog 62 #[.string s] w fun e w'=>∃ v,Kp w w' (fun _=>False)/\e=.returned (.tuple #[v,.bool false]):=by
 by_cases hs:s.size<=400
 ·refine (tokensR_try s w hs).mono ?_;rintro e w' ⟨v,hk,⟨h,_⟩|⟨_,he⟩⟩
  ·rw[hv] at h;cases h
  ·exact⟨v,hk,he⟩
 ·refine (tokensR_long s w (by omega)).mono ?_;rintro e w' ⟨he,rfl⟩;exact⟨_,Kp.refl _ _,he⟩
end
end Go.Proofs.YteainaiebcphlaaGreatDoor
