import Derived.Test.YtldifaahmpecfaaGreatDoorV13
namespace Go.Proofs.YtldifaahmpecfaaGreatDoor
set_option maxRecDepth 1000000
set_option maxHeartbeats 4000000
set_option linter.all false
section
open Go.RowKit
variable {K : Nat → Prop}
theorem Keeps.of {S S' : Nat → Prop} {w w' : World} {V : Nat → Prop} (h : Kp w w' V) (hv : ∀ b t c, S b → Blk w b t c → t = 212 ∨ t = 9 → ¬ V b) (hs : ∀ b, S b → b < w.heap.size → S' b) : Keeps S S' w w' :=
 fun b t c hb hbl ht => ⟨h.blk hbl (hv b t c hb hbl ht), hs b hb hbl.lt⟩
theorem noScan {w : World} {sb : Nat} {c : Array Value} (hb : Blk w sb 164 c) {b : Nat} {t : TypeId} {c' : Array Value} (h : Blk w b t c') (ht : t = 212 ∨ t = 9) : ¬ b = sb := by
 rintro rfl
 have := (h.inj hb).1
 rcases ht with rfl | rfl <;> exact absurd this (by decide)
theorem keep_on {w w2 w3 wf : World} {sb rb : Nat} {c : Array Value} (hB : Blk w3 sb 164 c) (hk : Kp w3 wf (fun b => b = sb ∨ b = rb)) (hrb : rb < w2.heap.size) (hw : w.heap.size ≤ w2.heap.size) : Keeps (New w2) (New w) w3 wf :=
 Keeps.of hk (fun b t c hb hbl ht => by
  rintro (e | e)
  ·exact noScan hB hbl ht e
  ·have hb : w2.heap.size ≤ b := hb
   omega) (fun b hb _ => Nat.le_trans hw hb)
theorem tx_loop : texts [⟨#[108, 111, 111, 112]⟩] = [kLoop] := rfl
theorem tx_then : texts [⟨#[116, 104, 101, 110]⟩] = [kThen] := rfl
theorem tx_repeat : texts [⟨#[114, 101, 112, 101, 97, 116]⟩] = [kRepeat] := rfl
theorem tx_if : texts [⟨#[101, 108, 115, 101]⟩, ⟨#[116, 104, 101, 110]⟩] = [kElse, kThen] := rfl
theorem tx_begin : texts [⟨#[117, 110, 116, 105, 108]⟩, ⟨#[119, 104, 105, 108, 101]⟩] = [kUntil, kWhile] := rfl
theorem Kp.set6' {w w1 : World} {S : Nat → Prop} {b : Nat} (h : Kp w w1 S) (hb : S b) (v0 v1 v2 v3 v4 v5 : Value) :
  Kp w ((((((w1.setCell ⟨b, 0, none⟩ v0).setCell ⟨b, 1, none⟩ v1).setCell ⟨b, 2, none⟩ v2).setCell ⟨b, 3, none⟩ v3).setCell ⟨b, 4, none⟩ v4).setCell ⟨b, 5, none⟩ v5) S :=
 (((((h.set (a := ⟨b, 0, none⟩) (fun _ => hb) v0).set (a := ⟨b, 1, none⟩) (fun _ => hb) v1).set (a := ⟨b, 2, none⟩) (fun _ => hb) v2).set (a := ⟨b, 3, none⟩) (fun _ => hb) v3).set (a := ⟨b, 4, none⟩) (fun _ => hb) v4).set (a := ⟨b, 5, none⟩) (fun _ => hb) v5
theorem itP_do (w : World) (sb yb : Nat) (rs : RS) (defs : List Def) (lv : Value) (ws : List ByteArray) (k lo : Nat) (tb : ByteArray) (hnum : numP tb.toList = none) (hpl : plainL.any (· == tb.toList) = false) (b0 : (tb.toList == [105, 102]) = false) (b1 : (tb.toList == [98, 101, 103, 105, 110]) = false) (b2 : (tb.toList == [100, 111]) = true) (g : Nat) (IH : CBodyP K g) (hlo : lo < k) (res : PRes) (hres : pRead (knownD defs) (g + 1) ⟨true, lo, [], kDo⟩ ((texts ws).drop k) = some res) (h : ScInv K w sb yb rs defs lv ws k 0 lo) :
  Calls Tryz.prog 143 #[.pointer (some ⟨sb, 0, none⟩), .string tb] w fun x w' => Kp w w' (fun b => b = sb) ∧ PIt K w sb yb rs defs lv ws k lo x w' (res) := by
 have HI := hide IH
 have HR := hide (pI_do hres)
 clear IH hres
 have hsb := h.blk.lt
 have hln := h.len
 have hkl := h.kle
 go_enter Tryz.func143, Tryz.ntmps143
 go_wp2_with fail
 refine (numberR _ _).mono ?_
 rintro e w' ⟨rfl, hw⟩
 rw [hw, numV_none hnum]; clear hw
 go_wp2_with fail
 refine (isPlainR _ _).mono ?_
 rintro e w1 ⟨rfl, hk1⟩
 go_wp2_with fail
 refine (isKeptR _ _).mono ?_
 rintro e w2 ⟨rfl, hk2⟩
 have hkp : Kp w w2 (fun b => b = sb) := (((Kp.refl _ _).alloc _).trans (hk1.mono (fun _ _ h => h.elim))).trans (hk2.mono (fun _ _ h => h.elim))
 have hC : Blk w2 w.heap.size 212 zItem := hk2.blk (hk1.blk (Blk.new w _ _) (by simp)) (by simp)
 have hS : ScInv K w2 sb yb rs defs lv ws k 0 lo := h.to hkp (hk2.blk (hk1.blk (h.blk.alloc _) (by simp)) (by simp)) h.kle
 have hcs : ¬ w.heap.size = sb := by omega
 clear hk1 hk2
 have c4 : w2.cell? ⟨sb, 4, none⟩ = some (.int .i64 lo) := hS.blk.cell rfl
 have f4 := hS.blk.free 4
 have hszz := hkp.size
 have hCl := hC.lt
 have hS' := hS.setLo (lo + 1)
 have hC' := hC.setOther (a := ⟨sb, 4, none⟩) hcs (.int .i64 ((lo + 1 : Nat) : Int))
 have hkp' : Kp w (w2.setCell ⟨sb, 4, none⟩ (.int .i64 ((lo + 1 : Nat) : Int))) (fun b => b = sb) := hkp.set (fun _ => rfl) _
 have hsz' : (w2.setCell ⟨sb, 4, none⟩ (.int .i64 ((lo + 1 : Nat) : Int))).heap.size = w2.heap.size := by simp [World.setCell]
 go_wp2_with fail
 generalize hw0 : w2.setCell ⟨sb, 4, none⟩ (.int .i64 ((lo + 1 : Nat) : Int)) = w0 at hS' hC' hkp' hsz'
 have hw0' : w2.setCell ⟨sb, 4, none⟩ (.int .i64 ((lo : Int) + 1)) = w0 := hw0
 rw [hw0']
 clear hw0 hw0' hS hC hkp c4 f4
 have hE := Blk.new w0 #[.string ⟨#[108, 111, 111, 112]⟩] 9
 rw [hsz'] at hE
 rcases HR.out with ⟨er, hp, hre⟩ | ⟨a, t1, r1, hp, hre⟩
 ·have HRE := hide hre
  clear hre HR
  refine (HI.out _ sb yb rs defs lv ws k (lo + 1) _ [⟨#[108, 111, 111, 112]⟩] _ (by rw [tx_loop]; exact hp) (hS'.kp ((Kp.refl _ _).alloc _)) (by omega) hE (by decide)).mono ?_
  rintro x w3 ⟨hk3, her, k2, rfl, hkk, hS3⟩
  have c4 : w3.cell? ⟨sb, 4, none⟩ = some (.int .i64 ((lo + 1 : Nat) : Int)) := hS3.blk.cell rfl
  have f4 := hS3.blk.free 4
  have hC := (hk3.blk (hC'.alloc _) hcs).setOther (a := ⟨sb, 4, none⟩) hcs (.int .i64 lo)
  have hkp : Kp w (w3.setCell ⟨sb, 4, none⟩ (.int .i64 lo)) (fun b => b = sb) := ((hkp'.alloc _).trans hk3).set (fun _ => rfl) _
  have hS := hS3.setLo lo
  clear hp hk3 hC' hkp' hS' hE HI hS3
  obtain ⟨y0, y1, y2, y3, y4, y5⟩ := hC.six
  obtain ⟨z0, z1, z2, z3, z4, z5⟩ := hC.sixF
  go_wp2
  have hC2 := hC.set6 (.int .u8 100) (.int .i64 0) (.string ⟨#[]⟩) (.slice none 0 0) (.slice none 0 0) (.slice none 0 0)
  have hk2 := hkp.set6 (Nat.le_refl _) (.int .u8 100) (.int .i64 0) (.string ⟨#[]⟩) (.slice none 0 0) (.slice none 0 0) (.slice none 0 0)
  have hB2 := hS.blk.other6 (Ne.symm hcs) (.int .u8 100) (.int .i64 0) (.string ⟨#[]⟩) (.slice none 0 0) (.slice none 0 0) (.slice none 0 0)
  generalize (((((((w3.setCell ⟨sb, 4, none⟩ (.int .i64 lo)).setCell ⟨w.heap.size, 0, none⟩ (.int .u8 100)).setCell ⟨w.heap.size, 1, none⟩ (.int .i64 0)).setCell ⟨w.heap.size, 2, none⟩ (.string ⟨#[]⟩)).setCell ⟨w.heap.size, 3, none⟩ (.slice none 0 0)).setCell ⟨w.heap.size, 4, none⟩ (.slice none 0 0)).setCell ⟨w.heap.size, 5, none⟩ (.slice none 0 0)) = wf at hC2 hk2 hB2 ⊢
  obtain ⟨q0, q1, q2, q3, q4, q5⟩ := hC2.six
  refine bodyPost_ret (v := .agg #[.int .u8 100, .int .i64 0, .string ⟨#[]⟩, .slice none 0 0, .slice none 0 0, .slice none 0 0]) (by simp [results, Tryz.results143, go_sem, q0, q1, q2, q3, q4, q5]) rfl ?_
  rw [HRE.out]
  exact ⟨hk2, her, _, _, _, _, _, _, _, _, _, _, _, _, k2, rfl, hkk, h.to hk2 hB2 hS.kle⟩
 ·have HRE := hide hre
  clear hre HR
  refine (HI.out _ sb yb rs defs lv ws k (lo + 1) _ [⟨#[108, 111, 111, 112]⟩] _ (by rw [tx_loop]; exact hp) (hS'.kp ((Kp.refl _ _).alloc _)) (by omega) hE (by decide)).mono ?_
  rintro x w3 ⟨hk3, v, tb', k2, rfl, -, hbo, rfl, hkk, hS3⟩
  have c4 : w3.cell? ⟨sb, 4, none⟩ = some (.int .i64 ((lo + 1 : Nat) : Int)) := hS3.blk.cell rfl
  have f4 := hS3.blk.free 4
  obtain ⟨xs3, hr3, -⟩ := hbo.out
  obtain ⟨a3, p3, rfl⟩ := row_slice hr3
  have HB3 := hide hbo
  have hC := (hk3.blk (hC'.alloc _) hcs).setOther (a := ⟨sb, 4, none⟩) hcs (.int .i64 lo)
  have hkp : Kp w (w3.setCell ⟨sb, 4, none⟩ (.int .i64 lo)) (fun b => b = sb) := ((hkp'.alloc _).trans hk3).set (fun _ => rfl) _
  have hkq : Kp w3 (w3.setCell ⟨sb, 4, none⟩ (.int .i64 lo)) (fun b => b = sb ∨ b = w.heap.size) := (Kp.one _ _ _ _).mono (fun _ _ h => .inl h)
  have hB3 := hS3.blk
  have hS := hS3.setLo lo
  clear hp hk3 hC' hkp' hS' hE HI hS3 hr3 hbo
  obtain ⟨y0, y1, y2, y3, y4, y5⟩ := hC.six
  obtain ⟨z0, z1, z2, z3, z4, z5⟩ := hC.sixF
  go_wp2
  have hC2 := hC.set6 (.int .u8 100) (.int .i64 0) (.string ⟨#[]⟩) (.slice a3 a.length p3) (.slice none 0 0) (.slice none 0 0)
  have hk2 := hkp.set6 (Nat.le_refl _) (.int .u8 100) (.int .i64 0) (.string ⟨#[]⟩) (.slice a3 a.length p3) (.slice none 0 0) (.slice none 0 0)
  have hB2 := hS.blk.other6 (Ne.symm hcs) (.int .u8 100) (.int .i64 0) (.string ⟨#[]⟩) (.slice a3 a.length p3) (.slice none 0 0) (.slice none 0 0)
  have hkf := hkq.set6' (b := w.heap.size) (.inr rfl) (.int .u8 100) (.int .i64 0) (.string ⟨#[]⟩) (.slice a3 a.length p3) (.slice none 0 0) (.slice none 0 0)
  generalize (((((((w3.setCell ⟨sb, 4, none⟩ (.int .i64 lo)).setCell ⟨w.heap.size, 0, none⟩ (.int .u8 100)).setCell ⟨w.heap.size, 1, none⟩ (.int .i64 0)).setCell ⟨w.heap.size, 2, none⟩ (.string ⟨#[]⟩)).setCell ⟨w.heap.size, 3, none⟩ (.slice a3 a.length p3)).setCell ⟨w.heap.size, 4, none⟩ (.slice none 0 0)).setCell ⟨w.heap.size, 5, none⟩ (.slice none 0 0)) = wf at hC2 hk2 hB2 hkf ⊢
  obtain ⟨q0, q1, q2, q3, q4, q5⟩ := hC2.six
  refine bodyPost_ret (v := .agg #[.int .u8 100, .int .i64 0, .string ⟨#[]⟩, .slice a3 a.length p3, .slice none 0 0, .slice none 0 0]) (by simp [results, Tryz.results143, go_sem, q0, q1, q2, q3, q4, q5]) rfl ?_
  rw [HRE.out]
  have hkeep : Keeps (New (w0.alloc (.cells #[.string ⟨#[108, 111, 111, 112]⟩] 9))) (New w) w3 wf := keep_on hB3 hkf (by simp; omega) (by simp; omega)
  exact ⟨hk2, _, ⟨#[]⟩, _, _, _, k2, rfl, rfl, ⟨rfl, HB3.out.keep hkeep, BodyS.nil _ _, toksIn.nil _ _, ⟨in0, by simp⟩⟩, rfl, hkk, h.to hk2 hB2 hS.kle⟩
theorem itP_if (w : World) (sb yb : Nat) (rs : RS) (defs : List Def) (lv : Value) (ws : List ByteArray) (k lo : Nat) (tb : ByteArray) (hnum : numP tb.toList = none) (hpl : plainL.any (· == tb.toList) = false) (b0 : (tb.toList == [105, 102]) = true) (g : Nat) (IH : CBodyP K g) (hlo : lo < k) (res : PRes) (hres : pRead (knownD defs) (g + 1) ⟨true, lo, [], kIf⟩ ((texts ws).drop k) = some res) (h : ScInv K w sb yb rs defs lv ws k 0 lo) :
  Calls Tryz.prog 143 #[.pointer (some ⟨sb, 0, none⟩), .string tb] w fun x w' => Kp w w' (fun b => b = sb) ∧ PIt K w sb yb rs defs lv ws k lo x w' (res) := by
 have HI := hide IH
 have HR := hide (pI_if hres)
 clear IH hres
 have hsb := h.blk.lt
 have hln := h.len
 have hkl := h.kle
 go_enter Tryz.func143, Tryz.ntmps143
 go_wp2_with fail
 refine (numberR _ _).mono ?_
 rintro e w' ⟨rfl, hw⟩
 rw [hw, numV_none hnum]; clear hw
 go_wp2_with fail
 refine (isPlainR _ _).mono ?_
 rintro e w1 ⟨rfl, hk1⟩
 go_wp2_with fail
 refine (isKeptR _ _).mono ?_
 rintro e w2 ⟨rfl, hk2⟩
 have hkp : Kp w w2 (fun b => b = sb) := (((Kp.refl _ _).alloc _).trans (hk1.mono (fun _ _ h => h.elim))).trans (hk2.mono (fun _ _ h => h.elim))
 have hC : Blk w2 w.heap.size 212 zItem := hk2.blk (hk1.blk (Blk.new w _ _) (by simp)) (by simp)
 have hS : ScInv K w2 sb yb rs defs lv ws k 0 lo := h.to hkp (hk2.blk (hk1.blk (h.blk.alloc _) (by simp)) (by simp)) h.kle
 have hcs : ¬ w.heap.size = sb := by omega
 clear hk1 hk2
 have hszz := hkp.size
 have hCl := hC.lt
 have hE := Blk.new w2 #[.string ⟨#[101, 108, 115, 101]⟩, .string ⟨#[116, 104, 101, 110]⟩] 9
 go_wp2_with fail
 rcases HR.out with ⟨er, hp, hre⟩ | ⟨a, t1, r1, hp, hrest⟩
 ·have HRE := hide hre
  clear hre HR
  refine (HI.out _ sb yb rs defs lv ws k lo _ [⟨#[101, 108, 115, 101]⟩, ⟨#[116, 104, 101, 110]⟩] _ (by rw [tx_if]; exact hp) (hS.kp ((Kp.refl _ _).alloc _)) (by omega) hE (by decide)).mono ?_
  rintro x w3 ⟨hk3, her, k2, rfl, hkk, hS3⟩
  replace hC := hk3.blk (hC.alloc _) hcs
  replace hkp := (hkp.alloc _).trans hk3
  have hB3 := hS3.blk
  have hkl3 := hS3.kle
  clear hp hk3 hS hE HI hS3
  replace hC := hC.alloc (.cells #[.int .u8 63, .int .i64 0, .string ⟨#[]⟩, .slice none 0 0, .slice none 0 0, .slice none 0 0] 212)
  replace hkp := hkp.alloc (.cells #[.int .u8 63, .int .i64 0, .string ⟨#[]⟩, .slice none 0 0, .slice none 0 0, .slice none 0 0] 212)
  replace hB3 := hB3.alloc (.cells #[.int .u8 63, .int .i64 0, .string ⟨#[]⟩, .slice none 0 0, .slice none 0 0, .slice none 0 0] 212)
  obtain ⟨y0, y1, y2, y3, y4, y5⟩ := hC.six
  obtain ⟨z0, z1, z2, z3, z4, z5⟩ := hC.sixF
  go_wp2
  have hC2 := hC.set6 (.int .u8 63) (.int .i64 0) (.string ⟨#[]⟩) (.slice none 0 0) (.slice none 0 0) (.slice none 0 0)
  have hk2 := hkp.set6 (Nat.le_refl _) (.int .u8 63) (.int .i64 0) (.string ⟨#[]⟩) (.slice none 0 0) (.slice none 0 0) (.slice none 0 0)
  have hB2 := hB3.other6 (Ne.symm hcs) (.int .u8 63) (.int .i64 0) (.string ⟨#[]⟩) (.slice none 0 0) (.slice none 0 0) (.slice none 0 0)
  generalize (((((((w3.alloc (.cells #[.int .u8 63, .int .i64 0, .string ⟨#[]⟩, .slice none 0 0, .slice none 0 0, .slice none 0 0] 212)).setCell ⟨w.heap.size, 0, none⟩ (.int .u8 63)).setCell ⟨w.heap.size, 1, none⟩ (.int .i64 0)).setCell ⟨w.heap.size, 2, none⟩ (.string ⟨#[]⟩)).setCell ⟨w.heap.size, 3, none⟩ (.slice none 0 0)).setCell ⟨w.heap.size, 4, none⟩ (.slice none 0 0)).setCell ⟨w.heap.size, 5, none⟩ (.slice none 0 0)) = wf at hC2 hk2 hB2 ⊢
  obtain ⟨q0, q1, q2, q3, q4, q5⟩ := hC2.six
  refine bodyPost_ret (v := .agg #[.int .u8 63, .int .i64 0, .string ⟨#[]⟩, .slice none 0 0, .slice none 0 0, .slice none 0 0]) (by simp [results, Tryz.results143, go_sem, q0, q1, q2, q3, q4, q5]) rfl ?_
  rw [HRE.out]
  exact ⟨hk2, her, _, _, _, _, _, _, _, _, _, _, _, _, k2, rfl, hkk, h.to hk2 hB2 hkl3⟩
 ·have HRR := hide hrest
  clear hrest HR
  refine (HI.out _ sb yb rs defs lv ws k lo _ [⟨#[101, 108, 115, 101]⟩, ⟨#[116, 104, 101, 110]⟩] _ (by rw [tx_if]; exact hp) (hS.kp ((Kp.refl _ _).alloc _)) (by omega) hE (by decide)).mono ?_
  rintro x w3 ⟨hk3, v, tb', k2, rfl, htb, hbo, rfl, hkk, hS3⟩
  have HTB := hide htb
  obtain ⟨xs3, hr3, -⟩ := hbo.out
  obtain ⟨a3, p3, rfl⟩ := row_slice hr3
  have HB3 := hide hbo
  replace hC := hk3.blk (hC.alloc _) hcs
  replace hkp := (hkp.alloc _).trans hk3
  have hB3 := hS3.blk
  have hkl3 := hS3.kle
  have hsz3 := hkp.size
  have hsz23 : w2.heap.size + 1 ≤ w3.heap.size := by have := hk3.size; simpa using this
  clear hp hk3 hS hE hr3 hbo htb
  cases hend : (tb'.toList == [101, 108, 115, 101])
  ·have hne : ¬ t1 = kElse := by rw [← HTB.out, ← ByteArray.toList_eq]; simpa [kElse] using hend
   have HRE : Hid (res = .ok ([⟨63, 0, [], a, [], []⟩], [], (texts ws).drop k2)) := by
    rcases HRR.out with ⟨h1, _⟩ | ⟨_, h1⟩
    ·exact absurd h1 hne
    ·exact h1
   clear hne HRR HI hS3
   have hkq : Kp w3 w3 (fun b => b = sb ∨ b = w.heap.size) := Kp.refl _ _
   replace hC := hC.alloc (.cells #[.int .u8 63, .int .i64 0, .string ⟨#[]⟩, .slice a3 a.length p3, .slice none 0 0, .slice none 0 0] 212)
   replace hkp := hkp.alloc (.cells #[.int .u8 63, .int .i64 0, .string ⟨#[]⟩, .slice a3 a.length p3, .slice none 0 0, .slice none 0 0] 212)
   have hB4 := hB3.alloc (.cells #[.int .u8 63, .int .i64 0, .string ⟨#[]⟩, .slice a3 a.length p3, .slice none 0 0, .slice none 0 0] 212)
   replace hkq := hkq.alloc (.cells #[.int .u8 63, .int .i64 0, .string ⟨#[]⟩, .slice a3 a.length p3, .slice none 0 0, .slice none 0 0] 212)
   obtain ⟨y0, y1, y2, y3, y4, y5⟩ := hC.six
   obtain ⟨z0, z1, z2, z3, z4, z5⟩ := hC.sixF
   go_wp2
   have hC2 := hC.set6 (.int .u8 63) (.int .i64 0) (.string ⟨#[]⟩) (.slice a3 a.length p3) (.slice none 0 0) (.slice none 0 0)
   have hk2 := hkp.set6 (Nat.le_refl _) (.int .u8 63) (.int .i64 0) (.string ⟨#[]⟩) (.slice a3 a.length p3) (.slice none 0 0) (.slice none 0 0)
   have hB2 := hB4.other6 (Ne.symm hcs) (.int .u8 63) (.int .i64 0) (.string ⟨#[]⟩) (.slice a3 a.length p3) (.slice none 0 0) (.slice none 0 0)
   have hkf := hkq.set6' (b := w.heap.size) (.inr rfl) (.int .u8 63) (.int .i64 0) (.string ⟨#[]⟩) (.slice a3 a.length p3) (.slice none 0 0) (.slice none 0 0)
   generalize (((((((w3.alloc (.cells #[.int .u8 63, .int .i64 0, .string ⟨#[]⟩, .slice a3 a.length p3, .slice none 0 0, .slice none 0 0] 212)).setCell ⟨w.heap.size, 0, none⟩ (.int .u8 63)).setCell ⟨w.heap.size, 1, none⟩ (.int .i64 0)).setCell ⟨w.heap.size, 2, none⟩ (.string ⟨#[]⟩)).setCell ⟨w.heap.size, 3, none⟩ (.slice a3 a.length p3)).setCell ⟨w.heap.size, 4, none⟩ (.slice none 0 0)).setCell ⟨w.heap.size, 5, none⟩ (.slice none 0 0)) = wf at hC2 hk2 hB2 hkf ⊢
   obtain ⟨q0, q1, q2, q3, q4, q5⟩ := hC2.six
   refine bodyPost_ret (v := .agg #[.int .u8 63, .int .i64 0, .string ⟨#[]⟩, .slice a3 a.length p3, .slice none 0 0, .slice none 0 0]) (by simp [results, Tryz.results143, go_sem, q0, q1, q2, q3, q4, q5]) rfl ?_
   rw [HRE.out]
   have hkeep : Keeps (New (w2.alloc (.cells #[.string ⟨#[101, 108, 115, 101]⟩, .string ⟨#[116, 104, 101, 110]⟩] 9))) (New w) w3 wf := keep_on hB3 hkf (by simp; omega) (by simp; omega)
   exact ⟨hk2, _, ⟨#[]⟩, _, _, _, k2, rfl, rfl, ⟨rfl, HB3.out.keep hkeep, BodyS.nil _ _, toksIn.nil _ _, ⟨in0, by simp⟩⟩, rfl, hkk, h.to hk2 hB2 hkl3⟩
  ·have heq : t1 = kElse := by rw [← HTB.out, ← ByteArray.toList_eq]; simpa [kElse] using hend
   have hrest : (∃ e, pRead (knownD defs) g ⟨false, lo, [kThen], []⟩ ((texts ws).drop k2) = some (.error e) ∧ res = .error e) ∨ (∃ b t2 r2, pRead (knownD defs) g ⟨false, lo, [kThen], []⟩ ((texts ws).drop k2) = some (.ok (b, t2, r2)) ∧ res = .ok ([⟨63, 0, [], a, b, []⟩], [], r2)) := by
    rcases HRR.out with ⟨_, h1⟩ | ⟨h1, _⟩
    ·exact h1
    ·exact absurd heq h1
   clear heq HRR
   have hX := Blk.new w3 #[.int .u8 63, .int .i64 0, .string ⟨#[]⟩, .slice a3 a.length p3, .slice none 0 0, .slice none 0 0] 212
   have hE := Blk.new (w3.alloc (.cells #[.int .u8 63, .int .i64 0, .string ⟨#[]⟩, .slice a3 a.length p3, .slice none 0 0, .slice none 0 0] 212)) #[.string ⟨#[116, 104, 101, 110]⟩] 9
   rw [show (w3.alloc (.cells #[.int .u8 63, .int .i64 0, .string ⟨#[]⟩, .slice a3 a.length p3, .slice none 0 0, .slice none 0 0] 212)).heap.size = w3.heap.size + 1 by simp] at hE
   have hS4 := (hS3.kp ((Kp.refl _ _).alloc (.cells #[.int .u8 63, .int .i64 0, .string ⟨#[]⟩, .slice a3 a.length p3, .slice none 0 0, .slice none 0 0] 212))).kp ((Kp.refl _ _).alloc (.cells #[.string ⟨#[116, 104, 101, 110]⟩] 9))
   have hC4 := (hC.alloc (.cells #[.int .u8 63, .int .i64 0, .string ⟨#[]⟩, .slice a3 a.length p3, .slice none 0 0, .slice none 0 0] 212)).alloc (.cells #[.string ⟨#[116, 104, 101, 110]⟩] 9)
   have hkp4 := (hkp.alloc (.cells #[.int .u8 63, .int .i64 0, .string ⟨#[]⟩, .slice a3 a.length p3, .slice none 0 0, .slice none 0 0] 212)).alloc (.cells #[.string ⟨#[116, 104, 101, 110]⟩] 9)
   have hkq : Kp w3 ((w3.alloc (.cells #[.int .u8 63, .int .i64 0, .string ⟨#[]⟩, .slice a3 a.length p3, .slice none 0 0, .slice none 0 0] 212)).alloc (.cells #[.string ⟨#[116, 104, 101, 110]⟩] 9)) (fun b => b = sb ∨ b = w.heap.size) := ((Kp.refl _ _).alloc _).alloc _
   have hX4 := hX.alloc (.cells #[.string ⟨#[116, 104, 101, 110]⟩] 9)
   have hxs : ¬ w3.heap.size = sb := by omega
   have hxr : ¬ w3.heap.size = w.heap.size := by omega
   go_wp2_with fail
   rcases hrest with ⟨er, hp2, hre⟩ | ⟨b, t2, r2, hp2, hre⟩
   ·have HRE := hide hre
    clear hre
    refine (HI.out _ sb yb rs defs lv ws k2 lo _ [⟨#[116, 104, 101, 110]⟩] _ (by rw [tx_then]; exact hp2) hS4 (by omega) hE (by decide)).mono ?_
    rintro x w5 ⟨hk5, her, k3, rfl, hkk3, hS5⟩
    replace hC := hk5.blk hC4 hcs
    replace hkp := hkp4.trans hk5
    have hB5 := hS5.blk
    have hkl5 := hS5.kle
    replace hX := hk5.blk hX4 hxs
    clear hp2 hk5 hE HI hS5 hS4 hC4 hkp4 hX4 hS3
    obtain ⟨x0, x1, x2, x3, x4, x5⟩ := hX.six
    have xf := hX.free 4
    replace hC := hC.setOther (a := ⟨w3.heap.size, 4, none⟩) (Ne.symm hxr) (.slice none 0 0)
    replace hkp := hkp.set (a := ⟨w3.heap.size, 4, none⟩) (fun hlt => absurd hlt (by show ¬ (w3.heap.size < w.heap.size); omega)) (.slice none 0 0)
    have hB6 := hB5.setOther (a := ⟨w3.heap.size, 4, none⟩) (Ne.symm hxs) (.slice none 0 0)
    obtain ⟨y0, y1, y2, y3, y4, y5⟩ := hC.six
    obtain ⟨z0, z1, z2, z3, z4, z5⟩ := hC.sixF
    go_wp2
    have hC2 := hC.set6 (.int .u8 63) (.int .i64 0) (.string ⟨#[]⟩) (.slice a3 a.length p3) (.slice none 0 0) (.slice none 0 0)
    have hk2 := hkp.set6 (Nat.le_refl _) (.int .u8 63) (.int .i64 0) (.string ⟨#[]⟩) (.slice a3 a.length p3) (.slice none 0 0) (.slice none 0 0)
    have hB2 := hB6.other6 (Ne.symm hcs) (.int .u8 63) (.int .i64 0) (.string ⟨#[]⟩) (.slice a3 a.length p3) (.slice none 0 0) (.slice none 0 0)
    generalize (((((((w5.setCell ⟨w3.heap.size, 4, none⟩ (.slice none 0 0)).setCell ⟨w.heap.size, 0, none⟩ (.int .u8 63)).setCell ⟨w.heap.size, 1, none⟩ (.int .i64 0)).setCell ⟨w.heap.size, 2, none⟩ (.string ⟨#[]⟩)).setCell ⟨w.heap.size, 3, none⟩ (.slice a3 a.length p3)).setCell ⟨w.heap.size, 4, none⟩ (.slice none 0 0)).setCell ⟨w.heap.size, 5, none⟩ (.slice none 0 0)) = wf at hC2 hk2 hB2 ⊢
    obtain ⟨q0, q1, q2, q3, q4, q5⟩ := hC2.six
    refine bodyPost_ret (v := .agg #[.int .u8 63, .int .i64 0, .string ⟨#[]⟩, .slice a3 a.length p3, .slice none 0 0, .slice none 0 0]) (by simp [results, Tryz.results143, go_sem, q0, q1, q2, q3, q4, q5]) rfl ?_
    rw [HRE.out]
    exact ⟨hk2, her, _, _, _, _, _, _, _, _, _, _, _, _, k3, rfl, by omega, h.to hk2 hB2 hkl5⟩
   ·have HRE := hide hre
    clear hre
    refine (HI.out _ sb yb rs defs lv ws k2 lo _ [⟨#[116, 104, 101, 110]⟩] _ (by rw [tx_then]; exact hp2) hS4 (by omega) hE (by decide)).mono ?_
    rintro x w5 ⟨hk5, v2, tb2, k3, rfl, -, hbo5, rfl, hkk3, hS5⟩
    obtain ⟨xs5, hr5, -⟩ := hbo5.out
    obtain ⟨a5, p5, rfl⟩ := row_slice hr5
    have HB5 := hide hbo5
    replace hC := hk5.blk hC4 hcs
    replace hkp := hkp4.trans hk5
    replace hkq := hkq.trans (hk5.mono (fun _ _ h => .inl h))
    have hB5 := hS5.blk
    have hkl5 := hS5.kle
    have hsz5 := hk5.size
    replace hX := hk5.blk hX4 hxs
    have hkq5 : Kp w5 (w5.setCell ⟨w3.heap.size, 4, none⟩ (.slice a5 b.length p5)) (fun b => b = sb ∨ b = w.heap.size ∨ b = w3.heap.size) := (Kp.one _ _ _ _).mono (fun _ _ h => .inr (.inr h))
    clear hp2 hk5 hE HI hS5 hS4 hC4 hkp4 hX4 hS3 hr5 hbo5
    obtain ⟨x0, x1, x2, x3, x4, x5⟩ := hX.six
    have xf := hX.free 4
    replace hC := hC.setOther (a := ⟨w3.heap.size, 4, none⟩) (Ne.symm hxr) (.slice a5 b.length p5)
    replace hkp := hkp.set (a := ⟨w3.heap.size, 4, none⟩) (fun hlt => absurd hlt (by show ¬ (w3.heap.size < w.heap.size); omega)) (.slice a5 b.length p5)
    replace hkq := hkq.set (a := ⟨w3.heap.size, 4, none⟩) (fun hlt => absurd hlt (by show ¬ (w3.heap.size < w3.heap.size); omega)) (.slice a5 b.length p5)
    have hB6 := hB5.setOther (a := ⟨w3.heap.size, 4, none⟩) (Ne.symm hxs) (.slice a5 b.length p5)
    obtain ⟨y0, y1, y2, y3, y4, y5⟩ := hC.six
    obtain ⟨z0, z1, z2, z3, z4, z5⟩ := hC.sixF
    go_wp2
    have hC2 := hC.set6 (.int .u8 63) (.int .i64 0) (.string ⟨#[]⟩) (.slice a3 a.length p3) (.slice a5 b.length p5) (.slice none 0 0)
    have hk2 := hkp.set6 (Nat.le_refl _) (.int .u8 63) (.int .i64 0) (.string ⟨#[]⟩) (.slice a3 a.length p3) (.slice a5 b.length p5) (.slice none 0 0)
    have hB2 := hB6.other6 (Ne.symm hcs) (.int .u8 63) (.int .i64 0) (.string ⟨#[]⟩) (.slice a3 a.length p3) (.slice a5 b.length p5) (.slice none 0 0)
    have hkf := hkq.set6' (b := w.heap.size) (.inr rfl) (.int .u8 63) (.int .i64 0) (.string ⟨#[]⟩) (.slice a3 a.length p3) (.slice a5 b.length p5) (.slice none 0 0)
    have hkf5 := hkq5.set6' (b := w.heap.size) (.inr (.inl rfl)) (.int .u8 63) (.int .i64 0) (.string ⟨#[]⟩) (.slice a3 a.length p3) (.slice a5 b.length p5) (.slice none 0 0)
    generalize (((((((w5.setCell ⟨w3.heap.size, 4, none⟩ (.slice a5 b.length p5)).setCell ⟨w.heap.size, 0, none⟩ (.int .u8 63)).setCell ⟨w.heap.size, 1, none⟩ (.int .i64 0)).setCell ⟨w.heap.size, 2, none⟩ (.string ⟨#[]⟩)).setCell ⟨w.heap.size, 3, none⟩ (.slice a3 a.length p3)).setCell ⟨w.heap.size, 4, none⟩ (.slice a5 b.length p5)).setCell ⟨w.heap.size, 5, none⟩ (.slice none 0 0)) = wf at hC2 hk2 hB2 hkf hkf5 ⊢
    obtain ⟨q0, q1, q2, q3, q4, q5⟩ := hC2.six
    refine bodyPost_ret (v := .agg #[.int .u8 63, .int .i64 0, .string ⟨#[]⟩, .slice a3 a.length p3, .slice a5 b.length p5, .slice none 0 0]) (by simp [results, Tryz.results143, go_sem, q0, q1, q2, q3, q4, q5]) rfl ?_
    rw [HRE.out]
    have hkeep : Keeps (New (w2.alloc (.cells #[.string ⟨#[101, 108, 115, 101]⟩, .string ⟨#[116, 104, 101, 110]⟩] 9))) (New w) w3 wf := keep_on hB3 hkf (by simp; omega) (by simp; omega)
    have hkeep5 : Keeps (New ((w3.alloc (.cells #[.int .u8 63, .int .i64 0, .string ⟨#[]⟩, .slice a3 a.length p3, .slice none 0 0, .slice none 0 0] 212)).alloc (.cells #[.string ⟨#[116, 104, 101, 110]⟩] 9))) (New w) w5 wf := Keeps.of hkf5 (fun q t c hb hbl ht => by
     have hb : ((w3.alloc (.cells #[.int .u8 63, .int .i64 0, .string ⟨#[]⟩, .slice a3 a.length p3, .slice none 0 0, .slice none 0 0] 212)).alloc (.cells #[.string ⟨#[116, 104, 101, 110]⟩] 9)).heap.size ≤ q := hb
     simp at hb
     rintro (e | e | e)
     ·exact noScan hB5 hbl ht e
     ·omega
     ·omega) (fun q hb _ => by have hb : ((w3.alloc (.cells #[.int .u8 63, .int .i64 0, .string ⟨#[]⟩, .slice a3 a.length p3, .slice none 0 0, .slice none 0 0] 212)).alloc (.cells #[.string ⟨#[116, 104, 101, 110]⟩] 9)).heap.size ≤ q := hb; simp at hb; show w.heap.size ≤ q; omega)
    exact ⟨hk2, _, ⟨#[]⟩, _, _, _, k3, rfl, rfl, ⟨rfl, HB3.out.keep hkeep, HB5.out.keep hkeep5, toksIn.nil _ _, ⟨in0, by simp⟩⟩, rfl, by omega, h.to hk2 hB2 hkl5⟩
theorem itP_begin (w : World) (sb yb : Nat) (rs : RS) (defs : List Def) (lv : Value) (ws : List ByteArray) (k lo : Nat) (tb : ByteArray) (hnum : numP tb.toList = none) (hpl : plainL.any (· == tb.toList) = false) (b0 : (tb.toList == [105, 102]) = false) (b1 : (tb.toList == [98, 101, 103, 105, 110]) = true) (g : Nat) (IH : CBodyP K g) (hlo : lo < k) (res : PRes) (hres : pRead (knownD defs) (g + 1) ⟨true, lo, [], kBegin⟩ ((texts ws).drop k) = some res) (h : ScInv K w sb yb rs defs lv ws k 0 lo) :
  Calls Tryz.prog 143 #[.pointer (some ⟨sb, 0, none⟩), .string tb] w fun x w' => Kp w w' (fun b => b = sb) ∧ PIt K w sb yb rs defs lv ws k lo x w' (res) := by
 have HI := hide IH
 have HR := hide (pI_begin hres)
 clear IH hres
 have hsb := h.blk.lt
 have hln := h.len
 have hkl := h.kle
 go_enter Tryz.func143, Tryz.ntmps143
 go_wp2_with fail
 refine (numberR _ _).mono ?_
 rintro e w' ⟨rfl, hw⟩
 rw [hw, numV_none hnum]; clear hw
 go_wp2_with fail
 refine (isPlainR _ _).mono ?_
 rintro e w1 ⟨rfl, hk1⟩
 go_wp2_with fail
 refine (isKeptR _ _).mono ?_
 rintro e w2 ⟨rfl, hk2⟩
 have hkp : Kp w w2 (fun b => b = sb) := (((Kp.refl _ _).alloc _).trans (hk1.mono (fun _ _ h => h.elim))).trans (hk2.mono (fun _ _ h => h.elim))
 have hC : Blk w2 w.heap.size 212 zItem := hk2.blk (hk1.blk (Blk.new w _ _) (by simp)) (by simp)
 have hS : ScInv K w2 sb yb rs defs lv ws k 0 lo := h.to hkp (hk2.blk (hk1.blk (h.blk.alloc _) (by simp)) (by simp)) h.kle
 have hcs : ¬ w.heap.size = sb := by omega
 clear hk1 hk2
 have hszz := hkp.size
 have hCl := hC.lt
 have hE := Blk.new w2 #[.string ⟨#[117, 110, 116, 105, 108]⟩, .string ⟨#[119, 104, 105, 108, 101]⟩] 9
 go_wp2_with fail
 rcases HR.out with ⟨er, hp, hre⟩ | ⟨a, t1, r1, hp, hrest⟩
 ·have HRE := hide hre
  clear hre HR
  refine (HI.out _ sb yb rs defs lv ws k lo _ [⟨#[117, 110, 116, 105, 108]⟩, ⟨#[119, 104, 105, 108, 101]⟩] _ (by rw [tx_begin]; exact hp) (hS.kp ((Kp.refl _ _).alloc _)) (by omega) hE (by decide)).mono ?_
  rintro x w3 ⟨hk3, her, k2, rfl, hkk, hS3⟩
  replace hC := hk3.blk (hC.alloc _) hcs
  replace hkp := (hkp.alloc _).trans hk3
  have hB3 := hS3.blk
  have hkl3 := hS3.kle
  clear hp hk3 hS hE HI hS3
  obtain ⟨y0, y1, y2, y3, y4, y5⟩ := hC.six
  obtain ⟨z0, z1, z2, z3, z4, z5⟩ := hC.sixF
  go_wp2
  have hC2 := hC.set6 (.int .u8 117) (.int .i64 0) (.string ⟨#[]⟩) (.slice none 0 0) (.slice none 0 0) (.slice none 0 0)
  have hk2 := hkp.set6 (Nat.le_refl _) (.int .u8 117) (.int .i64 0) (.string ⟨#[]⟩) (.slice none 0 0) (.slice none 0 0) (.slice none 0 0)
  have hB2 := hB3.other6 (Ne.symm hcs) (.int .u8 117) (.int .i64 0) (.string ⟨#[]⟩) (.slice none 0 0) (.slice none 0 0) (.slice none 0 0)
  generalize ((((((w3.setCell ⟨w.heap.size, 0, none⟩ (.int .u8 117)).setCell ⟨w.heap.size, 1, none⟩ (.int .i64 0)).setCell ⟨w.heap.size, 2, none⟩ (.string ⟨#[]⟩)).setCell ⟨w.heap.size, 3, none⟩ (.slice none 0 0)).setCell ⟨w.heap.size, 4, none⟩ (.slice none 0 0)).setCell ⟨w.heap.size, 5, none⟩ (.slice none 0 0)) = wf at hC2 hk2 hB2 ⊢
  obtain ⟨q0, q1, q2, q3, q4, q5⟩ := hC2.six
  refine bodyPost_ret (v := .agg #[.int .u8 117, .int .i64 0, .string ⟨#[]⟩, .slice none 0 0, .slice none 0 0, .slice none 0 0]) (by simp [results, Tryz.results143, go_sem, q0, q1, q2, q3, q4, q5]) rfl ?_
  rw [HRE.out]
  exact ⟨hk2, her, _, _, _, _, _, _, _, _, _, _, _, _, k2, rfl, hkk, h.to hk2 hB2 hkl3⟩
 ·have HRR := hide hrest
  clear hrest HR
  refine (HI.out _ sb yb rs defs lv ws k lo _ [⟨#[117, 110, 116, 105, 108]⟩, ⟨#[119, 104, 105, 108, 101]⟩] _ (by rw [tx_begin]; exact hp) (hS.kp ((Kp.refl _ _).alloc _)) (by omega) hE (by decide)).mono ?_
  rintro x w3 ⟨hk3, v, tb', k2, rfl, htb, hbo, rfl, hkk, hS3⟩
  have HTB := hide htb
  obtain ⟨xs3, hr3, -⟩ := hbo.out
  obtain ⟨a3, p3, rfl⟩ := row_slice hr3
  have HB3 := hide hbo
  replace hC := hk3.blk (hC.alloc _) hcs
  replace hkp := (hkp.alloc _).trans hk3
  have hB3 := hS3.blk
  have hkl3 := hS3.kle
  have hsz3 := hkp.size
  have hsz23 : w2.heap.size + 1 ≤ w3.heap.size := by have := hk3.size; simpa using this
  clear hp hk3 hS hE hr3 hbo htb
  cases hend : (tb'.toList == [119, 104, 105, 108, 101])
  ·have hne : ¬ t1 = kWhile := by rw [← HTB.out, ← ByteArray.toList_eq]; simpa [kWhile] using hend
   have HRE : Hid (res = .ok ([⟨117, 0, [], a, [], []⟩], [], (texts ws).drop k2)) := by
    rcases HRR.out with ⟨h1, _⟩ | ⟨_, h1⟩
    ·exact absurd h1 hne
    ·exact h1
   clear hne HRR HI hS3
   have hkq : Kp w3 w3 (fun b => b = sb ∨ b = w.heap.size) := Kp.refl _ _
   have hB4 := hB3
   obtain ⟨y0, y1, y2, y3, y4, y5⟩ := hC.six
   obtain ⟨z0, z1, z2, z3, z4, z5⟩ := hC.sixF
   go_wp2
   have hC2 := hC.set6 (.int .u8 117) (.int .i64 0) (.string ⟨#[]⟩) (.slice a3 a.length p3) (.slice none 0 0) (.slice none 0 0)
   have hk2 := hkp.set6 (Nat.le_refl _) (.int .u8 117) (.int .i64 0) (.string ⟨#[]⟩) (.slice a3 a.length p3) (.slice none 0 0) (.slice none 0 0)
   have hB2 := hB4.other6 (Ne.symm hcs) (.int .u8 117) (.int .i64 0) (.string ⟨#[]⟩) (.slice a3 a.length p3) (.slice none 0 0) (.slice none 0 0)
   have hkf := hkq.set6' (b := w.heap.size) (.inr rfl) (.int .u8 117) (.int .i64 0) (.string ⟨#[]⟩) (.slice a3 a.length p3) (.slice none 0 0) (.slice none 0 0)
   generalize ((((((w3.setCell ⟨w.heap.size, 0, none⟩ (.int .u8 117)).setCell ⟨w.heap.size, 1, none⟩ (.int .i64 0)).setCell ⟨w.heap.size, 2, none⟩ (.string ⟨#[]⟩)).setCell ⟨w.heap.size, 3, none⟩ (.slice a3 a.length p3)).setCell ⟨w.heap.size, 4, none⟩ (.slice none 0 0)).setCell ⟨w.heap.size, 5, none⟩ (.slice none 0 0)) = wf at hC2 hk2 hB2 hkf ⊢
   obtain ⟨q0, q1, q2, q3, q4, q5⟩ := hC2.six
   refine bodyPost_ret (v := .agg #[.int .u8 117, .int .i64 0, .string ⟨#[]⟩, .slice a3 a.length p3, .slice none 0 0, .slice none 0 0]) (by simp [results, Tryz.results143, go_sem, q0, q1, q2, q3, q4, q5]) rfl ?_
   rw [HRE.out]
   have hkeep : Keeps (New (w2.alloc (.cells #[.string ⟨#[117, 110, 116, 105, 108]⟩, .string ⟨#[119, 104, 105, 108, 101]⟩] 9))) (New w) w3 wf := keep_on hB3 hkf (by simp; omega) (by simp; omega)
   exact ⟨hk2, _, ⟨#[]⟩, _, _, _, k2, rfl, rfl, ⟨rfl, HB3.out.keep hkeep, BodyS.nil _ _, toksIn.nil _ _, ⟨in0, by simp⟩⟩, rfl, hkk, h.to hk2 hB2 hkl3⟩
  ·have heq : t1 = kWhile := by rw [← HTB.out, ← ByteArray.toList_eq]; simpa [kWhile] using hend
   have hrest : (∃ e, pRead (knownD defs) g ⟨false, lo, [kRepeat], []⟩ ((texts ws).drop k2) = some (.error e) ∧ res = .error e) ∨ (∃ b t2 r2, pRead (knownD defs) g ⟨false, lo, [kRepeat], []⟩ ((texts ws).drop k2) = some (.ok (b, t2, r2)) ∧ res = .ok ([⟨119, 0, [], a, b, []⟩], [], r2)) := by
    rcases HRR.out with ⟨_, h1⟩ | ⟨h1, _⟩
    ·exact h1
    ·exact absurd heq h1
   clear heq HRR
   have hE := Blk.new w3 #[.string ⟨#[114, 101, 112, 101, 97, 116]⟩] 9
   have hS4 := hS3.kp ((Kp.refl _ _).alloc (.cells #[.string ⟨#[114, 101, 112, 101, 97, 116]⟩] 9))
   have hC4 := hC.alloc (.cells #[.string ⟨#[114, 101, 112, 101, 97, 116]⟩] 9)
   have hkp4 := hkp.alloc (.cells #[.string ⟨#[114, 101, 112, 101, 97, 116]⟩] 9)
   have hkq : Kp w3 (w3.alloc (.cells #[.string ⟨#[114, 101, 112, 101, 97, 116]⟩] 9)) (fun b => b = sb ∨ b = w.heap.size) := (Kp.refl _ _).alloc _
   go_wp2_with fail
   rcases hrest with ⟨er, hp2, hre⟩ | ⟨b, t2, r2, hp2, hre⟩
   ·have HRE := hide hre
    clear hre
    refine (HI.out _ sb yb rs defs lv ws k2 lo _ [⟨#[114, 101, 112, 101, 97, 116]⟩] _ (by rw [tx_repeat]; exact hp2) hS4 (by omega) hE (by decide)).mono ?_
    rintro x w5 ⟨hk5, her, k3, rfl, hkk3, hS5⟩
    replace hC := hk5.blk hC4 hcs
    replace hkp := hkp4.trans hk5
    have hB5 := hS5.blk
    have hkl5 := hS5.kle
    clear hp2 hk5 hE HI hS5 hS4 hC4 hkp4 hS3
    have hB6 := hB5
    obtain ⟨y0, y1, y2, y3, y4, y5⟩ := hC.six
    obtain ⟨z0, z1, z2, z3, z4, z5⟩ := hC.sixF
    go_wp2
    have hC2 := hC.set6 (.int .u8 119) (.int .i64 0) (.string ⟨#[]⟩) (.slice a3 a.length p3) (.slice none 0 0) (.slice none 0 0)
    have hk2 := hkp.set6 (Nat.le_refl _) (.int .u8 119) (.int .i64 0) (.string ⟨#[]⟩) (.slice a3 a.length p3) (.slice none 0 0) (.slice none 0 0)
    have hB2 := hB6.other6 (Ne.symm hcs) (.int .u8 119) (.int .i64 0) (.string ⟨#[]⟩) (.slice a3 a.length p3) (.slice none 0 0) (.slice none 0 0)
    generalize ((((((w5.setCell ⟨w.heap.size, 0, none⟩ (.int .u8 119)).setCell ⟨w.heap.size, 1, none⟩ (.int .i64 0)).setCell ⟨w.heap.size, 2, none⟩ (.string ⟨#[]⟩)).setCell ⟨w.heap.size, 3, none⟩ (.slice a3 a.length p3)).setCell ⟨w.heap.size, 4, none⟩ (.slice none 0 0)).setCell ⟨w.heap.size, 5, none⟩ (.slice none 0 0)) = wf at hC2 hk2 hB2 ⊢
    obtain ⟨q0, q1, q2, q3, q4, q5⟩ := hC2.six
    refine bodyPost_ret (v := .agg #[.int .u8 119, .int .i64 0, .string ⟨#[]⟩, .slice a3 a.length p3, .slice none 0 0, .slice none 0 0]) (by simp [results, Tryz.results143, go_sem, q0, q1, q2, q3, q4, q5]) rfl ?_
    rw [HRE.out]
    exact ⟨hk2, her, _, _, _, _, _, _, _, _, _, _, _, _, k3, rfl, by omega, h.to hk2 hB2 hkl5⟩
   ·have HRE := hide hre
    clear hre
    refine (HI.out _ sb yb rs defs lv ws k2 lo _ [⟨#[114, 101, 112, 101, 97, 116]⟩] _ (by rw [tx_repeat]; exact hp2) hS4 (by omega) hE (by decide)).mono ?_
    rintro x w5 ⟨hk5, v2, tb2, k3, rfl, -, hbo5, rfl, hkk3, hS5⟩
    obtain ⟨xs5, hr5, -⟩ := hbo5.out
    obtain ⟨a5, p5, rfl⟩ := row_slice hr5
    have HB5 := hide hbo5
    replace hC := hk5.blk hC4 hcs
    replace hkp := hkp4.trans hk5
    replace hkq := hkq.trans (hk5.mono (fun _ _ h => .inl h))
    have hB5 := hS5.blk
    have hkl5 := hS5.kle
    have hsz5 := hk5.size
    have hkq5 : Kp w5 w5 (fun b => b = sb ∨ b = w.heap.size) := Kp.refl _ _
    clear hp2 hk5 hE HI hS5 hS4 hC4 hkp4 hS3 hr5 hbo5
    have hB6 := hB5
    obtain ⟨y0, y1, y2, y3, y4, y5⟩ := hC.six
    obtain ⟨z0, z1, z2, z3, z4, z5⟩ := hC.sixF
    go_wp2
    have hC2 := hC.set6 (.int .u8 119) (.int .i64 0) (.string ⟨#[]⟩) (.slice a3 a.length p3) (.slice a5 b.length p5) (.slice none 0 0)
    have hk2 := hkp.set6 (Nat.le_refl _) (.int .u8 119) (.int .i64 0) (.string ⟨#[]⟩) (.slice a3 a.length p3) (.slice a5 b.length p5) (.slice none 0 0)
    have hB2 := hB6.other6 (Ne.symm hcs) (.int .u8 119) (.int .i64 0) (.string ⟨#[]⟩) (.slice a3 a.length p3) (.slice a5 b.length p5) (.slice none 0 0)
    have hkf := hkq.set6' (b := w.heap.size) (.inr rfl) (.int .u8 119) (.int .i64 0) (.string ⟨#[]⟩) (.slice a3 a.length p3) (.slice a5 b.length p5) (.slice none 0 0)
    have hkf5 := hkq5.set6' (b := w.heap.size) (.inr rfl) (.int .u8 119) (.int .i64 0) (.string ⟨#[]⟩) (.slice a3 a.length p3) (.slice a5 b.length p5) (.slice none 0 0)
    generalize ((((((w5.setCell ⟨w.heap.size, 0, none⟩ (.int .u8 119)).setCell ⟨w.heap.size, 1, none⟩ (.int .i64 0)).setCell ⟨w.heap.size, 2, none⟩ (.string ⟨#[]⟩)).setCell ⟨w.heap.size, 3, none⟩ (.slice a3 a.length p3)).setCell ⟨w.heap.size, 4, none⟩ (.slice a5 b.length p5)).setCell ⟨w.heap.size, 5, none⟩ (.slice none 0 0)) = wf at hC2 hk2 hB2 hkf hkf5 ⊢
    obtain ⟨q0, q1, q2, q3, q4, q5⟩ := hC2.six
    refine bodyPost_ret (v := .agg #[.int .u8 119, .int .i64 0, .string ⟨#[]⟩, .slice a3 a.length p3, .slice a5 b.length p5, .slice none 0 0]) (by simp [results, Tryz.results143, go_sem, q0, q1, q2, q3, q4, q5]) rfl ?_
    rw [HRE.out]
    have hkeep : Keeps (New (w2.alloc (.cells #[.string ⟨#[117, 110, 116, 105, 108]⟩, .string ⟨#[119, 104, 105, 108, 101]⟩] 9))) (New w) w3 wf := keep_on hB3 hkf (by simp; omega) (by simp; omega)
    have hkeep5 : Keeps (New (w3.alloc (.cells #[.string ⟨#[114, 101, 112, 101, 97, 116]⟩] 9))) (New w) w5 wf := keep_on hB5 hkf5 (by simp; omega) (by simp; omega)
    exact ⟨hk2, _, ⟨#[]⟩, _, _, _, k3, rfl, rfl, ⟨rfl, HB3.out.keep hkeep, HB5.out.keep hkeep5, toksIn.nil _ _, ⟨in0, by simp⟩⟩, rfl, by omega, h.to hk2 hB2 hkl5⟩
end
end Go.Proofs.YtldifaahmpecfaaGreatDoor
