import Derived.Test.YtldifaahmpecfaaGreatDoorV16
namespace Go.Proofs.YtldifaahmpecfaaGreatDoor
set_option maxRecDepth 1000000
set_option maxHeartbeats 4000000
set_option linter.all false
section
open Go.RowKit
theorem Blk.seven {w : World} {b : Nat} {t : TypeId} {a0 a1 a2 a3 a4 a5 a6 : Value} (h : Blk w b t #[a0, a1, a2, a3, a4, a5, a6]) :
  w.cell? ⟨b, 0, none⟩ = some a0 ∧ w.cell? ⟨b, 1, none⟩ = some a1 ∧ w.cell? ⟨b, 2, none⟩ = some a2 ∧ w.cell? ⟨b, 3, none⟩ = some a3 ∧ w.cell? ⟨b, 4, none⟩ = some a4 ∧ w.cell? ⟨b, 5, none⟩ = some a5 ∧ w.cell? ⟨b, 6, none⟩ = some a6 :=
 ⟨h.cell rfl, h.cell rfl, h.cell rfl, h.cell rfl, h.cell rfl, h.cell rfl, h.cell rfl⟩
theorem Blk.sevenF {w : World} {b : Nat} {t : TypeId} {c : Array Value} (h : Blk w b t c) :
  w.frozen? ⟨b, 0, none⟩ = false ∧ w.frozen? ⟨b, 1, none⟩ = false ∧ w.frozen? ⟨b, 2, none⟩ = false ∧ w.frozen? ⟨b, 3, none⟩ = false ∧ w.frozen? ⟨b, 4, none⟩ = false ∧ w.frozen? ⟨b, 5, none⟩ = false ∧ w.frozen? ⟨b, 6, none⟩ = false :=
 ⟨h.free 0, h.free 1, h.free 2, h.free 3, h.free 4, h.free 5, h.free 6⟩
theorem Blk.set7 {w : World} {b : Nat} {t : TypeId} {a0 a1 a2 a3 a4 a5 a6 : Value} (h : Blk w b t #[a0, a1, a2, a3, a4, a5, a6]) (v0 v1 v2 v3 v4 v5 v6 : Value) :
  Blk (((((((w.setCell ⟨b, 0, none⟩ v0).setCell ⟨b, 1, none⟩ v1).setCell ⟨b, 2, none⟩ v2).setCell ⟨b, 3, none⟩ v3).setCell ⟨b, 4, none⟩ v4).setCell ⟨b, 5, none⟩ v5).setCell ⟨b, 6, none⟩ v6) b t #[v0, v1, v2, v3, v4, v5, v6] := by
 have h1 : Blk (w.setCell ⟨b, 0, none⟩ v0) b t #[v0, a1, a2, a3, a4, a5, a6] := h.set 0 v0
 have h2 : Blk ((w.setCell ⟨b, 0, none⟩ v0).setCell ⟨b, 1, none⟩ v1) b t #[v0, v1, a2, a3, a4, a5, a6] := h1.set 1 v1
 have h3 : Blk (((w.setCell ⟨b, 0, none⟩ v0).setCell ⟨b, 1, none⟩ v1).setCell ⟨b, 2, none⟩ v2) b t #[v0, v1, v2, a3, a4, a5, a6] := h2.set 2 v2
 have h4 : Blk ((((w.setCell ⟨b, 0, none⟩ v0).setCell ⟨b, 1, none⟩ v1).setCell ⟨b, 2, none⟩ v2).setCell ⟨b, 3, none⟩ v3) b t #[v0, v1, v2, v3, a4, a5, a6] := h3.set 3 v3
 have h5 : Blk (((((w.setCell ⟨b, 0, none⟩ v0).setCell ⟨b, 1, none⟩ v1).setCell ⟨b, 2, none⟩ v2).setCell ⟨b, 3, none⟩ v3).setCell ⟨b, 4, none⟩ v4) b t #[v0, v1, v2, v3, v4, a5, a6] := h4.set 4 v4
 have h6 : Blk ((((((w.setCell ⟨b, 0, none⟩ v0).setCell ⟨b, 1, none⟩ v1).setCell ⟨b, 2, none⟩ v2).setCell ⟨b, 3, none⟩ v3).setCell ⟨b, 4, none⟩ v4).setCell ⟨b, 5, none⟩ v5) b t #[v0, v1, v2, v3, v4, v5, a6] := h5.set 5 v5
 have h7 : Blk (((((((w.setCell ⟨b, 0, none⟩ v0).setCell ⟨b, 1, none⟩ v1).setCell ⟨b, 2, none⟩ v2).setCell ⟨b, 3, none⟩ v3).setCell ⟨b, 4, none⟩ v4).setCell ⟨b, 5, none⟩ v5).setCell ⟨b, 6, none⟩ v6) b t #[v0, v1, v2, v3, v4, v5, v6] := h6.set 6 v6
 exact h7
theorem Kp.set7 {w w1 : World} {S : Nat → Prop} {b : Nat} (h : Kp w w1 S) (hb : w.heap.size ≤ b) (v0 v1 v2 v3 v4 v5 v6 : Value) :
  Kp w (((((((w1.setCell ⟨b, 0, none⟩ v0).setCell ⟨b, 1, none⟩ v1).setCell ⟨b, 2, none⟩ v2).setCell ⟨b, 3, none⟩ v3).setCell ⟨b, 4, none⟩ v4).setCell ⟨b, 5, none⟩ v5).setCell ⟨b, 6, none⟩ v6) S := by
 have hn : ∀ o, (⟨b, o, none⟩ : Addr).block < w.heap.size → S (⟨b, o, none⟩ : Addr).block := fun o hlt => absurd hlt (by show ¬ b < _; omega)
 exact ((((((h.set (hn 0) v0).set (hn 1) v1).set (hn 2) v2).set (hn 3) v3).set (hn 4) v4).set (hn 5) v5).set (hn 6) v6
theorem Blk.other7 {w : World} {b b' : Nat} {t : TypeId} {c : Array Value} (h : Blk w b t c) (hb : b ≠ b') (v0 v1 v2 v3 v4 v5 v6 : Value) :
  Blk (((((((w.setCell ⟨b', 0, none⟩ v0).setCell ⟨b', 1, none⟩ v1).setCell ⟨b', 2, none⟩ v2).setCell ⟨b', 3, none⟩ v3).setCell ⟨b', 4, none⟩ v4).setCell ⟨b', 5, none⟩ v5).setCell ⟨b', 6, none⟩ v6) b t c :=
 ((((((h.setOther (a := ⟨b', 0, none⟩) hb v0).setOther (a := ⟨b', 1, none⟩) hb v1).setOther (a := ⟨b', 2, none⟩) hb v2).setOther (a := ⟨b', 3, none⟩) hb v3).setOther (a := ⟨b', 4, none⟩) hb v4).setOther (a := ⟨b', 5, none⟩) hb v5).setOther (a := ⟨b', 6, none⟩) hb v6
theorem itQ_num (w : World) (sb bk mb : Nat) (known : Tok → Bool) (ws : List ByteArray) (lo : Nat) (tb : ByteArray) (n : Int) (hn : numP tb.toList = some n) (h : RdInv w sb bk mb known ws lo) (ho : okW tb) :
  Calls Tryz.prog 185 #[pt sb, .string tb, .int .i64 1] w fun x w' => Kp w w' (fun b => b = sb) ∧ QIt w sb bk mb known lo x w' (.ok ([⟨110, n, [], [], [], []⟩], [], texts ws)) := by
 have HV : Hid (∀ w, Calls Tryz.prog 63 #[.string tb] w fun e w' => e = .returned (.int .i64 n) ∧ Kp w w' (fun _ => False)) := fun w => valueM tb n w hn ho.2
 obtain ⟨rv, hB, hT⟩ := h.blk
 have hsb := hB.lt
 have hcs : sb ≠ w.heap.size := by omega
 have HN := hide hn
 clear hn
 go_enter Tryz.func185, Tryz.ntmps185
 go_wp2_with fail
 refine (HV.out _).mono ?_
 rintro e w1 ⟨rfl, hk1⟩
 have hZ := hk1.blk (Blk.new w zIt7 237) (by simp)
 have hkp : Kp w w1 (fun b => b = sb) := ((Kp.refl _ _).alloc _).trans (hk1.mono (fun _ _ h => h.elim))
 have hB1 := hk1.blk (hB.alloc _) (by simp)
 obtain ⟨y0, y1, y2, y3, y4, y5, y6⟩ := hZ.seven
 obtain ⟨z0, z1, z2, z3, z4, z5, z6⟩ := hZ.sevenF
 go_wp2
 have hC2 := hZ.set7 (.int .i64 0) (.int .i64 n) (.int .i64 0) (.string ⟨#[]⟩) (.slice none 0 0) (.slice none 0 0) (.slice none 0 0)
 have hK2 := hkp.set7 (Nat.le_refl _) (.int .i64 0) (.int .i64 n) (.int .i64 0) (.string ⟨#[]⟩) (.slice none 0 0) (.slice none 0 0) (.slice none 0 0)
 have hB2 := hB1.other7 hcs (.int .i64 0) (.int .i64 n) (.int .i64 0) (.string ⟨#[]⟩) (.slice none 0 0) (.slice none 0 0) (.slice none 0 0)
 generalize (((((((w1.setCell ⟨w.heap.size, 0, none⟩ (.int .i64 0)).setCell ⟨w.heap.size, 1, none⟩ (.int .i64 n)).setCell ⟨w.heap.size, 2, none⟩ (.int .i64 0)).setCell ⟨w.heap.size, 3, none⟩ (.string ⟨#[]⟩)).setCell ⟨w.heap.size, 4, none⟩ (.slice none 0 0)).setCell ⟨w.heap.size, 5, none⟩ (.slice none 0 0)).setCell ⟨w.heap.size, 6, none⟩ (.slice none 0 0)) = wf at hC2 hK2 hB2 ⊢
 obtain ⟨q0, q1, q2, q3, q4, q5, q6⟩ := hC2.seven
 refine bodyPost_ret (v := .tuple #[.agg #[.int .i64 0, .int .i64 n, .int .i64 0, .string ⟨#[]⟩, .slice none 0 0, .slice none 0 0, .slice none 0 0], .int .i64 0]) (by simp [results, Tryz.results185, go_sem, q0, q1, q2, q3, q4, q5, q6]) rfl ?_
 exact ⟨hK2, _, _, _, _, _, _, _, ws, rfl, rfl, itm_leaf 110 n n 0 _ [] (by simp) (fun _ => ⟨rfl, numP_range HN.out⟩) (by simp) (by simp), rfl, h.to hK2 rv hB2 hT h.len h.ok⟩
theorem itQ_plain (w : World) (sb bk mb : Nat) (known : Tok → Bool) (ws : List ByteArray) (lo : Nat) (tb : ByteArray) (j : Nat) (hj : j < 16) (K : Int) (hK : K = (j : Int) + 2) (hp : plainL.findIdx? (· == tb.data.toList) = some j) (h : RdInv w sb bk mb known ws lo) :
  Calls Tryz.prog 185 #[pt sb, .string tb, .int .i64 K] w fun x w' => Kp w w' (fun b => b = sb) ∧ QIt w sb bk mb known lo x w' (.ok ([⟨112, 0, tb.data.toList, [], [], []⟩], [], texts ws)) := by
 obtain ⟨rv, hB, hT⟩ := h.blk
 have hsb := hB.lt
 have hKa : 2 ≤ K := by omega
 have hKb : K ≤ 17 := by omega
 have HK := hide hK
 have HP := hide hp
 clear hK hp hj
 go_enter Tryz.func185, Tryz.ntmps185
 go_wp2_with fail
 refine (kindPlain _ _).mono ?_
 rintro e w' ⟨rfl, hw⟩
 rw [hw]; clear hw
 have hb : decide (2 ≤ K ∧ K ≤ 17) = true := decide_eq_true ⟨hKa, hKb⟩
 rw [hb]
 go_wp2
 have hK2 : Kp w (w.alloc (.cells #[.int .i64 1, .int .i64 0, .int .i64 K, .string ⟨#[]⟩, .slice none 0 0, .slice none 0 0, .slice none 0 0] 237)) (fun b => b = sb) := (Kp.refl _ _).alloc _
 have hB2 : Blk (w.alloc (.cells #[.int .i64 1, .int .i64 0, .int .i64 K, .string ⟨#[]⟩, .slice none 0 0, .slice none 0 0, .slice none 0 0] 237)) sb 186 (rdArr rv bk lo) := hB.alloc _
 refine bodyPost_ret (v := .tuple #[.agg #[.int .i64 1, .int .i64 0, .int .i64 K, .string ⟨#[]⟩, .slice none 0 0, .slice none 0 0, .slice none 0 0], .int .i64 0]) (by simp [results, Tryz.results185, go_sem]) rfl ?_
 exact ⟨hK2, _, _, _, _, _, _, _, ws, rfl, rfl, itm_leaf 112 0 0 K _ tb.data.toList (by simp) (by simp) (fun _ => ⟨j, HP.out, HK.out⟩) (by simp), rfl, h.to hK2 rv hB2 hT h.len h.ok⟩
theorem itQ_word (w : World) (sb bk mb : Nat) (known : Tok → Bool) (ws : List ByteArray) (lo : Nat) (tb : ByteArray) (h : RdInv w sb bk mb known ws lo) (ho : okW tb) (res : PRes) (hres : res = if known tb.data.toList = true then .ok ([⟨99, 0, tb.data.toList, [], [], []⟩], [], texts ws) else .error 3) :
  Calls Tryz.prog 185 #[pt sb, .string tb, .int .i64 0] w fun x w' => Kp w w' (fun b => b = sb) ∧ QIt w sb bk mb known lo x w' res := by
 obtain ⟨rv, hB, hT⟩ := h.blk
 have hsb := hB.lt
 have hB1 : Blk (w.alloc (.cells #[.int .i64 0, .int .i64 0, .int .i64 0, .string ⟨#[]⟩, .slice none 0 0, .slice none 0 0, .slice none 0 0] 237)) sb 186 (rdArr rv bk lo) := hB.alloc _
 have c1 : (w.alloc (.cells #[.int .i64 0, .int .i64 0, .int .i64 0, .string ⟨#[]⟩, .slice none 0 0, .slice none 0 0, .slice none 0 0] 237)).cell? ⟨sb, 1, none⟩ = some (.func (.func 67) #[pt bk] #[]) := hB1.cell rfl
 have HH := hide (hasM _ bk mb known (h.book.kp ((Kp.refl _ (fun _ => False)).alloc (.cells #[.int .i64 0, .int .i64 0, .int .i64 0, .string ⟨#[]⟩, .slice none 0 0, .slice none 0 0, .slice none 0 0] 237)) (by simp) (by simp)) tb (Nat.le_trans ho.2 (by decide)))
 have hen := ent_has
 unfold Ents at hen
 go_enter Tryz.func185, Tryz.ntmps185
 go_wp2_with fail
 refine (kindPlain _ _).mono ?_
 rintro e w' ⟨rfl, hw⟩
 rw [hw]; clear hw
 rw [show decide ((2 : Int) ≤ 0 ∧ (0 : Int) ≤ 17) = false by decide]
 go_wp2_with fail
 refine HH.out.mono ?_
 rintro e w' ⟨rfl, hw⟩
 rw [hw]; clear hw
 cases hkn : known tb.data.toList
 ·rw [hkn] at hres
  have HR : Hid (res = .error 3) := hres
  clear hres
  go_wp2
  have hK2 : Kp w (w.alloc (.cells #[.int .i64 0, .int .i64 0, .int .i64 0, .string ⟨#[]⟩, .slice none 0 0, .slice none 0 0, .slice none 0 0] 237)) (fun b => b = sb) := (Kp.refl _ _).alloc _
  have hB2 : Blk (w.alloc (.cells #[.int .i64 0, .int .i64 0, .int .i64 0, .string ⟨#[]⟩, .slice none 0 0, .slice none 0 0, .slice none 0 0] 237)) sb 186 (rdArr rv bk lo) := hB.alloc _
  refine bodyPost_ret (v := .tuple #[.agg #[.int .i64 0, .int .i64 0, .int .i64 0, .string ⟨#[]⟩, .slice none 0 0, .slice none 0 0, .slice none 0 0], .int .i64 3]) (by simp [results, Tryz.results185, go_sem]) rfl ?_
  rw [HR.out]
  exact ⟨hK2, by decide, _, _, _, _, _, _, _, _, _, _, _, _, _, _, rfl, hB2⟩
 ·rw [hkn] at hres
  have HR : Hid (res = .ok ([⟨99, 0, tb.data.toList, [], [], []⟩], [], texts ws)) := hres
  clear hres
  go_wp2
  have hK2 : Kp w (w.alloc (.cells #[.int .i64 2, .int .i64 0, .int .i64 0, .string tb, .slice none 0 0, .slice none 0 0, .slice none 0 0] 237)) (fun b => b = sb) := (Kp.refl _ _).alloc _
  have hB2 : Blk (w.alloc (.cells #[.int .i64 2, .int .i64 0, .int .i64 0, .string tb, .slice none 0 0, .slice none 0 0, .slice none 0 0] 237)) sb 186 (rdArr rv bk lo) := hB.alloc _
  refine bodyPost_ret (v := .tuple #[.agg #[.int .i64 2, .int .i64 0, .int .i64 0, .string tb, .slice none 0 0, .slice none 0 0, .slice none 0 0], .int .i64 0]) (by simp [results, Tryz.results185, go_sem]) rfl ?_
  rw [HR.out]
  exact ⟨hK2, _, _, _, _, _, _, _, ws, rfl, rfl, itm_leaf 99 0 0 0 tb tb.data.toList (by simp) (by simp) (by simp) (fun _ => ⟨rfl, ho.2⟩), rfl, h.to hK2 rv hB2 hT h.len h.ok⟩
end
section
open Go.RowKit
theorem bdQ_rec (w : World) (sb bk mb : Nat) (known : Tok → Bool) (ws : List ByteArray) (lo : Nat) (h : RdInv w sb bk mb known ws lo) :
  Calls Tryz.prog 203 #[pt sb, .int .i64 32] w fun x w' => Kp w w' (fun b => b = sb) ∧ QIt w sb bk mb known lo x w' (.ok ([⟨114, 0, [], [], [], []⟩], [], texts ws)) := by
 obtain ⟨rv, hB, hT⟩ := h.blk
 have hsb := hB.lt
 go_enter Tryz.func203, Tryz.ntmps203
 go_wp2
 have hK2 : Kp w (w.alloc (.cells #[.int .i64 8, .int .i64 0, .int .i64 0, .string ⟨#[]⟩, .slice none 0 0, .slice none 0 0, .slice none 0 0] 237)) (fun b => b = sb) := (Kp.refl _ _).alloc _
 have hB2 : Blk (w.alloc (.cells #[.int .i64 8, .int .i64 0, .int .i64 0, .string ⟨#[]⟩, .slice none 0 0, .slice none 0 0, .slice none 0 0] 237)) sb 186 (rdArr rv bk lo) := hB.alloc _
 refine bodyPost_ret (v := .tuple #[.agg #[.int .i64 8, .int .i64 0, .int .i64 0, .string ⟨#[]⟩, .slice none 0 0, .slice none 0 0, .slice none 0 0], .int .i64 0]) (by simp [results, Tryz.results203, go_sem]) rfl ?_
 exact ⟨hK2, _, _, _, _, _, _, _, ws, rfl, rfl, itm_leaf 114 0 0 0 _ [] (by simp) (by simp) (by simp) (by simp), rfl, h.to hK2 rv hB2 hT h.len h.ok⟩
theorem bdQ_exit (w : World) (sb bk mb : Nat) (known : Tok → Bool) (ws : List ByteArray) (lo : Nat) (h : RdInv w sb bk mb known ws lo) :
  Calls Tryz.prog 203 #[pt sb, .int .i64 33] w fun x w' => Kp w w' (fun b => b = sb) ∧ QIt w sb bk mb known lo x w' (.ok ([⟨120, 0, [], [], [], []⟩], [], texts ws)) := by
 obtain ⟨rv, hB, hT⟩ := h.blk
 have hsb := hB.lt
 go_enter Tryz.func203, Tryz.ntmps203
 go_wp2
 have hK2 : Kp w (w.alloc (.cells #[.int .i64 9, .int .i64 0, .int .i64 0, .string ⟨#[]⟩, .slice none 0 0, .slice none 0 0, .slice none 0 0] 237)) (fun b => b = sb) := (Kp.refl _ _).alloc _
 have hB2 : Blk (w.alloc (.cells #[.int .i64 9, .int .i64 0, .int .i64 0, .string ⟨#[]⟩, .slice none 0 0, .slice none 0 0, .slice none 0 0] 237)) sb 186 (rdArr rv bk lo) := hB.alloc _
 refine bodyPost_ret (v := .tuple #[.agg #[.int .i64 9, .int .i64 0, .int .i64 0, .string ⟨#[]⟩, .slice none 0 0, .slice none 0 0, .slice none 0 0], .int .i64 0]) (by simp [results, Tryz.results203, go_sem]) rfl ?_
 exact ⟨hK2, _, _, _, _, _, _, _, ws, rfl, rfl, itm_leaf 120 0 0 0 _ [] (by simp) (by simp) (by simp) (by simp), rfl, h.to hK2 rv hB2 hT h.len h.ok⟩
theorem bdQ_i (w : World) (sb bk mb : Nat) (known : Tok → Bool) (ws : List ByteArray) (lo : Nat) (h : RdInv w sb bk mb known ws lo) (hlo : 0 < lo) :
  Calls Tryz.prog 203 #[pt sb, .int .i64 31] w fun x w' => Kp w w' (fun b => b = sb) ∧ QIt w sb bk mb known lo x w' (.ok ([⟨105, 0, [], [], [], []⟩], [], texts ws)) := by
 obtain ⟨rv, hB, hT⟩ := h.blk
 have hsb := hB.lt
 have c2 : w.cell? ⟨sb, 2, none⟩ = some (.int .i64 lo) := hB.cell rfl
 go_enter Tryz.func203, Tryz.ntmps203
 go_wp2
 have hK2 : Kp w (w.alloc (.cells #[.int .i64 7, .int .i64 0, .int .i64 0, .string ⟨#[]⟩, .slice none 0 0, .slice none 0 0, .slice none 0 0] 237)) (fun b => b = sb) := (Kp.refl _ _).alloc _
 have hB2 : Blk (w.alloc (.cells #[.int .i64 7, .int .i64 0, .int .i64 0, .string ⟨#[]⟩, .slice none 0 0, .slice none 0 0, .slice none 0 0] 237)) sb 186 (rdArr rv bk lo) := hB.alloc _
 refine bodyPost_ret (v := .tuple #[.agg #[.int .i64 7, .int .i64 0, .int .i64 0, .string ⟨#[]⟩, .slice none 0 0, .slice none 0 0, .slice none 0 0], .int .i64 0]) (by simp [results, Tryz.results203, go_sem]) rfl ?_
 exact ⟨hK2, _, _, _, _, _, _, _, ws, rfl, rfl, itm_leaf 105 0 0 0 _ [] (by simp) (by simp) (by simp) (by simp), rfl, h.to hK2 rv hB2 hT h.len h.ok⟩
theorem bdQ_colon (w : World) (sb bk mb : Nat) (known : Tok → Bool) (ws : List ByteArray) (lo : Nat) (h : RdInv w sb bk mb known ws lo) :
  Calls Tryz.prog 203 #[pt sb, .int .i64 18] w fun x w' => Kp w w' (fun b => b = sb) ∧ QIt w sb bk mb known lo x w' (.error 4) := by
 obtain ⟨rv, hB, hT⟩ := h.blk
 have hsb := hB.lt
 go_enter Tryz.func203, Tryz.ntmps203
 go_wp2
 have hK2 : Kp w (w.alloc (.cells #[.int .i64 0, .int .i64 0, .int .i64 0, .string ⟨#[]⟩, .slice none 0 0, .slice none 0 0, .slice none 0 0] 237)) (fun b => b = sb) := (Kp.refl _ _).alloc _
 have hB2 : Blk (w.alloc (.cells #[.int .i64 0, .int .i64 0, .int .i64 0, .string ⟨#[]⟩, .slice none 0 0, .slice none 0 0, .slice none 0 0] 237)) sb 186 (rdArr rv bk lo) := hB.alloc _
 refine bodyPost_ret (v := .tuple #[.agg #[.int .i64 0, .int .i64 0, .int .i64 0, .string ⟨#[]⟩, .slice none 0 0, .slice none 0 0, .slice none 0 0], .int .i64 4]) (by simp [results, Tryz.results203, go_sem]) rfl ?_
 exact ⟨hK2, by decide, _, _, _, _, _, _, _, _, _, _, _, _, _, _, rfl, hB2⟩
theorem bdQ_close (w : World) (sb bk mb : Nat) (known : Tok → Bool) (ws : List ByteArray) (lo : Nat) (h : RdInv w sb bk mb known ws lo) :
  Calls Tryz.prog 203 #[pt sb, .int .i64 21] w fun x w' => Kp w w' (fun b => b = sb) ∧ QIt w sb bk mb known lo x w' (.error 4) := by
 obtain ⟨rv, hB, hT⟩ := h.blk
 have hsb := hB.lt
 go_enter Tryz.func203, Tryz.ntmps203
 go_wp2
 have hK2 : Kp w (w.alloc (.cells #[.int .i64 0, .int .i64 0, .int .i64 0, .string ⟨#[]⟩, .slice none 0 0, .slice none 0 0, .slice none 0 0] 237)) (fun b => b = sb) := (Kp.refl _ _).alloc _
 have hB2 : Blk (w.alloc (.cells #[.int .i64 0, .int .i64 0, .int .i64 0, .string ⟨#[]⟩, .slice none 0 0, .slice none 0 0, .slice none 0 0] 237)) sb 186 (rdArr rv bk lo) := hB.alloc _
 refine bodyPost_ret (v := .tuple #[.agg #[.int .i64 0, .int .i64 0, .int .i64 0, .string ⟨#[]⟩, .slice none 0 0, .slice none 0 0, .slice none 0 0], .int .i64 4]) (by simp [results, Tryz.results203, go_sem]) rfl ?_
 exact ⟨hK2, by decide, _, _, _, _, _, _, _, _, _, _, _, _, _, _, rfl, hB2⟩
theorem bdQ_i0 (w : World) (sb bk mb : Nat) (known : Tok → Bool) (ws : List ByteArray) (lo : Nat) (h : RdInv w sb bk mb known ws lo) (hlo : lo = 0) :
  Calls Tryz.prog 203 #[pt sb, .int .i64 31] w fun x w' => Kp w w' (fun b => b = sb) ∧ QIt w sb bk mb known lo x w' (.error 4) := by
 obtain ⟨rv, hB, hT⟩ := h.blk
 have hsb := hB.lt
 have c2 : w.cell? ⟨sb, 2, none⟩ = some (.int .i64 0) := by have : w.cell? ⟨sb, 2, none⟩ = some (.int .i64 lo) := hB.cell rfl; rw [hlo] at this; exact this
 go_enter Tryz.func203, Tryz.ntmps203
 go_wp2
 have hK2 : Kp w (w.alloc (.cells #[.int .i64 0, .int .i64 0, .int .i64 0, .string ⟨#[]⟩, .slice none 0 0, .slice none 0 0, .slice none 0 0] 237)) (fun b => b = sb) := (Kp.refl _ _).alloc _
 have hB2 : Blk (w.alloc (.cells #[.int .i64 0, .int .i64 0, .int .i64 0, .string ⟨#[]⟩, .slice none 0 0, .slice none 0 0, .slice none 0 0] 237)) sb 186 (rdArr rv bk lo) := hB.alloc _
 refine bodyPost_ret (v := .tuple #[.agg #[.int .i64 0, .int .i64 0, .int .i64 0, .string ⟨#[]⟩, .slice none 0 0, .slice none 0 0, .slice none 0 0], .int .i64 4]) (by simp [results, Tryz.results203, go_sem]) rfl ?_
 exact ⟨hK2, by decide, _, _, _, _, _, _, _, _, _, _, _, _, _, _, rfl, hB2⟩
theorem itQ_bound (w : World) (sb bk mb : Nat) (known : Tok → Bool) (ws : List ByteArray) (lo : Nat) (tb : ByteArray) (K : Int) (hK : 18 ≤ K) (res : PRes) (h : RdInv w sb bk mb known ws lo)
  (hc : ∀ w, RdInv w sb bk mb known ws lo → Calls Tryz.prog 203 #[pt sb, .int .i64 K] w fun x w' => Kp w w' (fun b => b = sb) ∧ QIt w sb bk mb known lo x w' res) :
  Calls Tryz.prog 185 #[pt sb, .string tb, .int .i64 K] w fun x w' => Kp w w' (fun b => b = sb) ∧ QIt w sb bk mb known lo x w' res := by
 obtain ⟨rv, hB, hT⟩ := h.blk
 have hsb := hB.lt
 have hcs : sb ≠ w.heap.size := by omega
 have hka := (Kp.refl w (fun _ => False)).alloc (.cells zIt7 237)
 have HC := hide (hc _ (h.kp hka))
 have hZ0 := Blk.new w zIt7 237
 clear hc hka
 go_enter Tryz.func185, Tryz.ntmps185
 go_wp2_with fail
 refine (kindPlain _ _).mono ?_
 rintro e w' ⟨rfl, hw⟩
 rw [hw]; clear hw
 have hb : decide (2 ≤ K ∧ K ≤ 17) = false := decide_eq_false (by omega)
 rw [hb]
 go_wp2_with fail
 refine HC.out.mono ?_
 rintro x w2 ⟨hk2, hq⟩
 have hZ := hk2.blk hZ0 hcs.symm
 have hkp : Kp w w2 (fun b => b = sb) := ((Kp.refl _ _).alloc _).trans hk2
 have hsz2 : w.heap.size + 1 ≤ w2.heap.size := by have := hk2.size; simpa using this
 obtain ⟨y0, y1, y2, y3, y4, y5, y6⟩ := hZ.seven
 obtain ⟨z0, z1, z2, z3, z4, z5, z6⟩ := hZ.sevenF
 rcases res with er | ⟨xs, tt, r⟩
 ·obtain ⟨her, k7, n7, pl7, nm, a1, m1, p1, a2, m2, p2, a3, m3, p3, rv2, rfl, hB1⟩ := hq
  clear hk2 hZ0
  go_wp2
  have hC2 := hZ.set7 (.int .i64 k7) (.int .i64 n7) (.int .i64 pl7) (.string nm) (.slice a1 m1 p1) (.slice a2 m2 p2) (.slice a3 m3 p3)
  have hK2 := hkp.set7 (Nat.le_refl _) (.int .i64 k7) (.int .i64 n7) (.int .i64 pl7) (.string nm) (.slice a1 m1 p1) (.slice a2 m2 p2) (.slice a3 m3 p3)
  have hB2 := hB1.other7 hcs (.int .i64 k7) (.int .i64 n7) (.int .i64 pl7) (.string nm) (.slice a1 m1 p1) (.slice a2 m2 p2) (.slice a3 m3 p3)
  generalize (((((((w2.setCell ⟨w.heap.size, 0, none⟩ (.int .i64 k7)).setCell ⟨w.heap.size, 1, none⟩ (.int .i64 n7)).setCell ⟨w.heap.size, 2, none⟩ (.int .i64 pl7)).setCell ⟨w.heap.size, 3, none⟩ (.string nm)).setCell ⟨w.heap.size, 4, none⟩ (.slice a1 m1 p1)).setCell ⟨w.heap.size, 5, none⟩ (.slice a2 m2 p2)).setCell ⟨w.heap.size, 6, none⟩ (.slice a3 m3 p3)) = wf at hC2 hK2 hB2 ⊢
  obtain ⟨q0, q1, q2, q3, q4, q5, q6⟩ := hC2.seven
  refine bodyPost_ret (v := .tuple #[.agg #[.int .i64 k7, .int .i64 n7, .int .i64 pl7, .string nm, .slice a1 m1 p1, .slice a2 m2 p2, .slice a3 m3 p3], .int .i64 er]) (by simp [results, Tryz.results185, go_sem, q0, q1, q2, q3, q4, q5, q6]) rfl ?_
  exact ⟨hK2, her, _, _, _, _, _, _, _, _, _, _, _, _, _, _, rfl, hB2⟩
 ·obtain ⟨x', n7, pl7, nm, tv, va, vb, ws2, rfl, rfl, hat, htx, hS2⟩ := hq
  obtain ⟨ws5, hr5, -⟩ := hat.toks
  obtain ⟨xs3, hr3, -⟩ := hat.a.out
  obtain ⟨xs4, hr4, -⟩ := hat.b.out
  obtain ⟨a3, p3, rfl⟩ := hr3.form
  obtain ⟨a4, p4, rfl⟩ := hr4.form
  obtain ⟨a5, p5, hv5⟩ := hr5.form
  rw [List.length_map] at hv5
  subst hv5
  obtain ⟨rv2, hB1, hT2⟩ := hS2.blk
  have HAt := hide hat
  have HS2 := hide hS2
  clear hk2 hZ0 hr3 hr4 hr5 hat hS2
  go_wp2
  have hk3 : Kp w2 (((((((w2.setCell ⟨w.heap.size, 0, none⟩ (.int .i64 (kindP x'.kind))).setCell ⟨w.heap.size, 1, none⟩ (.int .i64 n7)).setCell ⟨w.heap.size, 2, none⟩ (.int .i64 pl7)).setCell ⟨w.heap.size, 3, none⟩ (.string nm)).setCell ⟨w.heap.size, 4, none⟩ (.slice a5 ws5.length p5)).setCell ⟨w.heap.size, 5, none⟩ (.slice a3 x'.a.length p3)).setCell ⟨w.heap.size, 6, none⟩ (.slice a4 x'.b.length p4)) (fun b => b = w.heap.size) := ((((((((Kp.refl w2 (fun b => b = w.heap.size)).set (a := ⟨w.heap.size, 0, none⟩) (fun _ => rfl) _).set (a := ⟨w.heap.size, 1, none⟩) (fun _ => rfl) _).set (a := ⟨w.heap.size, 2, none⟩) (fun _ => rfl) _).set (a := ⟨w.heap.size, 3, none⟩) (fun _ => rfl) _).set (a := ⟨w.heap.size, 4, none⟩) (fun _ => rfl) _).set (a := ⟨w.heap.size, 5, none⟩) (fun _ => rfl) _).set (a := ⟨w.heap.size, 6, none⟩) (fun _ => rfl) _)
  have hC2 := hZ.set7 (.int .i64 (kindP x'.kind)) (.int .i64 n7) (.int .i64 pl7) (.string nm) (.slice a5 ws5.length p5) (.slice a3 x'.a.length p3) (.slice a4 x'.b.length p4)
  have hK2 := hkp.set7 (Nat.le_refl _) (.int .i64 (kindP x'.kind)) (.int .i64 n7) (.int .i64 pl7) (.string nm) (.slice a5 ws5.length p5) (.slice a3 x'.a.length p3) (.slice a4 x'.b.length p4)
  have hB2 := hB1.other7 hcs (.int .i64 (kindP x'.kind)) (.int .i64 n7) (.int .i64 pl7) (.string nm) (.slice a5 ws5.length p5) (.slice a3 x'.a.length p3) (.slice a4 x'.b.length p4)
  generalize (((((((w2.setCell ⟨w.heap.size, 0, none⟩ (.int .i64 (kindP x'.kind))).setCell ⟨w.heap.size, 1, none⟩ (.int .i64 n7)).setCell ⟨w.heap.size, 2, none⟩ (.int .i64 pl7)).setCell ⟨w.heap.size, 3, none⟩ (.string nm)).setCell ⟨w.heap.size, 4, none⟩ (.slice a5 ws5.length p5)).setCell ⟨w.heap.size, 5, none⟩ (.slice a3 x'.a.length p3)).setCell ⟨w.heap.size, 6, none⟩ (.slice a4 x'.b.length p4)) = wf at hC2 hK2 hB2 hk3 ⊢
  obtain ⟨q0, q1, q2, q3, q4, q5, q6⟩ := hC2.seven
  refine bodyPost_ret (v := .tuple #[.agg #[.int .i64 (kindP x'.kind), .int .i64 n7, .int .i64 pl7, .string nm, .slice a5 ws5.length p5, .slice a3 x'.a.length p3, .slice a4 x'.b.length p4], .int .i64 0]) (by simp [results, Tryz.results185, go_sem, q0, q1, q2, q3, q4, q5, q6]) rfl ?_
  have hkc := BD_keep (D := New (w.alloc (.cells zIt7 237))) (D' := New w) hk3 (fun b _ hb => by
   have hb : w.heap.size + 1 ≤ b := by have : (w.alloc (.cells zIt7 237)).heap.size ≤ b := hb; simpa using this
   exact ⟨by show w.heap.size ≤ b; omega, by show ¬ b = w.heap.size; omega⟩)
  refine ⟨hK2, x', n7, pl7, nm, _, _, _, ws2, rfl, rfl, HAt.out.mono hkc (fun _ _ h => h.mono hkc), htx, ?_⟩
  have h2 := HS2.out
  obtain ⟨nn, DD, hm, hl⟩ := h2.book.look
  have hne : ∀ b t c, Blk w2 b t c → t ≠ 237 → ¬ b = w.heap.size := fun b t c hb ht e => by subst e; exact ht (hb.inj hZ).1
  have h1w := h.sp.lt
  exact ⟨⟨rv2, hB2, TokAt_mono (fun b c hc => ⟨hc.1, hk3.blk hc.2 (hne b 9 c hc.2 (by decide))⟩) hT2⟩, h2.book.kp hk3 (hne bk _ _ h2.book.blk (by decide)) (fun e => map_ne hm hZ e), h2.len, h2.ok, h2.sp.kp hk3 (by show ¬ (1 : Nat) = w.heap.size; omega), h2.s1⟩
end
section
open Go.RowKit
def convR (E : List Tok) : PRes → PRes
 | .error e => .error e
 | .ok (l, t, r) => if E.any (· == t) = true then .ok (l, t, r) else .error 4
theorem convR_cons (E : List Tok) (xs : List It) (res : PRes) : convR E (consR xs res) = consR xs (convR E res) := by
 rcases res with e | ⟨l, t, r⟩
 ·rfl
 ·show (if _ then _ else _) = consR xs (if _ then _ else _)
  split <;> rfl
theorem pOne_end (known : Tok → Bool) (lo : Nat) {t : Tok} (h : allEnds.any (· == t) = true) : pOne known lo t = .error 4 := by
 obtain ⟨x, hx, he⟩ := List.any_eq_true.1 h
 have he := beq_iff_eq.1 he
 subst he
 simp only [allEnds, List.mem_cons, List.mem_nil_iff, or_false] at hx
 rcases hx with rfl | rfl | rfl | rfl | rfl | rfl | rfl
 all_goals
  unfold pOne
  first
   | rw [show numP kSemi = none by decide]
   | rw [show numP kElse = none by decide]
   | rw [show numP kThen = none by decide]
   | rw [show numP kUntil = none by decide]
   | rw [show numP kWhile = none by decide]
   | rw [show numP kRepeat = none by decide]
   | rw [show numP kLoop = none by decide]
  dsimp only
  rw [if_neg (by decide), if_neg (fun e => absurd e.1 (by decide)), if_neg (by decide), if_neg (by decide), if_pos (by decide)]
theorem not_long_end {t : Tok} (h : allEnds.any (· == t) = true) : ¬ longT t := by
 rintro (rfl | rfl | rfl | rfl) <;> revert h <;> decide
theorem pB_run {known : Tok → Bool} {g lo : Nat} {ends : List Tok} {t : Tok} {r : List Tok} (h : ends.any (· == t) = false) {xs : List It} {t1 : Tok} {r2 : List Tok} {res : PRes} (h1 : pRead known g ⟨true, lo, [], t⟩ r = some (.ok (xs, t1, r2))) (h2 : pRead known g ⟨false, lo, ends, []⟩ r2 = some res) :
  pRead known (g + 1) ⟨false, lo, ends, []⟩ (t :: r) = some (consR xs res) := by
 rw [pRead.eq_def]
 simp only [h, Bool.false_eq_true, if_false, if_true, h1, h2]
 rcases res with e | ⟨l, t', r'⟩ <;> rfl
theorem pB_err {known : Tok → Bool} {g lo : Nat} {ends : List Tok} {t : Tok} {r : List Tok} (h : ends.any (· == t) = false) {e : Int} (h1 : pRead known g ⟨true, lo, [], t⟩ r = some (.error e)) :
  pRead known (g + 1) ⟨false, lo, ends, []⟩ (t :: r) = some (.error e) := by
 rw [pRead.eq_def]
 simp only [h, Bool.false_eq_true, if_false, if_true, h1]
theorem pEnds (known : Tok → Bool) (E : List Tok) (hE : ∀ t, E.any (· == t) = true → allEnds.any (· == t) = true) (lo : Nat) : ∀ (g : Nat) (r : List Tok) (res : PRes), pRead known g ⟨false, lo, E, []⟩ r = some res → ∃ res', pRead known g ⟨false, lo, allEnds, []⟩ r = some res' ∧ res = convR E res'
 | 0, _, _, h => by rw [pB0] at h; cases h
 | g + 1, [], res, h => by
  rw [pB_nil] at h; injection h with h
  exact ⟨.error 4, pB_nil _ _ _ _, h.symm⟩
 | g + 1, t :: r, res, h => by
  cases h1 : E.any (· == t)
  ·rcases pB_go _ _ _ _ _ _ h1 _ h with ⟨e, hi, hr⟩ | ⟨xs, t1, r2, res2, hi, h2, hr⟩
   ·cases h2 : allEnds.any (· == t)
    ·exact ⟨.error e, pB_err h2 hi, hr⟩
    ·refine ⟨.ok ([], t, r), pB_stop _ _ _ _ _ _ h2, ?_⟩
     cases g with
     | zero => cases hi
     | succ g =>
      rw [pI_one _ _ _ _ _ (not_long_end h2), pOne_end _ _ h2] at hi
      injection hi with hi; injection hi with hi
      rw [hr, ← hi]; show _ = (if _ then _ else _); rw [if_neg (by rw [h1]; decide)]
   ·cases h3 : allEnds.any (· == t)
    ·obtain ⟨res', h4, h5⟩ := pEnds known E hE lo g r2 res2 h2
     exact ⟨consR xs res', pB_run h3 hi h4, by rw [hr, h5, convR_cons]⟩
    ·exfalso
     cases g with
     | zero => cases hi
     | succ g =>
      rw [pI_one _ _ _ _ _ (not_long_end h3), pOne_end _ _ h3] at hi
      cases hi
  ·rw [pB_stop _ _ _ _ _ _ h1] at h
   injection h with h
   refine ⟨.ok ([], t, r), pB_stop _ _ _ _ _ _ (hE t h1), ?_⟩
   rw [← h]; show _ = (if _ then _ else _); rw [if_pos h1]
theorem sub_ends {E : List Tok} (h : ∀ x ∈ E, x ∈ allEnds) : ∀ t, E.any (· == t) = true → allEnds.any (· == t) = true := by
 intro t ht
 obtain ⟨x, hx, he⟩ := List.any_eq_true.1 ht
 exact List.any_eq_true.2 ⟨x, h x hx, he⟩
theorem ok_ends {known : Tok → Bool} : ∀ (g lo : Nat) (r : List Tok) (l : List It) (t : Tok) (r' : List Tok), pRead known g ⟨false, lo, allEnds, []⟩ r = some (.ok (l, t, r')) → allEnds.any (· == t) = true
 | 0, _, _, _, _, _, h => by rw [pB0] at h; cases h
 | g + 1, lo, [], _, _, _, h => by rw [pB_nil] at h; cases h
 | g + 1, lo, t0 :: r, l, t, r', h => by
  cases h1 : allEnds.any (· == t0)
  ·rcases pB_go _ _ _ _ _ _ h1 _ h with ⟨e, hi, hr⟩ | ⟨xs, t1, r2, res2, hi, h2, hr⟩
   ·cases hr
   ·rcases res2 with e | ⟨l2, t2, r3⟩
    ·cases hr
    ·have hr : Except.ok (l, t, r') = Except.ok (xs ++ l2, t2, r3) := hr
     injection hr with hr; injection hr with _ hr; injection hr with hr _
     subst hr
     exact ok_ends g lo r2 l2 t r3 h2
  ·rw [pB_stop _ _ _ _ _ _ h1] at h
   injection h with h; injection h with h; injection h with _ h; injection h with h _
   subst h; exact h1
end
section
open Go.RowKit
theorem end_kind0 {t : Tok} (h : allEnds.any (· == t) = true) : kindN t ≠ 0 := by
 obtain ⟨x, hx, he⟩ := List.any_eq_true.1 h
 have he := beq_iff_eq.1 he
 subst he
 simp only [allEnds, List.mem_cons, List.mem_nil_iff, or_false] at hx
 rcases hx with rfl | rfl | rfl | rfl | rfl | rfl | rfl <;> decide
theorem kind_same {t k : Tok} (h : allEnds.any (· == t) = true) (hk : kindN t = kindN k) : t = k := by
 have h1 := kindN_at rfl (end_kind0 h)
 have h2 := kindN_at (l := k) rfl (by rw [← hk]; exact end_kind0 h)
 rw [hk, h2] at h1
 exact (Option.some.inj h1).symm
theorem convR_in {E : List Tok} {l : List It} {t : Tok} {r : List Tok} (h : E.any (· == t) = true) : convR E (.ok (l, t, r)) = .ok (l, t, r) := if_pos h
theorem convR_out {E : List Tok} {l : List It} {t : Tok} {r : List Tok} (h : E.any (· == t) = false) : convR E (.ok (l, t, r)) = .error 4 := if_neg (by rw [h]; decide)
def QUp (w : World) (sb bk mb : Nat) (known : Tok → Bool) (lo : Nat) (x : Ending) (w' : World) : PRes → Prop
 | .ok (l, _, r) => ∃ v ws', x = .returned (.tuple #[v, .int .i64 0]) ∧ Items (BD (New w) w') v l ∧ texts ws' = r ∧ RdInv w' sb bk mb known ws' lo
 | .error e => e ≠ 0 ∧ ∃ a m p rv, x = .returned (.tuple #[.slice a m p, .int .i64 e]) ∧ Blk w' sb 186 (rdArr rv bk lo)
theorem upToQ (g : Nat) (hB : QBody g) (w : World) (sb bk mb : Nat) (known : Tok → Bool) (ws : List ByteArray) (lo : Nat) (k0 : Tok) (W : Int) (hW : W = (kindN k0 : Int)) (hk0 : k0 ∈ allEnds) (res : PRes) (hres : pRead known g ⟨false, lo, [k0], []⟩ (texts ws) = some res) (h : RdInv w sb bk mb known ws lo) :
  Calls Tryz.prog 137 #[pt sb, .int .i64 W] w fun x w' => Kp w w' (fun b => b = sb) ∧ QUp w sb bk mb known lo x w' res := by
 obtain ⟨res', hr', rfl⟩ := pEnds known [k0] (sub_ends (by simpa using hk0)) lo g _ _ hres
 have HB := hide (hB w sb bk mb known ws lo res' hr' h)
 have HW := hide hW
 clear hB hres hW
 go_enter Tryz.func137, Tryz.ntmps137
 go_wp2_with fail
 refine HB.out.mono ?_
 rintro x w1 ⟨hk1, hq⟩
 rcases res' with er | ⟨l, t, r⟩
 ·obtain ⟨her, rv, rfl, hB1⟩ := hq
  have he0 : (er == 0) = false := by simpa using her
  go_wp2
  go_ret2
  exact ⟨hk1, her, none, 0, 0, rv, rfl, hB1⟩
 ·obtain ⟨v, ws', rfl, hI, htx, hS⟩ := hq
  have hte := ok_ends _ _ _ _ _ _ hr'
  obtain ⟨xs, hrow, -⟩ := hI.out
  obtain ⟨a, p, rfl⟩ := hrow.form
  obtain ⟨rv, hB1, -⟩ := hS.blk
  obtain ⟨T, hT⟩ : ∃ T : Int, T = (kindN t : Int) := ⟨_, rfl⟩
  rw [← hT]
  have HT := hide hT
  have HI := hide hI
  have HS := hide hS
  clear hT hI hS hrow hr' HB
  by_cases htk : t = k0
  ·have hTW : (T == W) = true := by rw [HT.out, HW.out, htk]; simp
   go_wp2
   go_ret2
   refine ⟨hk1, ?_⟩
   rw [convR_in (by simp [htk])]
   exact ⟨_, ws', rfl, HI.out, htx, HS.out⟩
  ·have hTW : (T == W) = false := by
    rw [beq_eq_false_iff_ne, HT.out, HW.out]
    exact fun e => htk (kind_same hte (by omega))
   go_wp2
   go_ret2
   refine ⟨hk1, ?_⟩
   rw [convR_out (by simpa using fun e => htk e.symm)]
   exact ⟨by decide, a, l.length, p, rv, rfl, hB1⟩
end
end Go.Proofs.YtldifaahmpecfaaGreatDoor
