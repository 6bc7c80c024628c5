import Derived.Test.YtldifaahmpecfaaGreatDoorV17
namespace Go.Proofs.YtldifaahmpecfaaGreatDoor
set_option maxRecDepth 1000000
set_option maxHeartbeats 4000000
set_option linter.all false
section
open Go.RowKit
theorem RdInv.other {w w' : World} {sb bk mb : Nat} {known : Tok → Bool} {ws : List ByteArray} {lo b0 : Nat} (h : RdInv w sb bk mb known ws lo) (hk : Kp w w' (fun b => b = b0)) {c : Array Value} (hZ : Blk w b0 237 c) (h1 : 1 < b0) : RdInv w' sb bk mb known ws lo := by
 obtain ⟨rv, hB, hT⟩ := h.blk
 obtain ⟨nn, DD, hm, hl⟩ := h.book.look
 have hne : ∀ b t c, Blk w b t c → t ≠ 237 → ¬ b = b0 := fun b t c hb ht e => by subst e; exact ht (hb.inj hZ).1
 exact ⟨⟨rv, hk.blk hB (hne sb _ _ hB (by decide)), TokAt_mono (fun b c hc => ⟨hc.1, hk.blk hc.2 (hne b 9 c hc.2 (by decide))⟩) hT⟩, h.book.kp hk (hne bk _ _ h.book.blk (by decide)) (fun e => map_ne hm hZ e), h.len, h.ok, h.sp.kp hk (by show ¬ (1 : Nat) = b0; omega), h.s1⟩
theorem Kp.own7 {w : World} (b : Nat) (v0 v1 v2 v3 v4 v5 v6 : Value) :
  Kp w (((((((w.setCell ⟨b, 0, none⟩ v0).setCell ⟨b, 1, none⟩ v1).setCell ⟨b, 2, none⟩ v2).setCell ⟨b, 3, none⟩ v3).setCell ⟨b, 4, none⟩ v4).setCell ⟨b, 5, none⟩ v5).setCell ⟨b, 6, none⟩ v6) (fun k => k = b) :=
 (((((((Kp.refl w (fun k => k = b)).set (a := ⟨b, 0, none⟩) (fun _ => rfl) v0).set (a := ⟨b, 1, none⟩) (fun _ => rfl) v1).set (a := ⟨b, 2, none⟩) (fun _ => rfl) v2).set (a := ⟨b, 3, none⟩) (fun _ => rfl) v3).set (a := ⟨b, 4, none⟩) (fun _ => rfl) v4).set (a := ⟨b, 5, none⟩) (fun _ => rfl) v5).set (a := ⟨b, 6, none⟩) (fun _ => rfl) v6
theorem itm_long {M : Mem} {P : Value → List It → Prop} (k : Nat) (va vb : Value) (a b : List It) (hk : k = 63 ∨ k = 117 ∨ k = 119 ∨ k = 100) (ha : P va a) (hb : P vb b) : PItm M P ⟨k, 0, [], a, b, []⟩ 0 0 ⟨#[]⟩ (.slice none 0 0) va vb := by
 refine ⟨?_, fun h => ?_, fun h => ?_, fun h => ?_, ⟨[], .inl ⟨rfl, rfl⟩, fun h => ?_⟩, ha, hb⟩
 ·rcases hk with h | h | h | h <;> simp [h]
 ·have h : k = 110 := h
  exfalso; omega
 ·have h : k = 112 := h
  exfalso; omega
 ·have h : k = 99 := h
  exfalso; omega
 ·have h : k = 123 := h
  exfalso; omega
theorem doQ (g : Nat) (hQ : QBody g) (w : World) (sb bk mb : Nat) (known : Tok → Bool) (ws : List ByteArray) (lo : Nat) (hlw : ws.length + lo + 1 ≤ 1000) (res : PRes) (hres : pRead known (g + 1) ⟨true, lo, [], kDo⟩ (texts ws) = some res) (h : RdInv w sb bk mb known ws lo) :
  Calls Tryz.prog 222 #[pt sb] w fun x w' => Kp w w' (fun b => b = sb) ∧ QIt w sb bk mb known lo x w' res := by
 obtain ⟨rv, hB, hT⟩ := h.blk
 have hsb := hB.lt
 have hcs : sb ≠ w.heap.size := by omega
 have h1w := h.sp.lt
 have c2 : w.cell? ⟨sb, 2, none⟩ = some (.int .i64 lo) := hB.cell rfl
 have f2 := hB.free 2
 have hlo : (lo : Int) ≤ 1000 := by omega
 have hS0 : RdInv ((w.setCell ⟨sb, 2, none⟩ (.int .i64 ((lo : Int) + 1))).alloc (.cells #[.int .i64 0, .int .i64 0, .int .i64 0, .string ⟨#[]⟩, .slice none 0 0, .slice none 0 0, .slice none 0 0] 237)) sb bk mb known ws (lo + 1) :=
  (h.to (Kp.one _ _ _ _) rv (hB.set 2 _) hT (by omega) h.ok).kp ((Kp.refl _ (fun _ => False)).alloc _)
 have hZ1 : Blk ((w.setCell ⟨sb, 2, none⟩ (.int .i64 ((lo : Int) + 1))).alloc (.cells #[.int .i64 0, .int .i64 0, .int .i64 0, .string ⟨#[]⟩, .slice none 0 0, .slice none 0 0, .slice none 0 0] 237)) w.heap.size 237 #[.int .i64 0, .int .i64 0, .int .i64 0, .string ⟨#[]⟩, .slice none 0 0, .slice none 0 0, .slice none 0 0] := by
  have := Blk.new (w.setCell ⟨sb, 2, none⟩ (.int .i64 ((lo : Int) + 1))) #[.int .i64 0, .int .i64 0, .int .i64 0, .string ⟨#[]⟩, .slice none 0 0, .slice none 0 0, .slice none 0 0] 237; simpa using this
 have hk0 : Kp w ((w.setCell ⟨sb, 2, none⟩ (.int .i64 ((lo : Int) + 1))).alloc (.cells #[.int .i64 0, .int .i64 0, .int .i64 0, .string ⟨#[]⟩, .slice none 0 0, .slice none 0 0, .slice none 0 0] 237)) (fun b => b = sb) := (Kp.one w sb 2 _).alloc _
 have hsz0 : ((w.setCell ⟨sb, 2, none⟩ (.int .i64 ((lo : Int) + 1))).alloc (.cells #[.int .i64 0, .int .i64 0, .int .i64 0, .string ⟨#[]⟩, .slice none 0 0, .slice none 0 0, .slice none 0 0] 237)).heap.size = w.heap.size + 1 := by simp
 have hup : ∃ resB, pRead known g ⟨false, lo + 1, [kLoop], []⟩ (texts ws) = some resB ∧ ((∃ e, resB = .error e ∧ res = .error e) ∨ ∃ a t1 r1, resB = .ok (a, t1, r1) ∧ res = .ok ([⟨100, 0, [], a, [], []⟩], [], r1)) := by
  rcases pI_do hres with ⟨e, h1, h2⟩ | ⟨a, t1, r1, h1, h2⟩
  ·exact ⟨_, h1, .inl ⟨e, rfl, h2⟩⟩
  ·exact ⟨_, h1, .inr ⟨a, t1, r1, rfl, h2⟩⟩
 obtain ⟨resB, hrB, hcase⟩ := hup
 have HU := hide (upToQ g hQ _ sb bk mb known ws (lo + 1) kLoop 30 (by decide) (by decide) resB hrB hS0)
 have HC := hide hcase
 clear hQ hres hrB hS0 hcase hlw
 go_enter Tryz.func222, Tryz.ntmps222
 go_wp2_with fail
 refine HU.out.mono ?_
 rintro x w2 ⟨hk2, hq⟩
 have hZ2 := hk2.blk hZ1 hcs.symm
 have hkp2 := hk0.trans hk2
 have hsz2 := hk2.size
 rw [hsz0] at hsz2
 have hcase := HC.out
 rcases resB with er | ⟨l, t1, r1⟩
 ·obtain ⟨her, a5, m5, p5, rv2, rfl, hB2'⟩ := hq
  have hre : res = .error er := by
   rcases hcase with ⟨e, h1, h2⟩ | ⟨_, _, _, h1, _⟩
   ·injection h1 with h1; rw [h2, h1]
   ·cases h1
  have HR := hide hre
  have d2 : w2.cell? ⟨sb, 2, none⟩ = some (.int .i64 ((lo : Int) + 1)) := by have := hB2'.cell (o := 2) (v := .int .i64 ((lo + 1 : Nat) : Int)) rfl; simpa using this
  have g2 := hB2'.free 2
  have hB1 : Blk (w2.setCell ⟨sb, 2, none⟩ (.int .i64 lo)) sb 186 (rdArr rv2 bk lo) := hB2'.set 2 _
  have hZ := hZ2.setOther (a := ⟨sb, 2, none⟩) hcs.symm (.int .i64 lo)
  have hkp := hkp2.trans (Kp.one w2 sb 2 (.int .i64 lo))
  obtain ⟨y0, y1, y2, y3, y4, y5, y6⟩ := hZ2.seven
  obtain ⟨z0, z1, z2, z3, z4, z5, z6⟩ := hZ2.sevenF
  clear hcase hre HC HU hB2' hk0 hk2 hZ1 hkp2
  go_wp2
  have hC2 := hZ.set7 (.int .i64 6) (.int .i64 0) (.int .i64 0) (.string ⟨#[]⟩) (.slice none 0 0) (.slice a5 m5 p5) (.slice none 0 0)
  have hK2 := hkp.set7 (Nat.le_refl _) (.int .i64 6) (.int .i64 0) (.int .i64 0) (.string ⟨#[]⟩) (.slice none 0 0) (.slice a5 m5 p5) (.slice none 0 0)
  have hk3 := Kp.own7 (w := (w2.setCell ⟨sb, 2, none⟩ (.int .i64 lo))) w.heap.size (.int .i64 6) (.int .i64 0) (.int .i64 0) (.string ⟨#[]⟩) (.slice none 0 0) (.slice a5 m5 p5) (.slice none 0 0)
  have hB2 := hB1.other7 hcs (.int .i64 6) (.int .i64 0) (.int .i64 0) (.string ⟨#[]⟩) (.slice none 0 0) (.slice a5 m5 p5) (.slice none 0 0)
  generalize ((((((((w2.setCell ⟨sb, 2, none⟩ (.int .i64 lo)).setCell ⟨w.heap.size, 0, none⟩ (.int .i64 6)).setCell ⟨w.heap.size, 1, none⟩ (.int .i64 0)).setCell ⟨w.heap.size, 2, none⟩ (.int .i64 0)).setCell ⟨w.heap.size, 3, none⟩ (.string ⟨#[]⟩)).setCell ⟨w.heap.size, 4, none⟩ (.slice none 0 0)).setCell ⟨w.heap.size, 5, none⟩ (.slice a5 m5 p5)).setCell ⟨w.heap.size, 6, none⟩ (.slice none 0 0)) = wf at hC2 hK2 hB2 hk3 ⊢
  obtain ⟨q0, q1, q2, q3, q4, q5, q6⟩ := hC2.seven
  refine bodyPost_ret (v := .tuple #[.agg #[.int .i64 6, .int .i64 0, .int .i64 0, .string ⟨#[]⟩, .slice none 0 0, .slice a5 m5 p5, .slice none 0 0], .int .i64 er]) (by simp [results, Tryz.results222, go_sem, q0, q1, q2, q3, q4, q5, q6]) rfl ?_
  rw [HR.out]
  exact ⟨hK2, her, _, _, _, _, _, _, _, _, _, _, _, _, _, _, rfl, hB2⟩
 ·obtain ⟨v, ws', rfl, hI, htx, hS2⟩ := hq
  have hre : res = .ok ([⟨100, 0, [], l, [], []⟩], [], r1) := by
   rcases hcase with ⟨e, h1, _⟩ | ⟨a, t2, r2, h1, h2⟩
   ·cases h1
   ·injection h1 with h1; injection h1 with h3 h1; injection h1 with _ h4
    rw [h2, h3, h4]
  have HR := hide hre
  obtain ⟨xs, hrow, -⟩ := hI.out
  obtain ⟨a5, p5, rfl⟩ := hrow.form
  obtain ⟨rv2, hB2', hT2⟩ := hS2.blk
  have d2 : w2.cell? ⟨sb, 2, none⟩ = some (.int .i64 ((lo : Int) + 1)) := by have := hB2'.cell (o := 2) (v := .int .i64 ((lo + 1 : Nat) : Int)) rfl; simpa using this
  have g2 := hB2'.free 2
  have hB1 : Blk (w2.setCell ⟨sb, 2, none⟩ (.int .i64 lo)) sb 186 (rdArr rv2 bk lo) := hB2'.set 2 _
  have hZ := hZ2.setOther (a := ⟨sb, 2, none⟩) hcs.symm (.int .i64 lo)
  have hone := Kp.one w2 sb 2 (.int .i64 lo)
  have hkp := hkp2.trans hone
  have hS3 : RdInv (w2.setCell ⟨sb, 2, none⟩ (.int .i64 lo)) sb bk mb known ws' lo := hS2.to hone rv2 hB1 hT2 (by have := hS2.len; omega) hS2.ok
  have hka := BD_keep (D := New ((w.setCell ⟨sb, 2, none⟩ (.int .i64 ((lo : Int) + 1))).alloc (.cells #[.int .i64 0, .int .i64 0, .int .i64 0, .string ⟨#[]⟩, .slice none 0 0, .slice none 0 0, .slice none 0 0] 237))) (D' := fun b => w.heap.size + 1 ≤ b) hone (fun b _ hb => by
   have hb : ((w.setCell ⟨sb, 2, none⟩ (.int .i64 ((lo : Int) + 1))).alloc (.cells #[.int .i64 0, .int .i64 0, .int .i64 0, .string ⟨#[]⟩, .slice none 0 0, .slice none 0 0, .slice none 0 0] 237)).heap.size ≤ b := hb
   rw [hsz0] at hb
   exact ⟨hb, by show ¬ b = sb; omega⟩)
  have hI2 := hI.mono hka
  have HI2 := hide hI2
  have HS3 := hide hS3
  obtain ⟨y0, y1, y2, y3, y4, y5, y6⟩ := hZ2.seven
  obtain ⟨z0, z1, z2, z3, z4, z5, z6⟩ := hZ2.sevenF
  clear hcase hre HC HU hB2' hk0 hk2 hZ1 hkp2 hone hka hI hI2 hS2 hS3 hT2 hrow
  go_wp2
  have hC2 := hZ.set7 (.int .i64 6) (.int .i64 0) (.int .i64 0) (.string ⟨#[]⟩) (.slice none 0 0) (.slice a5 l.length p5) (.slice none 0 0)
  have hK2 := hkp.set7 (Nat.le_refl _) (.int .i64 6) (.int .i64 0) (.int .i64 0) (.string ⟨#[]⟩) (.slice none 0 0) (.slice a5 l.length p5) (.slice none 0 0)
  have hk3 := Kp.own7 (w := (w2.setCell ⟨sb, 2, none⟩ (.int .i64 lo))) w.heap.size (.int .i64 6) (.int .i64 0) (.int .i64 0) (.string ⟨#[]⟩) (.slice none 0 0) (.slice a5 l.length p5) (.slice none 0 0)
  have hB2 := hB1.other7 hcs (.int .i64 6) (.int .i64 0) (.int .i64 0) (.string ⟨#[]⟩) (.slice none 0 0) (.slice a5 l.length p5) (.slice none 0 0)
  generalize ((((((((w2.setCell ⟨sb, 2, none⟩ (.int .i64 lo)).setCell ⟨w.heap.size, 0, none⟩ (.int .i64 6)).setCell ⟨w.heap.size, 1, none⟩ (.int .i64 0)).setCell ⟨w.heap.size, 2, none⟩ (.int .i64 0)).setCell ⟨w.heap.size, 3, none⟩ (.string ⟨#[]⟩)).setCell ⟨w.heap.size, 4, none⟩ (.slice none 0 0)).setCell ⟨w.heap.size, 5, none⟩ (.slice a5 l.length p5)).setCell ⟨w.heap.size, 6, none⟩ (.slice none 0 0)) = wf at hC2 hK2 hB2 hk3 ⊢
  obtain ⟨q0, q1, q2, q3, q4, q5, q6⟩ := hC2.seven
  refine bodyPost_ret (v := .tuple #[.agg #[.int .i64 6, .int .i64 0, .int .i64 0, .string ⟨#[]⟩, .slice none 0 0, .slice a5 l.length p5, .slice none 0 0], .int .i64 0]) (by simp [results, Tryz.results222, go_sem, q0, q1, q2, q3, q4, q5, q6]) rfl ?_
  rw [HR.out]
  have hkb := BD_keep (D := fun b => w.heap.size + 1 ≤ b) (D' := New w) hk3 (fun b _ hb => ⟨by show w.heap.size ≤ b; omega, by show ¬ b = w.heap.size; omega⟩)
  exact ⟨hK2, _, _, _, _, _, _, _, ws', rfl, rfl, itm_long 100 _ _ l [] (by simp) (HI2.out.mono hkb) (Items.nil _), htx, HS3.out.other hk3 hZ h1w⟩
end
end Go.Proofs.YtldifaahmpecfaaGreatDoor
