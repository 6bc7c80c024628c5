import Derived.Test.YtimfpnoeifhjeaaGreatDoorL1
namespace Go.Proofs.YtimfpnoeifhjeaaGreatDoor
open Go.RowKit

def line0 : ByteArray := ⟨#[49, 32, 50, 32, 43, 32, 46, 32, 45, 55, 32, 50, 32, 47, 32, 46, 32, 45, 55, 32, 50, 32, 109, 111, 100, 32, 46]⟩
def want0 : ByteArray := ⟨#[51, 32, 45, 52, 32, 49, 32]⟩
def toks0 : List (List UInt8) := [[49], [50], [43], [46], [45, 55], [50], [47], [46], [45, 55], [50], [109, 111, 100], [46]]
theorem fields0 : Lib.fields line0.data.toList = toks0 := by decide +kernel
theorem valid0 : validB line0.data.toList = true := by decide +kernel
theorem no0 : (58 : UInt8) ∉ line0.data.toList := by decide +kernel
theorem itoa3 : Lib.itoa 3 = [51] := by simp [Lib.itoa, Lib.decDigits]
theorem itoa4 : Lib.itoa (-4) = [45, 52] := by simp [Lib.itoa, Lib.decDigits]
theorem itoa1 : Lib.itoa 1 = [49] := by simp [Lib.itoa, Lib.decDigits]
theorem dot3 : dot 3 = ⟨#[51, 32]⟩ := by unfold dot; rw [itoa3]; rfl
theorem dot4 : dot (-4) = ⟨#[45, 52, 32]⟩ := by unfold dot; rw [itoa4]; rfl
theorem dot1 : dot 1 = ⟨#[49, 32]⟩ := by unfold dot; rw [itoa1]; rfl
theorem pdot (mem : Nat → Int) (out : ByteArray) (a : Int) (r : List Int) (t : ByteArray) (h : dot a = t) (hl : out.size + t.size ≤ 300) : runTok [46] (a :: r) mem out = ⟨0, r, mem, out ++ t⟩ := by
  have : runTok [46] (a :: r) mem out = prtP mem out r (dot a) := rfl
  rw [this, h]; exact if_neg (by omega)
theorem ptoks (t : List UInt8) (ts : List (List UInt8)) (rs rs' : List Int) (mem : Nat → Int) (out out' : ByteArray) (h : runTok t rs mem out = ⟨0, rs', mem, out'⟩) : runToks (t :: ts) rs mem out = runToks ts rs' mem out' := by
  rw [runToks, h]; rfl
theorem w_add : wrap64 (1 + 2) = 3 := by decide +kernel
theorem w_quo : fdiv (-7) 2 = -4 := by decide +kernel
theorem w_mod : wrap64 (-7 - wrap64 (2 * fdiv (-7) 2)) = 1 := by decide +kernel
theorem t_add (mem : Nat → Int) (out : ByteArray) : runTok [43] [2, 1] mem out = ⟨0, [3], mem, out⟩ := by
  show (⟨0, [wrap64 (1 + 2)], mem, out⟩ : Res) = _; rw [w_add]
theorem t_quo (mem : Nat → Int) (out : ByteArray) : runTok [47] [2, -7] mem out = ⟨0, [-4], mem, out⟩ := by
  show (⟨0, [fdiv (-7) 2], mem, out⟩ : Res) = _; rw [w_quo]
theorem t_mod (mem : Nat → Int) (out : ByteArray) : runTok [109, 111, 100] [2, -7] mem out = ⟨0, [1], mem, out⟩ := by
  show (⟨0, [wrap64 (-7 - wrap64 (2 * fdiv (-7) 2))], mem, out⟩ : Res) = _; rw [w_mod]
theorem run0 : runToks toks0 [] mem0 ⟨#[]⟩ = ⟨0, [], mem0, want0⟩ := by
  unfold toks0
  rw [ptoks _ _ _ [1] _ _ ⟨#[]⟩ rfl, ptoks _ _ _ [2, 1] _ _ ⟨#[]⟩ rfl, ptoks _ _ _ _ _ _ _ (t_add _ _), ptoks _ _ _ [] _ _ _ (pdot _ _ _ _ _ dot3 (by decide +kernel))]
  rw [ptoks _ _ _ [-7] _ _ _ rfl, ptoks _ _ _ [2, -7] _ _ _ rfl, ptoks _ _ _ _ _ _ _ (t_quo _ _), ptoks _ _ _ [] _ _ _ (pdot _ _ _ _ _ dot4 (by decide +kernel))]
  rw [ptoks _ _ _ [-7] _ _ _ rfl, ptoks _ _ _ [2, -7] _ _ _ rfl, ptoks _ _ _ _ _ _ _ (t_mod _ _), ptoks _ _ _ [] _ _ _ (pdot _ _ _ _ _ dot1 (by decide +kernel))]
  rw [runToks, ba_app, ba_app, ba_app]
  rfl

set_option maxRecDepth 1000000 in
set_option maxHeartbeats 1000000 in
theorem saysL (B : Nat) (W w : World) (xb : Nat) (hx : XSess w xb (.slice none 0 0) [] mem0) (hbx : B ≤ xb) (hbel : Below B W w) (hbs : B ≤ w.heap.size) (hG : Glo B W) (hP : Spl B W) :
    Calls Tryz.prog 7 #[.pointer (some ⟨xb, 0, none⟩), .string line0, .string want0] w fun e w' => e = .returned (.bool true) ∧ Kp w w' (fun k => k = xb) := by
  have HX := hide (lineM_ok B W w xb _ [] mem0 line0 hx ⟨hbel, hbx, fun k hk => by simp [own, Value.ownBlock] at hk, hbs⟩ hG hP valid0 no0 ⟨0, [], mem0, want0⟩ (by rw [fields0, run0]))
  go_enter Tryz.func7, Tryz.ntmps7
  go_wp2_with fail
  refine HX.out.mono ?_
  rintro e w1 ⟨rfl, xv', hx1, hto1⟩
  have HK : Hid (Kp w w1 (fun k => k = xb)) := hto1.kp.mono (by rintro k _ (h1 | h1); exact h1; simp [own, Value.ownBlock] at h1)
  clear hx1 hto1
  go_wp2
  go_ret
  exact ⟨rfl, HK.out⟩

theorem good0 : Good [] mem0 ⟨#[]⟩ := ⟨by simp, fun _ => by unfold mem0 In; decide, by simp, by decide⟩
theorem xsess0 (w : World) : XSess (w.alloc (.cells (marr (.slice none 0 0) mem0) 62)) w.heap.size (.slice none 0 0) [] mem0 := ⟨Blk.new w _ _, World.ownsRow_nil _ _ _ _, good0⟩

set_option maxRecDepth 1000000 in
set_option maxHeartbeats 1000000 in
theorem headsL (B : Nat) (W w : World) (hbel : Below B W w) (hbs : B ≤ w.heap.size) (hG : Glo B W) (hP : Spl B W) :
    Calls Tryz.prog 4 #[.int .i64 2] w fun e w' => e = .returned (.bool true) ∧ Kp w w' (fun _ => False) := by
  go_enter Tryz.func4, Tryz.ntmps4
  go_wp2_with fail
  refine (newM _).mono ?_
  rintro e w1 ⟨rfl, hw⟩
  have HS := hide (saysL B W w1 w.heap.size (by rw [hw]; exact xsess0 w) hbs (by rw [hw]; exact hbel.alloc hbs _) (by rw [hw]; simp; omega) hG hP)
  have HK : Hid (Kp w w1 (fun _ => False)) := by rw [hw]; exact (Kp.refl _ _).alloc _
  clear hw
  go_wp2_with fail
  refine HS.out.mono ?_
  rintro e w2 ⟨rfl, hk2⟩
  have HF : Hid (Kp w w2 (fun _ => False)) := by
    have h1 := HK.out
    exact ⟨hk2.os.trans h1.os, hk2.tape.trans h1.tape, hk2.output.trans h1.output, Nat.le_trans h1.size hk2.size, fun k hk _ => (hk2.block k (Nat.lt_of_lt_of_le hk h1.size) (by omega)).trans (h1.block k hk (by simp))⟩
  clear hk2
  go_wp2
  go_ret
  exact ⟨rfl, HF.out⟩
end Go.Proofs.YtimfpnoeifhjeaaGreatDoor
