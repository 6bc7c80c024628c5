import Derived.Test.YtimfpnoeifhjeaaGreatDoorR6
import Derived.Test.YtimfpnoeifhjeaaGreatDoorT0
namespace Go.Proofs.YtimfpnoeifhjeaaGreatDoor
open Go.RowKit

set_option maxHeartbeats 400000 in
theorem amongR (s : ByteArray) (g : Nat) (ws : List ByteArray) (w : World) (hb : Blk w g 9 (ws.map Value.string).toArray) (hl : ws.length ≤ 100) :
    Calls Tryz.prog 57 #[.string s, .slice (some ⟨g, 0, none⟩) ws.length ws.length] w fun e w' => e = .returned (.bool (ws.any fun t => t.toList == s.toList)) ∧ w' = w := by
  go_enter Tryz.func57, Tryz.ntmps57
  go_wp2
  go_loop [5] (fun i => ∃ k : Nat, k ≤ ws.length ∧ i = .int .i64 k ∧ (ws.take k).any (fun t => t.toList == s.toList) = false) (fun i => ws.length - (intOf i).toNat)
  case atStart => exact ⟨0, Nat.zero_le _, rfl, rfl⟩
  case round =>
    obtain ⟨k, hk, rfl, hno⟩ := hrel
    have HN : Hid ((ws.take k).any (fun t => t.toList == s.toList) = false) := hno
    clear hno
    by_cases hlt : k < ws.length
    · have c : w.cell? ⟨g, k, none⟩ = some (.string ws[k]) := hb.cell (by simp [hlt])
      go_wp2
      · have hx : (ws[k].toList == s.toList) = true := by assumption
        go_ret
        refine ⟨?_, rfl⟩
        have : (ws.any fun t => t.toList == s.toList) = true := List.any_eq_true.2 ⟨ws[k], List.getElem_mem hlt, hx⟩
        rw [this]; rfl
      · have hx : (ws[k].toList == s.toList) = false := by assumption
        go_round
        case rel =>
          refine ⟨k + 1, by omega, by go_num, ?_⟩
          rw [List.take_succ_eq_append_getElem hlt, List.any_append, HN.out]; simp [hx]
        case measure => simp [intOf]; omega
    · go_wp2
      go_ret
      refine ⟨?_, rfl⟩
      have := HN.out
      rw [List.take_of_length_le (by omega)] at this
      rw [this]; rfl

def plainWs : List ByteArray := [⟨#[43]⟩, ⟨#[45]⟩, ⟨#[42]⟩, ⟨#[47]⟩, ⟨#[109, 111, 100]⟩, ⟨#[61]⟩, ⟨#[60]⟩, ⟨#[100, 117, 112]⟩, ⟨#[100, 114, 111, 112]⟩, ⟨#[115, 119, 97, 112]⟩, ⟨#[111, 118, 101, 114]⟩, ⟨#[114, 111, 116]⟩, ⟨#[46]⟩, ⟨#[101, 109, 105, 116]⟩, ⟨#[64]⟩, ⟨#[33]⟩]
def keptWs : List ByteArray := [⟨#[105, 102]⟩, ⟨#[101, 108, 115, 101]⟩, ⟨#[116, 104, 101, 110]⟩, ⟨#[98, 101, 103, 105, 110]⟩, ⟨#[117, 110, 116, 105, 108]⟩, ⟨#[119, 104, 105, 108, 101]⟩, ⟨#[114, 101, 112, 101, 97, 116]⟩, ⟨#[100, 111]⟩, ⟨#[108, 111, 111, 112]⟩, ⟨#[105]⟩, ⟨#[114, 101, 99, 117, 114, 115, 101]⟩, ⟨#[101, 120, 105, 116]⟩]
theorem plainWs_any (l : List UInt8) : (plainWs.any fun t => t.toList == l) = plainL.any (· == l) := by simp [plainWs, plainL, ByteArray.toList_eq]
theorem keptWs_any (l : List UInt8) : (keptWs.any fun t => t.toList == l) = keptL.any (· == l) := by simp [keptWs, keptL, ByteArray.toList_eq]

set_option maxRecDepth 1000000 in
set_option maxHeartbeats 400000 in
theorem isPlainR (s : ByteArray) (w : World) :
    Calls Tryz.prog 40 #[.string s] w fun e w' => e = .returned (.bool (plainL.any (· == s.toList))) ∧ Kp w w' (fun _ => False) := by
  go_enter Tryz.func40, Tryz.ntmps40
  go_wp2_with fail
  refine (amongR s _ plainWs _ (Blk.new w _ _) (by decide)).mono ?_
  rintro e w' ⟨rfl, hw⟩
  rw [hw]; clear hw
  rw [plainWs_any]
  go_wp2
  go_ret
  exact ⟨rfl, (Kp.refl _ _).alloc _⟩

set_option maxRecDepth 1000000 in
set_option maxHeartbeats 400000 in
theorem isKeptR (s : ByteArray) (w : World) :
    Calls Tryz.prog 41 #[.string s] w fun e w' => e = .returned (.bool (keptL.any (· == s.toList))) ∧ Kp w w' (fun _ => False) := by
  go_enter Tryz.func41, Tryz.ntmps41
  go_wp2_with fail
  refine (amongR s _ keptWs _ (Blk.new w _ _) (by decide)).mono ?_
  rintro e w' ⟨rfl, hw⟩
  rw [hw]; clear hw
  rw [keptWs_any]
  go_wp2
  go_ret
  exact ⟨rfl, (Kp.refl _ _).alloc _⟩

end Go.Proofs.YtimfpnoeifhjeaaGreatDoor
