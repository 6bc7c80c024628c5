import Derived.Test.YtimfpnoeifhjeaaGreatDoorM1
import Derived.Test.YtimfpnoeifhjeaaGreatDoorA1
import Derived.Test.YtimfpnoeifhjeaaGreatDoorR5
import Derived.Test.YtimfpnoeifhjeaaGreatDoorShelf
namespace Go.Proofs.YtimfpnoeifhjeaaGreatDoor
open Go.RowKit

set_option maxHeartbeats 400000 in
theorem printM_full (w : World) (xb rb : Nat) (m : MS) (ns : List Int) (ao : Option Addr) (n cap : Nat) (h : MInv w xb rb m ns) (ho : m.out.size ≤ 300) (hn : n ≤ 1000) (hl : 300 < m.out.size + n) :
    Calls Tryz.prog 101 #[.pointer (some ⟨rb, 0, none⟩), .slice ao n cap] w fun e w' => e = .returned (.int .i64 11) ∧ w' = w := by
  obtain ⟨bo, c0, hv⟩ := form_of h.orow
  have k1 : w.cell? ⟨rb, 1, none⟩ = some m.ov := h.rblk.cell rfl
  rw [hv] at k1
  clear hv
  go_enter Tryz.func101, Tryz.ntmps101
  go_wp2
  go_ret
  exact ⟨rfl, rfl⟩

/-- What is printed behind an append. -/
theorem MInv.printed {w w1 : World} {xb rb : Nat} {m : MS} {ns : List Int} {t : ByteArray} {v' : Value} (h : MInv w xb rb m ns) (hown : w1.ownsRow 0 5 1 v' (m.out.size + t.size) (Lib.byteCells m.out.data.toList ++ Lib.byteCells t.data.toList)) (hg : w.grownBy w1 m.ov.ownBlock) (hnx : ∀ k, own v' k → own m.ov k ∨ w.heap.size ≤ k) :
    MInv (w1.setCell ⟨rb, 1, none⟩ v') xb rb { m with ov := v', out := m.out ++ t } ns ∧ MTo xb rb w (w1.setCell ⟨rb, 1, none⟩ v') m { m with ov := v', out := m.out ++ t } ∧ Blk w1 rb 92 (rarr xb m.ov m.st) := by
  have hx1 : Blk w1 xb 62 (marr m.sv m.mem) := h.xblk.same (hg.block xb h.xblk.lt (fun e => own_ne h.orow h.xblk (by decide) e.symm))
  have hr1 : Blk w1 rb 92 (rarr xb m.ov m.st) := h.rblk.same (hg.block rb h.rblk.lt (fun e => own_ne h.orow h.rblk (by decide) e.symm))
  have hs1 : w1.ownsRow 0 2 1 m.sv ns.length (ints ns) := h.srow.kept hg (by
    cases hv : m.sv.ownBlock with
    | none => exact .inl rfl
    | some k => right; intro e; exact own_disj2 h.srow h.orow (by decide) hv e.symm)
  refine ⟨⟨hx1.setOther h.ne _, hr1.set 1 _, ownsRow_setCell_other hs1 (own_ne hs1 hr1 (by decide)) _, ?_, h.len⟩, ⟨?_, ?_⟩, hr1⟩
  · have := ownsRow_setCell_other hown (a := ⟨rb, 1, none⟩) (own_ne hown hr1 (by decide)) v'
    have e1 : (m.out ++ t).size = m.out.size + t.size := ByteArray.size_append
    have e2 : (m.out ++ t).data.toList = m.out.data.toList ++ t.data.toList := by rw [ByteArray.data_append, Array.toList_append]
    show World.ownsRow _ 0 5 1 v' (m.out ++ t).size (Lib.byteCells (m.out ++ t).data.toList)
    rw [e1, e2]
    simpa [Lib.byteCells] using this
  · exact ((Kp.refl _ _).grown hg (fun k _ e => .inr (.inr e))).set (fun _ => .inl (.inr rfl)) _
  · rintro k (hk | hk)
    · exact .inl (.inl hk)
    · rcases hnx k hk with h1 | h1
      · exact .inl (.inr h1)
      · exact .inr h1

set_option maxRecDepth 1000000 in
set_option maxHeartbeats 400000 in
theorem printM_ok (w : World) (xb rb : Nat) (m : MS) (ns : List Int) (g cap : Nat) (t : ByteArray) (h : MInv w xb rb m ns) (hpos : 0 < t.size) (hl : m.out.size + t.size ≤ 300) (hnews : ∀ j u, (Lib.byteCells t.data.toList)[j]? = some u → w.cell? ((⟨g, 0, none⟩ : Addr).add j) = some u) :
    Calls Tryz.prog 101 #[.pointer (some ⟨rb, 0, none⟩), .slice (some ⟨g, 0, none⟩) t.size cap] w fun e w' => e = .returned (.int .i64 0) ∧ ∃ v', MInv w' xb rb { m with ov := v', out := m.out ++ t } ns ∧ MTo xb rb w w' m { m with ov := v', out := m.out ++ t } := by
  obtain ⟨bo, c0, hv⟩ := form_of h.orow
  have k1 : w.cell? ⟨rb, 1, none⟩ = some m.ov := h.rblk.cell rfl
  have hr := h.orow
  rw [hv] at k1 hr
  have HV : Hid (m.ov = .slice bo m.out.size c0) := hv
  clear hv
  have HN : Hid (∀ j u, (Lib.byteCells t.data.toList)[j]? = some u → w.cell? ((⟨g, 0, none⟩ : Addr).add j) = some u) := hnews
  clear hnews
  have h1c : Hid (∀ u ∈ Lib.byteCells t.data.toList, u.oneCell' = true) := by intro u hu; simp only [Lib.byteCells, List.mem_map] at hu; obtain ⟨a, _, rfl⟩ := hu; rfl
  have hlb : Hid ((Lib.byteCells t.data.toList).length = t.size * 1) := by unfold Hid; rw [Lib.byteCells_length, Nat.mul_one]; rfl
  obtain ⟨i0, hi, hz0, hz1, hz2⟩ := info_parts Tryz.info5
  go_enter Tryz.func101, Tryz.ntmps101
  go_wp2_with (first
    | (at_builtin; refine wpList_append_to _ rfl _ _ 89 rfl 5 i0 (.int .u8 0) 1 1 Tryz.underlying89 hi hz0 hz1 hz2 rfl (by decide) _ _ _ rfl hr ⟨g, 0, none⟩ _ _ (Lib.byteCells t.data.toList) rfl hlb.out HN.out h1c.out ?c3 ?c4 ?_)
    | go_in)
  case c3 => unfold maxLen; omega
  case c4 => omega
  intro v' w1 hown hgrow hnx
  obtain ⟨g', cap', rfl⟩ := Joins.ownsRow_form hown (by omega)
  have HG := h.printed hown (by rw [HV.out]; exact hgrow) (by rw [HV.out]; exact hnx)
  have q1 : w1.cell? ⟨rb, 1, none⟩ = some m.ov := HG.2.2.cell rfl
  have q2 := HG.2.2.free 1
  clear hown hgrow hnx
  go_wp2
  go_ret
  exact ⟨rfl, _, HG.1, HG.2.1⟩

set_option maxRecDepth 1000000 in
set_option maxHeartbeats 400000 in
/-- The digits and a blank, in new memory. -/
theorem digitsM (w : World) (a : Int) (h0 : -9223372036854775808 ≤ a) (h1 : a ≤ 9223372036854775807) (ht : Lib.TabIs Tryz.prog w "internal/strconv.uint64pow10" .u64 Lib.pow10Tab) :
    Calls Tryz.prog 83 #[.int .i64 a] w fun e w' => ∃ g cap, e = .returned (.slice (some ⟨g, 0, none⟩) (dot a).size cap) ∧ (∀ j u, (Lib.byteCells (dot a).data.toList)[j]? = some u → w'.cell? ((⟨g, 0, none⟩ : Addr).add j) = some u) ∧ Kp w w' (fun _ => False) := by
  have hC := Tryz.strconv_AppendInt_10 w.heap.size 0 a h0 h1 (.slice none 0 0) [] w (World.ownsRow_nil _ _ _ _) (Nat.le_refl _) (by omega) (Lib.tabBelow_of_tabIs ht)
  have hll := itoa_len a h0 h1
  have hds : (dot a).size = (Lib.itoa a).length + 1 := by show (dot a).data.size = _; simp [dot]
  have HD : Hid ((dot a).size = (Lib.itoa a).length + 1) := hds
  have HE : Hid ((dot a).data.toList = Lib.itoa a ++ [32]) := by unfold Hid; simp [dot]
  have HC : Hid (Calls Tryz.prog 102 #[.slice none 0 0, .int .i64 a, .int .i64 10] w fun e w' => ∃ v', e = .returned v' ∧ w'.ownsRow w.heap.size 5 1 v' (0 + (Lib.itoa a).length) ([] ++ Lib.byteCells (Lib.itoa a)) ∧ Below w.heap.size w w' ∧ Lib.OthersKept 5 none w w') := hC
  clear hC ht h0 h1 hds
  obtain ⟨i0, hi, hz0, hz1, hz2⟩ := info_parts Tryz.info5
  go_enter Tryz.func83, Tryz.ntmps83
  go_wp2_with fail
  refine HC.out.mono ?_
  rintro e w1 ⟨v1, rfl, hown, hb, _⟩
  simp only [Nat.zero_add, List.nil_append] at hown
  obtain ⟨ao, cap1, rfl⟩ := form_of hown
  have hsz := hb.size
  go_wp2_with (first
    | (at_builtin; refine wpList_append_own _ rfl _ _ 89 rfl w.heap.size 5 i0 (.int .u8 0) 1 1 Tryz.underlying89 hi hz0 hz1 hz2 rfl (by decide) _ _ _ rfl (hown.alloc _) ⟨w1.heap.size, 0, none⟩ 1 1 [.int .u8 32] rfl rfl ?c1 ?c2 ?c3 ?c4 ?c5 ?_)
    | go_in)
  case c1 => intro j u hj; match j, hj with | 0, hj => simp at hj; subst hj; simp [Addr.add]
  case c2 => intro u hu; simp at hu; subst hu; rfl
  case c3 => unfold maxLen; omega
  case c4 => omega
  case c5 => simp; omega
  intro v2 w2 hown2 hgrow _
  obtain ⟨g, cap, rfl⟩ := Joins.ownsRow_form hown2 (by omega)
  have hk : Kp w w2 (fun _ => False) := ((Kp.ofBelow hb).alloc _).grown hgrow (fun k hk e => by have := (hown.lt k e).1; omega)
  have hc := hown2.cells (g := g) rfl
  have HCC : Hid (∀ j u, (Lib.byteCells (Lib.itoa a) ++ [Value.int .u8 32])[j]? = some u → w2.cell? ((⟨g, 0, none⟩ : Addr).add j) = some u) := hc
  clear hown hown2 hgrow hc hb
  go_wp2
  go_ret
  refine ⟨g, cap, by rw [HD.out]; rfl, ?_, hk⟩
  rw [HE.out]
  intro j u hj
  refine HCC.out j u ?_
  rw [← hj]; simp [Lib.byteCells]

/-- The byte that 'emit' prints, as the program reckons it. -/
theorem ch_eq (a : Int) : (wrap64 (32 + wrap64 (a - wrap64 (95 * fdiv a 95)))) % 256 = (wrap64 (wrap64 (32 + a) - wrap64 (95 * fdiv a 95))) % 256 := by
  unfold wrap64; omega

theorem ch_cell (a : Int) : Lib.byteCells (chR a).data.toList = [.int .u8 (wrap64 (32 + wrap64 (a - wrap64 (95 * fdiv a 95))) % 256)] := by
  rw [ch_eq]
  unfold chR Lib.byteCells
  generalize wrap64 (wrap64 (32 + a) - wrap64 (95 * fdiv a 95)) = x
  have h : ((UInt8.ofNat (x % 256).toNat).toNat : Int) = x % 256 := by
    rw [UInt8.toNat_ofNat']; omega
  simp only [List.map_cons, List.map_nil, h]

set_option maxRecDepth 1000000 in
set_option maxHeartbeats 400000 in
theorem charM (w : World) (a : Int) :
    Calls Tryz.prog 84 #[.int .i64 a] w fun e w' => ∃ g cap, e = .returned (.slice (some ⟨g, 0, none⟩) (chR a).size cap) ∧ (∀ j u, (Lib.byteCells (chR a).data.toList)[j]? = some u → w'.cell? ((⟨g, 0, none⟩ : Addr).add j) = some u) ∧ Kp w w' (fun _ => False) := by
  go_enter Tryz.func84, Tryz.ntmps84
  go_wp2_with fail
  refine (remM _ _ _ (by decide)).mono ?_
  rintro e w' ⟨rfl, hw⟩
  rw [hw]; clear hw
  go_wp2
  go_ret
  refine ⟨_, _, rfl, ?_, (Kp.refl _ _).alloc _⟩
  intro j u hj
  rw [ch_cell] at hj
  match j, hj with
  | 0, hj => simp at hj; subst hj; simp [Addr.add]
end Go.Proofs.YtimfpnoeifhjeaaGreatDoor
