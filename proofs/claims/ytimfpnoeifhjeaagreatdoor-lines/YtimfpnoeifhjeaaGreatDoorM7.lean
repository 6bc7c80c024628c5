import Derived.Test.YtimfpnoeifhjeaaGreatDoorM6
namespace Go.Proofs.YtimfpnoeifhjeaaGreatDoor
open Go.RowKit

def placesV (ps : List Nat) : List Value := ps.map (fun p : Nat => Value.int .i64 (p : Int))
def picked (xs : List Int) (ps : List Nat) : List Int := ps.map fun p => xs.getD p 0

theorem row_cell {w : World} {b e : Nat} {v : Value} {n : Nat} {xs : List Value} (h : w.ownsRow b e 1 v n xs) {k : Nat} (hk : k < n) : ∃ g cap, v = .slice (some ⟨g, 0, none⟩) n cap ∧ ∀ u, xs[k]? = some u → w.cell? ⟨g, k, none⟩ = some u := by
  rcases h.2 with ⟨_, h0⟩ | ⟨g, cap, cur, hv, _⟩
  · omega
  · refine ⟨g, cap, hv, fun u hu => ?_⟩
    have := h.cells (g := g) (by rw [hv]; rfl) k u hu
    rw [addr_add2] at this; exact this

theorem tk_cell {w : World} {tb : Nat} {xs : List Int} (h : Blk w tb 151 #[.int .i64 (xs.getD 0 0), .int .i64 (xs.getD 1 0), .int .i64 (xs.getD 2 0)]) (p : Nat) (hp : p < 3) : w.cell? ⟨tb, p, none⟩ = some (.int .i64 (xs.getD p 0)) := by
  have : p = 0 ∨ p = 1 ∨ p = 2 := by omega
  rcases this with h1 | h1 | h1 <;> subst h1 <;> exact h.cell rfl

set_option maxRecDepth 1000000 in
set_option maxHeartbeats 1000000 in
theorem reM (w : World) (xb rb cb pb : Nat) (m : MS) (r xs : List Int) (ps : List Nat) (pv : Value) (h : MInv w xb rb m (r ++ xs)) (h1 : 1 ≤ xs.length) (h3 : xs.length ≤ 3)
    (hc : Blk w cb 3 #[.int .i64 xs.length]) (hp : Blk w pb 36 #[pv]) (hpv : w.ownsRow 0 3 1 pv ps.length (placesV ps)) (hps : ∀ p ∈ ps, p < 3) (hpl : ps.length ≤ 3) :
    Calls Tryz.prog 99 #[.pointer (some ⟨rb, 0, none⟩), .pointer (some ⟨cb, 0, none⟩), .pointer (some ⟨pb, 0, none⟩)] w fun e w' =>
      (r.length + ps.length ≤ 32 → e = .returned (.int .i64 0) ∧ MPost w w' xb rb m ⟨0, (r ++ picked xs ps).reverse, m.mem, m.out⟩) ∧
      (32 < r.length + ps.length → e = .returned (.int .i64 7) ∧ MPost w w' xb rb m ⟨7, [], m.mem, m.out⟩) := by
  have c0 : w.cell? ⟨cb, 0, none⟩ = some (.int .i64 xs.length) := hc.cell rfl
  obtain ⟨i0, hi, hz0, hz1, hz2⟩ := info_parts Tryz.info2
  have hlen := h.len
  simp only [List.length_append] at hlen
  go_enter Tryz.func99, Tryz.ntmps99
  go_wp2_with fail
  refine (takeM _ _ _ _ r xs h h1 h3).mono ?_
  rintro e w1 ⟨v', rfl, hi1, ht1⟩
  have hp1 := ht1.blk hp (by rintro (h1 | h1); exact absurd (hp.inj (h1 ▸ h.xblk)).1 (by decide); exact absurd (hp.inj (h1 ▸ h.rblk)).1 (by decide)) (by rintro (h1 | h1); exact own_ne h.srow hp (by decide) h1; exact own_ne h.orow hp (by decide) h1)
  have hpv1 := (To.kp ht1).row hpv (by
    rintro k hk ((h1 | h1) | (h1 | h1))
    · subst h1; exact own_ne hpv h.xblk (by decide) hk
    · subst h1; exact own_ne hpv h.rblk (by decide) hk
    · exact own_disj2 hpv h.srow (by decide) hk h1
    · exact own_disj2 hpv h.orow (by decide) hk h1)
  obtain ⟨po, pc, rfl⟩ := form_of hpv1
  have c1 : w1.cell? ⟨pb, 0, none⟩ = some (.slice po ps.length pc) := hp1.cell rfl
  have hpb := hp1.lt
  have HP := hide hpv1
  have HI := hide hi1
  have HQ := hide hps
  clear hpv hpv1 hp c0 hi1 hps hp1
  go_wp2
  have hT := Blk.new w1 #[.int .i64 (xs.getD 0 0), .int .i64 (xs.getD 1 0), .int .i64 (xs.getD 2 0)] 151
  have HT := hide hT
  clear hT
  go_loopw [7, 21] (fun v i wr => ∃ k : Nat, k ≤ ps.length ∧ i = .int .i64 k ∧ wr.ownsRow (w1.heap.size + 1) 2 1 v k (ints ((picked xs ps).take k)) ∧ Kp (w1.alloc (.cells #[.int .i64 (xs.getD 0 0), .int .i64 (xs.getD 1 0), .int .i64 (xs.getD 2 0)] 151)) wr (fun _ => False) ∧ (k = 0 → v = .slice none 0 0))
    (fun _ i _ => ps.length - (intOf i).toNat)
  case atStart => exact ⟨0, Nat.zero_le _, rfl, World.ownsRow_nil _ _ _ _, Kp.refl _ _, fun _ => rfl⟩
  case round =>
    obtain ⟨k, hk, rfl, hown, hkp, hnil⟩ := hrel
    by_cases hlt : k < ps.length
    · obtain ⟨g, cap', hpo, hcell⟩ := row_cell (hkp.row ((HP.out).alloc _) (by simp)) hlt
      injection hpo with hpo h2 h3
      subst hpo
      subst h3
      clear h2
      have hpk : ps[k] < 3 := HQ.out _ (List.getElem_mem hlt)
      have ct := tk_cell (hkp.blk HT.out (by simp)) ps[k] hpk
      have cp : wr.cell? ⟨g, k, none⟩ = some (.int .i64 (ps[k] : Int)) := hcell _ (by simp [placesV, hlt])
      clear hcell
      obtain ⟨q, hq⟩ : ∃ q, q = ps[k] := ⟨_, rfl⟩
      rw [← hq] at ct cp hpk
      obtain ⟨x, hx⟩ : ∃ x, x = xs.getD q 0 := ⟨_, rfl⟩
      rw [← hx] at ct
      have HX : Hid (ints ((picked xs ps).take (k + 1)) = ints ((picked xs ps).take k) ++ [.int .i64 x]) := by
        unfold Hid
        rw [List.take_succ_eq_append_getElem (by simp [picked]; exact hlt)]
        simp [ints, picked, hx, hq]
      clear hq hx
      have hsz := hkp.size
      simp only [World.size_alloc] at hsz
      go_wp2_with (first
        | (at_builtin; refine wpList_append_own _ rfl _ _ 57 rfl (w1.heap.size + 1) 2 i0 (.int .i64 0) 1 8 Tryz.underlying57 hi hz0 hz1 hz2 rfl (by decide) _ _ _ rfl (hown.alloc _) ⟨wr.heap.size, 0, none⟩ 1 1 [.int .i64 x] rfl rfl ?c1 ?c2 ?c3 ?c4 ?c5 ?_)
        | go_in)
      case c1 => intro j u hj; match j, hj with | 0, hj => simp at hj; subst hj; simp [Addr.add]
      case c2 => first | rfl | (intro u hu; simp at hu; subst hu; rfl)
      case c3 => unfold maxLen; omega
      case c4 => omega
      case c5 => first | omega | (simp; omega)
      intro v2 w2 hown2 hgrow _
      have hkp2 : Kp (w1.alloc (.cells #[.int .i64 (xs.getD 0 0), .int .i64 (xs.getD 1 0), .int .i64 (xs.getD 2 0)] 151)) w2 (fun _ => False) := (hkp.alloc _).grown hgrow (fun b hb e => by have := (hown.lt b e).1; simp at hb; omega)
      rw [← HX.out] at hown2
      have HO := hide hown2
      have HK := hide hkp2
      clear hown hown2 hgrow hkp hkp2 ct cp
      go_wp2
      go_roundw
      case rel => first | exact ⟨k + 1, by omega, by go_num, HO.out, HK.out, fun h => by omega⟩ | ((repeat apply Exists.intro); exact ⟨⟨k + 1, by omega, by go_num, HO.out, HK.out, fun h => by omega⟩, rfl⟩)
      case measure => simp [intOf]; omega
    · have hkl : k = ps.length := by omega
      subst hkl
      have hys : (picked xs ps).take ps.length = picked xs ps := List.take_of_length_le (by simp [picked])
      rw [hys] at hown
      have hyl : (picked xs ps).length = ps.length := by simp [picked]
      have hiW : MInv wr xb rb { m with sv := v' } r := (HI.out.alloc _).kp hkp
      have htW : MTo xb rb w wr m { m with sv := v' } := ht1.trans ((MTo.kp ((Kp.refl _ _).alloc _)).trans (MTo.kp hkp))
      have HW := hide hiW
      clear hkp hiW hys
      by_cases h0 : ps.length = 0
      · have hv := hnil h0
        subst hv
        have hp0 : picked xs ps = [] := List.eq_nil_of_length_eq_zero (by omega)
        have HP0 := hide hp0
        have hpn : ps = [] := List.eq_nil_of_length_eq_zero h0
        clear hp0 hown hnil
        go_wp2_with fail
        refine (putM_nil _ _ _ _ _ HW.out).mono ?_
        rintro e w3 ⟨rfl, hi3, ht3⟩
        go_wp2
        go_ret
        refine ⟨fun _ => ⟨rfl, _, _, hi3, htW.trans ht3, rfl, rfl, rfl, fun _ => ?_⟩, fun h => by have := hlen; omega⟩
        rw [HP0.out]; simp
      · obtain ⟨g, cap, rfl⟩ := Joins.ownsRow_form hown (by omega)
        have hcells := hown.cells (g := g) rfl
        have HC := hide hcells
        clear hown hcells hnil
        by_cases hbig : 32 < r.length + ps.length
        · go_wp2_with fail
          refine (putM_full _ _ _ _ _ _ _ _ HW.out (by omega) hbig).mono ?_
          rintro e w' ⟨rfl, hw⟩
          rw [hw]; clear hw
          go_wp2
          go_ret
          exact ⟨fun h => by omega, fun _ => ⟨rfl, MPost.err htW HW.out rfl rfl rfl (by decide)⟩⟩
        · go_wp2_with fail
          rw [← hyl]
          refine (putM_ok _ _ _ _ r (picked xs ps) g cap HW.out (by omega) HC.out (by omega)).mono ?_
          rintro e w3 ⟨rfl, v3, hi3, ht3⟩
          rw [hyl]
          go_wp2
          go_ret
          exact ⟨fun _ => ⟨rfl, _, _, hi3, htW.trans ht3, rfl, rfl, rfl, fun _ => by simp⟩, fun h => by omega⟩
end Go.Proofs.YtimfpnoeifhjeaaGreatDoor
