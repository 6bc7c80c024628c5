import Derived.Test.YtimfpnoeifhjeaaGreatDoorM12
import Derived.Test.YtimfpnoeifhjeaaGreatDoorR12
namespace Go.Proofs.YtimfpnoeifhjeaaGreatDoor
open Go.RowKit

/-- The table of spellings lies in block 1, below B. -/
structure Spl (B : Nat) (W : World) : Prop where
  ex : ∃ tt fr, W.heap[1]? = some (.cells spellA tt fr)
  lt : 1 < B
theorem Spl.at {B : Nat} {W w : World} (h : Spl B W) (hb : Below B W w) : ∃ tt fr, w.heap[1]? = some (.cells spellA tt fr) := by
  obtain ⟨tt, fr, hx⟩ := h.ex
  exact ⟨tt, fr, (hb.block 1 h.lt).trans hx⟩

def LPost (w w' : World) (xb rb : Nat) (m : MS) (R : Res) : Prop :=
  ∃ m' ns, MInv w' xb rb m' ns ∧ MTo xb rb w w' m m' ∧ m'.mem = R.mem ∧ m'.out = R.out ∧ (R.e = 0 → ns = R.rs.reverse)

def MRel (w wr : World) (xb rb : Nat) (m : MS) (R : Res) (ls : List (List UInt8)) (k : Nat) : Prop :=
  ∃ m' rs', MInv wr xb rb m' rs'.reverse ∧ MTo xb rb w wr m m' ∧ Good rs' m'.mem m'.out ∧ 0 ≤ m'.st ∧ m'.st ≤ k ∧ R = runToks (ls.drop k) rs' m'.mem m'.out

set_option maxRecDepth 1000000 in
set_option maxHeartbeats 1000000 in
theorem toksM (B : Nat) (W : World) (w : World) (xb rb : Nat) (m : MS) (rs : List Int) (v : Value) (ts : List ByteArray) (ls : List (List UInt8)) (h : MInv w xb rb m rs.reverse) (hst : m.st = 0) (hgood : Good rs m.mem m.out) (hS : Safe B W w xb rb m) (hG : Glo B W) (hP : Spl B W)
    (hrow : w.ownsRow 0 9 1 v ts.length (ts.map Value.string)) (hls : ls = ts.map (fun t => t.data.toList)) (hl : ts.length ≤ 401) (hcol : ∀ t ∈ ts, (t.toList == [58]) = false ∧ t.toList ≠ [] ∧ t.size ≤ 1000) (R : Res) (hR : R = runToks ls rs m.mem m.out) :
    Calls Tryz.prog 31 #[.pointer (some ⟨rb, 0, none⟩), v] w fun e w' => e = .returned (.int .i64 R.e) ∧ LPost w w' xb rb m R := by
  have hll : ls.length = ts.length := by rw [hls]; simp
  have hat : ∀ k (hk : k < ts.length), ls[k]'(by omega) = ts[k].toList := by intro k hk; subst hls; simp [ByteArray.toList_eq]
  have H0 : MRel w w xb rb m R ls 0 := ⟨m, rs, h, To.refl _ _ _, hgood, by omega, by rw [hst]; exact Int.le_refl _, hR⟩
  have HL := hide hll
  have HA : Hid (∀ k (hk : k < ts.length), ls[k]? = some ts[k].toList) := by
    intro k hk; rw [List.getElem?_eq_getElem (by omega), hat k hk]
  have HC := hide hcol
  have HK : Hid (∀ k, own v k → ¬ ((k = xb ∨ k = rb) ∨ (own m.sv k ∨ own m.ov k))) := by
    rintro k hk ((h1 | h1) | (h1 | h1))
    · subst h1; exact own_ne hrow h.xblk (by decide) hk
    · subst h1; exact own_ne hrow h.rblk (by decide) hk
    · exact own_disj2 hrow h.srow (by decide) hk h1
    · exact own_disj2 hrow h.orow (by decide) hk h1
  clear hls hR hst hll hat hcol h hgood
  obtain ⟨ao, cap, rfl⟩ := form_of hrow
  have HW := hide hrow
  clear hrow
  go_enter Tryz.func31, Tryz.ntmps31
  go_wp2
  go_loopw [10] (fun i wr => ∃ k : Nat, k ≤ ts.length ∧ i = .int .i64 k ∧ MRel w wr xb rb m R ls k) (fun i _ => ts.length - (intOf i).toNat)
  case atStart => exact ⟨0, Nat.zero_le _, rfl, H0⟩
  case round =>
    obtain ⟨k, hk, rfl, m', rs', hi, hto, hg, hs0, hs1, hR⟩ := hrel
    have HR := hide hR
    clear hR
    by_cases hlt : k < ts.length
    · obtain ⟨g, cap', hpo, hcell⟩ := row_cell ((To.kp hto).row HW.out HK.out) hlt
      injection hpo with hpo h2 h3
      subst hpo
      subst h3
      clear h2
      have ct : wr.cell? ⟨g, k, none⟩ = some (.string ts[k]) := hcell _ (by simp [hlt])
      clear hcell
      obtain ⟨hc58, hcne, hcs⟩ := HC.out ts[k] (List.getElem_mem hlt)
      have hkl : k < ls.length := by have := HL.out; omega
      have HTk : Hid (ls[k] = ts[k].toList) := by have := HA.out k hlt; rw [List.getElem?_eq_getElem hkl] at this; exact Option.some.inj this
      obtain ⟨t, ht⟩ : ∃ t, t = ts[k] := ⟨_, rfl⟩
      rw [← ht] at ct hc58 hcne hcs HTk
      clear ht
      have hS1 := hS.to hto
      obtain ⟨tt, fr, hsp⟩ := hP.at hS1.bel
      obtain ⟨Q, hQ⟩ : ∃ Q, Q = runTok t.toList rs' m'.mem m'.out := ⟨_, rfl⟩
      have HQ := hide hQ
      have hF : Fine Q := by rw [hQ]; exact runTok_fine hg
      have HT := hide (tokM B W wr xb rb m' rs' t tt fr hsp hi hs0 (by omega) hg hS1 hG hcs hcne hc58 Q hQ)
      have HRR : Hid (R = if Q.e = 0 then runToks (ls.drop (k + 1)) Q.rs Q.mem Q.out else Q) := by
        unfold Hid; rw [HR.out, List.drop_eq_getElem_cons hkl, runToks, HTk.out, ← HQ.out]
      clear hsp hc58 hcne hcs hQ hS1 hg hi
      by_cases he : Q.e = 0
      · have he' : (Q.e != 0) = false := by simp [he]
        have HE := hide he
        clear he
        go_wp2_with fail
        refine HT.out.mono ?_
        rintro e w1 ⟨rfl, m2, ns2, hi2, hto2, hm2, ho2, hsa, hsb, hn2⟩
        have HN : Hid (MRel w w1 xb rb m R ls (k + 1)) := by
          refine ⟨m2, Q.rs, by rw [← hn2 HE.out]; exact hi2, hto.trans hto2, ?_, by omega, by omega, ?_⟩
          · rw [hm2, ho2]; exact hF
          · have := HRR.out; rw [if_pos HE.out] at this; rw [hm2, ho2]; exact this
        clear hi2 hto2 hm2 ho2 hsa hsb hn2
        go_wp2
        go_roundw
        case rel => exact ⟨k + 1, by omega, by go_num, HN.out⟩
        case measure => simp [intOf]; omega
      · have he' : (Q.e != 0) = true := by simp [he]
        have HE := hide he
        clear he
        go_wp2_with fail
        refine HT.out.mono ?_
        rintro e w1 ⟨rfl, m2, ns2, hi2, hto2, hm2, ho2, hsa, hsb, hn2⟩
        have HN : Hid (R = Q) := by have := HRR.out; rw [if_neg HE.out] at this; exact this
        go_wp2
        go_ret
        rw [HN.out]
        exact ⟨rfl, m2, ns2, hi2, hto.trans hto2, hm2, ho2, hn2⟩
    · have HD : Hid (R = ⟨0, rs', m'.mem, m'.out⟩) := by
        unfold Hid; rw [HR.out, List.drop_of_length_le (by have := HL.out; omega)]; rfl
      go_wp2
      go_ret
      rw [HD.out]
      exact ⟨rfl, m', _, hi, hto, rfl, rfl, fun _ => rfl⟩
end Go.Proofs.YtimfpnoeifhjeaaGreatDoor
