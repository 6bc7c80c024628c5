import Derived.Test.YtldifaahmpecfaaGreatDoorV43
import Derived.Test.YtldifaahmpecfaaGreatDoorWIter
import Derived.Deep.OwnRows
import Derived.Carry
import Derived.Handy
namespace Go.Proofs.YtldifaahmpecfaaGreatDoor
set_option maxRecDepth 1000000
set_option maxHeartbeats 4000000
set_option linter.all false
section
open Go.RowKit
theorem perm_nodup : ∀ (a b : List Tok), a.Nodup → (∀ x ∈ a, x ∈ b) → b.length ≤ a.length → a.Perm b
 | [], b, _, _, h => by
  have : b = [] := List.length_eq_zero_iff.1 (by simpa using h)
  subst this; exact List.Perm.refl _
 | x :: a, b, hn, hs, hl => by
  rw [List.nodup_cons] at hn
  have hx : x ∈ b := hs x (by simp)
  have hp := List.perm_cons_erase hx
  have hle := hp.length_eq
  simp only [List.length_cons] at hle hl
  refine ((perm_nodup a (b.erase x) hn.2 (fun y hy => ?_) (by omega)).cons x).trans hp.symm
  have hne : y ≠ x := by rintro rfl; exact hn.1 hy
  exact (List.mem_erase_of_ne hne).2 (hs y (by simp [hy]))
theorem insN_perm (x : Tok) : ∀ (l : List Tok), (insN x l).Perm (x :: l)
 | [] => List.Perm.refl _
 | b :: r => by
  unfold insN
  split
  ·exact ((insN_perm x r).cons b).trans (List.Perm.swap x b r)
  ·exact List.Perm.refl _
theorem insN_sorted (x : Tok) : ∀ (l : List Tok), l.Pairwise (fun a b => leB b a = true) → (insN x l).Pairwise (fun a b => leB b a = true)
 | [], _ => by simp [insN]
 | b :: r, h => by
  rw [List.pairwise_cons] at h
  unfold insN
  by_cases hx : Op.bytesLess x b = true
  ·rw [if_pos hx, List.pairwise_cons]
   refine ⟨fun y hy => ?_, insN_sorted x r h.2⟩
   rcases List.mem_cons.1 ((insN_perm x r).mem_iff.1 hy) with e | e
   ·subst e
    rw [bytesLess_eq] at hx
    simp only [leB, decide_eq_true_eq] at hx ⊢
    exact List.le_of_lt hx
   ·exact h.1 y e
  ·rw [if_neg hx, List.pairwise_cons, List.pairwise_cons]
   have hbx : leB b x = true := by
    rw [bytesLess_eq] at hx
    simp only [leB, decide_eq_true_eq] at hx ⊢
    exact List.not_lt.1 hx
   refine ⟨fun y hy => ?_, h⟩
   rcases List.mem_cons.1 hy with e | e
   ·subst e; exact hbx
   ·have := h.1 y e
    simp only [leB, decide_eq_true_eq] at this hbx ⊢
    exact List.le_trans this hbx
theorem rsortN_ok (l : List Tok) : (rsortN l).Perm l ∧ (rsortN l).Pairwise (fun a b => leB b a = true) := by
 have key : ∀ (l rp : List Tok), rp.Pairwise (fun a b => leB b a = true) → (l.foldl (fun rp x => insN x rp) rp).Perm (l ++ rp) ∧ (l.foldl (fun rp x => insN x rp) rp).Pairwise (fun a b => leB b a = true) := by
  intro l
  induction l with
  | nil => intro rp h; exact ⟨List.Perm.refl _, h⟩
  | cons x l ih =>
   intro rp h
   obtain ⟨h1, h2⟩ := ih (insN x rp) (insN_sorted x rp h)
   refine ⟨h1.trans (((insN_perm x rp).append_left l).trans ?_), h2⟩
   exact List.perm_middle
 have := key l [] List.Pairwise.nil
 rw [List.append_nil] at this
 exact this
theorem sortN_eq (l ss : List Tok) (h : ss.Perm l) : ss.mergeSort leB = sortN l := by
 obtain ⟨h1, h2⟩ := rsortN_ok l
 have tr : ∀ a b c : List UInt8, leB a b = true → leB b c = true → leB a c = true := fun a b c h1 h2 => by simp only [leB, decide_eq_true_eq] at *; exact List.le_trans h1 h2
 have tot : ∀ a b : List UInt8, (leB a b || leB b a) = true := fun a b => by simp only [leB, Bool.or_eq_true, decide_eq_true_eq]; exact List.le_total a b
 refine List.Perm.eq_of_pairwise (le := fun a b => leB a b = true) (fun a b _ _ h1 h2 => ?_) (List.pairwise_mergeSort tr tot ss) ?_ (((List.mergeSort_perm ss leB).trans h).trans ?_)
 ·simp only [leB, decide_eq_true_eq] at h1 h2
  exact List.le_antisymm h1 h2
 ·unfold sortN; exact List.pairwise_reverse.2 h2
 ·exact h1.symm.trans (List.reverse_perm _).symm
theorem WordsR.keys {D : Nat → Prop} {w : World} {bk mb : Nat} {defs : List Def} (h : WordsR D w bk mb defs) : ∃ DD, w.ownsMap Tryz.prog 9 heldR mb defs.length DD ∧ Maps.size DD = defs.length ∧ defs.length ≤ 30 ∧ (strKeys DD).Perm (defs.map Def.name) := by
 obtain ⟨obs, DD, _, hown, ⟨hsz, hhas⟩, h30, _, _⟩ := h
 refine ⟨DD, hown, hsz, h30, ?_⟩
 have hle := strKeys_le hown Tryz.underlying9
 obtain ⟨es, hD, hpw, _⟩ := hown.entries (Maps.string_keyed Tryz.underlying9)
 obtain ⟨es', hD', hko⟩ := hown.keysOf
 obtain rfl : es = es' := by rw [hD] at hD'; simpa using hD'
 subst hD
 have hk : ∀ p ∈ es, ∃ x, p.1 = .string x := fun p hp => by obtain ⟨v, hv⟩ := hko p hp; obtain ⟨x, _, hx, _⟩ := Maps.keyOf_str Tryz.underlying9 hv; exact ⟨x, hx⟩
 refine perm_nodup _ _ ?_ (fun x hx => ?_) ?_
 ·show (es.map fun p => strOf p.1).Nodup
  refine List.pairwise_map.2 (hpw.imp_of_mem fun {p q} hp' hq' hne e => hne ?_)
  obtain ⟨a, ha⟩ := hk p hp'
  obtain ⟨b, hb⟩ := hk q hq'
  rw [ha, hb] at e ⊢
  exact congrArg _ e
 ·have hl := hle x hx
  have := hhas x hl
  have hin : Maps.has (.map es) (.string x) = true := by
   obtain ⟨p, hp, rfl⟩ := List.mem_map.1 hx
   obtain ⟨a, ha⟩ := hk p hp
   rw [Maps.has_eq, List.any_eq_true]
   exact ⟨p, hp, by rw [ha]; simp [Lit.sameKey, strOf]⟩
  rw [hin] at this
  obtain ⟨i, hi⟩ := Option.isSome_iff_exists.1 this.symm
  obtain ⟨hlt, hp, _⟩ := List.findIdx?_eq_some_iff_getElem.1 hi
  exact List.mem_map.2 ⟨defs[i], List.getElem_mem hlt, beq_iff_eq.1 hp⟩
 ·show (defs.map Def.name).length ≤ (es.map fun p => strOf p.1).length
  have hsz : es.length = defs.length := hsz
  rw [List.length_map, List.length_map, hsz]; exact Nat.le_refl _
section
variable {B : Nat} {W w w' : World} {xb bk mb : Nat} {sv : Value} {D V : Nat → Prop} {s : St}
theorem namesM (w : World) (bk mb n : Nat) (DD : DataW Value) (hb : Blk w bk 106 #[.map (some mb)]) (hown : w.ownsMap Tryz.prog 9 heldR mb n DD) (h30 : Maps.size DD ≤ 30) :
  Calls Tryz.prog 47 #[pt bk] w fun e w' => ∃ (v : Value) (ss : List (List UInt8)), e = .returned v ∧ ss.Perm (strKeys DD) ∧ w'.ownsRow w.heap.size 9 1 v ss.length ((ss.mergeSort leB).map encStr) ∧ Below w.heap.size w w' := by
 have HK := hide (fun w => callsIn_wide.1 (Tryz.maps_Keys_58 (some mb) w))
 have HS := hide (callsIn_wide.1 (Tryz.slices_Sorted_keys_57_58 mb n DD heldR w hown (by unfold maxLen; omega) (by omega)))
 have c0 : w.cell? ⟨bk, 0, none⟩ = some (.map (some mb)) := hb.cell rfl
 clear hown
 go_enter Tryz.func47, Tryz.ntmps47
 go_wp2_with fail
 refine (HK.out _).mono ?_
 rintro e w1 ⟨rfl, rfl⟩
 go_wp2_with fail
 refine HS.out.mono ?_
 rintro e w1 ⟨v, ss, rfl, hp, hrow, hnil, hbl⟩
 have HR := hide hrow
 have HB := hide hbl
 have HP := hide hp
 clear hrow hbl hnil hp
 go_wp2
 go_ret
 exact ⟨v, ss, rfl, HP.out, ownsRow_base_a HR.out (by simp), ((Below.refl _ w).alloc (Nat.le_refl _) _).trans (HB.out.mono (by simp))⟩
theorem wordsM (h : PSn B W w xb bk mb sv D V s) :
  Calls Tryz.prog 29 #[pt xb] w fun e w' => ∃ v, e = .returned v ∧ (∃ L : List ByteArray, w'.ownsRow w.heap.size 9 1 v L.length (L.map Value.string) ∧ texts L = wordsP s) ∧ ∃ V', PSes B W w' xb V' s ∧ To (fun _ => False) w w' V V' ∧ ∀ k, own v k → ¬ V' k := by
 obtain ⟨DD, hown, hsz, h30, hperm⟩ := h.words.keys
 have HN := hide (namesM w bk mb _ DD h.book hown (by omega))
 have c17 : w.cell? ⟨xb, 17, none⟩ = some (pt bk) := h.xblk.cell rfl
 have H := hide h
 have HP := hide hperm
 clear h hown hperm
 go_enter Tryz.func29, Tryz.ntmps29
 go_wp2_with fail
 refine HN.out.mono ?_
 rintro e w1 ⟨v, ss, rfl, hp, hrow, hbl⟩
 have HR := hide hrow
 have HB := hide hbl
 have HQ := hide hp
 clear hrow hbl hp
 go_wp2
 go_ret
 refine ⟨v, rfl, ⟨(ss.mergeSort leB).map fun l => ⟨l.toArray⟩, ?_, ?_⟩, V, ⟨bk, mb, sv, D, H.out.kp (Kp.ofBelow HB.out)⟩, ⟨(Kp.ofBelow HB.out).mono (fun _ _ e => e), fun k e => .inl e⟩, fun k e hv => ?_⟩
 ·have := HR.out
  rw [List.map_map, List.length_map, (List.mergeSort_perm ss leB).length_eq]
  exact this
 ·unfold texts wordsP
  rw [List.map_map, ← sortN_eq _ ss (HQ.out.trans HP.out)]
  exact List.map_id _
 ·have h1 := (HR.out.lt k e).1
  have h2 := H.out.lt k hv
  omega
end
end
section
open Go.RowKit
theorem info_int : (Tryz.prog.info? 3).map (fun i => (i.zero, i.size, i.bytes)) = some (some (.int .i64 0), 1, 8) := by kernel_rfl
section
variable {B : Nat} {W w w' : World} {xb bk mb : Nat} {sv : Value} {D V : Nat → Prop} {s : St}
structure StL (w wr : World) (ns : List Int) (k : Nat) : Prop where
 blk : ∃ c : Array Value, Blk wr w.heap.size 3 c ∧ c.size = ns.length ∧ (∀ i (h : i < ns.length), i < k → c[i]? = some (.int .i64 ns[i])) ∧ ∀ i, i < ns.length → ¬ i < k → c[i]? = some (.int .i64 0)
 kp : Kp w wr (fun _ => False)
theorem stackM (w : World) (xb bk : Nat) (sv : Value) (mem : Nat → Int) (ns : List Int) (h : Blk w xb 80 (marr bk sv mem)) (hrow : w.ownsRow 0 2 1 sv ns.length (ints ns)) (hin : ∀ n ∈ ns, In n) (hl : ns.length ≤ 32) :
  Calls Tryz.prog 43 #[pt xb] w fun e w' => e = .returned (.slice (some ⟨w.heap.size, 0, none⟩) ns.length ns.length) ∧ StL w w' ns ns.length := by
 have hmk := run_make_row' 34 3 (.int .i64 0) 8 Tryz.underlying34 info_int rfl .i64 .i64 ns.length (by omega) (by omega) w
 have c0 : w.cell? ⟨xb, 0, none⟩ = some sv := h.cell rfl
 obtain ⟨ao, cap, rfl⟩ := form_of hrow
 have h0 : Hid (StL w (w.alloc (.cells (madeCells #[.int .i64 0] ns.length) 3)) ns 0) := ⟨⟨_, Blk.new _ _ _, size_madeCells _ _, fun i _ hi => by omega, fun i hi _ => by simp [madeCells, hi, Nat.mod_one]⟩, (Kp.refl _ _).alloc _⟩
 have HX := hide h
 have HR := hide hrow
 have c1 : (w.alloc (.cells (madeCells #[.int .i64 0] ns.length) 3)).cell? ⟨xb, 0, none⟩ = some (.slice ao ns.length cap) := (h.alloc _).cell rfl
 clear h hrow
 go_enter Tryz.func43, Tryz.ntmps43
 go_wp2
 go_loopw [17] (fun i wr => ∃ k : Nat, k ≤ ns.length ∧ i = .int .i64 k ∧ StL w wr ns k) (fun i _ => ns.length - (intOf i).toNat)
 case atStart => exact ⟨0, Nat.zero_le _, rfl, h0.out⟩
 case round =>
  obtain ⟨k, hk, rfl, ⟨⟨c, hb, hcs, h1, h2⟩, hkp⟩⟩ := hrel
  by_cases hlt : k < ns.length
  ·have hrow := hkp.row HR.out (by simp)
   obtain ⟨gd, cap', hv, hcell⟩ := row_cell hrow (by omega)
   injection hv with e1 e2 e3
   subst e1
   clear e2 e3
   have c2 := hcell _ _ (show (ints ns)[k]? = some (.int .i64 ns[k]) by simp [ints, hlt])
   have c3 : wr.cell? ⟨w.heap.size, k, none⟩ = some (.int .i64 0) := hb.cell (h2 k hlt (by omega))
   have f3 := hb.free k
   have hIn := hin _ (List.getElem_mem hlt)
   have H1 : Hid (StL w (wr.setCell ⟨w.heap.size, k, none⟩ (.int .i64 ns[k])) ns (k + 1)) := by
    refine ⟨⟨c.setIfInBounds k (.int .i64 ns[k]), hb.set k _, by simpa using hcs, fun i hi hik => ?_, fun i hi hik => ?_⟩, ?_⟩
    ·by_cases e : i = k
     ·subst e; rw [Array.getElem?_setIfInBounds_self, if_pos (by omega)]
     ·rw [Array.getElem?_setIfInBounds_ne (fun q => e q.symm)]; exact h1 i hi (by omega)
    ·rw [Array.getElem?_setIfInBounds_ne (by omega)]; exact h2 i hi (by omega)
    ·exact Kp.newer hkp (Kp.one _ _ _ _) (Nat.le_refl _)
   generalize ns[k] = nk at *
   clear hrow hcell hb h1 h2 hkp hcs
   go_wp2
   go_round
   case rel => exact ⟨k + 1, by omega, by go_num, H1.out⟩
   case measure => simp [intOf]; omega
  ·have hkn : k = ns.length := by omega
   subst hkn
   have H1 : Hid (StL w wr ns ns.length) := ⟨⟨c, hb, hcs, h1, h2⟩, hkp⟩
   clear hb h1 h2 hkp hcs
   go_wp2
   go_ret
   exact ⟨rfl, H1.out⟩
theorem StL.row {wr : World} {ns : List Int} (h : StL w wr ns ns.length) (hl : ns.length ≤ 32) : wr.ownsRow w.heap.size 3 1 (.slice (some ⟨w.heap.size, 0, none⟩) ns.length ns.length) ns.length (ints ns) := by
 obtain ⟨c, hb, hcs, h1, _⟩ := h.blk
 refine ⟨by simp [ints], .inr ⟨_, _, c, rfl, Nat.le_refl _, hb, Nat.le_refl _, by unfold maxLen; omega, by omega, ?_⟩⟩
 rw [Nat.mul_one, List.take_of_length_le (by simp [hcs])]
 apply List.ext_getElem?
 intro i
 by_cases hi : i < ns.length
 ·rw [Array.getElem?_toList, h1 i hi hi]
  simp [ints, hi]
 ·rw [List.getElem?_eq_none (by simp [hcs]; omega), List.getElem?_eq_none (by simp [ints]; omega)]
theorem stackP (h : PSn B W w xb bk mb sv D V s) (hg : SGood s) :
  Calls Tryz.prog 16 #[pt xb] w fun e w' => ∃ v, e = .returned v ∧ w'.ownsRow w.heap.size 3 1 v s.rs.length (ints s.rs.reverse) ∧ ∃ V', PSes B W w' xb V' s ∧ To (fun _ => False) w w' V V' ∧ ∀ k, own v k → ¬ V' k := by
 have hl := h.len
 have HS := hide (stackM w xb bk sv s.mem s.rs.reverse h.xblk h.srow (fun n hn => hg.g.ins n (List.mem_reverse.1 hn)) (by rw [List.length_reverse]; exact h.len))
 have H := hide h
 have hxl := h.xblk.lt
 clear h
 go_enter Tryz.func16, Tryz.ntmps16
 go_wp2_with fail
 refine HS.out.mono ?_
 rintro e w1 ⟨rfl, hst⟩
 have HT := hide hst
 clear hst
 go_wp2
 go_ret
 have hrow := HT.out.row (by rw [List.length_reverse]; exact hl)
 refine ⟨_, rfl, by have := hrow; simpa using this, V, ⟨bk, mb, sv, D, H.out.kp HT.out.kp⟩, ⟨HT.out.kp.mono (fun _ _ e => e.elim), fun k e => .inl e⟩, fun k e hv => ?_⟩
 have h1 := (hrow.lt k e).1
 have h2 := H.out.lt k hv
 omega
theorem cellPX (h : PSn B W w xb bk mb sv D V s) (n : Int) :
  Calls Tryz.prog 36 #[pt xb, .int .i64 n] w fun e w' => e = .returned (.tuple #[.int .i64 (cellP s n).1, .int .i64 (cellP s n).2]) ∧ ∃ V', PSes B W w' xb V' s ∧ To (fun _ => False) w w' V V' := by
 have HS := hide (cellM w xb bk sv s.mem h.xblk n)
 have hh : cellP s n = if n < 0 ∨ 16 ≤ n then ((0 : Int), (10 : Int)) else (s.mem n.toNat, 0) := rfl
 rw [← hh] at HS
 clear hh
 generalize cellP s n = cc at *
 have H := hide h
 have hxl := h.xblk.lt
 clear h
 go_enter Tryz.func36, Tryz.ntmps36
 go_wp2_with fail
 refine HS.out.mono ?_
 rintro e w1 ⟨rfl, hk⟩
 have HK := hide hk
 clear hk
 go_wp2
 go_ret2
 exact ⟨rfl, H.out.to HK.out⟩
end
end
section
open Go.RowKit
theorem newM (w : World) : Calls Tryz.prog 21 #[] w fun e w' => ∃ xb bk mb, e = .returned (.pointer (some ⟨xb, 0, none⟩)) ∧ Kp w w' (fun _ => False) ∧ w.heap.size ≤ xb ∧ w.heap.size ≤ bk ∧ w.heap.size ≤ mb ∧ Blk w' xb 80 (marr bk (.slice none 0 0) (fun _ => 0)) ∧ Blk w' bk 106 #[.map (some mb)] ∧ w'.ownsMap Tryz.prog 9 heldR mb 0 (.map []) := by
 have hmm := run_makeMap (P := Tryz.prog) 104 w
 go_enter Tryz.func21, Tryz.ntmps21
 go_wp2_with (go_at_call 44; go_in)
 go_ret
 refine ⟨_, w.heap.size + 1, w.heap.size, rfl, (((Kp.refl _ _).alloc _).alloc _).alloc _, by omega, by omega, Nat.le_refl _, Blk.new2 w _ _ _ _, (Blk.new1 w _ _ _).alloc _, ?_⟩
 exact ((World.ownsMap_made w Tryz.prog 9 heldR).alloc _).alloc _
theorem words0 (D : Nat → Prop) (w : World) (bk mb : Nat) (h : w.ownsMap Tryz.prog 9 heldR mb 0 (.map [])) : WordsR D w bk mb [] :=
 ⟨[], .map [], rfl, h, ⟨rfl, fun t _ => rfl⟩, by decide, fun t _ => rfl, fun k hk => absurd hk (Nat.not_lt_zero _)⟩
section
variable {B : Nat} {W : World}
theorem newP (w : World) (hb : Below B W w) (hs : B ≤ w.heap.size) : Calls Tryz.prog 21 #[] w fun e w' => ∃ xb V, e = .returned (.pointer (some ⟨xb, 0, none⟩)) ∧ PSes B W w' xb V st0 ∧ Kp w w' (fun _ => False) ∧ ∀ k, V k → w.heap.size ≤ k := by
 refine (newM w).mono ?_
 rintro e w' ⟨xb, bk, mb, rfl, hk, h1, h2, h3, b1, b2, hm⟩
 have nov : ∀ k, ¬ own (.slice none 0 0) k := fun k e => by simp [own, Value.ownBlock] at e
 refine ⟨xb, fun k => k = xb ∨ k = bk ∨ k = mb ∨ own (.slice none 0 0) k ∨ False, rfl, ⟨bk, mb, .slice none 0 0, fun _ => False, ⟨b1, World.ownsRow_nil _ _ _ _, by decide, hb.trans (hk.below hs (fun _ _ e => e)), by omega, fun k e => absurd e (nov k), Nat.le_trans hs hk.size, by omega, b2, words0 _ _ _ _ hm, fun k e => e.elim, fun k => Iff.rfl⟩⟩, hk, ?_⟩
 rintro k (e | e | e | e | e)
 ·omega
 ·omega
 ·omega
 ·exact absurd e (nov k)
 ·exact e.elim
theorem conP (hE : Env B W) : PCon B W (PSes B W) where
 lt := fun w xb V s ⟨bk, mb, sv, D, h⟩ => h.lt
 frame := fun w w' S xb V s ⟨bk, mb, sv, D, h⟩ hk hV hB _ => ⟨bk, mb, sv, D, h.frame hk hV hB⟩
 new := fun w hb hs => newP w hb hs
 line := fun w xb V s s1 left g t ⟨bk, mb, sv, D, h⟩ _ hg hv hx => lineOk hE h hg t hv g s1 left hx
 lineBad := fun w xb V s t ⟨bk, mb, sv, D, h⟩ hv => (lineM_bad w xb t hv).mono (by
  rintro e w' ⟨rfl, rfl⟩
  exact ⟨rfl, h.to (Kp.refl _ _)⟩)
 stack := fun w xb V s ⟨bk, mb, sv, D, h⟩ hg => stackP h hg
 cell := fun w xb V s n ⟨bk, mb, sv, D, h⟩ _ => cellPX h n
 words := fun w xb V s ⟨bk, mb, sv, D, h⟩ => wordsM h
end
end
end Go.Proofs.YtldifaahmpecfaaGreatDoor
