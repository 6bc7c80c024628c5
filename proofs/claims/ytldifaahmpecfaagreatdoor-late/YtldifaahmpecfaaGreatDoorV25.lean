import Derived.Test.YtldifaahmpecfaaGreatDoorV24
import Derived.Deep.RegionWith
namespace Go.Proofs.YtldifaahmpecfaaGreatDoor
set_option maxRecDepth 1000000
set_option maxHeartbeats 4000000
set_option linter.all false
section
open Go.RowKit
variable {K : Nat → Prop}
theorem callsAll : ∀ G, CCalls K G := by
 intro G
 induction G using Nat.strongRecOn with
 | ind G ih => exact callsP G ih
abbrev foldB (defs : List Def) (g n : Nat) : List Tok → Option (List Tok) := foldN (fun t => match bodyOf defs t with
      | none => none
      | some b => buildsG defs g n b)
theorem builds_zero (defs : List Def) (g : Nat) (l : List It) : buildsG defs g 0 l = some [] := rfl
theorem builds_succ {defs : List Def} {g n : Nat} {l : List It} {res : List Tok} (h : buildsG defs g (n + 1) l = some res) : ∃ names, callsG g l = some names ∧ foldB defs g n names = some res := by
 rw [buildsG] at h
 split at h
 ·cases h
 ·rename_i names hn
  exact ⟨names, hn, h⟩
theorem foldB_cons {defs : List Def} {g n : Nat} {t : Tok} {r res : List Tok} (h : foldB defs g n (t :: r) = some res) : ∃ b x y, bodyOf defs t = some b ∧ buildsG defs g n b = some x ∧ foldB defs g n r = some y ∧ res = t :: x ++ y := by
 unfold foldB at h
 rw [foldN] at h
 split at h
 ·rename_i x y hx hy
  injection h with h
  split at hx
  ·cases hx
  ·rename_i b hb
   exact ⟨b, x, y, hb, hx, hy, h.symm⟩
 ·cases h
theorem bodyOf_find {defs : List Def} {t : Tok} {b : List It} (h : bodyOf defs t = some b) : ∃ k, ∃ hk : k < defs.length, findI defs t = k ∧ defs[k].body = b ∧ defs[k].name = t := by
 unfold bodyOf at h
 cases hf : defs.find? (fun d => d.name == t) with
 | none => rw [hf] at h; cases h
 | some d =>
  rw [hf] at h; injection h with h
  obtain ⟨h1, k, hk, hk2, hk3⟩ := List.find?_eq_some_iff_getElem.1 hf
  have hk2 : defs[k] = d := hk2
  refine ⟨k, hk, ?_, by rw [hk2]; exact h, ?_⟩
  ·exact findI_some hk (fun i hi => by simpa using hk3 i hi) (by rw [hk2]; exact h1)
  ·rw [hk2]; simpa using h1
def CBuilds (K : Nat → Prop) (w0 : World) (yb : Nat) (defs : List Def) (g n : Nat) : Prop := ∀ (l : List It) (res : List Tok) (w : World) (v vo : Value) (ws : List ByteArray), buildsG defs g n l = some res → Body K w0 v l → Kp w0 w (fun _ => False) →
 w.ownsRow 0 9 1 vo ws.length (ws.map Value.string) → (∀ b, own vo b → New w0 b) → ws.length + res.length ≤ 4000000000000 → (∀ g names, callsG g l = some names → names.length ≤ 1000) →
 Calls Tryz.prog 169 #[.pointer (some ⟨yb, 0, none⟩), v, .int .i64 n, vo] w fun e w' => ∃ v' ws', e = .returned v' ∧ Kp w0 w' (fun _ => False) ∧ w'.ownsRow 0 9 1 v' ws'.length (ws'.map Value.string) ∧ (∀ b, own v' b → New w0 b) ∧ (∀ b, own v' b → own vo b ∨ w.heap.size ≤ b) ∧ (∀ b, b < w.heap.size → ¬ own vo b → w'.heap[b]? = w.heap[b]?) ∧ w.heap.size ≤ w'.heap.size ∧ texts ws' = texts ws ++ res
theorem buildsP0 (w0 : World) (yb : Nat) (defs : List Def) (g : Nat) : CBuilds K w0 yb defs g 0 := by
 intro l res w v vo ws hres hb hkp hrow hnew hlen hcb
 rw [builds_zero] at hres; injection hres with hres; subst hres
 obtain ⟨ao, cap, rfl⟩ := row_slice hrow
 obtain ⟨xs, hr, -⟩ := hb.out
 obtain ⟨ab, cb, rfl⟩ := row_slice hr
 clear hr hb hcb
 go_enter Tryz.func169, Tryz.ntmps169
 go_wp2
 go_ret
 exact ⟨_, ws, rfl, hkp, hrow, hnew, fun b hb => .inl hb, fun _ _ _ => rfl, Nat.le_refl _, by simp⟩
theorem DRel.kpF {w w' : World} {dv : Value} {defs : List Def} (h : DRel K w dv defs) (hk : Kp w w' (fun _ => False)) : DRel K w' dv defs := h.kp hk (fun _ _ _ h => h.elim) (fun _ _ h => h.elim)
structure BLoop (w0 w w1 wr : World) (vo v9 vk : Value) (ws ws9 : List ByteArray) (defs : List Def) (g n k : Nat) (res : List Tok) : Prop where
 ex : ∃ wsk done rest, wr.ownsRow 0 9 1 vk wsk.length (wsk.map Value.string) ∧ texts wsk = texts ws ++ done ∧ foldB defs g n ((texts ws9).drop k) = some rest ∧ res = done ++ rest
 kp : Kp w0 wr (fun _ => False)
 new : ∀ b, own vk b → New w0 b
 nx : ∀ b, own vk b → own vo b ∨ w.heap.size ≤ b
 old : ∀ b, b < w.heap.size → ¬ own vo b → wr.heap[b]? = w.heap[b]?
 r9 : wr.ownsRow 0 9 1 v9 ws9.length (ws9.map Value.string)
 ap : ∀ b, own v9 b → ¬ own vk b
 sz : w1.heap.size ≤ wr.heap.size
theorem buildsP (w0 : World) (yb : Nat) (rs : RS) (defs : List Def) (g n : Nat) (hn3 : n ≤ 3) (hy : Blk w0 yb 65 rs.arr) (hd : DRel K w0 rs.d.dv defs) (hcb0 : ∀ d ∈ defs, ∀ g names, callsG g d.body = some names → names.length ≤ 1000)
  (IH : CBuilds K w0 yb defs g n) : CBuilds K w0 yb defs g (n + 1) := by
 intro l res w v vo ws hres hb hkp hrow hnew hlen hcb
 obtain ⟨names, hnames, hfold⟩ := builds_succ hres
 have hnl := hcb g names hnames
 obtain ⟨i0, hi, hz0, hz1, hz2⟩ := info_parts Tryz.info9
 obtain ⟨ao, cap, rfl⟩ := row_slice hrow
 have hbw := hb.keep (Keeps.kpF hkp _)
 obtain ⟨xs, hr, -⟩ := hb.out
 obtain ⟨ab, cb, rfl⟩ := row_slice hr
 have HI := hide IH
 have HF := hide hfold
 have HCB := hide hcb0
 clear hr hb hcb hres hfold IH hcb0
 go_enter Tryz.func169, Tryz.ntmps169
 go_wp2_with fail
 refine (callsAll g _ _ _ _ hnames hnl hbw).mono ?_
 rintro e w1 ⟨v9, rfl, hk1, ws9, hws9, hr9, hn9⟩
 obtain ⟨a9, p9, rfl⟩ := row_slice hr9
 have hl9 : ws9.length ≤ 1000 := by rw [← hws9] at hnl; simpa [texts] using hnl
 have H0 : BLoop w0 w w1 w1 (.slice ao ws.length cap) (.slice a9 ws9.length p9) (.slice ao ws.length cap) ws ws9 defs g n 0 res := by
  refine ⟨⟨ws, [], res, hk1.row hrow (by simp), by simp, by rw [hws9]; exact HF.out, rfl⟩, hkp.trans hk1, hnew, fun b hb => .inl hb, fun b hb hn => hk1.block b hb (by simp), hr9, fun b hb hb2 => ?_, Nat.le_refl _⟩
  have h1 := hn9 b hb
  have h2 := own_lt hrow hb2
  have h1 : w.heap.size ≤ b := h1
  omega
 have HH := hide H0
 have hsw1 := hk1.size
 clear H0 hrow hnew hk1 hr9 hn9 hbw hnames hnl hws9 HF
 go_wp2
 go_loopw [3, 10] (fun vk i wr => ∃ k : Nat, k ≤ ws9.length ∧ i = .int .i64 k ∧ BLoop w0 w w1 wr (.slice ao ws.length cap) (.slice a9 ws9.length p9) vk ws ws9 defs g n k res) (fun _ i _ => ws9.length - (intOf i).toNat)
 case atStart => exact ⟨0, Nat.zero_le _, rfl, HH.out⟩
 case round =>
  obtain ⟨k, hk, rfl, H⟩ := hrel
  obtain ⟨wsk, done, rest, hrk, htk, hfk, hrs⟩ := H.ex
  obtain ⟨ak, pk, rfl⟩ := row_slice hrk
  have HR := hide hrs
  have HT := hide htk
  clear hrs htk
  have hlr : res.length = done.length + rest.length := by rw [HR.out]; simp
  have hlk : wsk.length = ws.length + done.length := by have := congrArg List.length HT.out; simpa [texts] using this
  by_cases hlt : k < ws9.length
  ·obtain ⟨t, ht⟩ : ∃ t, t = ws9[k] := ⟨_, rfl⟩
   rw [texts_drop ws9 k hlt, ← ht] at hfk
   obtain ⟨b, x, y, hbo, hbx, hfy, hrest⟩ := foldB_cons hfk
   obtain ⟨kd, hkd, hfd, hbd, hnd⟩ := bodyOf_find hbo
   have hlrest : rest.length = 1 + x.length + y.length := by rw [hrest]; simp; omega
   have HRT := hide hrest
   have HLR := hide hlr
   have HLK := hide hlk
   clear hlr hlk hrest hfk
   obtain ⟨g9, p9', hv9, hc9⟩ := row_cell H.r9 (by omega)
   injection hv9 with e1 e2 e3
   subst e1
   clear e2 e3
   have c9 : wr.cell? ⟨g9, k, none⟩ = some (.string t) := hc9 k _ (by rw [ht]; simp [hlt])
   have HTk := hide ht
   clear ht hc9
   obtain ⟨nmd, vbd, vtd, hat, z0, z1, z2, z3, z4, z5⟩ : ∃ nm vb vt, DefAt K w0 defs[kd] nm vb vt ∧ True ∧ True ∧ (∀ wx, Kp w0 wx (fun _ => False) → ∃ gd capd, rs.d.dv = .slice (some ⟨gd, 0, none⟩) defs.length capd ∧ wx.cell? ⟨gd, kd * 6 + 2, none⟩ = some vb) ∧ True ∧ True ∧ True := by
    obtain ⟨xsd, hrd, hxd⟩ := hd.ex
    obtain ⟨nm, vb, vt, h1, h2, h3, h4, h5, h6, h7⟩ := defsIn_at _ _ hxd kd hkd
    refine ⟨nm, vb, vt, h1, trivial, trivial, fun wx hkx => ?_, trivial, trivial, trivial⟩
    obtain ⟨gd, capd, hvd, hcd⟩ := row_cell (hkx.row hrd (by simp)) (by omega)
    exact ⟨gd, capd, hvd, hcd _ _ h4⟩
   clear z0 z1 z3 z4 z5
   have HBD : Hid (Body K w0 vbd b) := by have := hat.body; rw [hbd] at this; exact this
   obtain ⟨xsb, hrb, -⟩ := HBD.out.out
   obtain ⟨abd, pbd, rfl⟩ := row_slice hrb
   have HCBb : Hid (∀ g names, callsG g b = some names → names.length ≤ 1000) := by
    have := HCB.out defs[kd] (List.getElem_mem hkd); rw [hbd] at this; exact this
   clear hat hrb hbo
   have hdl := hd.len
   go_wp2_with (first
    | (at_builtin; refine wpList_append_to _ rfl _ _ 47 rfl 9 i0 (.string ByteArray.empty) 1 16 Tryz.underlying47 hi hz0 hz1 hz2 rfl (by decide) _ _ _ rfl (hrk.alloc _) ⟨wr.heap.size, 0, none⟩ 1 1 [.string t] rfl rfl ?c1 ?c2 ?c3 ?c4 ?_)
    | go_in)
   case c1 => intro j u hj; match j, hj with | 0, hj => simp at hj; subst hj; simp [Addr.add]
   case c2 => intro u hu; simp at hu; subst hu; rfl
   case c3 => have := HLR.out; have := HLK.out; unfold maxLen; omega
   case c4 => have := HLR.out; have := HLK.out; omega
   intro v2 w2 hown2 hgrow hnx
   have hsr := H.kp.size
   have hk2 : Kp w0 w2 (fun _ => False) := (H.kp.alloc _).grown hgrow (fun q hq e => by have := H.new q e; have : w0.heap.size ≤ q := this; omega)
   obtain ⟨a2, p2, rfl⟩ := row_slice hown2
   obtain ⟨gd, capd, hvd, cd⟩ := z2 w2 hk2
   have hy2 := hk2.blk hy (by simp)
   have hd2 : DRel K w2 rs.d.dv defs := hd.kp hk2 (fun _ _ _ h => h.elim) (fun _ _ h => h.elim)
   have cy : w2.cell? ⟨yb, 17, none⟩ = some (.slice (some ⟨gd, 0, none⟩) defs.length capd) := by rw [← hvd]; exact hy2.cell rfl
   have hr9' : w2.ownsRow 0 9 1 (.slice (some ⟨g9, 0, none⟩) ws9.length p9) ws9.length (ws9.map Value.string) := row_keep H.r9 (fun q c hq hc => (hc.alloc _).same (hgrow.block q (by have := hc.lt; simp; omega) (fun e => H.ap q hq e.symm)))
   have c9' : w2.cell? ⟨g9, k, none⟩ = some (.string t) := by
    obtain ⟨g9', p9'', hv9, hc9⟩ := row_cell hr9' (by omega)
    injection hv9 with e1 e2 e3
    injection e1 with e1
    injection e1 with e1
    rw [e1]
    exact hc9 k _ (by rw [HTk.out]; simp [hlt])
   have HFI : Hid (Calls Tryz.prog 80 #[.pointer (some ⟨yb, 0, none⟩), .string t] w2.drew fun e w' => e = .returned (.int .i64 kd) ∧ w' = w2.drew) := by
    have := findS w2.drew yb rs defs t hy2.drew (hd2.kpF (Kp.refl _ _).drew)
    rw [hfd] at this; exact this
   have hwn : IntKind.i64.wrap (n : Int) = (n : Int) := by
    rcases (show n = 0 ∨ n = 1 ∨ n = 2 ∨ n = 3 by omega) with rfl | rfl | rfl | rfl <;> rfl
   obtain ⟨ws2, hws2⟩ : ∃ ws2, ws2 = wsk ++ [t] := ⟨_, rfl⟩
   have hl2 : ws2.length = wsk.length + 1 := by rw [hws2]; simp
   have hrow2 : w2.drew.ownsRow 0 9 1 (.slice a2 (wsk.length + 1) p2) ws2.length (ws2.map Value.string) := by have h1 := hown2.drew; rw [hl2, hws2]; simpa using h1
   have hnew2 : ∀ q, own (.slice a2 (wsk.length + 1) p2) q → New w0 q := fun q hq => by
    rcases hnx q hq with h1 | h1
    ·exact H.new q h1
    ·show w0.heap.size ≤ q; omega
   have HBU : Hid (Calls Tryz.prog 169 #[.pointer (some ⟨yb, 0, none⟩), .slice abd b.length pbd, .int .i64 n, .slice a2 (wsk.length + 1) p2] w2.drew fun e w' => ∃ v' ws', e = .returned v' ∧ Kp w0 w' (fun _ => False) ∧ w'.ownsRow 0 9 1 v' ws'.length (ws'.map Value.string) ∧ (∀ b, own v' b → New w0 b) ∧ (∀ b, own v' b → own (.slice a2 (wsk.length + 1) p2) b ∨ w2.drew.heap.size ≤ b) ∧ (∀ b, b < w2.drew.heap.size → ¬ own (.slice a2 (wsk.length + 1) p2) b → w'.heap[b]? = w2.drew.heap[b]?) ∧ w2.drew.heap.size ≤ w'.heap.size ∧ texts ws' = texts ws2 ++ x) :=
    HI.out b x w2.drew (.slice abd b.length pbd) (.slice a2 (wsk.length + 1) p2) ws2 hbx HBD.out hk2.drew hrow2 hnew2 (by have := HLR.out; have := HLK.out; omega) HCBb.out
   have HW2 := hide hws2
   have hnx2 : ∀ q, own (.slice a2 (wsk.length + 1) p2) q → own (.slice ak wsk.length pk) q ∨ wr.heap.size + 1 ≤ q := fun q hq => by simpa using hnx q hq
   have hsw2 : wr.heap.size + 1 ≤ w2.heap.size := by simpa using hgrow.size
   have hold2 : ∀ q, q < wr.heap.size → ¬ own (.slice ak wsk.length pk) q → w2.heap[q]? = wr.heap[q]? := fun q hq hn => by
    rw [hgrow.block q (by simp; omega) (fun e => hn e.symm), Below.heap_alloc _ _ _ hq]
   have h9lt : ∀ q, own (.slice (some ⟨g9, 0, none⟩) ws9.length p9) q → q < wr.heap.size := fun q hq => own_lt H.r9 hq
   clear c9 z2 hgrow hws2 hl2 hown2 hnx HI hd2 hy2 hrow2
   go_wp2
   go_region_with (first
    | (go_at_call 80; refine HFI.out.mono ?_; rintro e w' ⟨rfl, hw⟩; rw [hw]; clear hw)
    | (go_at_call 169; refine HBU.out.mono ?_; rintro e w5 ⟨v5, ws5, rfl, hk5, hr5, hn5, hx5, ho5, hs5, ht5⟩))
   all_goals
    obtain ⟨a5, p5, rfl⟩ := row_slice hr5
    have HT5 := hide ht5
    have HN : BLoop w0 w w1 w5 (.slice ao ws.length cap) (.slice (some ⟨g9, 0, none⟩) ws9.length p9) (.slice a5 ws5.length p5) ws ws9 defs g n (k + 1) res := by
     have hs5 : w2.heap.size ≤ w5.heap.size := hs5
     have hno : ∀ q, q < wr.heap.size → ¬ own (.slice ak wsk.length pk) q → ¬ own (.slice a2 (wsk.length + 1) p2) q := fun q hq hn h2 => by
      rcases hnx2 q h2 with h3 | h3
      ·exact hn h3
      ·omega
     have hkeep : ∀ q, q < wr.heap.size → ¬ own (.slice ak wsk.length pk) q → w5.heap[q]? = wr.heap[q]? := fun q hq hn =>
      (ho5 q (by show q < w2.heap.size; omega) (hno q hq hn)).trans (hold2 q hq hn)
     have hsr1 := H.sz
     refine ⟨⟨ws5, done ++ (t.data.toList :: x), y, hr5, ?_, hfy, ?_⟩, hk5, hn5, fun q hq => ?_, fun q hq hn => ?_, ?_, fun q hq hq5 => ?_, by omega⟩
     ·rw [HT5.out, HW2.out]
      have := HT.out
      simp only [texts, List.map_append, List.map_cons, List.map_nil] at this ⊢
      rw [this]; simp
     ·rw [HR.out, HRT.out]; simp
     ·rcases hx5 q hq with h1 | h1
      ·rcases hnx2 q h1 with h2 | h2
       ·exact H.nx q h2
       ·right; omega
      ·right; have h1 : w2.heap.size ≤ q := h1; omega
     ·have hq' : q < wr.heap.size := by omega
      have hnk : ¬ own (.slice ak wsk.length pk) q := fun h2 => by
       rcases H.nx q h2 with h3 | h3
       ·exact hn h3
       ·omega
      rw [hkeep q hq' hnk]; exact H.old q hq hn
     ·exact row_keep H.r9 (fun q c hq hc => hc.same (hkeep q hc.lt (H.ap q hq)))
     ·have hlt9 := h9lt q hq
      rcases hx5 q hq5 with h1 | h1
      ·exact hno q hlt9 (H.ap q hq) h1
      ·have h1 : w2.heap.size ≤ q := h1; omega
    clear hk5 hr5 hn5 hx5 ho5 hs5 ht5
    go_wp2
    go_roundw
    case rel => exact ⟨k + 1, by omega, by go_num, HN⟩
    case measure => simp [intOf]; omega
  ·have hkl : k = ws9.length := by omega
   subst hkl
   rw [texts_end] at hfk
   injection hfk with hfk
   have HE : Hid (texts wsk = texts ws ++ res) := by
    unfold Hid; rw [HT.out, HR.out, ← hfk]; simp
   clear hfk hlr hlk
   go_wp2
   go_ret
   exact ⟨_, wsk, rfl, H.kp, hrk, H.new, H.nx, H.old, by have := H.sz; omega, HE.out⟩
end
section
open Go.RowKit
variable {K : Nat → Prop}
def CBnd (l : List It) : Prop := ∀ g names, callsG g l = some names → names.length ≤ 1000
def bnd : Nat → Nat
 | 0 => 0
 | n + 1 => 1000 * (1 + bnd n)
theorem bnd_le (n : Nat) (h : n ≤ 3) : bnd n ≤ 4000000000000 := by
 rcases (show n = 0 ∨ n = 1 ∨ n = 2 ∨ n = 3 by omega) with rfl | rfl | rfl | rfl <;> decide
theorem fold_len {defs : List Def} {g n B : Nat} (hB : ∀ b x, (∃ t, bodyOf defs t = some b) → buildsG defs g n b = some x → x.length ≤ B) : ∀ (names res : List Tok), foldB defs g n names = some res → res.length ≤ names.length * (1 + B)
 | [], res, h => by injection h with h; subst h; simp
 | t :: r, res, h => by
  obtain ⟨b, x, y, h1, h2, h3, h4⟩ := foldB_cons h
  have := fold_len hB r y h3
  have h5 := hB b x ⟨t, h1⟩ h2
  rw [h4]
  simp only [List.length_append, List.length_cons, Nat.add_mul, Nat.one_mul]
  omega
theorem builds_len {defs : List Def} {g : Nat} (hcb : ∀ d ∈ defs, CBnd d.body) : ∀ (n : Nat) (l : List It) (res : List Tok), CBnd l → buildsG defs g n l = some res → res.length ≤ bnd n
 | 0, l, res, _, h => by rw [builds_zero] at h; injection h with h; subst h; simp
 | n + 1, l, res, hl, h => by
  obtain ⟨names, h1, h2⟩ := builds_succ h
  have h3 := hl g names h1
  have h4 := fold_len (B := bnd n) (fun b x hb hx => by
   obtain ⟨t, ht⟩ := hb
   obtain ⟨k, hk, _, h5, _⟩ := bodyOf_find ht
   exact builds_len hcb n b x (by rw [← h5]; exact hcb _ (List.getElem_mem hk)) hx) names res h2
  show res.length ≤ 1000 * (1 + bnd n)
  exact Nat.le_trans h4 (Nat.mul_le_mul_right _ h3)
theorem buildsAll (w0 : World) (yb : Nat) (rs : RS) (defs : List Def) (g : Nat) (hy : Blk w0 yb 65 rs.arr) (hd : DRel K w0 rs.d.dv defs) (hcb : ∀ d ∈ defs, CBnd d.body) : ∀ n, n ≤ 4 → CBuilds K w0 yb defs g n
 | 0, _ => buildsP0 w0 yb defs g
 | n + 1, h => buildsP w0 yb rs defs g n (by omega) hy hd hcb (buildsAll w0 yb rs defs g hy hd hcb n (by omega))
theorem RRel.redef {w w' : World} {yb : Nat} {rs : RS} {s : St} {defs : List Def} (h : RRel K w yb rs s) (hk : Kp w w' (fun b => own rs.d.dv b)) (hd : DRel K w' rs.d.dv defs) (hcb : ∀ d ∈ defs, CBnd d.body) : RRel K w' yb rs { s with defs := defs } ∧ STo yb w w' rs rs := by
 obtain ⟨ns, hi, hns⟩ := h.inv
 obtain ⟨xs, hr, _⟩ := h.dr.ex
 have hg := h.good
 refine ⟨⟨⟨ns, ⟨hk.blk hi.blk (own_ne hr hi.blk (by decide)), hk.row hi.row (fun b hb hd => ?_), hi.len⟩, hns⟩, h.e, h.st, h.mem, h.out, h.ids, h.hot, h.blt, h.dp, hd, ⟨hg.g, hg.s0, hg.s1, hg.s2, hg.d0, hg.d1, hg.b0, hg.b1, hcb⟩⟩, ⟨hk.mono (fun b _ hb => .inr (.inr hb)), fun b hb => .inl hb⟩⟩
 obtain ⟨c, hc⟩ := row_blk hi.row hb
 exact absurd (row_type hr hd hc) (by decide)
structure DCell (K : Nat → Prop) (w : World) (rs : RS) (defs : List Def) (k : Nat) (hk : k < defs.length) (gd capd : Nat) (xs : List Value) (nm : ByteArray) (vb vt : Value) : Prop where
 dv : rs.d.dv = .slice (some ⟨gd, 0, none⟩) defs.length capd
 row : w.ownsRow 0 95 6 rs.d.dv defs.length xs
 its : defsIn K w defs xs
 at_ : DefAt K w defs[k] nm vb vt
 x0 : xs[k * 6]? = some (.string nm)
 x1 : xs[k * 6 + 1]? = some (.int .i64 defs[k].id)
 x2 : xs[k * 6 + 2]? = some vb
 x3 : xs[k * 6 + 3]? = some (.int .i64 defs[k].count)
 x4 : xs[k * 6 + 4]? = some (.bool defs[k].fast)
 x5 : xs[k * 6 + 5]? = some vt
 cell : ∀ j u, xs[j]? = some u → w.cell? ⟨gd, j, none⟩ = some u
 free : ∀ j, w.frozen? ⟨gd, j, none⟩ = false
 blk : ∃ c, Blk w gd 95 c
theorem DRel.cells {w : World} {rs : RS} {defs : List Def} (h : DRel K w rs.d.dv defs) (k : Nat) (hk : k < defs.length) : ∃ gd capd xs nm vb vt, DCell K w rs defs k hk gd capd xs nm vb vt := by
 obtain ⟨xs, hr, hx⟩ := h.ex
 obtain ⟨nm, vb, vt, h1, h2⟩ := defsIn_at _ _ hx k hk
 obtain ⟨gd, capd, hv, hc⟩ := row_cell hr (by omega)
 obtain ⟨c, hcb⟩ := row_blk hr (b := gd) (by rw [hv]; rfl)
 exact ⟨gd, capd, xs, nm, vb, vt, hv, hr, hx, h1, h2.1, h2.2.1, h2.2.2.1, h2.2.2.2.1, h2.2.2.2.2.1, h2.2.2.2.2.2, hc, fun j => hcb.free j, ⟨c, hcb⟩⟩
theorem slowK (w : World) (yb : Nat) (rs : RS) (s : St) (k : Nat) (h : RRel K w yb rs s) (hk : k < s.defs.length) :
  Calls Tryz.prog 50 #[.pointer (some ⟨yb, 0, none⟩), .int .i64 k] w fun e w' => e = .returned (.tuple #[]) ∧ RRel K w' yb rs { s with defs := s.defs.set k (slowD s.defs[k]) } ∧ STo yb w w' rs rs ∧ Kp w w' (fun b => own rs.d.dv b) := by
 obtain ⟨gd, capd, xs, nm, vb, vt, hD⟩ := h.dr.cells k hk
 obtain ⟨cb, hcb⟩ := hD.blk
 have hlen := h.dr.len
 have cy : w.cell? ⟨yb, 17, none⟩ = some (.slice (some ⟨gd, 0, none⟩) s.defs.length capd) := by rw [← hD.dv]; exact h.blk.cell rfl
 have hyg : ¬ yb = gd := by rintro rfl; exact absurd (hcb.inj h.blk).1 (by decide)
 have k3 := hD.cell _ _ hD.x3
 have k4 := hD.cell _ _ hD.x4
 have k5 := hD.cell _ _ hD.x5
 have f3 := hD.free (k * 6 + 3)
 have f4 := hD.free (k * 6 + 4)
 have f5 := hD.free (k * 6 + 5)
 obtain ⟨wst, hrt, hwt⟩ := hD.at_.built
 obtain ⟨a5, p5, rfl⟩ := row_slice hrt
 have HD := hide hD
 clear hrt hwt hD
 go_enter Tryz.func50, Tryz.ntmps50
 go_wp2
 go_end0
 have hD := HD.out
 have hgd : own rs.d.dv gd := by rw [hD.dv]; rfl
 have hkp : Kp w (((w.setCell ⟨gd, k * 6 + 4, none⟩ (.bool false)).setCell ⟨gd, k * 6 + 5, none⟩ (.slice none 0 0)).setCell ⟨gd, k * 6 + 3, none⟩ (.int .i64 0)) (fun b => own rs.d.dv b) :=
  (((Kp.refl w _).set (a := ⟨gd, k * 6 + 4, none⟩) (fun _ => hgd) _).set (a := ⟨gd, k * 6 + 5, none⟩) (fun _ => hgd) _).set (a := ⟨gd, k * 6 + 3, none⟩) (fun _ => hgd) _
 have hkeep : Keeps (nK K) (nK K) w (((w.setCell ⟨gd, k * 6 + 4, none⟩ (.bool false)).setCell ⟨gd, k * 6 + 5, none⟩ (.slice none 0 0)).setCell ⟨gd, k * 6 + 3, none⟩ (.int .i64 0)) :=
  Keeps.kp hkp (fun b t c hb hbl => by have := row_type hD.row hb hbl; subst this; exact ⟨by decide, by decide⟩) _
 have hrow := row_set (row_set (row_set hD.row hgd (k * 6 + 4) (.bool false)) hgd (k * 6 + 5) (.slice none 0 0)) hgd (k * 6 + 3) (.int .i64 0)
 have hset := defsIn_set (slowD s.defs[k]) nm vb (.slice none 0 0) ⟨hD.at_.nm, hD.at_.body.keep hkeep, toksIn.nil _ _⟩ _ _ (defsIn_keep hkeep _ _ hD.its) k hk
 have e1 : (slowD s.defs[k]).id = s.defs[k].id := rfl
 have e2 : (slowD s.defs[k]).count = 0 := rfl
 have e3 : (slowD s.defs[k]).fast = false := rfl
 rw [e1, e2, e3, set_same hD.x0, set_same hD.x1, set_same hD.x2, List.set_comm _ _ (show k * 6 + 3 ≠ k * 6 + 4 by omega), List.set_comm _ _ (show k * 6 + 3 ≠ k * 6 + 5 by omega)] at hset
 have hN := h.redef hkp (defs := s.defs.set k (slowD s.defs[k])) ⟨⟨_, by simpa using hrow, hset⟩, by simpa using h.dr.len, fun b hb => Nat.lt_of_lt_of_le (h.dr.old b hb) hkp.size⟩ (fun d hd => by
  rcases List.mem_or_eq_of_mem_set hd with h1 | h1
  ·exact h.good.cb d h1
  ·rw [h1]; intro g names hn; exact h.good.cb s.defs[k] (List.getElem_mem hk) g names hn)
 exact ⟨rfl, hN.1, hN.2, hkp⟩
theorem slowS (w : World) (yb : Nat) (rs : RS) (s : St) (k : Nat) (h : RRel K w yb rs s) (hk : k < s.defs.length) :
  Calls Tryz.prog 50 #[.pointer (some ⟨yb, 0, none⟩), .int .i64 k] w fun e w' => e = .returned (.tuple #[]) ∧ RRel K w' yb rs { s with defs := s.defs.set k (slowD s.defs[k]) } ∧ STo yb w w' rs rs := by
 refine (slowK w yb rs s k h hk).mono ?_
 rintro e w' ⟨h1, h2, h3, _⟩
 exact ⟨h1, h2, h3⟩
theorem cb_set {s : St} {k : Nat} {d' : Def} (hg : SGood s) (hk : k < s.defs.length) (hb : d'.body = s.defs[k].body) : ∀ d ∈ s.defs.set k d', CBnd d.body := by
 intro d hd
 rcases List.mem_or_eq_of_mem_set hd with h1 | h1
 ·exact hg.cb d h1
 ·rw [h1, hb]; intro g names hn; exact hg.cb s.defs[k] (List.getElem_mem hk) g names hn
theorem countS_fast (w : World) (yb : Nat) (rs : RS) (s : St) (k : Nat) (h : RRel K w yb rs s) (hk : k < s.defs.length) (hf : s.defs[k].fast = true) :
  Calls Tryz.prog 146 #[.pointer (some ⟨yb, 0, none⟩), .int .i64 k] w fun e w' => e = .returned (.tuple #[]) ∧ w' = w := by
 obtain ⟨gd, capd, xs, nm, vb, vt, hD⟩ := h.dr.cells k hk
 have hlen := h.dr.len
 have cy : w.cell? ⟨yb, 17, none⟩ = some (.slice (some ⟨gd, 0, none⟩) s.defs.length capd) := by rw [← hD.dv]; exact h.blk.cell rfl
 have k4 := hD.cell _ _ hD.x4
 rw [hf] at k4
 clear hD hf
 go_enter Tryz.func146, Tryz.ntmps146
 go_wp2
 refine bodyPost_ret (results_none rfl _ _ _) rfl ?_
 exact ⟨rfl, rfl⟩
theorem countS_cold (w : World) (yb : Nat) (rs : RS) (s : St) (k : Nat) (h : RRel K w yb rs s) (hk : k < s.defs.length) (hf : s.defs[k].fast = false) (hc : wrap64 (s.defs[k].count + 1) < s.hot) :
  Calls Tryz.prog 146 #[.pointer (some ⟨yb, 0, none⟩), .int .i64 k] w fun e w' => e = .returned (.tuple #[]) ∧ RRel K w' yb rs { s with defs := s.defs.set k { s.defs[k] with count := wrap64 (s.defs[k].count + 1) } } ∧ STo yb w w' rs rs := by
 obtain ⟨gd, capd, xs, nm, vb, vt, hD⟩ := h.dr.cells k hk
 obtain ⟨cb, hcb⟩ := hD.blk
 have hlen := h.dr.len
 have cy : w.cell? ⟨yb, 17, none⟩ = some (.slice (some ⟨gd, 0, none⟩) s.defs.length capd) := by rw [← hD.dv]; exact h.blk.cell rfl
 have ch : w.cell? ⟨yb, 19, none⟩ = some (.int .i64 s.hot) := by rw [← h.hot]; exact h.blk.cell rfl
 have hyg : ¬ yb = gd := by rintro rfl; exact absurd (hcb.inj h.blk).1 (by decide)
 have k3 := hD.cell _ _ hD.x3
 have k4 := hD.cell _ _ hD.x4
 have f3 := hD.free (k * 6 + 3)
 have HF := hide hf
 rw [hf] at k4
 have HD := hide hD
 clear hf hD
 generalize hcn : wrap64 (s.defs[k].count + 1) = cn at hc ⊢
 go_enter Tryz.func146, Tryz.ntmps146
 go_wp2
 go_quiet (fail)
 go_wp2
 go_end0
 have hD := HD.out
 have hgd : own rs.d.dv gd := by rw [hD.dv]; rfl
 have hkp : Kp w (w.setCell ⟨gd, k * 6 + 3, none⟩ (.int .i64 cn)) (fun b => own rs.d.dv b) := (Kp.refl w _).set (a := ⟨gd, k * 6 + 3, none⟩) (fun _ => hgd) _
 have hkeep : Keeps (nK K) (nK K) w (w.setCell ⟨gd, k * 6 + 3, none⟩ (.int .i64 cn)) :=
  Keeps.kp hkp (fun b t c hb hbl => by have := row_type hD.row hb hbl; subst this; exact ⟨by decide, by decide⟩) _
 have hrow := row_set hD.row hgd (k * 6 + 3) (.int .i64 cn)
 have hset := defsIn_set { s.defs[k] with count := cn } nm vb vt ⟨hD.at_.nm, hD.at_.body.keep hkeep, toksIn_keep hkeep hD.at_.built⟩ _ _ (defsIn_keep hkeep _ _ hD.its) k hk
 have e4 : (xs.set (k * 6 + 3) (.int .i64 cn))[k * 6 + 4]? = some (.bool s.defs[k].fast) := by rw [List.getElem?_set_ne (by omega)]; exact hD.x4
 have e5 : (xs.set (k * 6 + 3) (.int .i64 cn))[k * 6 + 5]? = some vt := by rw [List.getElem?_set_ne (by omega)]; exact hD.x5
 dsimp only at hset
 rw [set_same hD.x0, set_same hD.x1, set_same hD.x2, set_same e4, set_same e5] at hset
 have hN := h.redef hkp ⟨⟨_, by simpa using hrow, hset⟩, by simpa using h.dr.len, fun b hb => Nat.lt_of_lt_of_le (h.dr.old b hb) hkp.size⟩ (cb_set h.good hk rfl)
 have hdr : Kp w ((w.setCell ⟨gd, k * 6 + 3, none⟩ (.int .i64 cn)).drewN nq) (fun b => own rs.d.dv b) := hkp.drewN _
 exact ⟨rfl, h.redef hdr ((hN.1.dr).kpF ((Kp.refl _ _).drewN _)) (cb_set h.good hk rfl)⟩
theorem countS_hot (w : World) (yb : Nat) (rs : RS) (s : St) (k g : Nat) (h : RRel K w yb rs s) (hk : k < s.defs.length) (hf : s.defs[k].fast = false) (hc : s.hot ≤ wrap64 (s.defs[k].count + 1)) (bs : List Tok)
  (hbs : buildsG (s.defs.set k { s.defs[k] with count := wrap64 (s.defs[k].count + 1), fast := true }) g s.built.toNat s.defs[k].body = some bs) :
  Calls Tryz.prog 146 #[.pointer (some ⟨yb, 0, none⟩), .int .i64 k] w fun e w' => e = .returned (.tuple #[]) ∧ RRel K w' yb rs { s with defs := s.defs.set k { s.defs[k] with count := wrap64 (s.defs[k].count + 1), fast := true, built := bs } } ∧ STo yb w w' rs rs := by
 obtain ⟨gd, capd, xs, nm, vb, vt, hD⟩ := h.dr.cells k hk
 obtain ⟨cb, hcb⟩ := hD.blk
 have hlen := h.dr.len
 have cy : w.cell? ⟨yb, 17, none⟩ = some (.slice (some ⟨gd, 0, none⟩) s.defs.length capd) := by rw [← hD.dv]; exact h.blk.cell rfl
 have ch : w.cell? ⟨yb, 19, none⟩ = some (.int .i64 s.hot) := by rw [← h.hot]; exact h.blk.cell rfl
 have cbu : w.cell? ⟨yb, 20, none⟩ = some (.int .i64 s.built) := by rw [← h.blt]; exact h.blk.cell rfl
 have hyg : ¬ yb = gd := by rintro rfl; exact absurd (hcb.inj h.blk).1 (by decide)
 have k2 := hD.cell _ _ hD.x2
 have k3 := hD.cell _ _ hD.x3
 have k4 := hD.cell _ _ hD.x4
 have k5 := hD.cell _ _ hD.x5
 have f3 := hD.free (k * 6 + 3)
 have f4 := hD.free (k * 6 + 4)
 have f5 := hD.free (k * 6 + 5)
 obtain ⟨xsb, hrb, -⟩ := hD.at_.body.out
 obtain ⟨ab, pb, hvb⟩ := row_slice hrb
 obtain ⟨wst, hrt, hwt⟩ := hD.at_.built
 obtain ⟨a5, p5, hvt⟩ := row_slice hrt
 subst hvb
 subst hvt
 rw [hf] at k4
 generalize hcn : wrap64 (s.defs[k].count + 1) = cn at hc hbs ⊢
 have hgd : own rs.d.dv gd := by rw [hD.dv]; rfl
 obtain ⟨w2, hw2⟩ : ∃ w2, w2 = (w.setCell ⟨gd, k * 6 + 3, none⟩ (.int .i64 cn)).setCell ⟨gd, k * 6 + 4, none⟩ (.bool true) := ⟨_, rfl⟩
 have hkp2 : Kp w w2 (fun b => own rs.d.dv b) := by rw [hw2]; exact ((Kp.refl w _).set (a := ⟨gd, k * 6 + 3, none⟩) (fun _ => hgd) _).set (a := ⟨gd, k * 6 + 4, none⟩) (fun _ => hgd) _
 have hkeep2 : Keeps (nK K) (nK K) w w2 := Keeps.kp hkp2 (fun b t c hb hbl => by have := row_type hD.row hb hbl; subst this; exact ⟨by decide, by decide⟩) _
 have hrow2 : w2.ownsRow 0 95 6 rs.d.dv s.defs.length ((xs.set (k * 6 + 3) (.int .i64 cn)).set (k * 6 + 4) (.bool true)) := by rw [hw2]; exact row_set (row_set hD.row hgd (k * 6 + 3) (.int .i64 cn)) hgd (k * 6 + 4) (.bool true)
 have hset2 : defsIn K w2 (s.defs.set k { s.defs[k] with count := cn, fast := true }) ((xs.set (k * 6 + 3) (.int .i64 cn)).set (k * 6 + 4) (.bool true)) := by
  have hset := defsIn_set { s.defs[k] with count := cn, fast := true } nm (.slice ab s.defs[k].body.length pb) (.slice a5 wst.length p5) ⟨hD.at_.nm, hD.at_.body.keep hkeep2, toksIn_keep hkeep2 hD.at_.built⟩ _ _ (defsIn_keep hkeep2 _ _ hD.its) k hk
  have e5 : ((xs.set (k * 6 + 3) (.int .i64 cn)).set (k * 6 + 4) (.bool true))[k * 6 + 5]? = some (.slice a5 wst.length p5) := by rw [List.getElem?_set_ne (by omega), List.getElem?_set_ne (by omega)]; exact hD.x5
  dsimp only at hset
  rw [set_same hD.x0, set_same hD.x1, set_same hD.x2, set_same e5] at hset
  exact hset
 have hN2 := h.redef hkp2 (defs := s.defs.set k { s.defs[k] with count := cn, fast := true }) ⟨⟨_, by simpa using hrow2, hset2⟩, by simpa using h.dr.len, fun b hb => Nat.lt_of_lt_of_le (h.dr.old b hb) hkp2.size⟩ (cb_set h.good hk rfl)
 have hb0 := h.good.b0
 have hb1 := h.good.b1
 have hcbk : CBnd s.defs[k].body := h.good.cb s.defs[k] (List.getElem_mem hk)
 have hlbs : bs.length ≤ 4000000000000 := by
  have h1 := builds_len (cb_set (d' := { s.defs[k] with count := cn, fast := true }) h.good hk rfl) _ _ _ hcbk hbs
  exact Nat.le_trans h1 (bnd_le _ (by omega))
 have HBU : Hid (∀ wx, Kp w2 wx (fun _ => False) → Calls Tryz.prog 169 #[.pointer (some ⟨yb, 0, none⟩), .slice ab s.defs[k].body.length pb, .int .i64 s.built, .slice none 0 0] wx fun e w' => ∃ v' ws', e = .returned v' ∧ Kp w2 w' (fun _ => False) ∧ w'.ownsRow 0 9 1 v' ws'.length (ws'.map Value.string) ∧ (texts ws' = bs ∧ ∀ b, own v' b → nK K b) ∧ w'.cell? ⟨gd, k * 6 + 5, none⟩ = some (.slice a5 wst.length p5) ∧ w'.frozen? ⟨gd, k * 6 + 5, none⟩ = false ∧ w'.cell? ⟨yb, 17, none⟩ = some (.slice (some ⟨gd, 0, none⟩) s.defs.length capd)) := fun wx hkx => by
  have h1 := buildsAll w2 yb rs _ g hN2.1.blk hN2.1.dr (cb_set (d' := { s.defs[k] with count := cn, fast := true }) h.good hk rfl) s.built.toNat (by omega) s.defs[k].body bs wx (.slice ab s.defs[k].body.length pb) (.slice none 0 0) [] hbs (hD.at_.body.keep hkeep2) hkx (World.ownsRow_nil _ _ _ _) (fun b hb => by simp [own, Value.ownBlock] at hb) (by simpa using hlbs) hcbk
  have e : ((s.built.toNat : Nat) : Int) = s.built := by omega
  rw [e] at h1
  refine h1.mono ?_
  rintro e w' ⟨v', ws', h2, h3, h4, hnw, _, _, _, h5⟩
  obtain ⟨c2, hc2⟩ := row_blk hrow2 hgd
  have hc3 := h3.blk hc2 (by simp)
  have e5 : ((xs.set (k * 6 + 3) (.int .i64 cn)).set (k * 6 + 4) (.bool true))[k * 6 + 5]? = some (.slice a5 wst.length p5) := by rw [List.getElem?_set_ne (by omega), List.getElem?_set_ne (by omega)]; exact hD.x5
  obtain ⟨gd', capd', hv', hcl⟩ := row_cell (h3.row hrow2 (by simp)) (by omega)
  rw [hD.dv] at hv'
  injection hv' with e1 e2 e3
  injection e1 with e1
  injection e1 with e1
  exact ⟨v', ws', h2, h3, h4, ⟨by simpa [texts] using h5, fun b hb hK => by have q1 := h.dr.old b hK; have q2 := hkp2.size; have q3 : w2.heap.size ≤ b := hnw b hb; omega⟩, by rw [e1]; exact hcl _ _ e5, hc3.free _, by rw [← hD.dv]; exact (h3.blk hN2.1.blk (by simp)).cell rfl⟩
 have HD := hide hD
 have HW2 := hide hw2
 have HS2 := hide hset2
 have HR2 := hide hrow2
 have HN2 := hide hN2
 have HK2 := hide hkp2
 clear hrb hrt hwt hf hD hN2 hkp2 hrow2 hset2 hkeep2 hbs hlbs hcbk hw2
 go_enter Tryz.func146, Tryz.ntmps146
 go_wp2
 go_quiet (fail)
 go_wp2
 go_region_with (go_at_call 169; refine (HBU.out _ (by rw [HW2.out]; exact ⟨rfl, rfl, rfl, Nat.le_refl _, fun _ _ _ => rfl⟩)).mono ?_; rintro e w5 ⟨v5, ws5, rfl, hk5, hr5, ht5, kk5, ff5, cc5⟩; obtain ⟨av, pv, rfl⟩ := row_slice hr5; have HT5 := hide ht5; clear ht5)
 all_goals
  go_wp2
  go_end0
  have hgd : own rs.d.dv gd := by rw [HD.out.dv]; rfl
  have hkp5 : Kp w2 (w5.setCell ⟨gd, k * 6 + 5, none⟩ (.slice av ws5.length pv)) (fun b => own rs.d.dv b) := (hk5.mono (fun _ _ h => h.elim)).set (a := ⟨gd, k * 6 + 5, none⟩) (fun _ => hgd) _
  have hkp : Kp w (w5.setCell ⟨gd, k * 6 + 5, none⟩ (.slice av ws5.length pv)) (fun b => own rs.d.dv b) := HK2.out.trans hkp5
  have hkeep5 : Keeps (nK K) (nK K) w2 (w5.setCell ⟨gd, k * 6 + 5, none⟩ (.slice av ws5.length pv)) := Keeps.kp hkp5 (fun b t c hb hbl => by have := row_type HR2.out hb hbl; subst this; exact ⟨by decide, by decide⟩) _
  have hrow5 := row_set (hk5.row HR2.out (by simp)) hgd (k * 6 + 5) (.slice av ws5.length pv)
  have hr5' : (w5.setCell ⟨gd, k * 6 + 5, none⟩ (.slice av ws5.length pv)).ownsRow 0 9 1 (.slice av ws5.length pv) ws5.length (ws5.map Value.string) := by
   obtain ⟨c2, hc2⟩ := row_blk HR2.out hgd
   exact ownsRow_setCell_other hr5 (a := ⟨gd, k * 6 + 5, none⟩) (own_ne hr5 (hk5.blk hc2 (by simp)) (by decide)) _
  have hD := HD.out
  obtain ⟨nm', vb', vt', hat', y0, y1, y2, y3, y4, y5⟩ := defsIn_at _ _ (defsIn_keep hkeep5 _ _ HS2.out) k (by simpa using hk)
  have hset := defsIn_set { s.defs[k] with count := cn, fast := true, built := bs } nm' vb' (.slice av ws5.length pv) ⟨by rw [hat'.nm]; simp, by have := hat'.body; simpa using this, ⟨ws5, hr5', HT5.out.1, HT5.out.2⟩⟩ _ _ (defsIn_keep hkeep5 _ _ HS2.out) k (by simpa using hk)
  simp only [List.getElem_set_self] at y1 y3 y4
  dsimp only at hset
  rw [set_same y0, set_same y1, set_same y2, set_same y3, set_same y4, List.set_set] at hset
  exact ⟨rfl, h.redef hkp ⟨⟨_, by simpa using hrow5, hset⟩, by simpa using h.dr.len, fun b hb => Nat.lt_of_lt_of_le (h.dr.old b hb) hkp.size⟩ (cb_set h.good hk rfl)⟩
end
end Go.Proofs.YtldifaahmpecfaaGreatDoor
