import Derived.Test.YtldifaahmpecfaaGreatDoorV10
import Derived.Test.YtldifaahmpecfaaGreatDoorV12
import Derived.Laws.AppendOwnNone
namespace Go.Proofs.YtldifaahmpecfaaGreatDoor
set_option maxRecDepth 1000000
set_option maxHeartbeats 4000000
set_option linter.all false
section
open Go.RowKit
variable {K : Nat → Prop}
structure SGood (s : St) : Prop where
 g : Good s.rs s.mem s.out
 s0 : 0 ≤ s.steps
 s1 : s.steps ≤ 2001
 s2 : s.e = 0 → s.steps ≤ 2000
 d0 : 0 ≤ s.depth
 d1 : s.depth ≤ 20
 b0 : 0 ≤ s.built
 b1 : s.built ≤ 3
 cb : ∀ d ∈ s.defs, ∀ g names, callsG g d.body = some names → names.length ≤ 1000
structure RRel (K : Nat → Prop) (w : World) (yb : Nat) (rs : RS) (s : St) : Prop where
 inv : ∃ ns, RInv w yb rs ns ∧ (s.e = 0 → ns = s.rs.reverse)
 e : rs.e = s.e
 st : rs.st = s.steps
 mem : rs.mem = s.mem
 out : rs.out = s.out
 ids : rs.d.ids = s.ids
 hot : rs.d.hot = s.hot
 blt : rs.d.blt = s.built
 dp : rs.d.dp = s.depth
 dr : DRel K w rs.d.dv s.defs
 good : SGood s
abbrev STo (yb : Nat) (w w' : World) (rs rs' : RS) : Prop := To (fun k => k = yb) w w' (fun k => own rs.nv k ∨ own rs.d.dv k) (fun k => own rs'.nv k ∨ own rs'.d.dv k)
theorem RRel.blk {w : World} {yb : Nat} {rs : RS} {s : St} (h : RRel K w yb rs s) : Blk w yb 65 rs.arr := by obtain ⟨ns, hi, _⟩ := h.inv; exact hi.blk
theorem RRel.noB {w : World} {yb : Nat} {rs : RS} {s : St} (h : RRel K w yb rs s) : NoB w (fun k => k = yb ∨ (own rs.nv k ∨ own rs.d.dv k)) := by
 obtain ⟨ns, hi, _⟩ := h.inv
 obtain ⟨xs, hr, _⟩ := h.dr.ex
 rintro b t c (e | e | e) hb
 ·subst e; have := (hb.inj hi.blk).1; subst this; exact ⟨by decide, by decide⟩
 ·have := row_type hi.row e hb; subst this; exact ⟨by decide, by decide⟩
 ·have := row_type hr e hb; subst this; exact ⟨by decide, by decide⟩
theorem RTo.noB {w : World} {yb : Nat} {rs : RS} {ns : List Int} (hi : RInv w yb rs ns) : NoB w (fun k => k = yb ∨ own rs.nv k) := by
 rintro b t c (e | e) hb
 ·subst e; have := (hb.inj hi.blk).1; subst this; exact ⟨by decide, by decide⟩
 ·have := row_type hi.row e hb; subst this; exact ⟨by decide, by decide⟩
theorem RTo.noD {w : World} {yb : Nat} {rs : RS} {ns : List Int} (hi : RInv w yb rs ns) (b : Nat) (c : Array Value) (h : b = yb ∨ own rs.nv b) : ¬ Blk w b 95 c := by
 intro hb
 rcases h with e | e
 ·subst e; exact absurd (hb.inj hi.blk).1 (by decide)
 ·exact absurd (row_type hi.row e hb) (by decide)
theorem RTo.sto {w w' : World} {yb : Nat} {rs rs' : RS} (h : RTo yb w w' rs rs') (hd : rs'.d.dv = rs.d.dv) : STo yb w w' rs rs' :=
 ⟨(To.kp h).mono (fun k _ hk => hk.imp_right .inl), fun k hk => by
  rcases hk with hk | hk
  ·rcases To.nx h k hk with h1 | h1
   ·exact .inl (.inl h1)
   ·exact .inr h1
  ·rw [hd] at hk; exact .inl (.inr hk)⟩
theorem DRel.rto {w w' : World} {yb : Nat} {rs rs' : RS} {ns : List Int} {defs : List Def} (hi : RInv w yb rs ns) (h : RTo yb w w' rs rs') (hd : DRel K w rs.d.dv defs) : DRel K w' rs.d.dv defs :=
 hd.kp (To.kp h) (RTo.noB hi) (RTo.noD hi)
theorem RRel.turn {w w' : World} {yb : Nat} {rs rs' : RS} {s s' : St} (h : RRel K w yb rs s) (hto : RTo yb w w' rs rs') (hd : rs'.d = rs.d) (hi : ∃ ns, RInv w' yb rs' ns ∧ (s'.e = 0 → ns = s'.rs.reverse))
  (he : rs'.e = s'.e) (hst : rs'.st = s'.steps) (hm : rs'.mem = s'.mem) (ho : rs'.out = s'.out) (h1 : s'.ids = s.ids) (h2 : s'.hot = s.hot) (h3 : s'.built = s.built) (h4 : s'.depth = s.depth) (h5 : s'.defs = s.defs) (hg : SGood s') : RRel K w' yb rs' s' ∧ STo yb w w' rs rs' := by
 obtain ⟨ns, hi0, _⟩ := h.inv
 refine ⟨⟨hi, he, hst, hm, ho, by rw [hd, h.ids, h1], by rw [hd, h.hot, h2], by rw [hd, h.blt, h3], by rw [hd, h.dp, h4], ?_, hg⟩, hto.sto (by rw [hd])⟩
 rw [hd, h5]; exact DRel.rto hi0 hto h.dr
theorem stepR_full (w : World) (yb : Nat) (s : RS) (ns : List Int) (h : RInv w yb s ns) (he : s.e = 0) (h1 : s.st = 2000) :
  Calls Tryz.prog 76 #[.pointer (some ⟨yb, 0, none⟩)] w fun e w' => e = .returned (.bool false) ∧ RInv w' yb { s with e := 12, st := 2001 } ns ∧ RTo yb w w' s { s with e := 12, st := 2001 } := by
 have c1 : w.cell? ⟨yb, 21, none⟩ = some (.int .i64 0) := h.blk.cell (by rw [← he]; rfl)
 have c2 : w.cell? ⟨yb, 22, none⟩ = some (.int .i64 2000) := h.blk.cell (by rw [← h1]; rfl)
 have f1 := h.blk.free 21
 have f2 := h.blk.free 22
 clear he h1
 go_enter Tryz.func76, Tryz.ntmps76
 go_wp2
 go_ret
 refine ⟨rfl, (h.setE 12).setSt 2001, ?_⟩
 exact (RTo.set (s' := { s with e := 12 }) rfl 21 _).trans (RTo.set (s := { s with e := 12 }) rfl 22 _)
theorem stepS (w : World) (yb : Nat) (rs : RS) (s : St) (h : RRel K w yb rs s) (he : s.e = 0) :
  Calls Tryz.prog 76 #[.pointer (some ⟨yb, 0, none⟩)] w fun e w' => e = .returned (.bool (decide (s.step.e = 0))) ∧ ∃ rs', RRel K w' yb rs' s.step ∧ STo yb w w' rs rs' ∧ rs'.nv = rs.nv := by
 obtain ⟨ns, hi, hns⟩ := h.inv
 have hg := h.good
 by_cases hlt : s.steps < 2000
 ·have hs : s.step = { s with steps := s.steps + 1 } := by unfold St.step; rw [if_pos hlt]
  refine (stepR w yb rs ns hi (by rw [h.e, he]) (by rw [h.st]; exact hg.s0) (by rw [h.st]; exact hlt)).mono ?_
  rintro e w' ⟨rfl, hi', hto⟩
  rw [hs]
  refine ⟨by rw [decide_eq_true (show ({ s with steps := s.steps + 1 } : St).e = 0 from he)], _, (h.turn (s' := { s with steps := s.steps + 1 }) hto rfl ⟨ns, hi', hns⟩ h.e (by show rs.st + 1 = s.steps + 1; rw [h.st]) h.mem h.out rfl rfl rfl rfl rfl ?_).1, hto.sto rfl, rfl⟩
  exact ⟨hg.g, by have := hg.s0; show 0 ≤ s.steps + 1; omega, by show s.steps + 1 ≤ 2001; omega, fun _ => by show s.steps + 1 ≤ 2000; omega, hg.d0, hg.d1, hg.b0, hg.b1, hg.cb⟩
 ·have h20 : s.steps = 2000 := by have := hg.s2 he; omega
  have hs : s.step = { s with e := 12, steps := s.steps + 1 } := by unfold St.step; rw [if_neg hlt]
  refine (stepR_full w yb rs ns hi (by rw [h.e, he]) (by rw [h.st, h20])).mono ?_
  rintro e w' ⟨rfl, hi', hto⟩
  rw [hs]
  refine ⟨rfl, _, (h.turn (s' := { s with e := 12, steps := s.steps + 1 }) hto rfl ⟨ns, hi', (fun h => by cases h)⟩ rfl (by show 2001 = s.steps + 1; rw [h20]; rfl) h.mem h.out rfl rfl rfl rfl rfl ?_).1, hto.sto rfl, rfl⟩
  exact ⟨hg.g, by have := hg.s0; show 0 ≤ s.steps + 1; omega, by show s.steps + 1 ≤ 2001; omega, (fun h => by cases h), hg.d0, hg.d1, hg.b0, hg.b1, hg.cb⟩
theorem putS (w : World) (yb : Nat) (rs : RS) (s : St) (n : Int) (h : RRel K w yb rs s) (he : s.e = 0) (hn : In n) :
  Calls Tryz.prog 78 #[.pointer (some ⟨yb, 0, none⟩), .int .i64 n] w fun e w' => e = .returned (.tuple #[]) ∧ ∃ rs', RRel K w' yb rs' (s.put n) ∧ STo yb w w' rs rs' := by
 obtain ⟨ns, hi, hns⟩ := h.inv
 have hg := h.good
 have hns := hns he
 subst hns
 by_cases hlt : s.rs.length < 32
 ·have hs : s.put n = { s with rs := n :: s.rs } := by unfold St.put; rw [if_pos hlt]
  refine (layR1 w yb rs s.rs n hi (by rw [h.e, he]) hlt).mono ?_
  rintro e w' ⟨rfl, v', hi', hto⟩
  rw [hs]
  refine ⟨rfl, _, h.turn hto rfl ⟨_, hi', fun _ => rfl⟩ h.e h.st h.mem h.out rfl rfl rfl rfl rfl ?_⟩
  exact ⟨⟨by simp only [List.mem_cons, forall_eq_or_imp]; exact ⟨hn, hg.g.ins⟩, hg.g.mems, by simp only [List.length_cons]; omega, hg.g.osz⟩, hg.s0, hg.s1, hg.s2, hg.d0, hg.d1, hg.b0, hg.b1, hg.cb⟩
 ·have hs : s.put n = { s with e := 7 } := by unfold St.put; rw [if_neg hlt]
  refine (layR_full w yb rs _ n hi (by rw [h.e, he]) (by have := hg.g.len; simp; omega)).mono ?_
  rintro e w' ⟨rfl, hi', hto⟩
  rw [hs]
  refine ⟨rfl, _, h.turn hto rfl ⟨_, hi', (fun h => by cases h)⟩ rfl h.st h.mem h.out rfl rfl rfl rfl rfl ?_⟩
  exact ⟨hg.g, hg.s0, hg.s1, (fun h => by cases h), hg.d0, hg.d1, hg.b0, hg.b1, hg.cb⟩
theorem wordS (w : World) (yb : Nat) (rs : RS) (s : St) (k : Nat) (t : ByteArray) (hk : plainL[k]? = some t.toList) (h : RRel K w yb rs s) (he : s.e = 0) :
  Calls Tryz.prog 79 #[.pointer (some ⟨yb, 0, none⟩), .string t] w fun e w' => e = .returned (.tuple #[]) ∧ ∃ rs', RRel K w' yb rs' (s.word k) ∧ STo yb w w' rs rs' := by
 obtain ⟨ns, hi, hns⟩ := h.inv
 have hg := h.good
 have hns := hns he
 subst hns
 refine (plainR_all k t hk w yb rs s.rs hi (by rw [h.e, he]) (by rw [h.out]; exact hg.g.osz) hg.g.ins).mono ?_
 rintro e w' ⟨rfl, hp⟩
 obtain ⟨rs', ns', hi', hto, e1, e2, e3, e4, e5⟩ := hp.ex
 rw [h.mem, h.out] at e1 e2 e3 e5
 have hf : Fine (plainP k s.rs s.mem s.out) := plain_fine _ hg.g
 injection e4 with e4 e6
 refine ⟨rfl, rs', h.turn hto e6 ⟨ns', hi', e5⟩ e1 (by rw [e4, h.st]; rfl) e2 e3 rfl rfl rfl rfl rfl ?_⟩
 exact ⟨hf, hg.s0, hg.s1, fun _ => hg.s2 he, hg.d0, hg.d1, hg.b0, hg.b1, hg.cb⟩
theorem testS (w : World) (yb : Nat) (rs : RS) (s : St) (h : RRel K w yb rs s) (he : s.e = 0) :
  Calls Tryz.prog 195 #[.pointer (some ⟨yb, 0, none⟩)] w fun e w' => e = .returned (.bool s.test.2) ∧ ∃ rs', RRel K w' yb rs' s.test.1 ∧ STo yb w w' rs rs' := by
 go_enter Tryz.func195, Tryz.ntmps195
 go_wp2_with fail
 refine (stepS w yb rs s h he).mono ?_
 rintro e w1 ⟨rfl, rs1, h1, hto1, -⟩
 by_cases hs : s.step.e = 0
 ·have hd : decide (s.step.e = 0) = true := decide_eq_true hs
  rw [hd]
  clear hd
  obtain ⟨ns, hi, hns⟩ := h1.inv
  have hg := h1.good
  have hns := hns hs
  subst hns
  cases hrs : s.step.rs with
  | nil =>
   have HT : Hid (s.test = (s.step.err 6, false)) := by unfold Hid St.test; rw [if_pos hs, hrs]
   go_wp2_with fail
   refine (takeR_under _ _ _ _ _ hi (by rw [hrs]; simp)).mono ?_
   rintro e w2 ⟨v, rfl, hi2, hto2⟩
   have HN := h1.turn (s' := s.step.err 6) hto2 rfl ⟨_, hi2, (fun h => by cases h)⟩ rfl h1.st h1.mem h1.out rfl rfl rfl rfl rfl ⟨hg.g, hg.s0, hg.s1, (fun h => by cases h), hg.d0, hg.d1, hg.b0, hg.b1, hg.cb⟩
   clear hi2 hto2 hi
   go_wp2
   go_ret
   rw [HT.out]
   exact ⟨rfl, _, HN.1, hto1.trans HN.2⟩
  | cons a r =>
   have HT : Hid (s.test = ({ s.step with rs := r }, decide (a ≠ 0))) := by unfold Hid St.test; rw [if_pos hs, hrs]
   rw [hrs] at hi
   have hgg := hg.g
   rw [hrs] at hgg
   go_wp2_with fail
   refine (takeR1 _ _ _ _ _ hi).mono ?_
   rintro e w2 ⟨g, v', rfl, hT⟩
   have HN := h1.turn (s' := { s.step with rs := r }) hT.to rfl ⟨_, hT.inv, fun _ => rfl⟩ h1.e h1.st h1.mem h1.out rfl rfl rfl rfl rfl ⟨⟨fun x hx => hgg.ins x (by simp [hx]), hgg.mems, by have := hgg.len; simp only [List.length_cons] at this; show r.length ≤ 32; omega, hgg.osz⟩, hg.s0, hg.s1, hg.s2, hg.d0, hg.d1, hg.b0, hg.b1, hg.cb⟩
   have k0 := hT.blk.cell (o := 0) rfl
   clear hT hi hgg
   go_wp2
   go_ret
   rw [HT.out]
   refine ⟨?_, _, HN.1, hto1.trans HN.2⟩
   by_cases ha : a = 0 <;> simp [ha]
 ·have hd : decide (s.step.e = 0) = false := decide_eq_false hs
  rw [hd]
  clear hd
  have HT : Hid (s.test = (s.step, false)) := by unfold Hid St.test; rw [if_neg hs]
  go_wp2
  go_ret
  rw [HT.out]
  exact ⟨rfl, _, h1, hto1⟩
end
section
open Go.RowKit
variable {K : Nat → Prop}
theorem grown_refl (w : World) (r : Option Nat) : w.grownBy w r := ⟨rfl, rfl, rfl, Nat.le_refl _, fun _ _ _ => rfl⟩
section
variable {P : Program} (w : World)
theorem wpList_append_row {ops : Array Oper} {rest : List Oper} {o : Oper} {a : Act} {Q : Exit → Act → World → Prop} (hgd : o.guard = none) (s x : Operand) (t : TypeId)
  (ho : o.op = .call { callee := .builtin .append, args := #[s, x], argTypes := #[t, t] })
  (e : TypeId) (i : TypeInfo) (z : Value) (bytes : Nat) (ht : P.underlying t = some (.slice e)) (hi : P.info? e = some i) (hz : i.zero = some z)
  (hsize : i.size = 1) (hby : i.bytes = bytes) (hzs : z.cells.size = 1)
  (v : Value) (n : Nat) (xs : List Value) (hs : a.eval s = v) (hown : w.ownsRow 0 e 1 v n xs)
  (v2 : Value) (m : Nat) (news : List Value) (hx : a.eval x = v2) (hown2 : w.ownsRow 0 e 1 v2 m news) (h1 : ∀ u ∈ news, u.oneCell' = true)
  (h63 : n + m ≤ maxLen) (hbytes : (n + m) * bytes ≤ 140737488355328)
  (h : ∀ v' w', w'.ownsRow 0 e 1 v' (n + m) (xs ++ news) → w.grownBy w' v.ownBlock → (∀ k, own v' k → own v k ∨ w.heap.size ≤ k) → wpList P ops Q rest (a.put o.dst v') w') : wpList P ops Q (o :: rest) a w := by
 rcases hown2.2 with ⟨rfl, h0⟩ | ⟨g, cap, cur, rfl, _, hgg, hnc, hcm, hcs, htk⟩
 ·subst h0
  have hn : news = [] := List.eq_nil_of_length_eq_zero (by simpa using hown2.1)
  subst hn
  refine wpList_append_own_none hgd s x t ho 0 e i 1 ht hi v n xs hs hown hx ?_
  refine h v w ?_ (grown_refl _ _) (fun k hk => .inl hk)
  simpa using hown
 ·refine wpList_append_to w hgd s x t ho e i z 1 bytes ht hi hz hsize hby hzs (by decide) v n xs hs hown ⟨g, 0, none⟩ m cap news hx hown2.1 ?_ h1 h63 hbytes h
  intro j u hj
  rw [addr_add]
  have hb : Blk w g e cur := hgg
  refine hb.cell ?_
  rw [← htk, List.getElem?_take] at hj
  split at hj
  ·simpa using hj
  ·cases hj
end
theorem one_texts (ws : List ByteArray) : ∀ u ∈ ws.map Value.string, u.oneCell' = true := by
 intro u hu
 obtain ⟨x, _, rfl⟩ := List.mem_map.1 hu
 rfl
theorem callsG_zero (l : List It) : callsG 0 l = none := by cases l <;> rfl
theorem callsG_nil (g : Nat) : callsG (g + 1) [] = some [] := rfl
theorem callsG_cons {g : Nat} {x : It} {r : List It} {names : List Tok} (h : callsG (g + 1) (x :: r) = some names) :
  ∃ a b c, callsG g x.a = some a ∧ callsG g x.b = some b ∧ callsG g r = some c ∧ names = (if x.kind = 99 then [x.name] else []) ++ a ++ b ++ c := by
 rw [callsG] at h
 split at h
 ·rename_i a b c h1 h2 h3
  injection h with h
  exact ⟨a, b, c, h1, h2, h3, h.symm⟩
 ·cases h
def NRel (w wr : World) (v : Value) (dn : List Tok) : Prop := ∃ ws, texts ws = dn ∧ wr.ownsRow 0 9 1 v ws.length (ws.map Value.string) ∧ (∀ b, own v b → New w b)
def CCalls (K : Nat → Prop) (G : Nat) : Prop := ∀ (l : List It) (names : List Tok) (w : World) (v : Value), callsG G l = some names → names.length ≤ 1000 → Body K w v l →
 Calls Tryz.prog 194 #[v] w fun e w' => ∃ v', e = .returned v' ∧ Kp w w' (fun _ => False) ∧ NRel w w' v' names
theorem byte_eq {k : Nat} (hk : ¬ k = 99) : ((k : Int) == 99) = false := by simpa using (by omega : ¬ ((k : Int) = 99))
theorem NRel.mono {w w' wr : World} {v : Value} {dn : List Tok} (h : NRel w' wr v dn) (hs : w.heap.size ≤ w'.heap.size) : NRel w wr v dn := by
 obtain ⟨ws, h1, h2, h3⟩ := h
 exact ⟨ws, h1, h2, fun b hb => Nat.le_trans hs (h3 b hb)⟩
theorem callsP (G : Nat) (IH : ∀ g, g < G → CCalls K g) : CCalls K G := by
 intro l names w v hc hlen hbody
 obtain ⟨i0, hi, hz0, hz1, hz2⟩ := info_parts Tryz.info9
 obtain ⟨xs, hrow, -, hits⟩ := hbody.out
 have hmax : l.length ≤ 9223372036854775807 := by
  rcases hrow.2 with ⟨_, h0⟩ | ⟨_, _, _, _, _, _, h1, h2, _⟩
  ·omega
  ·unfold maxLen at h2; omega
 obtain ⟨ao, cap, rfl⟩ := row_slice hrow
 have HI := hide IH
 have HIT := hide hits
 have HROW := hide hrow
 clear IH hits hrow hbody
 have H0 : Hid (∃ (k : Nat) (g : Nat) (dn rest : List Tok), k ≤ l.length ∧ (Value.int .i64 0) = .int .i64 k ∧ g ≤ G ∧ callsG g (l.drop k) = some rest ∧ names = dn ++ rest ∧ NRel w w (.slice none 0 0) dn ∧ Kp w w (fun _ => False)) :=
  ⟨0, G, [], names, Nat.zero_le _, rfl, Nat.le_refl _, hc, rfl, ⟨[], rfl, World.ownsRow_nil _ _ _ _, fun b hb => by simp [own, Value.ownBlock] at hb⟩, Kp.refl _ _⟩
 clear hc
 go_enter Tryz.func194, Tryz.ntmps194
 go_wp2
 go_loopw [3, 4] (fun v i wr => ∃ (k : Nat) (g : Nat) (dn rest : List Tok), k ≤ l.length ∧ i = .int .i64 k ∧ g ≤ G ∧ callsG g (l.drop k) = some rest ∧ names = dn ++ rest ∧ NRel w wr v dn ∧ Kp w wr (fun _ => False)) (fun _ i _ => l.length - (intOf i).toNat)
 case atStart => exact H0.out
 case round =>
  obtain ⟨k, g, dn, rest, hk, rfl, hgG, hcr, hnm, ⟨ws, hws, hwr, hnew⟩, hkp⟩ := hrel
  have HN := hide hnm
  have HW := hide hws
  have HC := hide hcr
  have hdl : dn.length = ws.length := by rw [← hws]; simp [texts]
  have hnl : names.length = dn.length + rest.length := by rw [hnm]; simp
  clear hnm hws hcr
  obtain ⟨ao1, cap1, rfl⟩ := row_slice hwr
  by_cases hlt : k < l.length
  ·cases g with
   | zero => have := HC.out; rw [callsG_zero] at this; cases this
   | succ g =>
   have hd : l.drop k = l[k] :: l.drop (k + 1) := List.drop_eq_getElem_cons hlt
   obtain ⟨a, b, c, ha, hb, hc, hrest⟩ := callsG_cons (by have := HC.out; rw [hd] at this; exact this)
   have hrl : rest.length = (if l[k].kind = 99 then 1 else 0) + a.length + b.length + c.length := by rw [hrest]; simp only [List.length_append]; split <;> simp
   have HR := hide hrest
   clear hrest
   have hkeep : Keeps (nK K) (nK K) w wr := Keeps.kpF hkp _
   obtain ⟨gb, capb, hvb, hcell⟩ := row_cell HROW.out (by omega)
   injection hvb with e1 e2 e3
   subst e1
   clear e2 e3
   obtain ⟨nm, va, vb, vt, hat, x0, x1, x2, x3, x4, x5⟩ := itsIn_at _ _ HIT.out k hlt
   have HK : Hid (∀ w', Kp w w' (fun _ => False) → ∀ j u, xs[j]? = some u → w'.cell? ⟨gb, j, none⟩ = some u) := fun w' hkw j u hj => by
    obtain ⟨cc, hcc⟩ := row_blk HROW.out (b := gb) rfl
    have h1 := hcell j u hj
    have hb2 := hkw.blk hcc (by simp)
    unfold Blk at hcc hb2
    simp only [World.cell?, hcc] at h1
    simp only [World.cell?, hb2]; exact h1
   have hkc := HK.out wr hkp
   have y0 := hkc _ _ x0
   have y2 := hkc _ _ x2
   have y3 := hkc _ _ x3
   have y4 := hkc _ _ x4
   clear hkc
   have HAT := hide hat
   obtain ⟨xsa, hra, -⟩ := hat.a.out
   obtain ⟨xsb, hrb, -⟩ := hat.b.out
   obtain ⟨aa, pa, hva⟩ := row_slice hra
   obtain ⟨ab, pb, hvb'⟩ := row_slice hrb
   subst hva
   subst hvb'
   have HX3 := hide x3
   have HX4 := hide x4
   clear x0 x1 x2 x3 x4 x5 hcell hat hkeep hd hra hrb
   have hta : a.length ≤ 1000 := by split at hrl <;> omega
   have htb : b.length ≤ 1000 := by split at hrl <;> omega
   by_cases hk99 : l[k].kind = 99
   ·rw [hk99] at y0
    rw [if_pos hk99] at hrl
    go_wp2_with (first
     | (at_builtin; refine wpList_append_to _ rfl _ _ 47 rfl 9 i0 (.string ByteArray.empty) 1 16 Tryz.underlying47 hi hz0 hz1 hz2 rfl (by decide) _ _ _ rfl (hwr.alloc _) ⟨wr.heap.size, 0, none⟩ 1 1 [.string nm] rfl rfl ?c1 ?c2 ?c3 ?c4 ?_)
     | go_in)
    case c1 => intro j u hj; match j, hj with | 0, hj => simp at hj; subst hj; simp [Addr.add]
    case c2 => intro u hu; simp at hu; subst hu; rfl
    case c3 => unfold maxLen; omega
    case c4 => omega
    intro v' w1 hown' hgrow hnx
    obtain ⟨ao0, cap0, rfl⟩ := row_slice hown'
    have hkp0 : Kp w w1 (fun _ => False) := (hkp.alloc _).grown hgrow (fun q hq e => by have := hnew q e; have : w.heap.size ≤ q := this; omega)
    have hsz := hkp.size
    have hnew0 : ∀ q, own (.slice ao0 (ws.length + 1) cap0) q → New w q := fun q hq => by
     rcases hnx q hq with h1 | h1
     ·exact hnew q h1
     ·show w.heap.size ≤ q; omega
    obtain ⟨ws0, hws0⟩ : ∃ ws0, ws0 = ws ++ [nm] := ⟨_, rfl⟩
    have hl0 : ws0.length = ws.length + 1 := by rw [hws0]; simp
    have hwr0 : w1.ownsRow 0 9 1 (.slice ao0 ws0.length cap0) ws0.length (ws0.map Value.string) := by rw [hl0, hws0]; simpa using hown'
    rw [← hl0] at hnew0
    have HW0 := hide hws0
    have HL0 := hide hl0
    have y3b : w1.cell? ⟨gb, k * 6 + 3, none⟩ = some (.slice aa l[k].a.length pa) := HK.out w1 hkp0 _ _ HX3.out
    rw [← hl0]
    clear hl0 hown' hgrow hnx hkp hnew hwr y0 y2 y3 y4 hws0
    go_wp2_with fail
    refine (HI.out g (by omega) _ _ _ _ ha hta (HAT.out.a.keep (Keeps.kpF hkp0 _))).mono ?_
    rintro e w2 ⟨v1, rfl, hk2, ws1, hws1, hr1, hn1⟩
    have y4b : w2.cell? ⟨gb, k * 6 + 4, none⟩ = some (.slice ab l[k].b.length pb) := (HK.out w2 (hkp0.trans hk2) _ _ HX4.out)
    go_wp2_with fail
    refine (HI.out g (by omega) _ _ _ _ hb htb (HAT.out.b.keep (Keeps.kpF (hkp0.trans hk2) _))).mono ?_
    rintro e w3 ⟨v2, rfl, hk3, ws2, hws2, hr2, hn2⟩
    have hs02 := hk2.size
    have hs23 := hk3.size
    have hkp3 := (hkp0.trans hk2).trans hk3
    have hr0 := hk3.row (hk2.row hwr0 (by simp)) (by simp)
    have hr1' := hk3.row hr1 (by simp)
    have hl1 : ws1.length = a.length := by rw [← hws1]; simp [texts]
    have hl2 : ws2.length = b.length := by rw [← hws2]; simp [texts]
    have hb0 : ∀ q, own (.slice ao0 ws0.length cap0) q → q < w1.heap.size := fun q hq => own_lt hwr0 hq
    have HW1 := hide hws1
    have HW2 := hide hws2
    have HL1 := hide hl1
    have HL2 := hide hl2
    clear hl1 hl2 hwr0 hr1 hkp0 hws1 hws2 y4b hk2
    obtain ⟨a1, p1, rfl⟩ := row_slice hr1'
    obtain ⟨a2, p2, rfl⟩ := row_slice hr2
    go_wp2_with (first
     | (at_builtin; refine wpList_append_row _ rfl _ _ 47 rfl 9 i0 (.string ByteArray.empty) 16 Tryz.underlying47 hi hz0 hz1 hz2 rfl _ _ _ rfl hr0 _ _ _ rfl hr1' (one_texts _) ?e3 ?e4 ?_)
     | go_in)
    case e3 => have := HL0.out; have := HL1.out; have := HL2.out; unfold maxLen; omega
    case e4 => have := HL0.out; have := HL1.out; have := HL2.out; omega
    intro v3 w4 hr3 hg4 hnx4
    have hkp4 : Kp w w4 (fun _ => False) := hkp3.grown hg4 (fun q hq e => by have := hnew0 q e; have : w.heap.size ≤ q := this; omega)
    have hr2' : w4.ownsRow 0 9 1 (.slice a2 ws2.length p2) ws2.length (ws2.map Value.string) := row_keep hr2 (fun q c hq hc => hc.same (hg4.block q hc.lt (fun e => by have h1 := hb0 q e.symm; have h2 : w2.heap.size ≤ q := hn2 q hq; omega)))
    have hnew3 : ∀ q, own v3 q → New w q := fun q hq => by
     rcases hnx4 q hq with h1 | h1
     ·exact hnew0 q h1
     ·have := hkp3.size; show w.heap.size ≤ q; omega
    obtain ⟨ao3, cap3, rfl⟩ := row_slice hr3
    clear hr2 hr0 hr1' hg4 hnx4 hkp3 hb0 hnew0 hk3 hn1 hn2
    go_wp2_with (first
     | (at_builtin; refine wpList_append_row _ rfl _ _ 47 rfl 9 i0 (.string ByteArray.empty) 16 Tryz.underlying47 hi hz0 hz1 hz2 rfl _ _ _ rfl hr3 _ _ _ rfl hr2' (one_texts _) ?f3 ?f4 ?_)
     | go_in)
    case f3 => have := HL0.out; have := HL1.out; have := HL2.out; unfold maxLen; omega
    case f4 => have := HL0.out; have := HL1.out; have := HL2.out; omega
    intro v5 w5 hr5 hg5 hnx5
    have hkp5 : Kp w w5 (fun _ => False) := hkp4.grown hg5 (fun q hq e => by have := hnew3 q e; have : w.heap.size ≤ q := this; omega)
    have hnew5 : ∀ q, own v5 q → New w q := fun q hq => by
     rcases hnx5 q hq with h1 | h1
     ·exact hnew3 q h1
     ·have := hkp4.size; show w.heap.size ≤ q; omega
    have HNEW : Hid (∃ (k' : Nat) (g : Nat) (dn rest : List Tok), k' ≤ l.length ∧ Value.int .i64 ((k : Int) + 1) = .int .i64 k' ∧ g ≤ G ∧ callsG g (l.drop k') = some rest ∧ names = dn ++ rest ∧ NRel w w5 v5 dn ∧ Kp w w5 (fun _ => False)) := by
     refine ⟨k + 1, g, texts (ws0 ++ ws1 ++ ws2), c, by omega, rfl, by omega, hc, ?_, ⟨ws0 ++ ws1 ++ ws2, rfl, ?_, hnew5⟩, hkp5⟩
     ·rw [HN.out, HR.out, ← HW.out, ← HW1.out, ← HW2.out]; rw [HW0.out]; simp [texts, hk99, HAT.out.nm]
     ·simpa [Nat.add_assoc] using hr5
    clear hr5 hg5 hnx5 hkp4 hkp5 hnew3 hnew5 hr2' hr3 HW1 HW2 hc ha hb
    go_wp2
    go_roundw
    case rel => exact HNEW.out
    case measure => simp [intOf]; omega
   ·have y0' : ((l[k].kind : Int) == 99) = false := byte_eq hk99
    rw [if_neg hk99] at hrl
    obtain ⟨ws0, hws0⟩ : ∃ ws0, ws0 = ws := ⟨_, rfl⟩
    obtain ⟨ao0, hao0⟩ : ∃ ao0, ao0 = ao1 := ⟨_, rfl⟩
    obtain ⟨cap0, hcap0⟩ : ∃ cap0, cap0 = cap1 := ⟨_, rfl⟩
    rw [← hws0, ← hao0, ← hcap0] at hwr
    have hwr0 := hwr
    rw [← hws0, ← hao0, ← hcap0] at hnew
    have hnew0 := hnew
    have hkp0 := hkp
    have hl0 : ws0.length = ws.length := by rw [hws0]
    have HW0 := hide hws0
    have HL0 := hide hl0
    rw [← hws0, ← hao0, ← hcap0]
    clear hl0 hwr hnew hkp y2 y4 hws0 hao0 hcap0
    go_wp2_with fail
    refine (HI.out g (by omega) _ _ _ _ ha hta (HAT.out.a.keep (Keeps.kpF hkp0 _))).mono ?_
    rintro e w2 ⟨v1, rfl, hk2, ws1, hws1, hr1, hn1⟩
    have y4b : w2.cell? ⟨gb, k * 6 + 4, none⟩ = some (.slice ab l[k].b.length pb) := (HK.out w2 (hkp0.trans hk2) _ _ HX4.out)
    go_wp2_with fail
    refine (HI.out g (by omega) _ _ _ _ hb htb (HAT.out.b.keep (Keeps.kpF (hkp0.trans hk2) _))).mono ?_
    rintro e w3 ⟨v2, rfl, hk3, ws2, hws2, hr2, hn2⟩
    have hs02 := hk2.size
    have hs23 := hk3.size
    have hkp3 := (hkp0.trans hk2).trans hk3
    have hr0 := hk3.row (hk2.row hwr0 (by simp)) (by simp)
    have hr1' := hk3.row hr1 (by simp)
    have hl1 : ws1.length = a.length := by rw [← hws1]; simp [texts]
    have hl2 : ws2.length = b.length := by rw [← hws2]; simp [texts]
    have hb0 : ∀ q, own (.slice ao0 ws0.length cap0) q → q < wr.heap.size := fun q hq => own_lt hwr0 hq
    have HW1 := hide hws1
    have HW2 := hide hws2
    have HL1 := hide hl1
    have HL2 := hide hl2
    clear hl1 hl2 hwr0 hr1 hkp0 hws1 hws2 y4b hk2
    obtain ⟨a1, p1, rfl⟩ := row_slice hr1'
    obtain ⟨a2, p2, rfl⟩ := row_slice hr2
    go_wp2_with (first
     | (at_builtin; refine wpList_append_row _ rfl _ _ 47 rfl 9 i0 (.string ByteArray.empty) 16 Tryz.underlying47 hi hz0 hz1 hz2 rfl _ _ _ rfl hr0 _ _ _ rfl hr1' (one_texts _) ?e3 ?e4 ?_)
     | go_in)
    case e3 => have := HL0.out; have := HL1.out; have := HL2.out; unfold maxLen; omega
    case e4 => have := HL0.out; have := HL1.out; have := HL2.out; omega
    intro v3 w4 hr3 hg4 hnx4
    have hkp4 : Kp w w4 (fun _ => False) := hkp3.grown hg4 (fun q hq e => by have := hnew0 q e; have : w.heap.size ≤ q := this; omega)
    have hr2' : w4.ownsRow 0 9 1 (.slice a2 ws2.length p2) ws2.length (ws2.map Value.string) := row_keep hr2 (fun q c hq hc => hc.same (hg4.block q hc.lt (fun e => by have h1 := hb0 q e.symm; have h2 : w2.heap.size ≤ q := hn2 q hq; omega)))
    have hnew3 : ∀ q, own v3 q → New w q := fun q hq => by
     rcases hnx4 q hq with h1 | h1
     ·exact hnew0 q h1
     ·have := hkp3.size; show w.heap.size ≤ q; omega
    obtain ⟨ao3, cap3, rfl⟩ := row_slice hr3
    clear hr2 hr0 hr1' hg4 hnx4 hkp3 hb0 hnew0 hk3 hn1 hn2
    go_wp2_with (first
     | (at_builtin; refine wpList_append_row _ rfl _ _ 47 rfl 9 i0 (.string ByteArray.empty) 16 Tryz.underlying47 hi hz0 hz1 hz2 rfl _ _ _ rfl hr3 _ _ _ rfl hr2' (one_texts _) ?f3 ?f4 ?_)
     | go_in)
    case f3 => have := HL0.out; have := HL1.out; have := HL2.out; unfold maxLen; omega
    case f4 => have := HL0.out; have := HL1.out; have := HL2.out; omega
    intro v5 w5 hr5 hg5 hnx5
    have hkp5 : Kp w w5 (fun _ => False) := hkp4.grown hg5 (fun q hq e => by have := hnew3 q e; have : w.heap.size ≤ q := this; omega)
    have hnew5 : ∀ q, own v5 q → New w q := fun q hq => by
     rcases hnx5 q hq with h1 | h1
     ·exact hnew3 q h1
     ·have := hkp4.size; show w.heap.size ≤ q; omega
    have HNEW : Hid (∃ (k' : Nat) (g : Nat) (dn rest : List Tok), k' ≤ l.length ∧ Value.int .i64 ((k : Int) + 1) = .int .i64 k' ∧ g ≤ G ∧ callsG g (l.drop k') = some rest ∧ names = dn ++ rest ∧ NRel w w5 v5 dn ∧ Kp w w5 (fun _ => False)) := by
     refine ⟨k + 1, g, texts (ws0 ++ ws1 ++ ws2), c, by omega, rfl, by omega, hc, ?_, ⟨ws0 ++ ws1 ++ ws2, rfl, ?_, hnew5⟩, hkp5⟩
     ·rw [HN.out, HR.out, ← HW.out, ← HW1.out, ← HW2.out]; rw [HW0.out]; simp [texts, hk99]
     ·simpa [Nat.add_assoc] using hr5
    clear hr5 hg5 hnx5 hkp4 hkp5 hnew3 hnew5 hr2' hr3 HW1 HW2 hc ha hb
    go_wp2
    go_roundw
    case rel => exact HNEW.out
    case measure => simp [intOf]; omega
  ·have HE : Hid (names = dn) := by
    have := HC.out
    rw [List.drop_of_length_le (by omega)] at this
    cases g with
    | zero => rw [callsG_zero] at this; cases this
    | succ g => rw [callsG_nil] at this; injection this with this; have h2 := HN.out; rw [← this] at h2; unfold Hid; simpa using h2
   go_wp2
   go_ret
   exact ⟨_, rfl, hkp, ws, by rw [HE.out]; exact HW.out, hwr, hnew⟩
end
end Go.Proofs.YtldifaahmpecfaaGreatDoor
