/- Joined: Ref26 Ref24. -/
import Derived.Test.YtfaljekgpnbmiaaGreatH32
/-
  Contracts of the reference's two (min, max), rounded, table, tables; where a boxed text lies.
-/
namespace Go.Proofs.YtfaljekgpnbmiaaGreat
open Go.RowKit
set_option linter.unusedVariables false
set_option linter.unusedSimpArgs false

/-- Behind a call: nothing old has turned, and the boxed text lies where it lay. -/
def BX (w w1 : World) (x0 x1 x2 : Value) : Prop := Below w.heap.size w w1 ∧ w1.heap[w.heap.size]? = some (.cells #[x0, x1, x2] 124 (0, 0))
theorem bx_start {w w1 : World} {x0 x1 x2 : Value} (h : Below (w.alloc (.cells #[x0, x1, x2] 124)).heap.size (w.alloc (.cells #[x0, x1, x2] 124)) w1) : BX w w1 x0 x1 x2 :=
  ⟨((Below.refl _ w).alloc (Nat.le_refl _) _).trans (h.mono (by simp)), (h.block w.heap.size (by simp)).trans (heap_alloc_new w _)⟩
theorem bx_here {w : World} (x0 x1 x2 : Value) : BX w (w.alloc (.cells #[x0, x1, x2] 124)) x0 x1 x2 := bx_start (Below.refl _ _)
theorem BX.next {w w1 w2 : World} {x0 x1 x2 : Value} (h : BX w w1 x0 x1 x2) (h2 : Below w1.heap.size w1 w2) : BX w w2 x0 x1 x2 :=
  ⟨h.1.trans (h2.mono h.1.size), (h2.block _ (lt_of_block h.2)).trans h.2⟩
theorem BX.cells {w w1 : World} {x0 x1 x2 : Value} (h : BX w w1 x0 x1 x2) : w1.cell? ⟨w.heap.size, 0, none⟩ = some x0 ∧ w1.cell? ⟨w.heap.size, 1, none⟩ = some x1 ∧ w1.cell? ⟨w.heap.size, 2, none⟩ = some x2 :=
  ⟨by rw [cellsOf h.2]; rfl, by rw [cellsOf h.2]; rfl, by rw [cellsOf h.2]; rfl⟩
/-- A token as a call behind sees it. -/
theorem tok_at {w : World} {gt : Nat} {n cap : Nat} {toks : List (List UInt8)} (h : StrsAt w (.slice (some ⟨gt, 0, none⟩) n cap) toks) : ∀ (w1 : World) (j : Nat), Below w.heap.size w w1 → j < toks.length → w1.cell? ⟨gt, j, none⟩ = some (.string ⟨(toks.getD j []).toArray⟩) := by
  intro w1 j hb hj
  obtain ⟨g, e, hc⟩ := (h.below hb).get j hj
  cases e
  exact hc
/-- What a call on a text is claimed to tell, from every later world. -/
def CallT (F : Nat) (vt vn vk : Value) (w : World) (i : Nat) (r : Value) (q : Nat) : Prop :=
  ∀ (w1 : World) (j : Int), Below w.heap.size w w1 → j = (i : Int) → Calls Tryz.prog F #[.agg #[vt, vn, vk], .int .i64 j] w1 fun e w' => e = .returned (.tuple #[r, .int .i64 q]) ∧ Below w1.heap.size w1 w'

set_option maxRecDepth 100000 in
set_option maxHeartbeats 400000 in
theorem two_min (a b : Int) (w : World) (ha : Pl.Sm a) (hb : Pl.Sm b) : Calls Tryz.prog 150 #[.string ⟨Pl.kMin.toArray⟩, .int .i64 a, .int .i64 b] w fun e w' => e = .returned (.int .i64 (Pl.lesser a b)) ∧ w' = w := by
  obtain ⟨ha1, ha2⟩ := ha
  obtain ⟨hb1, hb2⟩ := hb
  have hm : Pl.most (-a) (-b) = -Pl.lesser a b := by unfold Pl.most Pl.lesser; split <;> split <;> omega
  have hl : -1000000000000000 ≤ Pl.lesser a b ∧ Pl.lesser a b ≤ 1000000000000000 := by unfold Pl.lesser; split <;> omega
  obtain ⟨hl1, hl2⟩ := hl
  have hM := hide (most_any (-a) (-b) w)
  rw [hm] at hM
  generalize Pl.lesser a b = L at *
  clear hm
  unfold Pl.kMin
  go_enter Tryz.func150, Tryz.ntmps150
  go_wp2_with fail
  refine (unhide hM).mono ?_
  rintro e w1 ⟨rfl, hw1⟩
  rw [hw1]
  clear hw1 w1 hM
  go_wp2
  go_ret
  exact ⟨ret_int (by omega), rfl⟩
set_option maxRecDepth 100000 in
set_option maxHeartbeats 400000 in
theorem two_max (a b : Int) (w : World) : Calls Tryz.prog 150 #[.string ⟨Pl.kMax.toArray⟩, .int .i64 a, .int .i64 b] w fun e w' => e = .returned (.int .i64 (Pl.greater a b)) ∧ w' = w := by
  have hM := hide (most_any a b w)
  have e : Pl.most a b = Pl.greater a b := rfl
  rw [e] at hM
  generalize Pl.greater a b = L at *
  clear e
  unfold Pl.kMax
  go_enter Tryz.func150, Tryz.ntmps150
  go_wp2_with fail
  refine (unhide hM).mono ?_
  rintro e w1 ⟨rfl, hw1⟩
  rw [hw1]
  clear hw1 w1 hM
  go_wp2
  go_ret
  exact ⟨rfl, rfl⟩

/-! Rounding. -/
theorem Pl.ediv_facts (a d : Int) (hd : 1 ≤ d) : a / d * d ≤ a ∧ a < a / d * d + d := by
  have h1 := Int.emod_add_mul_ediv a d
  have h2 := Int.emod_nonneg a (show d ≠ 0 by omega)
  have h3 := Int.emod_lt_of_pos a (show 0 < d by omega)
  rw [Int.mul_comm] at h1
  omega
theorem Pl.ediv_uniq {a d q : Int} (hd : 1 ≤ d) (h1 : q * d ≤ a) (h2 : a < q * d + d) : a / d = q := by
  have e1 : q ≤ a / d := Int.le_ediv_of_mul_le (by omega) h1
  have e2 : a / d < q + 1 := Int.ediv_lt_of_lt_mul (by omega) (by rw [Int.add_mul]; omega)
  omega
theorem Pl.up_eq (a d : Int) (hd : 1 ≤ d) : -(-a / d) = if a / d * d < a then a / d + 1 else a / d := by
  have h := Pl.ediv_facts a d hd
  split
  · rename_i hlt
    have : -a / d = -(a / d + 1) := Pl.ediv_uniq hd (by rw [Int.neg_mul, Int.add_mul]; omega) (by rw [Int.neg_mul, Int.add_mul]; omega)
    omega
  · rename_i hlt
    have : -a / d = -(a / d) := Pl.ediv_uniq hd (by rw [Int.neg_mul]; omega) (by rw [Int.neg_mul]; omega)
    omega
theorem Pl.quotW_eq (op a d : Int) (hd : 1 ≤ d ∧ d ≤ 1000000) (ha : Pl.Sm a) : Pl.quotW op a d = if op = 9 then (if a / d * d < a then a / d + 1 else a / d) else if op = 10 then (if a < 0 ∧ a / d * d < a then a / d + 1 else a / d) else if op = 11 then (2 * a + d) / (2 * d) else a / d := by
  obtain ⟨h1, h2⟩ := ha
  have d2 := Pl.div_bd (-a) d 1000000000000000 hd.1 (by omega) (by omega)
  unfold Pl.quotW
  rw [Pl.wrap_id (-a) (by omega) (by omega), Pl.floorW_mid a d hd.1 (by omega) (by omega), Pl.floorW_mid (-a) d hd.1 (by omega) (by omega), Pl.wrap_id (-(-a / d)) (by omega) (by omega), Pl.wrap_id (2 * a) (by omega) (by omega), Pl.wrap_id (2 * a + d) (by omega) (by omega), Pl.wrap_id (2 * d) (by omega) (by omega), Pl.floorW_mid (2 * a + d) (2 * d) (by omega) (by omega) (by omega), Pl.up_eq a d hd.1]
  have hf := Pl.ediv_facts a d hd.1
  by_cases h9 : op = 9
  · rw [if_pos h9, if_pos h9]
  rw [if_neg h9, if_neg h9]
  by_cases h10 : op = 10
  · rw [if_pos h10, if_pos h10]
    by_cases hp : 0 < a
    · rw [if_pos hp, if_neg (by omega)]
    · rw [if_neg hp]
      by_cases hz : a = 0
      · subst hz; simp
      · by_cases hlt : a / d * d < a
        · rw [if_pos hlt, if_pos ⟨by omega, hlt⟩]
        · rw [if_neg hlt, if_neg (fun h => hlt h.2)]
  rw [if_neg h10, if_neg h10]
set_option maxRecDepth 100000 in
set_option maxHeartbeats 1000000 in
theorem rounded_ref (m : List UInt8) (op a d : Int) (w : World) (hm : Pl.roundingOf m = some op) (hd : 1 ≤ d ∧ d ≤ 1000000) (ha : Pl.Sm a) : Calls Tryz.prog 153 #[.string ⟨m.toArray⟩, .int .i64 a, .int .i64 d] w fun e w' => e = .returned (.int .i64 (Pl.quotW op a d)) ∧ w' = w := by
  rw [Pl.quotW_eq op a d hd ha]
  have hf := Pl.ediv_facts a d hd.1
  have hb := Pl.div_bd a d 1000000000000000 hd.1 ha.1 ha.2
  obtain ⟨hd1, hd2⟩ := hd
  obtain ⟨ha1, ha2⟩ := ha
  obtain ⟨hf1, hf2⟩ := hf
  obtain ⟨hb1, hb2⟩ := hb
  have hD := hide (down_any a d w (by omega) (by omega) (by omega) (by omega))
  have hD2 := hide (down_any (2 * a + d) (2 * d) w (by omega) (by omega) (by omega) (by omega))
  have hqb : -1000001000000000 ≤ a / d * d := by omega
  generalize (2 * a + d) / (2 * d) = Q2 at *
  generalize hqd : a / d * d = QD at *
  generalize a / d = Q at *
  unfold Pl.roundingOf at hm
  split at hm
  · rename_i e; cases hm; subst e
    unfold Pl.kDown
    simp only [show ¬ ((8 : Int) = 9) by decide, show ¬ ((8 : Int) = 10) by decide, show ¬ ((8 : Int) = 11) by decide, if_false]
    clear hD2 hqd
    go_enter Tryz.func153, Tryz.ntmps153
    go_wp2_with fail
    refine (unhide hD).mono ?_
    rintro e w1 ⟨rfl, hw1⟩
    rw [hw1]
    clear hw1 w1 hD
    go_wp2
    go_ret
    exact ⟨rfl, rfl⟩
  split at hm
  · rename_i e; cases hm; subst e
    unfold Pl.kUp
    rw [if_pos rfl]
    clear hD2
    by_cases hlt : QD < a
    · rw [if_pos hlt]
      go_enter Tryz.func153, Tryz.ntmps153
      go_wp2_with fail
      refine (unhide hD).mono ?_
      rintro e w1 ⟨rfl, hw1⟩
      rw [hw1]
      clear hw1 w1 hD
      go_wp2
      all_goals go_ret
      all_goals exact ⟨ret_int (by omega), rfl⟩
    · rw [if_neg hlt]
      go_enter Tryz.func153, Tryz.ntmps153
      go_wp2_with fail
      refine (unhide hD).mono ?_
      rintro e w1 ⟨rfl, hw1⟩
      rw [hw1]
      clear hw1 w1 hD
      go_wp2
      all_goals go_ret
      all_goals exact ⟨ret_int (by omega), rfl⟩
  split at hm
  · rename_i e; cases hm; subst e
    unfold Pl.kZero
    rw [if_neg (by decide), if_pos rfl]
    clear hD2
    by_cases ha0 : a < 0
    · by_cases hlt : QD < a
      · rw [if_pos ⟨ha0, hlt⟩]
        go_enter Tryz.func153, Tryz.ntmps153
        go_wp2_with fail
        refine (unhide hD).mono ?_
        rintro e w1 ⟨rfl, hw1⟩
        rw [hw1]
        clear hw1 w1 hD
        go_wp2
        all_goals go_ret
        all_goals exact ⟨ret_int (by omega), rfl⟩
      · rw [if_neg (by omega)]
        go_enter Tryz.func153, Tryz.ntmps153
        go_wp2_with fail
        refine (unhide hD).mono ?_
        rintro e w1 ⟨rfl, hw1⟩
        rw [hw1]
        clear hw1 w1 hD
        go_wp2
        all_goals go_ret
        all_goals exact ⟨ret_int (by omega), rfl⟩
    · rw [if_neg (by omega)]
      go_enter Tryz.func153, Tryz.ntmps153
      go_wp2_with fail
      refine (unhide hD).mono ?_
      rintro e w1 ⟨rfl, hw1⟩
      rw [hw1]
      clear hw1 w1 hD
      go_wp2
      all_goals go_ret
      all_goals exact ⟨ret_int (by omega), rfl⟩
  split at hm
  · rename_i e; cases hm; subst e
    unfold Pl.kNear
    rw [if_neg (by decide), if_neg (by decide), if_pos rfl]
    clear hqd
    go_enter Tryz.func153, Tryz.ntmps153
    go_wp2_with fail
    refine (unhide hD).mono ?_
    rintro e w1 ⟨rfl, hw1⟩
    rw [hw1]
    clear hw1 w1 hD
    go_wp2_with fail
    refine (unhide hD2).mono ?_
    rintro e w1 ⟨rfl, hw1⟩
    rw [hw1]
    clear hw1 w1 hD2
    go_wp2
    go_ret
    exact ⟨rfl, rfl⟩
  · cases hm
end Go.Proofs.YtfaljekgpnbmiaaGreat

/-
  The contract of the reference's ends: a name is known from now on.
-/
namespace Go.Proofs.YtfaljekgpnbmiaaGreat
open Go.RowKit
set_option linter.unusedVariables false
set_option linter.unusedSimpArgs false

/-- Where the reference's reader lies. -/
structure RH (B : Nat) (w : World) (b : Nat) (vt vn : Value) (st : Pl.StH) : Prop where
  base : B ≤ b
  blk : w.heap[b]? = some (.cells #[vt, .int .i64 st.pos, .string ⟨st.pile.toArray⟩, vn, .int .i64 st.last, .string ⟨st.name.toArray⟩, .int .i64 st.beg] 200 (0, 0))
  own : DeclsOwn B w vn st.names
theorem RH.below {B : Nat} {w w' : World} {b : Nat} {vt vn : Value} {st : Pl.StH} (h : RH B w b vt vn st) (hb : Below w.heap.size w w') : RH B w' b vt vn st :=
  ⟨h.base, (hb.block b (lt_of_block h.blk)).trans h.blk, own_keep h.own (.of_below hb)⟩
theorem RH.addName {B : Nat} {w : World} {b : Nat} {vt vn : Value} {st : Pl.StH} (h : RH B w b vt vn st) {w1 : World} {v' : Value} {d : Pl.DeclM} (hg : w.grownBy w1 vn.ownBlock)
    (ho : w1.ownsRow B 155 5 v' (st.names.length + 1) (declsCells st.names ++ [.string ⟨d.name.toArray⟩, .int .u8 d.kind, .int .i64 d.lo, .int .i64 d.hi, .int .i64 d.pos])) :
    RH B (w1.setCell ⟨b, 3, none⟩ v') b vt v' ⟨st.pos, st.pile, st.names ++ [d], st.last, st.name, st.beg⟩ ∧ w1.heap[b]? = some (.cells #[vt, .int .i64 st.pos, .string ⟨st.pile.toArray⟩, vn, .int .i64 st.last, .string ⟨st.name.toArray⟩, .int .i64 st.beg] 200 (0, 0)) := by
  have hb : w1.heap[b]? = some (.cells #[vt, .int .i64 st.pos, .string ⟨st.pile.toArray⟩, vn, .int .i64 st.last, .string ⟨st.name.toArray⟩, .int .i64 st.beg] 200 (0, 0)) := (KeepT.grown h.own hg (show 155 ≠ 200 by decide) _ _ h.blk).trans h.blk
  refine ⟨⟨h.base, by rw [heap_setCell_same w1 b 3 _ _ _ hb]; rfl, ?_⟩, hb⟩
  have := own_keep ho (.setCell hb (show 200 ≠ 155 by decide) 3 v')
  unfold DeclsOwn declsCells
  rw [List.flatMap_append, List.length_append]
  simpa [declsCells] using this
theorem decl_cell (a : ByteArray) (k : Nat) (x y z : Int) : ∀ u ∈ [Value.string a, .int .u8 k, .int .i64 x, .int .i64 y, .int .i64 z], u.oneCell' = true := by
  intro u hu; simp at hu; rcases hu with rfl | rfl | rfl | rfl | rfl <;> rfl

theorem below_same {B : Nat} {w w1 w2 : World} (h : Below B w w1) (h1 : w2.heap = w1.heap) (h2 : w2.os = w1.os) (h3 : w2.tape = w1.tape) (h4 : w2.output = w1.output) : Below B w w2 :=
  ⟨h2.trans h.os, h3.trans h.tape, h4.trans h.output, by rw [h1]; exact h.size, fun k hk => by rw [h1]; exact h.block k hk⟩

set_option maxRecDepth 100000 in
set_option maxHeartbeats 2000000 in
theorem ends_V {B : Nat} {w : World} {b : Nat} {vt vn : Value} {st : Pl.StH} (h : RH B w b vt vn st) (hl : st.names.length ≤ 10000) :
    Calls Tryz.prog 141 #[.pointer (some ⟨b, 0, none⟩), .int .u8 86] w fun e w' => e = .returned (.tuple #[]) ∧ (∃ vn', RH B w' b vt vn' ⟨st.pos, st.pile, st.names ++ [⟨st.name, 118, 0, 0, st.beg⟩], st.last, st.name, st.beg⟩) ∧ Below B w w' := by
  obtain ⟨i0, hinf, hz0, hz1, hz2⟩ := info_parts Tryz.infoDecl
  have hB := h.base
  have hlt := lt_of_block h.blk
  obtain ⟨c0, c1, c2, c3, c4, c5, c6, fz⟩ := rd_facts h.blk
  obtain ⟨W0, hW0⟩ : ∃ W0, W0 = ((w.alloc (.cells #[.string ⟨st.name.toArray⟩, .int .u8 118, .int .i64 0, .int .i64 0, .int .i64 st.beg] 155)).alloc (.cells #[.string ⟨st.name.toArray⟩, .int .u8 118, .int .i64 0, .int .i64 0, .int .i64 st.beg] 155)) := ⟨_, rfl⟩
  have hbel : Below w.heap.size w W0 := by rw [hW0]; exact ((Below.refl _ w).alloc (Nat.le_refl _) _).alloc (by simp) _
  have hnew : W0.heap[w.heap.size + 1]? = some (.cells #[.string ⟨st.name.toArray⟩, .int .u8 118, .int .i64 0, .int .i64 0, .int .i64 st.beg] 155 (0, 0)) := by
    rw [hW0]; have := heap_alloc_new (w.alloc (.cells #[.string ⟨st.name.toArray⟩, .int .u8 118, .int .i64 0, .int .i64 0, .int .i64 st.beg] 155)) (.cells #[.string ⟨st.name.toArray⟩, .int .u8 118, .int .i64 0, .int .i64 0, .int .i64 st.beg] 155); simpa using this
  have hRW : ∀ W : World, W.heap = W0.heap → RH B W b vt vn st := fun W hW => by
    have := h.below hbel
    exact ⟨this.base, by rw [hW]; exact this.blk, by have h2 := this.own; unfold DeclsOwn World.ownsRow at h2 ⊢; rw [hW]; exact h2⟩
  have HA : Hid ((∀ W : World, W.heap = W0.heap → RH B W b vt vn st) ∧ Below w.heap.size w W0 ∧ W0.heap[w.heap.size + 1]? = some (.cells #[.string ⟨st.name.toArray⟩, .int .u8 118, .int .i64 0, .int .i64 0, .int .i64 st.beg] 155 (0, 0)) ∧ W0 = ((w.alloc (.cells #[.string ⟨st.name.toArray⟩, .int .u8 118, .int .i64 0, .int .i64 0, .int .i64 st.beg] 155)).alloc (.cells #[.string ⟨st.name.toArray⟩, .int .u8 118, .int .i64 0, .int .i64 0, .int .i64 st.beg] 155))) := ⟨hRW, hbel, hnew, hW0⟩
  clear hbel hnew hW0 hRW h
  go_enter Tryz.func141, Tryz.ntmps141
  go_wp2
  go_region
  all_goals go_wp2
  go_region_law (
    refine step_append_lies _ rfl (.tmp 62) (.tmp 64) 122 rfl B 155 i0 (.agg #[.string ⟨#[]⟩, .int .u8 0, .int .i64 0, .int .i64 0, .int .i64 0]) 5 48 Tryz.underlying122 hinf hz0 hz1 hz2 rfl (by decide) vn st.names.length (declsCells st.names) (by simp [Act.eval]) (by obtain ⟨a1, _, _, rfl⟩ := HA.out; exact (a1 _ rfl).own) ⟨w.heap.size + 1, 0, none⟩ 1 1 [.string ⟨st.name.toArray⟩, .int .u8 118, .int .i64 0, .int .i64 0, .int .i64 st.beg] (by simp [Act.eval]) rfl (by obtain ⟨_, _, a5, rfl⟩ := HA.out; exact news_far _ _ _ a5 rfl) (decl_cell _ _ _ _ _) (by decide) (by unfold maxLen; omega) (by omega) (by simp; omega) _ rfl ?_
    intro g cap w1 hown' hgrow _ _
    have R : Hid (RH B (w1.setCell ⟨b, 3, none⟩ (.slice (some ⟨g, 0, none⟩) (st.names.length + 1) cap)) b vt (.slice (some ⟨g, 0, none⟩) (st.names.length + 1) cap) ⟨st.pos, st.pile, st.names ++ [⟨st.name, 118, 0, 0, st.beg⟩], st.last, st.name, st.beg⟩ ∧ Below B w (w1.setCell ⟨b, 3, none⟩ (.slice (some ⟨g, 0, none⟩) (st.names.length + 1) cap)) ∧ w1.heap[b]? = some (.cells #[vt, .int .i64 st.pos, .string ⟨st.pile.toArray⟩, vn, .int .i64 st.last, .string ⟨st.name.toArray⟩, .int .i64 st.beg] 200 (0, 0))) := by
      obtain ⟨a1, a3, _, rfl⟩ := HA.out
      have hx := RH.addName (d := ⟨st.name, 118, 0, 0, st.beg⟩) (a1 _ (by exact rfl)) hgrow hown'
      exact ⟨hx.1, ((below_same (a3.mono (show B ≤ w.heap.size by omega)) (by exact rfl) (by exact rfl) (by exact rfl) (by exact rfl)).grown hgrow (by simp; omega) (own_base (a1 _ (by exact rfl)).own)).setCell (p := ⟨b, 3, none⟩) hB _, hx.2⟩
    have c3' : w1.cell? ⟨b, 3, none⟩ = some vn := by rw [cellsOf R.out.2.2]; rfl
    have f3' : w1.frozen? ⟨b, 3, none⟩ = false := freeOf R.out.2.2 3
    clear hown' hgrow)
  all_goals
    go_wp2
    go_end0
    exact ⟨rfl, ⟨_, R.out.1⟩, R.out.2.1⟩
set_option maxRecDepth 100000 in
set_option maxHeartbeats 2000000 in
theorem ends_O {B : Nat} {w : World} {b : Nat} {vt vn : Value} {st : Pl.StH} (h : RH B w b vt vn st) (hl : st.names.length ≤ 10000) :
    Calls Tryz.prog 141 #[.pointer (some ⟨b, 0, none⟩), .int .u8 79] w fun e w' => e = .returned (.tuple #[]) ∧ (∃ vn', RH B w' b vt vn' ⟨st.pos, st.pile, st.names ++ [⟨st.name, 111, 0, 0, st.beg⟩], st.last, st.name, st.beg⟩) ∧ Below B w w' := by
  obtain ⟨i0, hinf, hz0, hz1, hz2⟩ := info_parts Tryz.infoDecl
  have hB := h.base
  have hlt := lt_of_block h.blk
  obtain ⟨c0, c1, c2, c3, c4, c5, c6, fz⟩ := rd_facts h.blk
  obtain ⟨W0, hW0⟩ : ∃ W0, W0 = ((w.alloc (.cells #[.string ⟨st.name.toArray⟩, .int .u8 111, .int .i64 0, .int .i64 0, .int .i64 st.beg] 155)).alloc (.cells #[.string ⟨st.name.toArray⟩, .int .u8 111, .int .i64 0, .int .i64 0, .int .i64 st.beg] 155)) := ⟨_, rfl⟩
  have hbel : Below w.heap.size w W0 := by rw [hW0]; exact ((Below.refl _ w).alloc (Nat.le_refl _) _).alloc (by simp) _
  have hnew : W0.heap[w.heap.size + 1]? = some (.cells #[.string ⟨st.name.toArray⟩, .int .u8 111, .int .i64 0, .int .i64 0, .int .i64 st.beg] 155 (0, 0)) := by
    rw [hW0]; have := heap_alloc_new (w.alloc (.cells #[.string ⟨st.name.toArray⟩, .int .u8 111, .int .i64 0, .int .i64 0, .int .i64 st.beg] 155)) (.cells #[.string ⟨st.name.toArray⟩, .int .u8 111, .int .i64 0, .int .i64 0, .int .i64 st.beg] 155); simpa using this
  have hRW : ∀ W : World, W.heap = W0.heap → RH B W b vt vn st := fun W hW => by
    have := h.below hbel
    exact ⟨this.base, by rw [hW]; exact this.blk, by have h2 := this.own; unfold DeclsOwn World.ownsRow at h2 ⊢; rw [hW]; exact h2⟩
  have HA : Hid ((∀ W : World, W.heap = W0.heap → RH B W b vt vn st) ∧ Below w.heap.size w W0 ∧ W0.heap[w.heap.size + 1]? = some (.cells #[.string ⟨st.name.toArray⟩, .int .u8 111, .int .i64 0, .int .i64 0, .int .i64 st.beg] 155 (0, 0)) ∧ W0 = ((w.alloc (.cells #[.string ⟨st.name.toArray⟩, .int .u8 111, .int .i64 0, .int .i64 0, .int .i64 st.beg] 155)).alloc (.cells #[.string ⟨st.name.toArray⟩, .int .u8 111, .int .i64 0, .int .i64 0, .int .i64 st.beg] 155))) := ⟨hRW, hbel, hnew, hW0⟩
  clear hbel hnew hW0 hRW h
  go_enter Tryz.func141, Tryz.ntmps141
  go_wp2
  go_region
  all_goals go_wp2
  go_region_law (
    refine step_append_lies _ rfl (.tmp 62) (.tmp 64) 122 rfl B 155 i0 (.agg #[.string ⟨#[]⟩, .int .u8 0, .int .i64 0, .int .i64 0, .int .i64 0]) 5 48 Tryz.underlying122 hinf hz0 hz1 hz2 rfl (by decide) vn st.names.length (declsCells st.names) (by simp [Act.eval]) (by obtain ⟨a1, _, _, rfl⟩ := HA.out; exact (a1 _ rfl).own) ⟨w.heap.size + 1, 0, none⟩ 1 1 [.string ⟨st.name.toArray⟩, .int .u8 111, .int .i64 0, .int .i64 0, .int .i64 st.beg] (by simp [Act.eval]) rfl (by obtain ⟨_, _, a5, rfl⟩ := HA.out; exact news_far _ _ _ a5 rfl) (decl_cell _ _ _ _ _) (by decide) (by unfold maxLen; omega) (by omega) (by simp; omega) _ rfl ?_
    intro g cap w1 hown' hgrow _ _
    have R : Hid (RH B (w1.setCell ⟨b, 3, none⟩ (.slice (some ⟨g, 0, none⟩) (st.names.length + 1) cap)) b vt (.slice (some ⟨g, 0, none⟩) (st.names.length + 1) cap) ⟨st.pos, st.pile, st.names ++ [⟨st.name, 111, 0, 0, st.beg⟩], st.last, st.name, st.beg⟩ ∧ Below B w (w1.setCell ⟨b, 3, none⟩ (.slice (some ⟨g, 0, none⟩) (st.names.length + 1) cap)) ∧ w1.heap[b]? = some (.cells #[vt, .int .i64 st.pos, .string ⟨st.pile.toArray⟩, vn, .int .i64 st.last, .string ⟨st.name.toArray⟩, .int .i64 st.beg] 200 (0, 0))) := by
      obtain ⟨a1, a3, _, rfl⟩ := HA.out
      have hx := RH.addName (d := ⟨st.name, 111, 0, 0, st.beg⟩) (a1 _ (by exact rfl)) hgrow hown'
      exact ⟨hx.1, ((below_same (a3.mono (show B ≤ w.heap.size by omega)) (by exact rfl) (by exact rfl) (by exact rfl) (by exact rfl)).grown hgrow (by simp; omega) (own_base (a1 _ (by exact rfl)).own)).setCell (p := ⟨b, 3, none⟩) hB _, hx.2⟩
    have c3' : w1.cell? ⟨b, 3, none⟩ = some vn := by rw [cellsOf R.out.2.2]; rfl
    have f3' : w1.frozen? ⟨b, 3, none⟩ = false := freeOf R.out.2.2 3
    clear hown' hgrow)
  all_goals
    go_wp2
    go_end0
    exact ⟨rfl, ⟨_, R.out.1⟩, R.out.2.1⟩
set_option maxRecDepth 100000 in
set_option maxHeartbeats 2000000 in
theorem ends_I {B : Nat} {w : World} {b : Nat} {vt vn : Value} {st : Pl.StH} (h : RH B w b vt vn st) (hl : st.names.length ≤ 10000) {toks : List (List UInt8)} (ht : StrsAt w vt toks) (hb1 : st.beg + 1 < toks.length) (htl : toks.length ≤ 8000) (ht6 : ∀ t ∈ toks, t.length ≤ 6000) :
    Calls Tryz.prog 141 #[.pointer (some ⟨b, 0, none⟩), .int .u8 73] w fun e w' => e = .returned (.tuple #[]) ∧ (∃ vn', RH B w' b vt vn' ⟨st.pos, st.pile, st.names ++ [Pl.declD toks st.name st.beg 73], st.last, st.name, st.beg⟩) ∧ Below B w w' := by
  obtain ⟨i0, hinf, hz0, hz1, hz2⟩ := info_parts Tryz.infoDecl
  have hB := h.base
  have hlt := lt_of_block h.blk
  obtain ⟨c0, c1, c2, c3, c4, c5, c6, fz⟩ := rd_facts h.blk
  obtain ⟨ad, cap0, rfl⟩ := ht.shape
  obtain ⟨gt, rfl, hct⟩ := ht.get st.beg (by omega)
  have hct2 := tok_at ht w (st.beg + 1) (Below.refl _ _) hb1
  have hgt := lt_of_cell hct
  have hb0 : st.beg < toks.length := by omega
  have hlen : ∀ j, j < toks.length → (toks.getD j []).length ≤ 6000 := by
    intro j hj; rw [List.getD_eq_getElem?_getD, List.getElem?_eq_getElem hj]; exact ht6 _ (List.getElem_mem _)
  have hN1 := hide (fun w1 => RNumber_any (toks.getD st.beg []) w1 (by have := hlen st.beg (by omega); unfold maxLen; omega))
  have hN2 := hide (fun w1 => RNumber_any (toks.getD (st.beg + 1) []) w1 (by have := hlen (st.beg + 1) hb1; unfold maxLen; omega))
  have hres : Pl.declD toks st.name st.beg 73 = ⟨st.name, 105, (Pl.number (toks.getD st.beg [])).1, (Pl.number (toks.getD (st.beg + 1) [])).1, st.beg⟩ := rfl
  rw [hres]
  clear hres hlen ht ht6
  generalize Pl.number (toks.getD st.beg []) = n1 at *
  generalize Pl.number (toks.getD (st.beg + 1) []) = n2 at *
  obtain ⟨lo, ok1⟩ := n1
  obtain ⟨hi, ok2⟩ := n2
  simp only at hN1 hN2 ⊢
  generalize toks.getD st.beg [] = t1 at *
  generalize toks.getD (st.beg + 1) [] = t2 at *
  obtain ⟨W0, hW0⟩ : ∃ W0, W0 = ((((w.alloc (.cells #[.string ⟨st.name.toArray⟩, .int .u8 105, .int .i64 0, .int .i64 0, .int .i64 st.beg] 155)).setCell ⟨w.heap.size, 2, none⟩ (.int .i64 lo)).setCell ⟨w.heap.size, 3, none⟩ (.int .i64 hi)).alloc (.cells #[.string ⟨st.name.toArray⟩, .int .u8 105, .int .i64 lo, .int .i64 hi, .int .i64 st.beg] 155)) := ⟨_, rfl⟩
  have hbel : Below w.heap.size w W0 := by rw [hW0]; exact ((((Below.refl _ w).alloc (Nat.le_refl _) _).setCell (p := ⟨w.heap.size, 2, none⟩) (Nat.le_refl _) _).setCell (p := ⟨w.heap.size, 3, none⟩) (Nat.le_refl _) _).alloc (by simp) _
  have hnew : W0.heap[w.heap.size + 1]? = some (.cells #[.string ⟨st.name.toArray⟩, .int .u8 105, .int .i64 lo, .int .i64 hi, .int .i64 st.beg] 155 (0, 0)) := by
    rw [hW0]; have := heap_alloc_new (((w.alloc (.cells #[.string ⟨st.name.toArray⟩, .int .u8 105, .int .i64 0, .int .i64 0, .int .i64 st.beg] 155)).setCell ⟨w.heap.size, 2, none⟩ (.int .i64 lo)).setCell ⟨w.heap.size, 3, none⟩ (.int .i64 hi)) (.cells #[.string ⟨st.name.toArray⟩, .int .u8 105, .int .i64 lo, .int .i64 hi, .int .i64 st.beg] 155); simpa using this
  have hRW : ∀ W : World, W.heap = W0.heap → RH B W b (.slice (some ⟨gt, 0, none⟩) toks.length cap0) vn st := fun W hW => by
    have := h.below hbel
    exact ⟨this.base, by rw [hW]; exact this.blk, by have h2 := this.own; unfold DeclsOwn World.ownsRow at h2 ⊢; rw [hW]; exact h2⟩
  have HA : Hid ((∀ W : World, W.heap = W0.heap → RH B W b (.slice (some ⟨gt, 0, none⟩) toks.length cap0) vn st) ∧ Below w.heap.size w W0 ∧ W0.heap[w.heap.size + 1]? = some (.cells #[.string ⟨st.name.toArray⟩, .int .u8 105, .int .i64 lo, .int .i64 hi, .int .i64 st.beg] 155 (0, 0)) ∧ W0 = ((((w.alloc (.cells #[.string ⟨st.name.toArray⟩, .int .u8 105, .int .i64 0, .int .i64 0, .int .i64 st.beg] 155)).setCell ⟨w.heap.size, 2, none⟩ (.int .i64 lo)).setCell ⟨w.heap.size, 3, none⟩ (.int .i64 hi)).alloc (.cells #[.string ⟨st.name.toArray⟩, .int .u8 105, .int .i64 lo, .int .i64 hi, .int .i64 st.beg] 155))) := ⟨hRW, hbel, hnew, hW0⟩
  clear hbel hnew hW0 hRW h
  go_enter Tryz.func141, Tryz.ntmps141
  go_wp2
  go_region
  all_goals go_wp2
  go_quiet ((go_at_call 151; refine (unhide hN1 _).mono ?_; rintro e w9 ⟨he, hw9⟩; exact ⟨he, _, hw9⟩))
  go_wp2
  go_quiet ((go_at_call 151; refine (unhide hN2 _).mono ?_; rintro e w9 ⟨he, hw9⟩; exact ⟨he, _, hw9⟩))
  go_wp2
  go_region_law (
    refine step_append_lies _ rfl (.tmp 62) (.tmp 64) 122 rfl B 155 i0 (.agg #[.string ⟨#[]⟩, .int .u8 0, .int .i64 0, .int .i64 0, .int .i64 0]) 5 48 Tryz.underlying122 hinf hz0 hz1 hz2 rfl (by decide) vn st.names.length (declsCells st.names) (by simp [Act.eval]) (by obtain ⟨a1, _, _, rfl⟩ := HA.out; exact (a1 _ rfl).own) ⟨w.heap.size + 1, 0, none⟩ 1 1 [.string ⟨st.name.toArray⟩, .int .u8 105, .int .i64 lo, .int .i64 hi, .int .i64 st.beg] (by simp [Act.eval]) rfl (by obtain ⟨_, _, a5, rfl⟩ := HA.out; exact news_far _ _ _ a5 rfl) (decl_cell _ _ _ _ _) (by decide) (by unfold maxLen; omega) (by omega) (by simp; omega) _ rfl ?_
    intro g cap w1 hown' hgrow _ _
    have R : Hid (RH B (w1.setCell ⟨b, 3, none⟩ (.slice (some ⟨g, 0, none⟩) (st.names.length + 1) cap)) b (.slice (some ⟨gt, 0, none⟩) toks.length cap0) (.slice (some ⟨g, 0, none⟩) (st.names.length + 1) cap) ⟨st.pos, st.pile, st.names ++ [⟨st.name, 105, lo, hi, st.beg⟩], st.last, st.name, st.beg⟩ ∧ Below B w (w1.setCell ⟨b, 3, none⟩ (.slice (some ⟨g, 0, none⟩) (st.names.length + 1) cap)) ∧ w1.heap[b]? = some (.cells #[(.slice (some ⟨gt, 0, none⟩) toks.length cap0), .int .i64 st.pos, .string ⟨st.pile.toArray⟩, vn, .int .i64 st.last, .string ⟨st.name.toArray⟩, .int .i64 st.beg] 200 (0, 0))) := by
      obtain ⟨a1, a3, _, rfl⟩ := HA.out
      have hx := RH.addName (d := ⟨st.name, 105, lo, hi, st.beg⟩) (a1 _ (by exact rfl)) hgrow hown'
      exact ⟨hx.1, ((below_same (a3.mono (show B ≤ w.heap.size by omega)) (by exact rfl) (by exact rfl) (by exact rfl) (by exact rfl)).grown hgrow (by simp; omega) (own_base (a1 _ (by exact rfl)).own)).setCell (p := ⟨b, 3, none⟩) hB _, hx.2⟩
    have c3' : w1.cell? ⟨b, 3, none⟩ = some vn := by rw [cellsOf R.out.2.2]; rfl
    have f3' : w1.frozen? ⟨b, 3, none⟩ = false := freeOf R.out.2.2 3
    clear hown' hgrow)
  all_goals
    go_wp2
    go_end0
    exact ⟨rfl, ⟨_, R.out.1⟩, R.out.2.1⟩
end Go.Proofs.YtfaljekgpnbmiaaGreat
