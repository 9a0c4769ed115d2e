/- Joined: Ref26. -/
import Derived.Test.YtbbdkgfdeghdfaaGreatJ34
/-
  Contracts of the reference's two (min, max), rounded, table, tables; where a boxed text lies.
-/
namespace Go.Proofs.YtbbdkgfdeghdfaaGreat
open Go.RowKit
set_option linter.unusedVariables false
set_option linter.unusedSimpArgs false

/-- Behind a call: nothing old has turned, and the boxed text lies where it lay. -/
def BX (w w1 : World) (x0 x1 x2 : Value) : Prop := Below w.heap.size w w1 ∧ w1.heap[w.heap.size]? = some (.cells #[x0, x1, x2] 84 (0, 0))
theorem bx_start {w w1 : World} {x0 x1 x2 : Value} (h : Below (w.alloc (.cells #[x0, x1, x2] 84)).heap.size (w.alloc (.cells #[x0, x1, x2] 84)) w1) : BX w w1 x0 x1 x2 :=
  ⟨((Below.refl _ w).alloc (Nat.le_refl _) _).trans (h.mono (by simp)), (h.block w.heap.size (by simp)).trans (heap_alloc_new w _)⟩
theorem bx_here {w : World} (x0 x1 x2 : Value) : BX w (w.alloc (.cells #[x0, x1, x2] 84)) x0 x1 x2 := bx_start (Below.refl _ _)
theorem BX.next {w w1 w2 : World} {x0 x1 x2 : Value} (h : BX w w1 x0 x1 x2) (h2 : Below w1.heap.size w1 w2) : BX w w2 x0 x1 x2 :=
  ⟨h.1.trans (h2.mono h.1.size), (h2.block _ (lt_of_block h.2)).trans h.2⟩
theorem BX.cells {w w1 : World} {x0 x1 x2 : Value} (h : BX w w1 x0 x1 x2) : w1.cell? ⟨w.heap.size, 0, none⟩ = some x0 ∧ w1.cell? ⟨w.heap.size, 1, none⟩ = some x1 ∧ w1.cell? ⟨w.heap.size, 2, none⟩ = some x2 :=
  ⟨by rw [cellsOf h.2]; rfl, by rw [cellsOf h.2]; rfl, by rw [cellsOf h.2]; rfl⟩
/-- A token as a call behind sees it. -/
theorem tok_at {w : World} {gt : Nat} {n cap : Nat} {toks : List (List UInt8)} (h : StrsAt w (.slice (some ⟨gt, 0, none⟩) n cap) toks) : ∀ (w1 : World) (j : Nat), Below w.heap.size w w1 → j < toks.length → w1.cell? ⟨gt, j, none⟩ = some (.string ⟨(toks.getD j []).toArray⟩) := by
  intro w1 j hb hj
  obtain ⟨g, e, hc⟩ := (h.below hb).get j hj
  cases e
  exact hc
/-- What a call on a text is claimed to tell, from every later world. -/
def CallT (F : Nat) (vt vn vk : Value) (w : World) (i : Nat) (r : Value) (q : Nat) : Prop :=
  ∀ (w1 : World) (j : Int), Below w.heap.size w w1 → j = (i : Int) → Calls Tryz.prog F #[.agg #[vt, vn, vk], .int .i64 j] w1 fun e w' => e = .returned (.tuple #[r, .int .i64 q]) ∧ Below w1.heap.size w1 w'

set_option maxRecDepth 100000 in
set_option maxHeartbeats 400000 in
theorem two_min (a b : Int) (w : World) (ha : Pl.Sm a) (hb : Pl.Sm b) : Calls Tryz.prog 97 #[.string ⟨Pl.kMin.toArray⟩, .int .i64 a, .int .i64 b] w fun e w' => e = .returned (.int .i64 (Pl.lesser a b)) ∧ w' = w := by
  obtain ⟨ha1, ha2⟩ := ha
  obtain ⟨hb1, hb2⟩ := hb
  have hm : Pl.most (-a) (-b) = -Pl.lesser a b := by unfold Pl.most Pl.lesser; split <;> split <;> omega
  have hl : -1000000000000000 ≤ Pl.lesser a b ∧ Pl.lesser a b ≤ 1000000000000000 := by unfold Pl.lesser; split <;> omega
  obtain ⟨hl1, hl2⟩ := hl
  have hM := hide (most_any (-a) (-b) w)
  rw [hm] at hM
  generalize Pl.lesser a b = L at *
  clear hm
  unfold Pl.kMin
  go_enter Tryz.func97, Tryz.ntmps97
  go_wp2_with fail
  refine (unhide hM).mono ?_
  rintro e w1 ⟨rfl, hw1⟩
  rw [hw1]
  clear hw1 w1 hM
  go_wp2
  go_ret
  exact ⟨ret_int (by omega), rfl⟩
set_option maxRecDepth 100000 in
set_option maxHeartbeats 400000 in
theorem two_max (a b : Int) (w : World) : Calls Tryz.prog 97 #[.string ⟨Pl.kMax.toArray⟩, .int .i64 a, .int .i64 b] w fun e w' => e = .returned (.int .i64 (Pl.greater a b)) ∧ w' = w := by
  have hM := hide (most_any a b w)
  have e : Pl.most a b = Pl.greater a b := rfl
  rw [e] at hM
  generalize Pl.greater a b = L at *
  clear e
  unfold Pl.kMax
  go_enter Tryz.func97, Tryz.ntmps97
  go_wp2_with fail
  refine (unhide hM).mono ?_
  rintro e w1 ⟨rfl, hw1⟩
  rw [hw1]
  clear hw1 w1 hM
  go_wp2
  go_ret
  exact ⟨rfl, rfl⟩

/-! Rounding. -/
theorem Pl.ediv_facts (a d : Int) (hd : 1 ≤ d) : a / d * d ≤ a ∧ a < a / d * d + d := by
  have h1 := Int.emod_add_mul_ediv a d
  have h2 := Int.emod_nonneg a (show d ≠ 0 by omega)
  have h3 := Int.emod_lt_of_pos a (show 0 < d by omega)
  rw [Int.mul_comm] at h1
  omega
theorem Pl.ediv_uniq {a d q : Int} (hd : 1 ≤ d) (h1 : q * d ≤ a) (h2 : a < q * d + d) : a / d = q := by
  have e1 : q ≤ a / d := Int.le_ediv_of_mul_le (by omega) h1
  have e2 : a / d < q + 1 := Int.ediv_lt_of_lt_mul (by omega) (by rw [Int.add_mul]; omega)
  omega
theorem Pl.up_eq (a d : Int) (hd : 1 ≤ d) : -(-a / d) = if a / d * d < a then a / d + 1 else a / d := by
  have h := Pl.ediv_facts a d hd
  split
  · rename_i hlt
    have : -a / d = -(a / d + 1) := Pl.ediv_uniq hd (by rw [Int.neg_mul, Int.add_mul]; omega) (by rw [Int.neg_mul, Int.add_mul]; omega)
    omega
  · rename_i hlt
    have : -a / d = -(a / d) := Pl.ediv_uniq hd (by rw [Int.neg_mul]; omega) (by rw [Int.neg_mul]; omega)
    omega
theorem Pl.quotW_eq (op a d : Int) (hd : 1 ≤ d ∧ d ≤ 1000000) (ha : Pl.Sm a) : Pl.quotW op a d = if op = 9 then (if a / d * d < a then a / d + 1 else a / d) else if op = 10 then (if a < 0 ∧ a / d * d < a then a / d + 1 else a / d) else if op = 11 then (2 * a + d) / (2 * d) else a / d := by
  obtain ⟨h1, h2⟩ := ha
  have d2 := Pl.div_bd (-a) d 1000000000000000 hd.1 (by omega) (by omega)
  unfold Pl.quotW
  rw [Pl.wrap_id (-a) (by omega) (by omega), Pl.floorW_mid a d hd.1 (by omega) (by omega), Pl.floorW_mid (-a) d hd.1 (by omega) (by omega), Pl.wrap_id (-(-a / d)) (by omega) (by omega), Pl.wrap_id (2 * a) (by omega) (by omega), Pl.wrap_id (2 * a + d) (by omega) (by omega), Pl.wrap_id (2 * d) (by omega) (by omega), Pl.floorW_mid (2 * a + d) (2 * d) (by omega) (by omega) (by omega), Pl.up_eq a d hd.1]
  have hf := Pl.ediv_facts a d hd.1
  by_cases h9 : op = 9
  · rw [if_pos h9, if_pos h9]
  rw [if_neg h9, if_neg h9]
  by_cases h10 : op = 10
  · rw [if_pos h10, if_pos h10]
    by_cases hp : 0 < a
    · rw [if_pos hp, if_neg (by omega)]
    · rw [if_neg hp]
      by_cases hz : a = 0
      · subst hz; simp
      · by_cases hlt : a / d * d < a
        · rw [if_pos hlt, if_pos ⟨by omega, hlt⟩]
        · rw [if_neg hlt, if_neg (fun h => hlt h.2)]
  rw [if_neg h10, if_neg h10]
set_option maxRecDepth 100000 in
set_option maxHeartbeats 1000000 in
theorem rounded_ref (m : List UInt8) (op a d : Int) (w : World) (hm : Pl.roundingOf m = some op) (hd : 1 ≤ d ∧ d ≤ 1000000) (ha : Pl.Sm a) : Calls Tryz.prog 100 #[.string ⟨m.toArray⟩, .int .i64 a, .int .i64 d] w fun e w' => e = .returned (.int .i64 (Pl.quotW op a d)) ∧ w' = w := by
  rw [Pl.quotW_eq op a d hd ha]
  have hf := Pl.ediv_facts a d hd.1
  have hb := Pl.div_bd a d 1000000000000000 hd.1 ha.1 ha.2
  obtain ⟨hd1, hd2⟩ := hd
  obtain ⟨ha1, ha2⟩ := ha
  obtain ⟨hf1, hf2⟩ := hf
  obtain ⟨hb1, hb2⟩ := hb
  have hD := hide (down_any a d w (by omega) (by omega) (by omega) (by omega))
  have hD2 := hide (down_any (2 * a + d) (2 * d) w (by omega) (by omega) (by omega) (by omega))
  have hqb : -1000001000000000 ≤ a / d * d := by omega
  generalize (2 * a + d) / (2 * d) = Q2 at *
  generalize hqd : a / d * d = QD at *
  generalize a / d = Q at *
  unfold Pl.roundingOf at hm
  split at hm
  · rename_i e; cases hm; subst e
    unfold Pl.kDown
    simp only [show ¬ ((8 : Int) = 9) by decide, show ¬ ((8 : Int) = 10) by decide, show ¬ ((8 : Int) = 11) by decide, if_false]
    clear hD2 hqd
    go_enter Tryz.func100, Tryz.ntmps100
    go_wp2_with fail
    refine (unhide hD).mono ?_
    rintro e w1 ⟨rfl, hw1⟩
    rw [hw1]
    clear hw1 w1 hD
    go_wp2
    go_ret
    exact ⟨rfl, rfl⟩
  split at hm
  · rename_i e; cases hm; subst e
    unfold Pl.kUp
    rw [if_pos rfl]
    clear hD2
    by_cases hlt : QD < a
    · rw [if_pos hlt]
      go_enter Tryz.func100, Tryz.ntmps100
      go_wp2_with fail
      refine (unhide hD).mono ?_
      rintro e w1 ⟨rfl, hw1⟩
      rw [hw1]
      clear hw1 w1 hD
      go_wp2
      all_goals go_ret
      all_goals exact ⟨ret_int (by omega), rfl⟩
    · rw [if_neg hlt]
      go_enter Tryz.func100, Tryz.ntmps100
      go_wp2_with fail
      refine (unhide hD).mono ?_
      rintro e w1 ⟨rfl, hw1⟩
      rw [hw1]
      clear hw1 w1 hD
      go_wp2
      all_goals go_ret
      all_goals exact ⟨ret_int (by omega), rfl⟩
  split at hm
  · rename_i e; cases hm; subst e
    unfold Pl.kZero
    rw [if_neg (by decide), if_pos rfl]
    clear hD2
    by_cases ha0 : a < 0
    · by_cases hlt : QD < a
      · rw [if_pos ⟨ha0, hlt⟩]
        go_enter Tryz.func100, Tryz.ntmps100
        go_wp2_with fail
        refine (unhide hD).mono ?_
        rintro e w1 ⟨rfl, hw1⟩
        rw [hw1]
        clear hw1 w1 hD
        go_wp2
        all_goals go_ret
        all_goals exact ⟨ret_int (by omega), rfl⟩
      · rw [if_neg (by omega)]
        go_enter Tryz.func100, Tryz.ntmps100
        go_wp2_with fail
        refine (unhide hD).mono ?_
        rintro e w1 ⟨rfl, hw1⟩
        rw [hw1]
        clear hw1 w1 hD
        go_wp2
        all_goals go_ret
        all_goals exact ⟨ret_int (by omega), rfl⟩
    · rw [if_neg (by omega)]
      go_enter Tryz.func100, Tryz.ntmps100
      go_wp2_with fail
      refine (unhide hD).mono ?_
      rintro e w1 ⟨rfl, hw1⟩
      rw [hw1]
      clear hw1 w1 hD
      go_wp2
      all_goals go_ret
      all_goals exact ⟨ret_int (by omega), rfl⟩
  split at hm
  · rename_i e; cases hm; subst e
    unfold Pl.kNear
    rw [if_neg (by decide), if_neg (by decide), if_pos rfl]
    clear hqd
    go_enter Tryz.func100, Tryz.ntmps100
    go_wp2_with fail
    refine (unhide hD).mono ?_
    rintro e w1 ⟨rfl, hw1⟩
    rw [hw1]
    clear hw1 w1 hD
    go_wp2_with fail
    refine (unhide hD2).mono ?_
    rintro e w1 ⟨rfl, hw1⟩
    rw [hw1]
    clear hw1 w1 hD2
    go_wp2
    go_ret
    exact ⟨rfl, rfl⟩
  · cases hm
end Go.Proofs.YtbbdkgfdeghdfaaGreat
