/- Joined: Ref30. -/
import Derived.Test.YtfaljekgpnbmiaaGreatH35
/-
  Contracts of the reference's Cond, word by word.
-/
namespace Go.Proofs.YtfaljekgpnbmiaaGreat
open Go.RowKit
set_option linter.unusedVariables false
set_option linter.unusedSimpArgs false

set_option maxRecDepth 100000 in
set_option maxHeartbeats 2000000 in
theorem C_kAnd_true_true (toks : List (List UInt8)) (names : List Pl.DeclM) (known : List Int) (vt vn vk : Value) (i : Nat) (w : World) (h : TextAt w vt vn vk toks names known) (hi : i < toks.length) (hl : toks.length ≤ 9000) (ho : toks.getD i [] = Pl.kAnd) (p q : Nat) (hA : CallT 152 vt vn vk w (i + 1) (.bool true) p) (hB : CallT 152 vt vn vk w p (.bool true) q) :
    Calls Tryz.prog 152 #[.agg #[vt, vn, vk], .int .i64 i] w fun e w' => e = .returned (.tuple #[.bool true, .int .i64 q]) ∧ Below w.heap.size w w' := by
  have HA := hide hA
  have HBB := hide hB
  clear hA hB
  obtain ⟨a1, p1, a2, p2, a3, p3, rfl, rfl, rfl⟩ := text_shape h
  obtain ⟨gt, rfl, hct⟩ := h.toks.get i hi
  have HT := hide (tok_at h.toks)
  have HB := hide (fun a => (Below.refl _ w).alloc (Nat.le_refl _) a)
  have hct2 := fun a => cell_low (unhide HB a) (lt_of_cell hct) hct
  rw [ho] at hct2
  clear h hct ho
  unfold Pl.kAnd at hct2
  go_enter Tryz.func152, Tryz.ntmps152
  go_wp2_with fail
  refine (unhide HA _ _ (unhide HB _) (by omega)).mono ?_
  rintro e w1 ⟨rfl, hb1⟩
  have HX1 := hide (bx_start hb1)
  clear hb1 HA
  obtain ⟨x0, x1, x2⟩ := (unhide HX1).cells
  go_wp2_with fail
  refine (unhide HBB _ _ (unhide HX1).1 (by omega)).mono ?_
  rintro e w2 ⟨rfl, hb2⟩
  have HX2 := hide ((unhide HX1).next hb2)
  clear x0 x1 x2 HX1
  clear hb2 HBB
  obtain ⟨x0, x1, x2⟩ := (unhide HX2).cells
  go_wp2
  go_ret2
  exact ⟨rfl, (unhide HX2).1⟩
set_option maxRecDepth 100000 in
set_option maxHeartbeats 2000000 in
theorem C_kAnd_true_false (toks : List (List UInt8)) (names : List Pl.DeclM) (known : List Int) (vt vn vk : Value) (i : Nat) (w : World) (h : TextAt w vt vn vk toks names known) (hi : i < toks.length) (hl : toks.length ≤ 9000) (ho : toks.getD i [] = Pl.kAnd) (p q : Nat) (hA : CallT 152 vt vn vk w (i + 1) (.bool true) p) (hB : CallT 152 vt vn vk w p (.bool false) q) :
    Calls Tryz.prog 152 #[.agg #[vt, vn, vk], .int .i64 i] w fun e w' => e = .returned (.tuple #[.bool false, .int .i64 q]) ∧ Below w.heap.size w w' := by
  have HA := hide hA
  have HBB := hide hB
  clear hA hB
  obtain ⟨a1, p1, a2, p2, a3, p3, rfl, rfl, rfl⟩ := text_shape h
  obtain ⟨gt, rfl, hct⟩ := h.toks.get i hi
  have HT := hide (tok_at h.toks)
  have HB := hide (fun a => (Below.refl _ w).alloc (Nat.le_refl _) a)
  have hct2 := fun a => cell_low (unhide HB a) (lt_of_cell hct) hct
  rw [ho] at hct2
  clear h hct ho
  unfold Pl.kAnd at hct2
  go_enter Tryz.func152, Tryz.ntmps152
  go_wp2_with fail
  refine (unhide HA _ _ (unhide HB _) (by omega)).mono ?_
  rintro e w1 ⟨rfl, hb1⟩
  have HX1 := hide (bx_start hb1)
  clear hb1 HA
  obtain ⟨x0, x1, x2⟩ := (unhide HX1).cells
  go_wp2_with fail
  refine (unhide HBB _ _ (unhide HX1).1 (by omega)).mono ?_
  rintro e w2 ⟨rfl, hb2⟩
  have HX2 := hide ((unhide HX1).next hb2)
  clear x0 x1 x2 HX1
  clear hb2 HBB
  obtain ⟨x0, x1, x2⟩ := (unhide HX2).cells
  go_wp2
  go_ret2
  exact ⟨rfl, (unhide HX2).1⟩
set_option maxRecDepth 100000 in
set_option maxHeartbeats 2000000 in
theorem C_kAnd_false_true (toks : List (List UInt8)) (names : List Pl.DeclM) (known : List Int) (vt vn vk : Value) (i : Nat) (w : World) (h : TextAt w vt vn vk toks names known) (hi : i < toks.length) (hl : toks.length ≤ 9000) (ho : toks.getD i [] = Pl.kAnd) (p q : Nat) (hA : CallT 152 vt vn vk w (i + 1) (.bool false) p) (hB : CallT 152 vt vn vk w p (.bool true) q) :
    Calls Tryz.prog 152 #[.agg #[vt, vn, vk], .int .i64 i] w fun e w' => e = .returned (.tuple #[.bool false, .int .i64 q]) ∧ Below w.heap.size w w' := by
  have HA := hide hA
  have HBB := hide hB
  clear hA hB
  obtain ⟨a1, p1, a2, p2, a3, p3, rfl, rfl, rfl⟩ := text_shape h
  obtain ⟨gt, rfl, hct⟩ := h.toks.get i hi
  have HT := hide (tok_at h.toks)
  have HB := hide (fun a => (Below.refl _ w).alloc (Nat.le_refl _) a)
  have hct2 := fun a => cell_low (unhide HB a) (lt_of_cell hct) hct
  rw [ho] at hct2
  clear h hct ho
  unfold Pl.kAnd at hct2
  go_enter Tryz.func152, Tryz.ntmps152
  go_wp2_with fail
  refine (unhide HA _ _ (unhide HB _) (by omega)).mono ?_
  rintro e w1 ⟨rfl, hb1⟩
  have HX1 := hide (bx_start hb1)
  clear hb1 HA
  obtain ⟨x0, x1, x2⟩ := (unhide HX1).cells
  go_wp2_with fail
  refine (unhide HBB _ _ (unhide HX1).1 (by omega)).mono ?_
  rintro e w2 ⟨rfl, hb2⟩
  have HX2 := hide ((unhide HX1).next hb2)
  clear x0 x1 x2 HX1
  clear hb2 HBB
  obtain ⟨x0, x1, x2⟩ := (unhide HX2).cells
  go_wp2
  go_ret2
  exact ⟨rfl, (unhide HX2).1⟩
set_option maxRecDepth 100000 in
set_option maxHeartbeats 2000000 in
theorem C_kAnd_false_false (toks : List (List UInt8)) (names : List Pl.DeclM) (known : List Int) (vt vn vk : Value) (i : Nat) (w : World) (h : TextAt w vt vn vk toks names known) (hi : i < toks.length) (hl : toks.length ≤ 9000) (ho : toks.getD i [] = Pl.kAnd) (p q : Nat) (hA : CallT 152 vt vn vk w (i + 1) (.bool false) p) (hB : CallT 152 vt vn vk w p (.bool false) q) :
    Calls Tryz.prog 152 #[.agg #[vt, vn, vk], .int .i64 i] w fun e w' => e = .returned (.tuple #[.bool false, .int .i64 q]) ∧ Below w.heap.size w w' := by
  have HA := hide hA
  have HBB := hide hB
  clear hA hB
  obtain ⟨a1, p1, a2, p2, a3, p3, rfl, rfl, rfl⟩ := text_shape h
  obtain ⟨gt, rfl, hct⟩ := h.toks.get i hi
  have HT := hide (tok_at h.toks)
  have HB := hide (fun a => (Below.refl _ w).alloc (Nat.le_refl _) a)
  have hct2 := fun a => cell_low (unhide HB a) (lt_of_cell hct) hct
  rw [ho] at hct2
  clear h hct ho
  unfold Pl.kAnd at hct2
  go_enter Tryz.func152, Tryz.ntmps152
  go_wp2_with fail
  refine (unhide HA _ _ (unhide HB _) (by omega)).mono ?_
  rintro e w1 ⟨rfl, hb1⟩
  have HX1 := hide (bx_start hb1)
  clear hb1 HA
  obtain ⟨x0, x1, x2⟩ := (unhide HX1).cells
  go_wp2_with fail
  refine (unhide HBB _ _ (unhide HX1).1 (by omega)).mono ?_
  rintro e w2 ⟨rfl, hb2⟩
  have HX2 := hide ((unhide HX1).next hb2)
  clear x0 x1 x2 HX1
  clear hb2 HBB
  obtain ⟨x0, x1, x2⟩ := (unhide HX2).cells
  go_wp2
  go_ret2
  exact ⟨rfl, (unhide HX2).1⟩
set_option maxRecDepth 100000 in
set_option maxHeartbeats 2000000 in
theorem C_kOr_true_true (toks : List (List UInt8)) (names : List Pl.DeclM) (known : List Int) (vt vn vk : Value) (i : Nat) (w : World) (h : TextAt w vt vn vk toks names known) (hi : i < toks.length) (hl : toks.length ≤ 9000) (ho : toks.getD i [] = Pl.kOr) (p q : Nat) (hA : CallT 152 vt vn vk w (i + 1) (.bool true) p) (hB : CallT 152 vt vn vk w p (.bool true) q) :
    Calls Tryz.prog 152 #[.agg #[vt, vn, vk], .int .i64 i] w fun e w' => e = .returned (.tuple #[.bool true, .int .i64 q]) ∧ Below w.heap.size w w' := by
  have HA := hide hA
  have HBB := hide hB
  clear hA hB
  obtain ⟨a1, p1, a2, p2, a3, p3, rfl, rfl, rfl⟩ := text_shape h
  obtain ⟨gt, rfl, hct⟩ := h.toks.get i hi
  have HT := hide (tok_at h.toks)
  have HB := hide (fun a => (Below.refl _ w).alloc (Nat.le_refl _) a)
  have hct2 := fun a => cell_low (unhide HB a) (lt_of_cell hct) hct
  rw [ho] at hct2
  clear h hct ho
  unfold Pl.kOr at hct2
  go_enter Tryz.func152, Tryz.ntmps152
  go_wp2_with fail
  refine (unhide HA _ _ (unhide HB _) (by omega)).mono ?_
  rintro e w1 ⟨rfl, hb1⟩
  have HX1 := hide (bx_start hb1)
  clear hb1 HA
  obtain ⟨x0, x1, x2⟩ := (unhide HX1).cells
  go_wp2_with fail
  refine (unhide HBB _ _ (unhide HX1).1 (by omega)).mono ?_
  rintro e w2 ⟨rfl, hb2⟩
  have HX2 := hide ((unhide HX1).next hb2)
  clear x0 x1 x2 HX1
  clear hb2 HBB
  obtain ⟨x0, x1, x2⟩ := (unhide HX2).cells
  go_wp2
  go_ret2
  exact ⟨rfl, (unhide HX2).1⟩
set_option maxRecDepth 100000 in
set_option maxHeartbeats 2000000 in
theorem C_kOr_true_false (toks : List (List UInt8)) (names : List Pl.DeclM) (known : List Int) (vt vn vk : Value) (i : Nat) (w : World) (h : TextAt w vt vn vk toks names known) (hi : i < toks.length) (hl : toks.length ≤ 9000) (ho : toks.getD i [] = Pl.kOr) (p q : Nat) (hA : CallT 152 vt vn vk w (i + 1) (.bool true) p) (hB : CallT 152 vt vn vk w p (.bool false) q) :
    Calls Tryz.prog 152 #[.agg #[vt, vn, vk], .int .i64 i] w fun e w' => e = .returned (.tuple #[.bool true, .int .i64 q]) ∧ Below w.heap.size w w' := by
  have HA := hide hA
  have HBB := hide hB
  clear hA hB
  obtain ⟨a1, p1, a2, p2, a3, p3, rfl, rfl, rfl⟩ := text_shape h
  obtain ⟨gt, rfl, hct⟩ := h.toks.get i hi
  have HT := hide (tok_at h.toks)
  have HB := hide (fun a => (Below.refl _ w).alloc (Nat.le_refl _) a)
  have hct2 := fun a => cell_low (unhide HB a) (lt_of_cell hct) hct
  rw [ho] at hct2
  clear h hct ho
  unfold Pl.kOr at hct2
  go_enter Tryz.func152, Tryz.ntmps152
  go_wp2_with fail
  refine (unhide HA _ _ (unhide HB _) (by omega)).mono ?_
  rintro e w1 ⟨rfl, hb1⟩
  have HX1 := hide (bx_start hb1)
  clear hb1 HA
  obtain ⟨x0, x1, x2⟩ := (unhide HX1).cells
  go_wp2_with fail
  refine (unhide HBB _ _ (unhide HX1).1 (by omega)).mono ?_
  rintro e w2 ⟨rfl, hb2⟩
  have HX2 := hide ((unhide HX1).next hb2)
  clear x0 x1 x2 HX1
  clear hb2 HBB
  obtain ⟨x0, x1, x2⟩ := (unhide HX2).cells
  go_wp2
  go_ret2
  exact ⟨rfl, (unhide HX2).1⟩
set_option maxRecDepth 100000 in
set_option maxHeartbeats 2000000 in
theorem C_kOr_false_true (toks : List (List UInt8)) (names : List Pl.DeclM) (known : List Int) (vt vn vk : Value) (i : Nat) (w : World) (h : TextAt w vt vn vk toks names known) (hi : i < toks.length) (hl : toks.length ≤ 9000) (ho : toks.getD i [] = Pl.kOr) (p q : Nat) (hA : CallT 152 vt vn vk w (i + 1) (.bool false) p) (hB : CallT 152 vt vn vk w p (.bool true) q) :
    Calls Tryz.prog 152 #[.agg #[vt, vn, vk], .int .i64 i] w fun e w' => e = .returned (.tuple #[.bool true, .int .i64 q]) ∧ Below w.heap.size w w' := by
  have HA := hide hA
  have HBB := hide hB
  clear hA hB
  obtain ⟨a1, p1, a2, p2, a3, p3, rfl, rfl, rfl⟩ := text_shape h
  obtain ⟨gt, rfl, hct⟩ := h.toks.get i hi
  have HT := hide (tok_at h.toks)
  have HB := hide (fun a => (Below.refl _ w).alloc (Nat.le_refl _) a)
  have hct2 := fun a => cell_low (unhide HB a) (lt_of_cell hct) hct
  rw [ho] at hct2
  clear h hct ho
  unfold Pl.kOr at hct2
  go_enter Tryz.func152, Tryz.ntmps152
  go_wp2_with fail
  refine (unhide HA _ _ (unhide HB _) (by omega)).mono ?_
  rintro e w1 ⟨rfl, hb1⟩
  have HX1 := hide (bx_start hb1)
  clear hb1 HA
  obtain ⟨x0, x1, x2⟩ := (unhide HX1).cells
  go_wp2_with fail
  refine (unhide HBB _ _ (unhide HX1).1 (by omega)).mono ?_
  rintro e w2 ⟨rfl, hb2⟩
  have HX2 := hide ((unhide HX1).next hb2)
  clear x0 x1 x2 HX1
  clear hb2 HBB
  obtain ⟨x0, x1, x2⟩ := (unhide HX2).cells
  go_wp2
  go_ret2
  exact ⟨rfl, (unhide HX2).1⟩
set_option maxRecDepth 100000 in
set_option maxHeartbeats 2000000 in
theorem C_kOr_false_false (toks : List (List UInt8)) (names : List Pl.DeclM) (known : List Int) (vt vn vk : Value) (i : Nat) (w : World) (h : TextAt w vt vn vk toks names known) (hi : i < toks.length) (hl : toks.length ≤ 9000) (ho : toks.getD i [] = Pl.kOr) (p q : Nat) (hA : CallT 152 vt vn vk w (i + 1) (.bool false) p) (hB : CallT 152 vt vn vk w p (.bool false) q) :
    Calls Tryz.prog 152 #[.agg #[vt, vn, vk], .int .i64 i] w fun e w' => e = .returned (.tuple #[.bool false, .int .i64 q]) ∧ Below w.heap.size w w' := by
  have HA := hide hA
  have HBB := hide hB
  clear hA hB
  obtain ⟨a1, p1, a2, p2, a3, p3, rfl, rfl, rfl⟩ := text_shape h
  obtain ⟨gt, rfl, hct⟩ := h.toks.get i hi
  have HT := hide (tok_at h.toks)
  have HB := hide (fun a => (Below.refl _ w).alloc (Nat.le_refl _) a)
  have hct2 := fun a => cell_low (unhide HB a) (lt_of_cell hct) hct
  rw [ho] at hct2
  clear h hct ho
  unfold Pl.kOr at hct2
  go_enter Tryz.func152, Tryz.ntmps152
  go_wp2_with fail
  refine (unhide HA _ _ (unhide HB _) (by omega)).mono ?_
  rintro e w1 ⟨rfl, hb1⟩
  have HX1 := hide (bx_start hb1)
  clear hb1 HA
  obtain ⟨x0, x1, x2⟩ := (unhide HX1).cells
  go_wp2_with fail
  refine (unhide HBB _ _ (unhide HX1).1 (by omega)).mono ?_
  rintro e w2 ⟨rfl, hb2⟩
  have HX2 := hide ((unhide HX1).next hb2)
  clear x0 x1 x2 HX1
  clear hb2 HBB
  obtain ⟨x0, x1, x2⟩ := (unhide HX2).cells
  go_wp2
  go_ret2
  exact ⟨rfl, (unhide HX2).1⟩
set_option maxRecDepth 100000 in
set_option maxHeartbeats 2000000 in
theorem C_kNot_true (toks : List (List UInt8)) (names : List Pl.DeclM) (known : List Int) (vt vn vk : Value) (i : Nat) (w : World) (h : TextAt w vt vn vk toks names known) (hi : i < toks.length) (hl : toks.length ≤ 9000) (ho : toks.getD i [] = Pl.kNot) (q : Nat) (hA : CallT 152 vt vn vk w (i + 1) (.bool true) q) :
    Calls Tryz.prog 152 #[.agg #[vt, vn, vk], .int .i64 i] w fun e w' => e = .returned (.tuple #[.bool false, .int .i64 q]) ∧ Below w.heap.size w w' := by
  have HA := hide hA
  clear hA
  obtain ⟨a1, p1, a2, p2, a3, p3, rfl, rfl, rfl⟩ := text_shape h
  obtain ⟨gt, rfl, hct⟩ := h.toks.get i hi
  have HT := hide (tok_at h.toks)
  have HB := hide (fun a => (Below.refl _ w).alloc (Nat.le_refl _) a)
  have hct2 := fun a => cell_low (unhide HB a) (lt_of_cell hct) hct
  rw [ho] at hct2
  clear h hct ho
  unfold Pl.kNot at hct2
  go_enter Tryz.func152, Tryz.ntmps152
  go_wp2_with fail
  refine (unhide HA _ _ (unhide HB _) (by omega)).mono ?_
  rintro e w1 ⟨rfl, hb1⟩
  have HX1 := hide (bx_start hb1)
  clear hb1 HA
  obtain ⟨x0, x1, x2⟩ := (unhide HX1).cells
  go_wp2
  go_ret2
  exact ⟨rfl, (unhide HX1).1⟩
set_option maxRecDepth 100000 in
set_option maxHeartbeats 2000000 in
theorem C_kNot_false (toks : List (List UInt8)) (names : List Pl.DeclM) (known : List Int) (vt vn vk : Value) (i : Nat) (w : World) (h : TextAt w vt vn vk toks names known) (hi : i < toks.length) (hl : toks.length ≤ 9000) (ho : toks.getD i [] = Pl.kNot) (q : Nat) (hA : CallT 152 vt vn vk w (i + 1) (.bool false) q) :
    Calls Tryz.prog 152 #[.agg #[vt, vn, vk], .int .i64 i] w fun e w' => e = .returned (.tuple #[.bool true, .int .i64 q]) ∧ Below w.heap.size w w' := by
  have HA := hide hA
  clear hA
  obtain ⟨a1, p1, a2, p2, a3, p3, rfl, rfl, rfl⟩ := text_shape h
  obtain ⟨gt, rfl, hct⟩ := h.toks.get i hi
  have HT := hide (tok_at h.toks)
  have HB := hide (fun a => (Below.refl _ w).alloc (Nat.le_refl _) a)
  have hct2 := fun a => cell_low (unhide HB a) (lt_of_cell hct) hct
  rw [ho] at hct2
  clear h hct ho
  unfold Pl.kNot at hct2
  go_enter Tryz.func152, Tryz.ntmps152
  go_wp2_with fail
  refine (unhide HA _ _ (unhide HB _) (by omega)).mono ?_
  rintro e w1 ⟨rfl, hb1⟩
  have HX1 := hide (bx_start hb1)
  clear hb1 HA
  obtain ⟨x0, x1, x2⟩ := (unhide HX1).cells
  go_wp2
  go_ret2
  exact ⟨rfl, (unhide HX1).1⟩
set_option maxRecDepth 100000 in
set_option maxHeartbeats 2000000 in
theorem C_kLt (toks : List (List UInt8)) (names : List Pl.DeclM) (known : List Int) (vt vn vk : Value) (i : Nat) (w : World) (h : TextAt w vt vn vk toks names known) (hi : i < toks.length) (hl : toks.length ≤ 9000) (ho : toks.getD i [] = Pl.kLt) (p q : Nat) (A B : Int) (hA : CallT 114 vt vn vk w (i + 1) (.int .i64 A) p) (hB : CallT 114 vt vn vk w p (.int .i64 B) q) :
    Calls Tryz.prog 152 #[.agg #[vt, vn, vk], .int .i64 i] w fun e w' => e = .returned (.tuple #[.bool (decide (A < B)), .int .i64 q]) ∧ Below w.heap.size w w' := by
  have HA := hide hA
  have HBB := hide hB
  clear hA hB
  obtain ⟨a1, p1, a2, p2, a3, p3, rfl, rfl, rfl⟩ := text_shape h
  obtain ⟨gt, rfl, hct⟩ := h.toks.get i hi
  have HT := hide (tok_at h.toks)
  have HB := hide (fun a => (Below.refl _ w).alloc (Nat.le_refl _) a)
  have hct2 := fun a => cell_low (unhide HB a) (lt_of_cell hct) hct
  rw [ho] at hct2
  clear h hct ho
  unfold Pl.kLt at hct2
  go_enter Tryz.func152, Tryz.ntmps152
  go_wp2_with fail
  refine (unhide HA _ _ (unhide HB _) (by omega)).mono ?_
  rintro e w1 ⟨rfl, hb1⟩
  have HX1 := hide (bx_start hb1)
  clear hb1 HA
  obtain ⟨x0, x1, x2⟩ := (unhide HX1).cells
  go_wp2_with fail
  refine (unhide HBB _ _ (unhide HX1).1 (by omega)).mono ?_
  rintro e w2 ⟨rfl, hb2⟩
  have HX2 := hide ((unhide HX1).next hb2)
  clear x0 x1 x2 HX1
  clear hb2 HBB
  obtain ⟨x0, x1, x2⟩ := (unhide HX2).cells
  go_wp2
  go_ret2
  exact ⟨rfl, (unhide HX2).1⟩
set_option maxRecDepth 100000 in
set_option maxHeartbeats 2000000 in
theorem C_kLe (toks : List (List UInt8)) (names : List Pl.DeclM) (known : List Int) (vt vn vk : Value) (i : Nat) (w : World) (h : TextAt w vt vn vk toks names known) (hi : i < toks.length) (hl : toks.length ≤ 9000) (ho : toks.getD i [] = Pl.kLe) (p q : Nat) (A B : Int) (hA : CallT 114 vt vn vk w (i + 1) (.int .i64 A) p) (hB : CallT 114 vt vn vk w p (.int .i64 B) q) :
    Calls Tryz.prog 152 #[.agg #[vt, vn, vk], .int .i64 i] w fun e w' => e = .returned (.tuple #[.bool (decide (A ≤ B)), .int .i64 q]) ∧ Below w.heap.size w w' := by
  have HA := hide hA
  have HBB := hide hB
  clear hA hB
  obtain ⟨a1, p1, a2, p2, a3, p3, rfl, rfl, rfl⟩ := text_shape h
  obtain ⟨gt, rfl, hct⟩ := h.toks.get i hi
  have HT := hide (tok_at h.toks)
  have HB := hide (fun a => (Below.refl _ w).alloc (Nat.le_refl _) a)
  have hct2 := fun a => cell_low (unhide HB a) (lt_of_cell hct) hct
  rw [ho] at hct2
  clear h hct ho
  unfold Pl.kLe at hct2
  go_enter Tryz.func152, Tryz.ntmps152
  go_wp2_with fail
  refine (unhide HA _ _ (unhide HB _) (by omega)).mono ?_
  rintro e w1 ⟨rfl, hb1⟩
  have HX1 := hide (bx_start hb1)
  clear hb1 HA
  obtain ⟨x0, x1, x2⟩ := (unhide HX1).cells
  go_wp2_with fail
  refine (unhide HBB _ _ (unhide HX1).1 (by omega)).mono ?_
  rintro e w2 ⟨rfl, hb2⟩
  have HX2 := hide ((unhide HX1).next hb2)
  clear x0 x1 x2 HX1
  clear hb2 HBB
  obtain ⟨x0, x1, x2⟩ := (unhide HX2).cells
  go_wp2
  go_ret2
  exact ⟨rfl, (unhide HX2).1⟩
set_option maxRecDepth 100000 in
set_option maxHeartbeats 2000000 in
theorem C_kEq (toks : List (List UInt8)) (names : List Pl.DeclM) (known : List Int) (vt vn vk : Value) (i : Nat) (w : World) (h : TextAt w vt vn vk toks names known) (hi : i < toks.length) (hl : toks.length ≤ 9000) (ho : toks.getD i [] = Pl.kEq) (p q : Nat) (A B : Int) (hA : CallT 114 vt vn vk w (i + 1) (.int .i64 A) p) (hB : CallT 114 vt vn vk w p (.int .i64 B) q) :
    Calls Tryz.prog 152 #[.agg #[vt, vn, vk], .int .i64 i] w fun e w' => e = .returned (.tuple #[.bool (decide (A = B)), .int .i64 q]) ∧ Below w.heap.size w w' := by
  have HA := hide hA
  have HBB := hide hB
  clear hA hB
  obtain ⟨a1, p1, a2, p2, a3, p3, rfl, rfl, rfl⟩ := text_shape h
  obtain ⟨gt, rfl, hct⟩ := h.toks.get i hi
  have HT := hide (tok_at h.toks)
  have HB := hide (fun a => (Below.refl _ w).alloc (Nat.le_refl _) a)
  have hct2 := fun a => cell_low (unhide HB a) (lt_of_cell hct) hct
  rw [ho] at hct2
  clear h hct ho
  unfold Pl.kEq at hct2
  go_enter Tryz.func152, Tryz.ntmps152
  go_wp2_with fail
  refine (unhide HA _ _ (unhide HB _) (by omega)).mono ?_
  rintro e w1 ⟨rfl, hb1⟩
  have HX1 := hide (bx_start hb1)
  clear hb1 HA
  obtain ⟨x0, x1, x2⟩ := (unhide HX1).cells
  go_wp2_with fail
  refine (unhide HBB _ _ (unhide HX1).1 (by omega)).mono ?_
  rintro e w2 ⟨rfl, hb2⟩
  have HX2 := hide ((unhide HX1).next hb2)
  clear x0 x1 x2 HX1
  clear hb2 HBB
  obtain ⟨x0, x1, x2⟩ := (unhide HX2).cells
  go_wp2
  go_ret2
  exact ⟨by simp; rfl, (unhide HX2).1⟩
end Go.Proofs.YtfaljekgpnbmiaaGreat
