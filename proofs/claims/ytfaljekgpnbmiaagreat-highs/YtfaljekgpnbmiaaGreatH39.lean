/- Joined: Ref31c. -/
import Derived.Test.YtfaljekgpnbmiaaGreatH38
/-
  Contracts of the reference's Bound, of two parts.
-/
namespace Go.Proofs.YtfaljekgpnbmiaaGreat
open Go.RowKit
set_option linter.unusedVariables false
set_option linter.unusedSimpArgs false

set_option maxRecDepth 100000 in
set_option maxHeartbeats 2000000 in
theorem B_kEq_a (toks : List (List UInt8)) (names : List Pl.DeclM) (known : List Int) (vt vn vk : Value) (i : Nat) (w : World) (h : TextAt w vt vn vk toks names known) (hi : i < toks.length) (hl : toks.length ≤ 9000) (ho : toks.getD i [] = Pl.kEq) (p q : Nat) (A B : Int) (hA : CallT 146 vt vn vk w (i + 1) (.int .i64 A) p) (hB : CallT 146 vt vn vk w p (.int .i64 B) q) (hA0 : 0 ≤ A) (hA1 : A ≤ 1000000000000001) (hB0 : 0 ≤ B) (hB1 : B ≤ 1000000000000001) (ea : (A == 1000000000000001) = true) :
    Calls Tryz.prog 146 #[.agg #[vt, vn, vk], .int .i64 i] w fun e w' => e = .returned (.tuple #[.int .i64 (Pl.capB (A + B)), .int .i64 q]) ∧ Below w.heap.size w w' := by
  have HA := hide hA
  have HBB := hide hB
  clear hA hB
  have HC := hide (fun w1 => capped_any (A + B) w1 (by omega) (by omega))
  rw [Pl.capped_eq] at HC
  obtain ⟨a1, p1, a2, p2, a3, p3, rfl, rfl, rfl⟩ := text_shape h
  obtain ⟨gt, rfl, hct⟩ := h.toks.get i hi
  have HT := hide (tok_at h.toks)
  have HB := hide (fun a => (Below.refl _ w).alloc (Nat.le_refl _) a)
  have hct2 := fun a => cell_low (unhide HB a) (lt_of_cell hct) hct
  rw [ho] at hct2
  clear h hct ho
  unfold Pl.kEq at hct2
  go_enter Tryz.func146, Tryz.ntmps146
  go_wp2_with fail
  refine (unhide HA _ _ (unhide HB _) (by omega)).mono ?_
  rintro e w1 ⟨rfl, hb1⟩
  have HX1 := hide (bx_start hb1)
  clear hb1 HA
  obtain ⟨x0, x1, x2⟩ := (unhide HX1).cells
  go_wp2_with fail
  refine (unhide HBB _ _ (unhide HX1).1 (by omega)).mono ?_
  rintro e w2 ⟨rfl, hb2⟩
  have HX2 := hide ((unhide HX1).next hb2)
  clear x0 x1 x2 HX1
  clear hb2 HBB
  obtain ⟨x0, x1, x2⟩ := (unhide HX2).cells
  go_wp2_with fail
  refine (unhide HC _).mono ?_
  rintro e w3 ⟨rfl, hw3⟩
  rw [hw3]
  clear hw3 w3
  go_wp2
  go_ret2
  exact ⟨rfl, (unhide HX2).1⟩
set_option maxRecDepth 100000 in
set_option maxHeartbeats 2000000 in
theorem B_kEq_b (toks : List (List UInt8)) (names : List Pl.DeclM) (known : List Int) (vt vn vk : Value) (i : Nat) (w : World) (h : TextAt w vt vn vk toks names known) (hi : i < toks.length) (hl : toks.length ≤ 9000) (ho : toks.getD i [] = Pl.kEq) (p q : Nat) (A B : Int) (hA : CallT 146 vt vn vk w (i + 1) (.int .i64 A) p) (hB : CallT 146 vt vn vk w p (.int .i64 B) q) (hA0 : 0 ≤ A) (hA1 : A ≤ 1000000000000001) (hB0 : 0 ≤ B) (hB1 : B ≤ 1000000000000001) (ea : (A == 1000000000000001) = false) (eb : (B == 1000000000000001) = true) :
    Calls Tryz.prog 146 #[.agg #[vt, vn, vk], .int .i64 i] w fun e w' => e = .returned (.tuple #[.int .i64 (Pl.capB (A + B)), .int .i64 q]) ∧ Below w.heap.size w w' := by
  have HA := hide hA
  have HBB := hide hB
  clear hA hB
  have HC := hide (fun w1 => capped_any (A + B) w1 (by omega) (by omega))
  rw [Pl.capped_eq] at HC
  obtain ⟨a1, p1, a2, p2, a3, p3, rfl, rfl, rfl⟩ := text_shape h
  obtain ⟨gt, rfl, hct⟩ := h.toks.get i hi
  have HT := hide (tok_at h.toks)
  have HB := hide (fun a => (Below.refl _ w).alloc (Nat.le_refl _) a)
  have hct2 := fun a => cell_low (unhide HB a) (lt_of_cell hct) hct
  rw [ho] at hct2
  clear h hct ho
  unfold Pl.kEq at hct2
  go_enter Tryz.func146, Tryz.ntmps146
  go_wp2_with fail
  refine (unhide HA _ _ (unhide HB _) (by omega)).mono ?_
  rintro e w1 ⟨rfl, hb1⟩
  have HX1 := hide (bx_start hb1)
  clear hb1 HA
  obtain ⟨x0, x1, x2⟩ := (unhide HX1).cells
  go_wp2_with fail
  refine (unhide HBB _ _ (unhide HX1).1 (by omega)).mono ?_
  rintro e w2 ⟨rfl, hb2⟩
  have HX2 := hide ((unhide HX1).next hb2)
  clear x0 x1 x2 HX1
  clear hb2 HBB
  obtain ⟨x0, x1, x2⟩ := (unhide HX2).cells
  go_wp2_with fail
  refine (unhide HC _).mono ?_
  rintro e w3 ⟨rfl, hw3⟩
  rw [hw3]
  clear hw3 w3
  go_wp2
  go_ret2
  exact ⟨rfl, (unhide HX2).1⟩
set_option maxRecDepth 100000 in
set_option maxHeartbeats 2000000 in
theorem B_kEq_n (toks : List (List UInt8)) (names : List Pl.DeclM) (known : List Int) (vt vn vk : Value) (i : Nat) (w : World) (h : TextAt w vt vn vk toks names known) (hi : i < toks.length) (hl : toks.length ≤ 9000) (ho : toks.getD i [] = Pl.kEq) (p q : Nat) (A B : Int) (hA : CallT 146 vt vn vk w (i + 1) (.int .i64 A) p) (hB : CallT 146 vt vn vk w p (.int .i64 B) q) (hA0 : 0 ≤ A) (hA1 : A ≤ 1000000000000001) (hB0 : 0 ≤ B) (hB1 : B ≤ 1000000000000001) (ea : (A == 1000000000000001) = false) (eb : (B == 1000000000000001) = false) :
    Calls Tryz.prog 146 #[.agg #[vt, vn, vk], .int .i64 i] w fun e w' => e = .returned (.tuple #[.int .i64 (Pl.most A B), .int .i64 q]) ∧ Below w.heap.size w w' := by
  have HA := hide hA
  have HBB := hide hB
  clear hA hB
  have HC := hide (fun w1 => most_any A B w1)
  obtain ⟨a1, p1, a2, p2, a3, p3, rfl, rfl, rfl⟩ := text_shape h
  obtain ⟨gt, rfl, hct⟩ := h.toks.get i hi
  have HT := hide (tok_at h.toks)
  have HB := hide (fun a => (Below.refl _ w).alloc (Nat.le_refl _) a)
  have hct2 := fun a => cell_low (unhide HB a) (lt_of_cell hct) hct
  rw [ho] at hct2
  clear h hct ho
  unfold Pl.kEq at hct2
  go_enter Tryz.func146, Tryz.ntmps146
  go_wp2_with fail
  refine (unhide HA _ _ (unhide HB _) (by omega)).mono ?_
  rintro e w1 ⟨rfl, hb1⟩
  have HX1 := hide (bx_start hb1)
  clear hb1 HA
  obtain ⟨x0, x1, x2⟩ := (unhide HX1).cells
  go_wp2_with fail
  refine (unhide HBB _ _ (unhide HX1).1 (by omega)).mono ?_
  rintro e w2 ⟨rfl, hb2⟩
  have HX2 := hide ((unhide HX1).next hb2)
  clear x0 x1 x2 HX1
  clear hb2 HBB
  obtain ⟨x0, x1, x2⟩ := (unhide HX2).cells
  go_wp2_with fail
  refine (unhide HC _).mono ?_
  rintro e w3 ⟨rfl, hw3⟩
  rw [hw3]
  clear hw3 w3
  go_wp2
  go_ret2
  exact ⟨rfl, (unhide HX2).1⟩
set_option maxRecDepth 100000 in
set_option maxHeartbeats 2000000 in
theorem B_kAnd_a (toks : List (List UInt8)) (names : List Pl.DeclM) (known : List Int) (vt vn vk : Value) (i : Nat) (w : World) (h : TextAt w vt vn vk toks names known) (hi : i < toks.length) (hl : toks.length ≤ 9000) (ho : toks.getD i [] = Pl.kAnd) (p q : Nat) (A B : Int) (hA : CallT 146 vt vn vk w (i + 1) (.int .i64 A) p) (hB : CallT 146 vt vn vk w p (.int .i64 B) q) (hA0 : 0 ≤ A) (hA1 : A ≤ 1000000000000001) (hB0 : 0 ≤ B) (hB1 : B ≤ 1000000000000001) (ea : (A == 1000000000000001) = true) :
    Calls Tryz.prog 146 #[.agg #[vt, vn, vk], .int .i64 i] w fun e w' => e = .returned (.tuple #[.int .i64 (Pl.capB (A + B)), .int .i64 q]) ∧ Below w.heap.size w w' := by
  have HA := hide hA
  have HBB := hide hB
  clear hA hB
  have HC := hide (fun w1 => capped_any (A + B) w1 (by omega) (by omega))
  rw [Pl.capped_eq] at HC
  obtain ⟨a1, p1, a2, p2, a3, p3, rfl, rfl, rfl⟩ := text_shape h
  obtain ⟨gt, rfl, hct⟩ := h.toks.get i hi
  have HT := hide (tok_at h.toks)
  have HB := hide (fun a => (Below.refl _ w).alloc (Nat.le_refl _) a)
  have hct2 := fun a => cell_low (unhide HB a) (lt_of_cell hct) hct
  rw [ho] at hct2
  clear h hct ho
  unfold Pl.kAnd at hct2
  go_enter Tryz.func146, Tryz.ntmps146
  go_wp2_with fail
  refine (unhide HA _ _ (unhide HB _) (by omega)).mono ?_
  rintro e w1 ⟨rfl, hb1⟩
  have HX1 := hide (bx_start hb1)
  clear hb1 HA
  obtain ⟨x0, x1, x2⟩ := (unhide HX1).cells
  go_wp2_with fail
  refine (unhide HBB _ _ (unhide HX1).1 (by omega)).mono ?_
  rintro e w2 ⟨rfl, hb2⟩
  have HX2 := hide ((unhide HX1).next hb2)
  clear x0 x1 x2 HX1
  clear hb2 HBB
  obtain ⟨x0, x1, x2⟩ := (unhide HX2).cells
  go_wp2_with fail
  refine (unhide HC _).mono ?_
  rintro e w3 ⟨rfl, hw3⟩
  rw [hw3]
  clear hw3 w3
  go_wp2
  go_ret2
  exact ⟨rfl, (unhide HX2).1⟩
set_option maxRecDepth 100000 in
set_option maxHeartbeats 2000000 in
theorem B_kAnd_b (toks : List (List UInt8)) (names : List Pl.DeclM) (known : List Int) (vt vn vk : Value) (i : Nat) (w : World) (h : TextAt w vt vn vk toks names known) (hi : i < toks.length) (hl : toks.length ≤ 9000) (ho : toks.getD i [] = Pl.kAnd) (p q : Nat) (A B : Int) (hA : CallT 146 vt vn vk w (i + 1) (.int .i64 A) p) (hB : CallT 146 vt vn vk w p (.int .i64 B) q) (hA0 : 0 ≤ A) (hA1 : A ≤ 1000000000000001) (hB0 : 0 ≤ B) (hB1 : B ≤ 1000000000000001) (ea : (A == 1000000000000001) = false) (eb : (B == 1000000000000001) = true) :
    Calls Tryz.prog 146 #[.agg #[vt, vn, vk], .int .i64 i] w fun e w' => e = .returned (.tuple #[.int .i64 (Pl.capB (A + B)), .int .i64 q]) ∧ Below w.heap.size w w' := by
  have HA := hide hA
  have HBB := hide hB
  clear hA hB
  have HC := hide (fun w1 => capped_any (A + B) w1 (by omega) (by omega))
  rw [Pl.capped_eq] at HC
  obtain ⟨a1, p1, a2, p2, a3, p3, rfl, rfl, rfl⟩ := text_shape h
  obtain ⟨gt, rfl, hct⟩ := h.toks.get i hi
  have HT := hide (tok_at h.toks)
  have HB := hide (fun a => (Below.refl _ w).alloc (Nat.le_refl _) a)
  have hct2 := fun a => cell_low (unhide HB a) (lt_of_cell hct) hct
  rw [ho] at hct2
  clear h hct ho
  unfold Pl.kAnd at hct2
  go_enter Tryz.func146, Tryz.ntmps146
  go_wp2_with fail
  refine (unhide HA _ _ (unhide HB _) (by omega)).mono ?_
  rintro e w1 ⟨rfl, hb1⟩
  have HX1 := hide (bx_start hb1)
  clear hb1 HA
  obtain ⟨x0, x1, x2⟩ := (unhide HX1).cells
  go_wp2_with fail
  refine (unhide HBB _ _ (unhide HX1).1 (by omega)).mono ?_
  rintro e w2 ⟨rfl, hb2⟩
  have HX2 := hide ((unhide HX1).next hb2)
  clear x0 x1 x2 HX1
  clear hb2 HBB
  obtain ⟨x0, x1, x2⟩ := (unhide HX2).cells
  go_wp2_with fail
  refine (unhide HC _).mono ?_
  rintro e w3 ⟨rfl, hw3⟩
  rw [hw3]
  clear hw3 w3
  go_wp2
  go_ret2
  exact ⟨rfl, (unhide HX2).1⟩
set_option maxRecDepth 100000 in
set_option maxHeartbeats 2000000 in
theorem B_kAnd_n (toks : List (List UInt8)) (names : List Pl.DeclM) (known : List Int) (vt vn vk : Value) (i : Nat) (w : World) (h : TextAt w vt vn vk toks names known) (hi : i < toks.length) (hl : toks.length ≤ 9000) (ho : toks.getD i [] = Pl.kAnd) (p q : Nat) (A B : Int) (hA : CallT 146 vt vn vk w (i + 1) (.int .i64 A) p) (hB : CallT 146 vt vn vk w p (.int .i64 B) q) (hA0 : 0 ≤ A) (hA1 : A ≤ 1000000000000001) (hB0 : 0 ≤ B) (hB1 : B ≤ 1000000000000001) (ea : (A == 1000000000000001) = false) (eb : (B == 1000000000000001) = false) :
    Calls Tryz.prog 146 #[.agg #[vt, vn, vk], .int .i64 i] w fun e w' => e = .returned (.tuple #[.int .i64 (Pl.most A B), .int .i64 q]) ∧ Below w.heap.size w w' := by
  have HA := hide hA
  have HBB := hide hB
  clear hA hB
  have HC := hide (fun w1 => most_any A B w1)
  obtain ⟨a1, p1, a2, p2, a3, p3, rfl, rfl, rfl⟩ := text_shape h
  obtain ⟨gt, rfl, hct⟩ := h.toks.get i hi
  have HT := hide (tok_at h.toks)
  have HB := hide (fun a => (Below.refl _ w).alloc (Nat.le_refl _) a)
  have hct2 := fun a => cell_low (unhide HB a) (lt_of_cell hct) hct
  rw [ho] at hct2
  clear h hct ho
  unfold Pl.kAnd at hct2
  go_enter Tryz.func146, Tryz.ntmps146
  go_wp2_with fail
  refine (unhide HA _ _ (unhide HB _) (by omega)).mono ?_
  rintro e w1 ⟨rfl, hb1⟩
  have HX1 := hide (bx_start hb1)
  clear hb1 HA
  obtain ⟨x0, x1, x2⟩ := (unhide HX1).cells
  go_wp2_with fail
  refine (unhide HBB _ _ (unhide HX1).1 (by omega)).mono ?_
  rintro e w2 ⟨rfl, hb2⟩
  have HX2 := hide ((unhide HX1).next hb2)
  clear x0 x1 x2 HX1
  clear hb2 HBB
  obtain ⟨x0, x1, x2⟩ := (unhide HX2).cells
  go_wp2_with fail
  refine (unhide HC _).mono ?_
  rintro e w3 ⟨rfl, hw3⟩
  rw [hw3]
  clear hw3 w3
  go_wp2
  go_ret2
  exact ⟨rfl, (unhide HX2).1⟩
set_option maxRecDepth 100000 in
set_option maxHeartbeats 2000000 in
theorem B_kOr_a (toks : List (List UInt8)) (names : List Pl.DeclM) (known : List Int) (vt vn vk : Value) (i : Nat) (w : World) (h : TextAt w vt vn vk toks names known) (hi : i < toks.length) (hl : toks.length ≤ 9000) (ho : toks.getD i [] = Pl.kOr) (p q : Nat) (A B : Int) (hA : CallT 146 vt vn vk w (i + 1) (.int .i64 A) p) (hB : CallT 146 vt vn vk w p (.int .i64 B) q) (hA0 : 0 ≤ A) (hA1 : A ≤ 1000000000000001) (hB0 : 0 ≤ B) (hB1 : B ≤ 1000000000000001) (ea : (A == 1000000000000001) = true) :
    Calls Tryz.prog 146 #[.agg #[vt, vn, vk], .int .i64 i] w fun e w' => e = .returned (.tuple #[.int .i64 (Pl.capB (A + B)), .int .i64 q]) ∧ Below w.heap.size w w' := by
  have HA := hide hA
  have HBB := hide hB
  clear hA hB
  have HC := hide (fun w1 => capped_any (A + B) w1 (by omega) (by omega))
  rw [Pl.capped_eq] at HC
  obtain ⟨a1, p1, a2, p2, a3, p3, rfl, rfl, rfl⟩ := text_shape h
  obtain ⟨gt, rfl, hct⟩ := h.toks.get i hi
  have HT := hide (tok_at h.toks)
  have HB := hide (fun a => (Below.refl _ w).alloc (Nat.le_refl _) a)
  have hct2 := fun a => cell_low (unhide HB a) (lt_of_cell hct) hct
  rw [ho] at hct2
  clear h hct ho
  unfold Pl.kOr at hct2
  go_enter Tryz.func146, Tryz.ntmps146
  go_wp2_with fail
  refine (unhide HA _ _ (unhide HB _) (by omega)).mono ?_
  rintro e w1 ⟨rfl, hb1⟩
  have HX1 := hide (bx_start hb1)
  clear hb1 HA
  obtain ⟨x0, x1, x2⟩ := (unhide HX1).cells
  go_wp2_with fail
  refine (unhide HBB _ _ (unhide HX1).1 (by omega)).mono ?_
  rintro e w2 ⟨rfl, hb2⟩
  have HX2 := hide ((unhide HX1).next hb2)
  clear x0 x1 x2 HX1
  clear hb2 HBB
  obtain ⟨x0, x1, x2⟩ := (unhide HX2).cells
  go_wp2_with fail
  refine (unhide HC _).mono ?_
  rintro e w3 ⟨rfl, hw3⟩
  rw [hw3]
  clear hw3 w3
  go_wp2
  go_ret2
  exact ⟨rfl, (unhide HX2).1⟩
set_option maxRecDepth 100000 in
set_option maxHeartbeats 2000000 in
theorem B_kOr_b (toks : List (List UInt8)) (names : List Pl.DeclM) (known : List Int) (vt vn vk : Value) (i : Nat) (w : World) (h : TextAt w vt vn vk toks names known) (hi : i < toks.length) (hl : toks.length ≤ 9000) (ho : toks.getD i [] = Pl.kOr) (p q : Nat) (A B : Int) (hA : CallT 146 vt vn vk w (i + 1) (.int .i64 A) p) (hB : CallT 146 vt vn vk w p (.int .i64 B) q) (hA0 : 0 ≤ A) (hA1 : A ≤ 1000000000000001) (hB0 : 0 ≤ B) (hB1 : B ≤ 1000000000000001) (ea : (A == 1000000000000001) = false) (eb : (B == 1000000000000001) = true) :
    Calls Tryz.prog 146 #[.agg #[vt, vn, vk], .int .i64 i] w fun e w' => e = .returned (.tuple #[.int .i64 (Pl.capB (A + B)), .int .i64 q]) ∧ Below w.heap.size w w' := by
  have HA := hide hA
  have HBB := hide hB
  clear hA hB
  have HC := hide (fun w1 => capped_any (A + B) w1 (by omega) (by omega))
  rw [Pl.capped_eq] at HC
  obtain ⟨a1, p1, a2, p2, a3, p3, rfl, rfl, rfl⟩ := text_shape h
  obtain ⟨gt, rfl, hct⟩ := h.toks.get i hi
  have HT := hide (tok_at h.toks)
  have HB := hide (fun a => (Below.refl _ w).alloc (Nat.le_refl _) a)
  have hct2 := fun a => cell_low (unhide HB a) (lt_of_cell hct) hct
  rw [ho] at hct2
  clear h hct ho
  unfold Pl.kOr at hct2
  go_enter Tryz.func146, Tryz.ntmps146
  go_wp2_with fail
  refine (unhide HA _ _ (unhide HB _) (by omega)).mono ?_
  rintro e w1 ⟨rfl, hb1⟩
  have HX1 := hide (bx_start hb1)
  clear hb1 HA
  obtain ⟨x0, x1, x2⟩ := (unhide HX1).cells
  go_wp2_with fail
  refine (unhide HBB _ _ (unhide HX1).1 (by omega)).mono ?_
  rintro e w2 ⟨rfl, hb2⟩
  have HX2 := hide ((unhide HX1).next hb2)
  clear x0 x1 x2 HX1
  clear hb2 HBB
  obtain ⟨x0, x1, x2⟩ := (unhide HX2).cells
  go_wp2_with fail
  refine (unhide HC _).mono ?_
  rintro e w3 ⟨rfl, hw3⟩
  rw [hw3]
  clear hw3 w3
  go_wp2
  go_ret2
  exact ⟨rfl, (unhide HX2).1⟩
set_option maxRecDepth 100000 in
set_option maxHeartbeats 2000000 in
theorem B_kOr_n (toks : List (List UInt8)) (names : List Pl.DeclM) (known : List Int) (vt vn vk : Value) (i : Nat) (w : World) (h : TextAt w vt vn vk toks names known) (hi : i < toks.length) (hl : toks.length ≤ 9000) (ho : toks.getD i [] = Pl.kOr) (p q : Nat) (A B : Int) (hA : CallT 146 vt vn vk w (i + 1) (.int .i64 A) p) (hB : CallT 146 vt vn vk w p (.int .i64 B) q) (hA0 : 0 ≤ A) (hA1 : A ≤ 1000000000000001) (hB0 : 0 ≤ B) (hB1 : B ≤ 1000000000000001) (ea : (A == 1000000000000001) = false) (eb : (B == 1000000000000001) = false) :
    Calls Tryz.prog 146 #[.agg #[vt, vn, vk], .int .i64 i] w fun e w' => e = .returned (.tuple #[.int .i64 (Pl.most A B), .int .i64 q]) ∧ Below w.heap.size w w' := by
  have HA := hide hA
  have HBB := hide hB
  clear hA hB
  have HC := hide (fun w1 => most_any A B w1)
  obtain ⟨a1, p1, a2, p2, a3, p3, rfl, rfl, rfl⟩ := text_shape h
  obtain ⟨gt, rfl, hct⟩ := h.toks.get i hi
  have HT := hide (tok_at h.toks)
  have HB := hide (fun a => (Below.refl _ w).alloc (Nat.le_refl _) a)
  have hct2 := fun a => cell_low (unhide HB a) (lt_of_cell hct) hct
  rw [ho] at hct2
  clear h hct ho
  unfold Pl.kOr at hct2
  go_enter Tryz.func146, Tryz.ntmps146
  go_wp2_with fail
  refine (unhide HA _ _ (unhide HB _) (by omega)).mono ?_
  rintro e w1 ⟨rfl, hb1⟩
  have HX1 := hide (bx_start hb1)
  clear hb1 HA
  obtain ⟨x0, x1, x2⟩ := (unhide HX1).cells
  go_wp2_with fail
  refine (unhide HBB _ _ (unhide HX1).1 (by omega)).mono ?_
  rintro e w2 ⟨rfl, hb2⟩
  have HX2 := hide ((unhide HX1).next hb2)
  clear x0 x1 x2 HX1
  clear hb2 HBB
  obtain ⟨x0, x1, x2⟩ := (unhide HX2).cells
  go_wp2_with fail
  refine (unhide HC _).mono ?_
  rintro e w3 ⟨rfl, hw3⟩
  rw [hw3]
  clear hw3 w3
  go_wp2
  go_ret2
  exact ⟨rfl, (unhide HX2).1⟩
end Go.Proofs.YtfaljekgpnbmiaaGreat
