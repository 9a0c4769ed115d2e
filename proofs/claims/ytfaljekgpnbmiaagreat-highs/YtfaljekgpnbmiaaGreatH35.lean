/- Joined: Ref27. -/
import Derived.Test.YtfaljekgpnbmiaaGreatH34
/-
  Contracts of the reference's Value, word by word.
-/
namespace Go.Proofs.YtfaljekgpnbmiaaGreat
open Go.RowKit
set_option linter.unusedVariables false
set_option linter.unusedSimpArgs false

set_option maxRecDepth 100000 in
set_option maxHeartbeats 2000000 in
theorem V_kAdd (toks : List (List UInt8)) (names : List Pl.DeclM) (known : List Int) (vt vn vk : Value) (i : Nat) (w : World) (h : TextAt w vt vn vk toks names known) (hi : i < toks.length) (hl : toks.length ≤ 9000) (ho : toks.getD i [] = Pl.kAdd) (p q : Nat) (A B : Int) (hA : CallT 114 vt vn vk w (i + 1) (.int .i64 A) p) (hB : CallT 114 vt vn vk w p (.int .i64 B) q) :
    Calls Tryz.prog 114 #[.agg #[vt, vn, vk], .int .i64 i] w fun e w' => e = .returned (.tuple #[.int .i64 (wrap64 (A + B)), .int .i64 q]) ∧ Below w.heap.size w w' := by
  have HA := hide hA
  have HBB := hide hB
  clear hA hB
  obtain ⟨a1, p1, a2, p2, a3, p3, rfl, rfl, rfl⟩ := text_shape h
  obtain ⟨gt, rfl, hct⟩ := h.toks.get i hi
  have HT := hide (tok_at h.toks)
  have HB := hide (fun a => (Below.refl _ w).alloc (Nat.le_refl _) a)
  have hct2 := fun a => cell_low (unhide HB a) (lt_of_cell hct) hct
  rw [ho] at hct2
  clear h hct ho
  unfold Pl.kAdd at hct2
  go_enter Tryz.func114, Tryz.ntmps114
  go_wp2_with fail
  refine (unhide HA _ _ (unhide HB _) (by omega)).mono ?_
  rintro e w1 ⟨rfl, hb1⟩
  have HX1 := hide (bx_start hb1)
  clear hb1 HA
  obtain ⟨x0, x1, x2⟩ := (unhide HX1).cells
  go_wp2_with fail
  refine (unhide HBB _ _ (unhide HX1).1 (by omega)).mono ?_
  rintro e w2 ⟨rfl, hb2⟩
  have HX2 := hide ((unhide HX1).next hb2)
  clear x0 x1 x2 HX1
  clear hb2 HBB
  obtain ⟨x0, x1, x2⟩ := (unhide HX2).cells
  go_wp2_with fail
  refine (two_add A B _).mono ?_
  rintro e w3 ⟨rfl, hw3⟩
  rw [hw3]
  clear hw3 w3
  go_wp2
  go_ret2
  exact ⟨rfl, (unhide HX2).1⟩
set_option maxRecDepth 100000 in
set_option maxHeartbeats 2000000 in
theorem V_kSub (toks : List (List UInt8)) (names : List Pl.DeclM) (known : List Int) (vt vn vk : Value) (i : Nat) (w : World) (h : TextAt w vt vn vk toks names known) (hi : i < toks.length) (hl : toks.length ≤ 9000) (ho : toks.getD i [] = Pl.kSub) (p q : Nat) (A B : Int) (hA : CallT 114 vt vn vk w (i + 1) (.int .i64 A) p) (hB : CallT 114 vt vn vk w p (.int .i64 B) q) :
    Calls Tryz.prog 114 #[.agg #[vt, vn, vk], .int .i64 i] w fun e w' => e = .returned (.tuple #[.int .i64 (wrap64 (A - B)), .int .i64 q]) ∧ Below w.heap.size w w' := by
  have HA := hide hA
  have HBB := hide hB
  clear hA hB
  obtain ⟨a1, p1, a2, p2, a3, p3, rfl, rfl, rfl⟩ := text_shape h
  obtain ⟨gt, rfl, hct⟩ := h.toks.get i hi
  have HT := hide (tok_at h.toks)
  have HB := hide (fun a => (Below.refl _ w).alloc (Nat.le_refl _) a)
  have hct2 := fun a => cell_low (unhide HB a) (lt_of_cell hct) hct
  rw [ho] at hct2
  clear h hct ho
  unfold Pl.kSub at hct2
  go_enter Tryz.func114, Tryz.ntmps114
  go_wp2_with fail
  refine (unhide HA _ _ (unhide HB _) (by omega)).mono ?_
  rintro e w1 ⟨rfl, hb1⟩
  have HX1 := hide (bx_start hb1)
  clear hb1 HA
  obtain ⟨x0, x1, x2⟩ := (unhide HX1).cells
  go_wp2_with fail
  refine (unhide HBB _ _ (unhide HX1).1 (by omega)).mono ?_
  rintro e w2 ⟨rfl, hb2⟩
  have HX2 := hide ((unhide HX1).next hb2)
  clear x0 x1 x2 HX1
  clear hb2 HBB
  obtain ⟨x0, x1, x2⟩ := (unhide HX2).cells
  go_wp2_with fail
  refine (two_sub A B _).mono ?_
  rintro e w3 ⟨rfl, hw3⟩
  rw [hw3]
  clear hw3 w3
  go_wp2
  go_ret2
  exact ⟨rfl, (unhide HX2).1⟩
set_option maxRecDepth 100000 in
set_option maxHeartbeats 2000000 in
theorem V_kMin (toks : List (List UInt8)) (names : List Pl.DeclM) (known : List Int) (vt vn vk : Value) (i : Nat) (w : World) (h : TextAt w vt vn vk toks names known) (hi : i < toks.length) (hl : toks.length ≤ 9000) (ho : toks.getD i [] = Pl.kMin) (p q : Nat) (A B : Int) (hA : CallT 114 vt vn vk w (i + 1) (.int .i64 A) p) (hB : CallT 114 vt vn vk w p (.int .i64 B) q) (sA : Pl.Sm A) (sB : Pl.Sm B) :
    Calls Tryz.prog 114 #[.agg #[vt, vn, vk], .int .i64 i] w fun e w' => e = .returned (.tuple #[.int .i64 (Pl.lesser A B), .int .i64 q]) ∧ Below w.heap.size w w' := by
  have HA := hide hA
  have HBB := hide hB
  clear hA hB
  obtain ⟨a1, p1, a2, p2, a3, p3, rfl, rfl, rfl⟩ := text_shape h
  obtain ⟨gt, rfl, hct⟩ := h.toks.get i hi
  have HT := hide (tok_at h.toks)
  have HB := hide (fun a => (Below.refl _ w).alloc (Nat.le_refl _) a)
  have hct2 := fun a => cell_low (unhide HB a) (lt_of_cell hct) hct
  rw [ho] at hct2
  clear h hct ho
  unfold Pl.kMin at hct2
  go_enter Tryz.func114, Tryz.ntmps114
  go_wp2_with fail
  refine (unhide HA _ _ (unhide HB _) (by omega)).mono ?_
  rintro e w1 ⟨rfl, hb1⟩
  have HX1 := hide (bx_start hb1)
  clear hb1 HA
  obtain ⟨x0, x1, x2⟩ := (unhide HX1).cells
  go_wp2_with fail
  refine (unhide HBB _ _ (unhide HX1).1 (by omega)).mono ?_
  rintro e w2 ⟨rfl, hb2⟩
  have HX2 := hide ((unhide HX1).next hb2)
  clear x0 x1 x2 HX1
  clear hb2 HBB
  obtain ⟨x0, x1, x2⟩ := (unhide HX2).cells
  go_wp2_with fail
  refine (two_min A B _ sA sB).mono ?_
  rintro e w3 ⟨rfl, hw3⟩
  rw [hw3]
  clear hw3 w3
  go_wp2
  go_ret2
  exact ⟨rfl, (unhide HX2).1⟩
set_option maxRecDepth 100000 in
set_option maxHeartbeats 2000000 in
theorem V_kMax (toks : List (List UInt8)) (names : List Pl.DeclM) (known : List Int) (vt vn vk : Value) (i : Nat) (w : World) (h : TextAt w vt vn vk toks names known) (hi : i < toks.length) (hl : toks.length ≤ 9000) (ho : toks.getD i [] = Pl.kMax) (p q : Nat) (A B : Int) (hA : CallT 114 vt vn vk w (i + 1) (.int .i64 A) p) (hB : CallT 114 vt vn vk w p (.int .i64 B) q) :
    Calls Tryz.prog 114 #[.agg #[vt, vn, vk], .int .i64 i] w fun e w' => e = .returned (.tuple #[.int .i64 (Pl.greater A B), .int .i64 q]) ∧ Below w.heap.size w w' := by
  have HA := hide hA
  have HBB := hide hB
  clear hA hB
  obtain ⟨a1, p1, a2, p2, a3, p3, rfl, rfl, rfl⟩ := text_shape h
  obtain ⟨gt, rfl, hct⟩ := h.toks.get i hi
  have HT := hide (tok_at h.toks)
  have HB := hide (fun a => (Below.refl _ w).alloc (Nat.le_refl _) a)
  have hct2 := fun a => cell_low (unhide HB a) (lt_of_cell hct) hct
  rw [ho] at hct2
  clear h hct ho
  unfold Pl.kMax at hct2
  go_enter Tryz.func114, Tryz.ntmps114
  go_wp2_with fail
  refine (unhide HA _ _ (unhide HB _) (by omega)).mono ?_
  rintro e w1 ⟨rfl, hb1⟩
  have HX1 := hide (bx_start hb1)
  clear hb1 HA
  obtain ⟨x0, x1, x2⟩ := (unhide HX1).cells
  go_wp2_with fail
  refine (unhide HBB _ _ (unhide HX1).1 (by omega)).mono ?_
  rintro e w2 ⟨rfl, hb2⟩
  have HX2 := hide ((unhide HX1).next hb2)
  clear x0 x1 x2 HX1
  clear hb2 HBB
  obtain ⟨x0, x1, x2⟩ := (unhide HX2).cells
  go_wp2_with fail
  refine (two_max A B _).mono ?_
  rintro e w3 ⟨rfl, hw3⟩
  rw [hw3]
  clear hw3 w3
  go_wp2
  go_ret2
  exact ⟨rfl, (unhide HX2).1⟩
set_option maxRecDepth 100000 in
set_option maxHeartbeats 2000000 in
theorem V_kMul (toks : List (List UInt8)) (names : List Pl.DeclM) (known : List Int) (vt vn vk : Value) (i : Nat) (w : World) (h : TextAt w vt vn vk toks names known) (hi : i < toks.length) (hl : toks.length ≤ 9000) (ho : toks.getD i [] = Pl.kMul) (h1 : i + 1 < toks.length) (ht : (toks.getD (i + 1) []).length ≤ 6000) (q : Nat) (A : Int) (hA : CallT 114 vt vn vk w (i + 2) (.int .i64 A) q) :
    Calls Tryz.prog 114 #[.agg #[vt, vn, vk], .int .i64 i] w fun e w' => e = .returned (.tuple #[.int .i64 (wrap64 ((Pl.number (toks.getD (i + 1) [])).1 * A)), .int .i64 q]) ∧ Below w.heap.size w w' := by
  have HA := hide hA
  have HN := hide (fun w1 => RNumber_any (toks.getD (i + 1) []) w1 (by unfold maxLen; omega))
  clear hA
  generalize (Pl.number (toks.getD (i + 1) [])).1 = K at *
  generalize (Pl.number (toks.getD (i + 1) [])).2 = ok at *
  obtain ⟨a1, p1, a2, p2, a3, p3, rfl, rfl, rfl⟩ := text_shape h
  obtain ⟨gt, rfl, hct⟩ := h.toks.get i hi
  have HT := hide (tok_at h.toks)
  have HB := hide (fun a => (Below.refl _ w).alloc (Nat.le_refl _) a)
  have hct2 := fun a => cell_low (unhide HB a) (lt_of_cell hct) hct
  rw [ho] at hct2
  clear h hct ho
  unfold Pl.kMul at hct2
  have hct3 := fun a => unhide HT _ (i + 1) (unhide HB a) h1
  generalize toks.getD (i + 1) [] = t1 at *
  go_enter Tryz.func114, Tryz.ntmps114
  go_wp2_with fail
  refine (unhide HN _).mono ?_
  rintro e w1 ⟨rfl, hw1⟩
  rw [hw1]
  clear hw1 w1
  clear HN hct3
  go_wp2_with fail
  refine (unhide HA _ _ (unhide HB _) (by omega)).mono ?_
  rintro e w2 ⟨rfl, hb2⟩
  have HX2 := hide (bx_start hb2)
  clear hb2 HA
  obtain ⟨x0, x1, x2⟩ := (unhide HX2).cells
  go_wp2
  go_ret2
  exact ⟨rfl, (unhide HX2).1⟩
set_option maxRecDepth 100000 in
set_option maxHeartbeats 2000000 in
theorem V_kIf_true (toks : List (List UInt8)) (names : List Pl.DeclM) (known : List Int) (vt vn vk : Value) (i : Nat) (w : World) (h : TextAt w vt vn vk toks names known) (hi : i < toks.length) (hl : toks.length ≤ 9000) (ho : toks.getD i [] = Pl.kIf) (p q z : Nat) (A B : Int) (hC : CallT 152 vt vn vk w (i + 1) (.bool true) p) (hA : CallT 114 vt vn vk w p (.int .i64 A) q) (hB : CallT 114 vt vn vk w q (.int .i64 B) z) :
    Calls Tryz.prog 114 #[.agg #[vt, vn, vk], .int .i64 i] w fun e w' => e = .returned (.tuple #[.int .i64 A, .int .i64 z]) ∧ Below w.heap.size w w' := by
  have HC := hide hC
  have HA := hide hA
  have HBB := hide hB
  clear hA hB hC
  obtain ⟨a1, p1, a2, p2, a3, p3, rfl, rfl, rfl⟩ := text_shape h
  obtain ⟨gt, rfl, hct⟩ := h.toks.get i hi
  have HT := hide (tok_at h.toks)
  have HB := hide (fun a => (Below.refl _ w).alloc (Nat.le_refl _) a)
  have hct2 := fun a => cell_low (unhide HB a) (lt_of_cell hct) hct
  rw [ho] at hct2
  clear h hct ho
  unfold Pl.kIf at hct2
  go_enter Tryz.func114, Tryz.ntmps114
  go_wp2_with fail
  refine (unhide HC _ _ (unhide HB _) (by omega)).mono ?_
  rintro e w1 ⟨rfl, hb1⟩
  have HX1 := hide (bx_start hb1)
  clear hb1 HC
  obtain ⟨x0, x1, x2⟩ := (unhide HX1).cells
  go_wp2_with fail
  refine (unhide HA _ _ (unhide HX1).1 (by omega)).mono ?_
  rintro e w2 ⟨rfl, hb2⟩
  have HX2 := hide ((unhide HX1).next hb2)
  clear x0 x1 x2 HX1
  clear hb2 HA
  obtain ⟨x0, x1, x2⟩ := (unhide HX2).cells
  go_wp2_with fail
  refine (unhide HBB _ _ (unhide HX2).1 (by omega)).mono ?_
  rintro e w3 ⟨rfl, hb3⟩
  have HX3 := hide ((unhide HX2).next hb3)
  clear x0 x1 x2 HX2
  clear hb3 HBB
  obtain ⟨x0, x1, x2⟩ := (unhide HX3).cells
  go_wp2
  go_ret2
  exact ⟨rfl, (unhide HX3).1⟩
set_option maxRecDepth 100000 in
set_option maxHeartbeats 2000000 in
theorem V_kIf_false (toks : List (List UInt8)) (names : List Pl.DeclM) (known : List Int) (vt vn vk : Value) (i : Nat) (w : World) (h : TextAt w vt vn vk toks names known) (hi : i < toks.length) (hl : toks.length ≤ 9000) (ho : toks.getD i [] = Pl.kIf) (p q z : Nat) (A B : Int) (hC : CallT 152 vt vn vk w (i + 1) (.bool false) p) (hA : CallT 114 vt vn vk w p (.int .i64 A) q) (hB : CallT 114 vt vn vk w q (.int .i64 B) z) :
    Calls Tryz.prog 114 #[.agg #[vt, vn, vk], .int .i64 i] w fun e w' => e = .returned (.tuple #[.int .i64 B, .int .i64 z]) ∧ Below w.heap.size w w' := by
  have HC := hide hC
  have HA := hide hA
  have HBB := hide hB
  clear hA hB hC
  obtain ⟨a1, p1, a2, p2, a3, p3, rfl, rfl, rfl⟩ := text_shape h
  obtain ⟨gt, rfl, hct⟩ := h.toks.get i hi
  have HT := hide (tok_at h.toks)
  have HB := hide (fun a => (Below.refl _ w).alloc (Nat.le_refl _) a)
  have hct2 := fun a => cell_low (unhide HB a) (lt_of_cell hct) hct
  rw [ho] at hct2
  clear h hct ho
  unfold Pl.kIf at hct2
  go_enter Tryz.func114, Tryz.ntmps114
  go_wp2_with fail
  refine (unhide HC _ _ (unhide HB _) (by omega)).mono ?_
  rintro e w1 ⟨rfl, hb1⟩
  have HX1 := hide (bx_start hb1)
  clear hb1 HC
  obtain ⟨x0, x1, x2⟩ := (unhide HX1).cells
  go_wp2_with fail
  refine (unhide HA _ _ (unhide HX1).1 (by omega)).mono ?_
  rintro e w2 ⟨rfl, hb2⟩
  have HX2 := hide ((unhide HX1).next hb2)
  clear x0 x1 x2 HX1
  clear hb2 HA
  obtain ⟨x0, x1, x2⟩ := (unhide HX2).cells
  go_wp2_with fail
  refine (unhide HBB _ _ (unhide HX2).1 (by omega)).mono ?_
  rintro e w3 ⟨rfl, hb3⟩
  have HX3 := hide ((unhide HX2).next hb3)
  clear x0 x1 x2 HX2
  clear hb3 HBB
  obtain ⟨x0, x1, x2⟩ := (unhide HX3).cells
  go_wp2
  go_ret2
  exact ⟨rfl, (unhide HX3).1⟩
set_option maxRecDepth 100000 in
set_option maxHeartbeats 2000000 in
theorem V_kDiv (toks : List (List UInt8)) (names : List Pl.DeclM) (known : List Int) (vt vn vk : Value) (i : Nat) (w : World) (h : TextAt w vt vn vk toks names known) (hi : i < toks.length) (hl : toks.length ≤ 9000) (ho : toks.getD i [] = Pl.kDiv) (h1 : i + 1 < toks.length) (p : Nat) (hp : p < toks.length) (ht : (toks.getD p []).length ≤ 6000) (A Q : Int) (hA : CallT 114 vt vn vk w (i + 2) (.int .i64 A) p) (hR : ∀ w1 : World, Calls Tryz.prog 153 #[.string ⟨(toks.getD (i + 1) []).toArray⟩, .int .i64 A, .int .i64 (Pl.number (toks.getD p [])).1] w1 fun e w' => e = .returned (.int .i64 Q) ∧ w' = w1) :
    Calls Tryz.prog 114 #[.agg #[vt, vn, vk], .int .i64 i] w fun e w' => e = .returned (.tuple #[.int .i64 Q, .int .i64 ((p : Int) + 1)]) ∧ Below w.heap.size w w' := by
  have HA := hide hA
  have HN := hide (fun w1 => RNumber_any (toks.getD p []) w1 (by unfold maxLen; omega))
  have HR := hide hR
  clear hA hR
  generalize (Pl.number (toks.getD p [])).1 = D at *
  generalize (Pl.number (toks.getD p [])).2 = ok at *
  obtain ⟨a1, p1, a2, p2, a3, p3, rfl, rfl, rfl⟩ := text_shape h
  obtain ⟨gt, rfl, hct⟩ := h.toks.get i hi
  have HT := hide (tok_at h.toks)
  have HB := hide (fun a => (Below.refl _ w).alloc (Nat.le_refl _) a)
  have hct2 := fun a => cell_low (unhide HB a) (lt_of_cell hct) hct
  rw [ho] at hct2
  clear h hct ho
  unfold Pl.kDiv at hct2
  go_enter Tryz.func114, Tryz.ntmps114
  go_wp2_with fail
  refine (unhide HA _ _ (unhide HB _) (by omega)).mono ?_
  rintro e w1 ⟨rfl, hb1⟩
  have HX1 := hide (bx_start hb1)
  clear hb1 HA
  obtain ⟨x0, x1, x2⟩ := (unhide HX1).cells
  have y1 := unhide HT _ (i + 1) (unhide HX1).1 h1
  have y2 := unhide HT _ p (unhide HX1).1 hp
  generalize toks.getD (i + 1) [] = t1 at *
  generalize toks.getD p [] = t2 at *
  go_wp2_with fail
  refine (unhide HN _).mono ?_
  rintro e w2 ⟨rfl, hw2⟩
  rw [hw2]
  clear hw2 w2
  clear HN y2
  go_wp2_with fail
  refine (unhide HR _).mono ?_
  rintro e w3 ⟨rfl, hw3⟩
  rw [hw3]
  clear hw3 w3
  go_wp2
  go_ret2
  exact ⟨rfl, (unhide HX1).1⟩
set_option maxRecDepth 100000 in
set_option maxHeartbeats 2000000 in
theorem V_kTab (toks : List (List UInt8)) (names : List Pl.DeclM) (known : List Int) (vt vn vk : Value) (i : Nat) (w : World) (h : TextAt w vt vn vk toks names known) (hi : i < toks.length) (hl : toks.length ≤ 9000) (ho : toks.getD i [] = Pl.kTab) (p q : Nat) (A S : Int) (hA : CallT 114 vt vn vk w (i + 1) (.int .i64 A) p) (hS : ∀ w1 : World, Below w.heap.size w w1 → Calls Tryz.prog 154 #[.agg #[vt, vn, vk], .int .i64 A, .int .i64 p] w1 fun e w' => e = .returned (.tuple #[.int .i64 S, .int .i64 q]) ∧ Below w1.heap.size w1 w') :
    Calls Tryz.prog 114 #[.agg #[vt, vn, vk], .int .i64 i] w fun e w' => e = .returned (.tuple #[.int .i64 S, .int .i64 q]) ∧ Below w.heap.size w w' := by
  have HA := hide hA
  have HS := hide hS
  clear hA hS
  obtain ⟨a1, p1, a2, p2, a3, p3, rfl, rfl, rfl⟩ := text_shape h
  obtain ⟨gt, rfl, hct⟩ := h.toks.get i hi
  have HT := hide (tok_at h.toks)
  have HB := hide (fun a => (Below.refl _ w).alloc (Nat.le_refl _) a)
  have hct2 := fun a => cell_low (unhide HB a) (lt_of_cell hct) hct
  rw [ho] at hct2
  clear h hct ho
  unfold Pl.kTab at hct2
  go_enter Tryz.func114, Tryz.ntmps114
  go_wp2_with fail
  refine (unhide HA _ _ (unhide HB _) (by omega)).mono ?_
  rintro e w1 ⟨rfl, hb1⟩
  have HX1 := hide (bx_start hb1)
  clear hb1 HA
  obtain ⟨x0, x1, x2⟩ := (unhide HX1).cells
  go_wp2_with fail
  refine (unhide HS _ (unhide HX1).1 ).mono ?_
  rintro e w2 ⟨rfl, hb2⟩
  have HX2 := hide ((unhide HX1).next hb2)
  clear x0 x1 x2 HX1
  clear hb2 HS
  obtain ⟨x0, x1, x2⟩ := (unhide HX2).cells
  go_wp2
  go_ret2
  exact ⟨rfl, (unhide HX2).1⟩
end Go.Proofs.YtfaljekgpnbmiaaGreat
