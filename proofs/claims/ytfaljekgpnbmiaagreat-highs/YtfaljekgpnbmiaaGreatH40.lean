/- Joined: Ref31d Ref32. -/
import Derived.Test.YtfaljekgpnbmiaaGreatH39
/-
  Contracts of the reference's Bound: not, mul, if, div, tab.
-/
namespace Go.Proofs.YtfaljekgpnbmiaaGreat
open Go.RowKit
set_option linter.unusedVariables false
set_option linter.unusedSimpArgs false

set_option maxRecDepth 100000 in
set_option maxHeartbeats 2000000 in
theorem B_kNot (toks : List (List UInt8)) (names : List Pl.DeclM) (known : List Int) (vt vn vk : Value) (i : Nat) (w : World) (h : TextAt w vt vn vk toks names known) (hi : i < toks.length) (hl : toks.length ≤ 9000) (ho : toks.getD i [] = Pl.kNot) (q : Nat) (A : Int) (hA : CallT 146 vt vn vk w (i + 1) (.int .i64 A) q) :
    Calls Tryz.prog 146 #[.agg #[vt, vn, vk], .int .i64 i] w fun e w' => e = .returned (.tuple #[.int .i64 A, .int .i64 q]) ∧ Below w.heap.size w w' := by
  have HA := hide hA
  clear hA
  obtain ⟨a1, p1, a2, p2, a3, p3, rfl, rfl, rfl⟩ := text_shape h
  obtain ⟨gt, rfl, hct⟩ := h.toks.get i hi
  have HT := hide (tok_at h.toks)
  have HB := hide (fun a => (Below.refl _ w).alloc (Nat.le_refl _) a)
  have hct2 := fun a => cell_low (unhide HB a) (lt_of_cell hct) hct
  rw [ho] at hct2
  clear h hct ho
  unfold Pl.kNot at hct2
  go_enter Tryz.func146, Tryz.ntmps146
  go_wp2_with fail
  refine (unhide HA _ _ (unhide HB _) (by omega)).mono ?_
  rintro e w1 ⟨rfl, hb1⟩
  have HX1 := hide (bx_start hb1)
  clear hb1 HA
  obtain ⟨x0, x1, x2⟩ := (unhide HX1).cells
  go_wp2
  go_ret2
  exact ⟨rfl, (unhide HX1).1⟩
set_option maxRecDepth 100000 in
set_option maxHeartbeats 2000000 in
theorem B_kMul_a (toks : List (List UInt8)) (names : List Pl.DeclM) (known : List Int) (vt vn vk : Value) (i : Nat) (w : World) (h : TextAt w vt vn vk toks names known) (hi : i < toks.length) (hl : toks.length ≤ 9000) (ho : toks.getD i [] = Pl.kMul) (h1 : i + 1 < toks.length) (ht : (toks.getD (i + 1) []).length ≤ 6000) (q : Nat) (A : Int) (hA : CallT 146 vt vn vk w (i + 2) (.int .i64 A) q) (ea : (A == 1000000000000001) = true) :
    Calls Tryz.prog 146 #[.agg #[vt, vn, vk], .int .i64 i] w fun e w' => e = .returned (.tuple #[.int .i64 A, .int .i64 q]) ∧ Below w.heap.size w w' := by
  have HA := hide hA
  have HN := hide (fun w1 => RNumber_any (toks.getD (i + 1) []) w1 (by unfold maxLen; omega))
  clear hA
  have hnb := Pl.number_bd (toks.getD (i + 1) [])
  generalize (Pl.number (toks.getD (i + 1) [])).1 = K at *
  generalize (Pl.number (toks.getD (i + 1) [])).2 = ok at *
  obtain ⟨a1, p1, a2, p2, a3, p3, rfl, rfl, rfl⟩ := text_shape h
  obtain ⟨gt, rfl, hct⟩ := h.toks.get i hi
  have HT := hide (tok_at h.toks)
  have HB := hide (fun a => (Below.refl _ w).alloc (Nat.le_refl _) a)
  have hct2 := fun a => cell_low (unhide HB a) (lt_of_cell hct) hct
  rw [ho] at hct2
  clear h hct ho
  unfold Pl.kMul at hct2
  have hct3 := fun a => unhide HT _ (i + 1) (unhide HB a) h1
  generalize toks.getD (i + 1) [] = t1 at *
  go_enter Tryz.func146, Tryz.ntmps146
  go_wp2_with fail
  refine (unhide HN _).mono ?_
  rintro e w1 ⟨rfl, hw1⟩
  rw [hw1]
  clear hw1 w1
  clear HN hct3
  go_wp2_with fail
  refine (unhide HA _ _ (unhide HB _) (by omega)).mono ?_
  rintro e w2 ⟨rfl, hb2⟩
  have HX2 := hide (bx_start hb2)
  clear hb2 HA
  obtain ⟨x0, x1, x2⟩ := (unhide HX2).cells
  go_wp2
  go_ret2
  exact ⟨rfl, (unhide HX2).1⟩
set_option maxRecDepth 100000 in
set_option maxHeartbeats 2000000 in
theorem B_kMul_n (toks : List (List UInt8)) (names : List Pl.DeclM) (known : List Int) (vt vn vk : Value) (i : Nat) (w : World) (h : TextAt w vt vn vk toks names known) (hi : i < toks.length) (hl : toks.length ≤ 9000) (ho : toks.getD i [] = Pl.kMul) (h1 : i + 1 < toks.length) (ht : (toks.getD (i + 1) []).length ≤ 6000) (q : Nat) (A : Int) (hA : CallT 146 vt vn vk w (i + 2) (.int .i64 A) q) (hk : -1000 ≤ (Pl.number (toks.getD (i + 1) [])).1 ∧ (Pl.number (toks.getD (i + 1) [])).1 ≤ 1000) (hA0 : 0 ≤ A) (hA1 : A ≤ 1000000000000000) (ea : (A == 1000000000000001) = false) :
    Calls Tryz.prog 146 #[.agg #[vt, vn, vk], .int .i64 i] w fun e w' => e = .returned (.tuple #[.int .i64 (Pl.capB (Pl.absv (Pl.number (toks.getD (i + 1) [])).1 * A)), .int .i64 q]) ∧ Below w.heap.size w w' := by
  have HA := hide hA
  have HN := hide (fun w1 => RNumber_any (toks.getD (i + 1) []) w1 (by unfold maxLen; omega))
  clear hA
  have hnb := Pl.number_bd (toks.getD (i + 1) [])
  generalize (Pl.number (toks.getD (i + 1) [])).1 = K at *
  generalize (Pl.number (toks.getD (i + 1) [])).2 = ok at *
  have HP := hide (fun w1 => apart_any K w1 (by omega) (by omega))
  obtain ⟨m1, m2⟩ := Pl.mulB_bd hk hA0 hA1
  have hwm : wrap64 (Pl.absv K * A) = Pl.absv K * A := Pl.wrap_id _ (by omega) (by omega)
  generalize Pl.absv K = KA at *
  obtain ⟨M, hM⟩ : ∃ M, M = KA * A := ⟨_, rfl⟩
  rw [← hM] at m1 m2 ⊢
  have hwm2 : wrap64 (KA * A) = M := by rw [hwm, hM]
  clear hwm hM
  have HC := hide (fun w1 => capped_any M w1 (by omega) (by omega))
  rw [Pl.capped_eq] at HC
  obtain ⟨a1, p1, a2, p2, a3, p3, rfl, rfl, rfl⟩ := text_shape h
  obtain ⟨gt, rfl, hct⟩ := h.toks.get i hi
  have HT := hide (tok_at h.toks)
  have HB := hide (fun a => (Below.refl _ w).alloc (Nat.le_refl _) a)
  have hct2 := fun a => cell_low (unhide HB a) (lt_of_cell hct) hct
  rw [ho] at hct2
  clear h hct ho
  unfold Pl.kMul at hct2
  have hct3 := fun a => unhide HT _ (i + 1) (unhide HB a) h1
  generalize toks.getD (i + 1) [] = t1 at *
  go_enter Tryz.func146, Tryz.ntmps146
  go_wp2_with fail
  refine (unhide HN _).mono ?_
  rintro e w1 ⟨rfl, hw1⟩
  rw [hw1]
  clear hw1 w1
  clear HN hct3
  go_wp2_with fail
  refine (unhide HA _ _ (unhide HB _) (by omega)).mono ?_
  rintro e w2 ⟨rfl, hb2⟩
  have HX2 := hide (bx_start hb2)
  clear hb2 HA
  obtain ⟨x0, x1, x2⟩ := (unhide HX2).cells
  go_wp2_with fail
  refine (unhide HP _).mono ?_
  rintro e w3 ⟨rfl, hw3⟩
  rw [hw3]
  clear hw3 w3
  go_wp2_with fail
  refine (unhide HC _).mono ?_
  rintro e w4 ⟨rfl, hw4⟩
  rw [hw4]
  clear hw4 w4
  go_wp2
  go_ret2
  exact ⟨rfl, (unhide HX2).1⟩
set_option maxRecDepth 100000 in
set_option maxHeartbeats 2000000 in
theorem B_kIf_c (toks : List (List UInt8)) (names : List Pl.DeclM) (known : List Int) (vt vn vk : Value) (i : Nat) (w : World) (h : TextAt w vt vn vk toks names known) (hi : i < toks.length) (hl : toks.length ≤ 9000) (ho : toks.getD i [] = Pl.kIf) (p q z : Nat) (C A B : Int) (hC : CallT 146 vt vn vk w (i + 1) (.int .i64 C) p) (hA : CallT 146 vt vn vk w p (.int .i64 A) q) (hB : CallT 146 vt vn vk w q (.int .i64 B) z) (ec : (C == 1000000000000001) = true) :
    Calls Tryz.prog 146 #[.agg #[vt, vn, vk], .int .i64 i] w fun e w' => e = .returned (.tuple #[.int .i64 C, .int .i64 z]) ∧ Below w.heap.size w w' := by
  have HC := hide hC
  have HA := hide hA
  have HBB := hide hB
  clear hA hB hC
  obtain ⟨a1, p1, a2, p2, a3, p3, rfl, rfl, rfl⟩ := text_shape h
  obtain ⟨gt, rfl, hct⟩ := h.toks.get i hi
  have HT := hide (tok_at h.toks)
  have HB := hide (fun a => (Below.refl _ w).alloc (Nat.le_refl _) a)
  have hct2 := fun a => cell_low (unhide HB a) (lt_of_cell hct) hct
  rw [ho] at hct2
  clear h hct ho
  unfold Pl.kIf at hct2
  go_enter Tryz.func146, Tryz.ntmps146
  go_wp2_with fail
  refine (unhide HC _ _ (unhide HB _) (by omega)).mono ?_
  rintro e w1 ⟨rfl, hb1⟩
  have HX1 := hide (bx_start hb1)
  clear hb1 HC
  obtain ⟨x0, x1, x2⟩ := (unhide HX1).cells
  go_wp2_with fail
  refine (unhide HA _ _ (unhide HX1).1 (by omega)).mono ?_
  rintro e w2 ⟨rfl, hb2⟩
  have HX2 := hide ((unhide HX1).next hb2)
  clear x0 x1 x2 HX1
  clear hb2 HA
  obtain ⟨x0, x1, x2⟩ := (unhide HX2).cells
  go_wp2_with fail
  refine (unhide HBB _ _ (unhide HX2).1 (by omega)).mono ?_
  rintro e w3 ⟨rfl, hb3⟩
  have HX3 := hide ((unhide HX2).next hb3)
  clear x0 x1 x2 HX2
  clear hb3 HBB
  obtain ⟨x0, x1, x2⟩ := (unhide HX3).cells
  go_wp2
  go_ret2
  exact ⟨rfl, (unhide HX3).1⟩
set_option maxRecDepth 100000 in
set_option maxHeartbeats 2000000 in
theorem B_kIf_n (toks : List (List UInt8)) (names : List Pl.DeclM) (known : List Int) (vt vn vk : Value) (i : Nat) (w : World) (h : TextAt w vt vn vk toks names known) (hi : i < toks.length) (hl : toks.length ≤ 9000) (ho : toks.getD i [] = Pl.kIf) (p q z : Nat) (C A B : Int) (hC : CallT 146 vt vn vk w (i + 1) (.int .i64 C) p) (hA : CallT 146 vt vn vk w p (.int .i64 A) q) (hB : CallT 146 vt vn vk w q (.int .i64 B) z) (ec : (C == 1000000000000001) = false) :
    Calls Tryz.prog 146 #[.agg #[vt, vn, vk], .int .i64 i] w fun e w' => e = .returned (.tuple #[.int .i64 (Pl.most A B), .int .i64 z]) ∧ Below w.heap.size w w' := by
  have HC := hide hC
  have HA := hide hA
  have HBB := hide hB
  clear hA hB hC
  have HM := hide (fun w1 => most_any A B w1)
  obtain ⟨a1, p1, a2, p2, a3, p3, rfl, rfl, rfl⟩ := text_shape h
  obtain ⟨gt, rfl, hct⟩ := h.toks.get i hi
  have HT := hide (tok_at h.toks)
  have HB := hide (fun a => (Below.refl _ w).alloc (Nat.le_refl _) a)
  have hct2 := fun a => cell_low (unhide HB a) (lt_of_cell hct) hct
  rw [ho] at hct2
  clear h hct ho
  unfold Pl.kIf at hct2
  go_enter Tryz.func146, Tryz.ntmps146
  go_wp2_with fail
  refine (unhide HC _ _ (unhide HB _) (by omega)).mono ?_
  rintro e w1 ⟨rfl, hb1⟩
  have HX1 := hide (bx_start hb1)
  clear hb1 HC
  obtain ⟨x0, x1, x2⟩ := (unhide HX1).cells
  go_wp2_with fail
  refine (unhide HA _ _ (unhide HX1).1 (by omega)).mono ?_
  rintro e w2 ⟨rfl, hb2⟩
  have HX2 := hide ((unhide HX1).next hb2)
  clear x0 x1 x2 HX1
  clear hb2 HA
  obtain ⟨x0, x1, x2⟩ := (unhide HX2).cells
  go_wp2_with fail
  refine (unhide HBB _ _ (unhide HX2).1 (by omega)).mono ?_
  rintro e w3 ⟨rfl, hb3⟩
  have HX3 := hide ((unhide HX2).next hb3)
  clear x0 x1 x2 HX2
  clear hb3 HBB
  obtain ⟨x0, x1, x2⟩ := (unhide HX3).cells
  go_wp2_with fail
  refine (unhide HM _).mono ?_
  rintro e w4 ⟨rfl, hw4⟩
  rw [hw4]
  clear hw4 w4
  go_wp2
  go_ret2
  exact ⟨rfl, (unhide HX3).1⟩
set_option maxRecDepth 100000 in
set_option maxHeartbeats 2000000 in
theorem B_kDiv (toks : List (List UInt8)) (names : List Pl.DeclM) (known : List Int) (vt vn vk : Value) (i : Nat) (w : World) (h : TextAt w vt vn vk toks names known) (hi : i < toks.length) (hl : toks.length ≤ 9000) (ho : toks.getD i [] = Pl.kDiv) (p : Nat) (hp : p < toks.length) (A : Int) (hA : CallT 146 vt vn vk w (i + 2) (.int .i64 A) p) :
    Calls Tryz.prog 146 #[.agg #[vt, vn, vk], .int .i64 i] w fun e w' => e = .returned (.tuple #[.int .i64 A, .int .i64 ((p : Int) + 1)]) ∧ Below w.heap.size w w' := by
  have HA := hide hA
  clear hA
  obtain ⟨a1, p1, a2, p2, a3, p3, rfl, rfl, rfl⟩ := text_shape h
  obtain ⟨gt, rfl, hct⟩ := h.toks.get i hi
  have HT := hide (tok_at h.toks)
  have HB := hide (fun a => (Below.refl _ w).alloc (Nat.le_refl _) a)
  have hct2 := fun a => cell_low (unhide HB a) (lt_of_cell hct) hct
  rw [ho] at hct2
  clear h hct ho
  unfold Pl.kDiv at hct2
  go_enter Tryz.func146, Tryz.ntmps146
  go_wp2_with fail
  refine (unhide HA _ _ (unhide HB _) (by omega)).mono ?_
  rintro e w1 ⟨rfl, hb1⟩
  have HX1 := hide (bx_start hb1)
  clear hb1 HA
  obtain ⟨x0, x1, x2⟩ := (unhide HX1).cells
  go_wp2
  go_ret2
  exact ⟨rfl, (unhide HX1).1⟩
set_option maxRecDepth 100000 in
set_option maxHeartbeats 2000000 in
theorem B_kTab (toks : List (List UInt8)) (names : List Pl.DeclM) (known : List Int) (vt vn vk : Value) (i : Nat) (w : World) (h : TextAt w vt vn vk toks names known) (hi : i < toks.length) (hl : toks.length ≤ 9000) (ho : toks.getD i [] = Pl.kTab) (p q : Nat) (A S : Int) (hA : CallT 146 vt vn vk w (i + 1) (.int .i64 A) p) (hS : ∀ w1 : World, Below w.heap.size w w1 → Calls Tryz.prog 204 #[.agg #[vt, vn, vk], .int .i64 A, .int .i64 p] w1 fun e w' => e = .returned (.tuple #[.int .i64 S, .int .i64 q]) ∧ Below w1.heap.size w1 w') :
    Calls Tryz.prog 146 #[.agg #[vt, vn, vk], .int .i64 i] w fun e w' => e = .returned (.tuple #[.int .i64 S, .int .i64 q]) ∧ Below w.heap.size w w' := by
  have HA := hide hA
  have HS := hide hS
  clear hA hS
  obtain ⟨a1, p1, a2, p2, a3, p3, rfl, rfl, rfl⟩ := text_shape h
  obtain ⟨gt, rfl, hct⟩ := h.toks.get i hi
  have HT := hide (tok_at h.toks)
  have HB := hide (fun a => (Below.refl _ w).alloc (Nat.le_refl _) a)
  have hct2 := fun a => cell_low (unhide HB a) (lt_of_cell hct) hct
  rw [ho] at hct2
  clear h hct ho
  unfold Pl.kTab at hct2
  go_enter Tryz.func146, Tryz.ntmps146
  go_wp2_with fail
  refine (unhide HA _ _ (unhide HB _) (by omega)).mono ?_
  rintro e w1 ⟨rfl, hb1⟩
  have HX1 := hide (bx_start hb1)
  clear hb1 HA
  obtain ⟨x0, x1, x2⟩ := (unhide HX1).cells
  go_wp2_with fail
  refine (unhide HS _ (unhide HX1).1 ).mono ?_
  rintro e w2 ⟨rfl, hb2⟩
  have HX2 := hide ((unhide HX1).next hb2)
  clear x0 x1 x2 HX1
  clear hb2 HS
  obtain ⟨x0, x1, x2⟩ := (unhide HX2).cells
  go_wp2
  go_ret2
  exact ⟨rfl, (unhide HX2).1⟩
end Go.Proofs.YtfaljekgpnbmiaaGreat

/-
  Contracts of the reference's Value and Bound at a number or a name.
-/
namespace Go.Proofs.YtfaljekgpnbmiaaGreat
open Go.RowKit
set_option linter.unusedVariables false
set_option linter.unusedSimpArgs false

set_option maxRecDepth 100000 in
set_option maxHeartbeats 2000000 in
theorem V_num (toks : List (List UInt8)) (names : List Pl.DeclM) (known : List Int) (vt vn vk : Value) (i : Nat) (w : World) (h : TextAt w vt vn vk toks names known) (hi : i < toks.length) (hl : toks.length ≤ 9000) (ht : (toks.getD i []).length ≤ 6000) (n : Int) (hn : Pl.number (toks.getD i []) = (n, true)) (n0 : (toks.getD i [] == Pl.kAdd) = false) (n1 : (toks.getD i [] == Pl.kSub) = false) (n2 : (toks.getD i [] == Pl.kMin) = false) (n3 : (toks.getD i [] == Pl.kMax) = false) (n4 : (toks.getD i [] == Pl.kMul) = false) (n5 : (toks.getD i [] == Pl.kIf) = false) (n6 : (toks.getD i [] == Pl.kDiv) = false) (n7 : (toks.getD i [] == Pl.kTab) = false) :
    Calls Tryz.prog 114 #[.agg #[vt, vn, vk], .int .i64 i] w fun e w' => e = .returned (.tuple #[.int .i64 (n), .int .i64 ((i : Int) + 1)]) ∧ Below w.heap.size w w' := by
  have HN := hide (fun w1 => RNumber_any (toks.getD i []) w1 (by unfold maxLen; omega))
  rw [hn] at HN
  obtain ⟨a1, p1, a2, p2, a3, p3, rfl, rfl, rfl⟩ := text_shape h
  obtain ⟨gt, rfl, hct⟩ := h.toks.get i hi
  have HT := hide (tok_at h.toks)
  have HB := hide (fun a => (Below.refl _ w).alloc (Nat.le_refl _) a)
  have hct2 := fun a => cell_low (unhide HB a) (lt_of_cell hct) hct
  clear h hct
  clear hn HT
  simp only [Pl.kAdd, Pl.kSub, Pl.kMin, Pl.kMax, Pl.kMul, Pl.kIf, Pl.kDiv, Pl.kTab] at n0 n1 n2 n3 n4 n5 n6 n7
  generalize toks.getD i [] = t at *
  go_enter Tryz.func114, Tryz.ntmps114
  go_wp2_with fail
  refine (unhide HN _).mono ?_
  rintro e w1 ⟨rfl, hw1⟩
  rw [hw1]
  clear hw1 w1
  clear HN
  go_wp2
  go_ret2
  exact ⟨rfl, (unhide HB _)⟩
set_option maxRecDepth 100000 in
set_option maxHeartbeats 2000000 in
theorem V_var (toks : List (List UInt8)) (names : List Pl.DeclM) (known : List Int) (vt vn vk : Value) (i : Nat) (w : World) (h : TextAt w vt vn vk toks names known) (hi : i < toks.length) (hl : toks.length ≤ 9000) (hnl : names.length ≤ 10000) (ht : (toks.getD i []).length ≤ 6000) (hn : (Pl.number (toks.getD i [])).2 = false) (k : Nat) (hf : Pl.findD names (toks.getD i []) = (k : Int)) (hk : k < known.length) (n0 : (toks.getD i [] == Pl.kAdd) = false) (n1 : (toks.getD i [] == Pl.kSub) = false) (n2 : (toks.getD i [] == Pl.kMin) = false) (n3 : (toks.getD i [] == Pl.kMax) = false) (n4 : (toks.getD i [] == Pl.kMul) = false) (n5 : (toks.getD i [] == Pl.kIf) = false) (n6 : (toks.getD i [] == Pl.kDiv) = false) (n7 : (toks.getD i [] == Pl.kTab) = false) :
    Calls Tryz.prog 114 #[.agg #[vt, vn, vk], .int .i64 i] w fun e w' => e = .returned (.tuple #[.int .i64 (known.getD k 0), .int .i64 ((i : Int) + 1)]) ∧ Below w.heap.size w w' := by
  have HN := hide (fun w1 => RNumber_any (toks.getD i []) w1 (by unfold maxLen; omega))
  generalize (Pl.number (toks.getD i [])).1 = nv0 at *
  rw [hn] at HN
  have HF := hide (fun w1 (hb : Below w.heap.size w w1) => find_ref names vn (toks.getD i []) w1 (h.names.below hb) hnl)
  rw [hf] at HF
  have HK := hide h.known
  obtain ⟨a1, p1, a2, p2, a3, p3, rfl, rfl, rfl⟩ := text_shape h
  obtain ⟨gt, rfl, hct⟩ := h.toks.get i hi
  have HT := hide (tok_at h.toks)
  have HB := hide (fun a => (Below.refl _ w).alloc (Nat.le_refl _) a)
  have hct2 := fun a => cell_low (unhide HB a) (lt_of_cell hct) hct
  clear h hct
  obtain ⟨bk, ok, rfl, hck⟩ := ints_get (unhide HK) k hk
  have hck2 := fun a => cell_low (unhide HB a) (lt_of_cell hck) hck
  have hkg : known.getD k 0 = known[k] := by rw [List.getD_eq_getElem?_getD, List.getElem?_eq_getElem hk]; rfl
  rw [hkg]
  generalize known[k] = kv at *
  clear hn hf hkg HT HK hck
  simp only [Pl.kAdd, Pl.kSub, Pl.kMin, Pl.kMax, Pl.kMul, Pl.kIf, Pl.kDiv, Pl.kTab] at n0 n1 n2 n3 n4 n5 n6 n7
  generalize toks.getD i [] = t at *
  go_enter Tryz.func114, Tryz.ntmps114
  go_wp2_with fail
  refine (unhide HN _).mono ?_
  rintro e w1 ⟨rfl, hw1⟩
  rw [hw1]
  clear hw1 w1
  clear HN
  go_wp2_with fail
  refine (unhide HF _ (unhide HB _)).mono ?_
  rintro e w2 ⟨rfl, hw2⟩
  rw [hw2]
  clear hw2 w2
  clear HF
  go_wp2
  go_ret2
  exact ⟨rfl, (unhide HB _)⟩
set_option maxRecDepth 100000 in
set_option maxHeartbeats 2000000 in
theorem B_num (toks : List (List UInt8)) (names : List Pl.DeclM) (known : List Int) (vt vn vk : Value) (i : Nat) (w : World) (h : TextAt w vt vn vk toks names known) (hi : i < toks.length) (hl : toks.length ≤ 9000) (ht : (toks.getD i []).length ≤ 6000) (n : Int) (hn : Pl.number (toks.getD i []) = (n, true)) (n0 : (toks.getD i [] == Pl.kAdd) = false) (n1 : (toks.getD i [] == Pl.kSub) = false) (n2 : (toks.getD i [] == Pl.kMin) = false) (n3 : (toks.getD i [] == Pl.kMax) = false) (n4 : (toks.getD i [] == Pl.kMul) = false) (n5 : (toks.getD i [] == Pl.kIf) = false) (n6 : (toks.getD i [] == Pl.kDiv) = false) (n7 : (toks.getD i [] == Pl.kTab) = false) (n8 : (toks.getD i [] == Pl.kLt) = false) (n9 : (toks.getD i [] == Pl.kLe) = false) (n10 : (toks.getD i [] == Pl.kEq) = false) (n11 : (toks.getD i [] == Pl.kAnd) = false) (n12 : (toks.getD i [] == Pl.kOr) = false) (n13 : (toks.getD i [] == Pl.kNot) = false) :
    Calls Tryz.prog 146 #[.agg #[vt, vn, vk], .int .i64 i] w fun e w' => e = .returned (.tuple #[.int .i64 (Pl.absv n), .int .i64 ((i : Int) + 1)]) ∧ Below w.heap.size w w' := by
  have HN := hide (fun w1 => RNumber_any (toks.getD i []) w1 (by unfold maxLen; omega))
  rw [hn] at HN
  have hnb := Pl.number_bd (toks.getD i [])
  rw [hn] at hnb
  simp only at hnb
  have HP := hide (fun w1 => apart_any n w1 (by omega) (by omega))
  obtain ⟨a1, p1, a2, p2, a3, p3, rfl, rfl, rfl⟩ := text_shape h
  obtain ⟨gt, rfl, hct⟩ := h.toks.get i hi
  have HT := hide (tok_at h.toks)
  have HB := hide (fun a => (Below.refl _ w).alloc (Nat.le_refl _) a)
  have hct2 := fun a => cell_low (unhide HB a) (lt_of_cell hct) hct
  clear h hct
  clear hn HT
  simp only [Pl.kAdd, Pl.kSub, Pl.kMin, Pl.kMax, Pl.kMul, Pl.kIf, Pl.kDiv, Pl.kTab, Pl.kLt, Pl.kLe, Pl.kEq, Pl.kAnd, Pl.kOr, Pl.kNot] at n0 n1 n2 n3 n4 n5 n6 n7 n8 n9 n10 n11 n12 n13
  generalize toks.getD i [] = t at *
  go_enter Tryz.func146, Tryz.ntmps146
  go_wp2_with fail
  refine (unhide HN _).mono ?_
  rintro e w1 ⟨rfl, hw1⟩
  rw [hw1]
  clear hw1 w1
  clear HN
  go_wp2_with fail
  refine (unhide HP _).mono ?_
  rintro e w2 ⟨rfl, hw2⟩
  rw [hw2]
  clear hw2 w2
  go_wp2
  go_ret2
  exact ⟨rfl, (unhide HB _)⟩
set_option maxRecDepth 100000 in
set_option maxHeartbeats 2000000 in
theorem B_var (toks : List (List UInt8)) (names : List Pl.DeclM) (known : List Int) (vt vn vk : Value) (i : Nat) (w : World) (h : TextAt w vt vn vk toks names known) (hi : i < toks.length) (hl : toks.length ≤ 9000) (hnl : names.length ≤ 10000) (ht : (toks.getD i []).length ≤ 6000) (hn : (Pl.number (toks.getD i [])).2 = false) (k : Nat) (hf : Pl.findD names (toks.getD i []) = (k : Int)) (hk : k < known.length) (n0 : (toks.getD i [] == Pl.kAdd) = false) (n1 : (toks.getD i [] == Pl.kSub) = false) (n2 : (toks.getD i [] == Pl.kMin) = false) (n3 : (toks.getD i [] == Pl.kMax) = false) (n4 : (toks.getD i [] == Pl.kMul) = false) (n5 : (toks.getD i [] == Pl.kIf) = false) (n6 : (toks.getD i [] == Pl.kDiv) = false) (n7 : (toks.getD i [] == Pl.kTab) = false) (n8 : (toks.getD i [] == Pl.kLt) = false) (n9 : (toks.getD i [] == Pl.kLe) = false) (n10 : (toks.getD i [] == Pl.kEq) = false) (n11 : (toks.getD i [] == Pl.kAnd) = false) (n12 : (toks.getD i [] == Pl.kOr) = false) (n13 : (toks.getD i [] == Pl.kNot) = false) :
    Calls Tryz.prog 146 #[.agg #[vt, vn, vk], .int .i64 i] w fun e w' => e = .returned (.tuple #[.int .i64 (known.getD k 0), .int .i64 ((i : Int) + 1)]) ∧ Below w.heap.size w w' := by
  have HN := hide (fun w1 => RNumber_any (toks.getD i []) w1 (by unfold maxLen; omega))
  generalize (Pl.number (toks.getD i [])).1 = nv0 at *
  rw [hn] at HN
  have HF := hide (fun w1 (hb : Below w.heap.size w w1) => find_ref names vn (toks.getD i []) w1 (h.names.below hb) hnl)
  rw [hf] at HF
  have HK := hide h.known
  obtain ⟨a1, p1, a2, p2, a3, p3, rfl, rfl, rfl⟩ := text_shape h
  obtain ⟨gt, rfl, hct⟩ := h.toks.get i hi
  have HT := hide (tok_at h.toks)
  have HB := hide (fun a => (Below.refl _ w).alloc (Nat.le_refl _) a)
  have hct2 := fun a => cell_low (unhide HB a) (lt_of_cell hct) hct
  clear h hct
  obtain ⟨bk, ok, rfl, hck⟩ := ints_get (unhide HK) k hk
  have hck2 := fun a => cell_low (unhide HB a) (lt_of_cell hck) hck
  have hkg : known.getD k 0 = known[k] := by rw [List.getD_eq_getElem?_getD, List.getElem?_eq_getElem hk]; rfl
  rw [hkg]
  generalize known[k] = kv at *
  clear hn hf hkg HT HK hck
  simp only [Pl.kAdd, Pl.kSub, Pl.kMin, Pl.kMax, Pl.kMul, Pl.kIf, Pl.kDiv, Pl.kTab, Pl.kLt, Pl.kLe, Pl.kEq, Pl.kAnd, Pl.kOr, Pl.kNot] at n0 n1 n2 n3 n4 n5 n6 n7 n8 n9 n10 n11 n12 n13
  generalize toks.getD i [] = t at *
  go_enter Tryz.func146, Tryz.ntmps146
  go_wp2_with fail
  refine (unhide HN _).mono ?_
  rintro e w1 ⟨rfl, hw1⟩
  rw [hw1]
  clear hw1 w1
  clear HN
  go_wp2_with fail
  refine (unhide HF _ (unhide HB _)).mono ?_
  rintro e w2 ⟨rfl, hw2⟩
  rw [hw2]
  clear hw2 w2
  clear HF
  go_wp2
  go_ret2
  exact ⟨rfl, (unhide HB _)⟩
end Go.Proofs.YtfaljekgpnbmiaaGreat
