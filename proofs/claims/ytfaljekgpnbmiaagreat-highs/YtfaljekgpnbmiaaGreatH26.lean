/- Joined: Ref22. -/
import Derived.Test.YtfaljekgpnbmiaaGreatH25
/-
  Contracts of the reference's heads and bands.
-/
namespace Go.Proofs.YtfaljekgpnbmiaaGreat
open Go.RowKit
set_option linter.unusedVariables false
set_option linter.unusedSimpArgs false

set_option maxRecDepth 100000 in
set_option maxHeartbeats 2000000 in
theorem heads_in0 (b : Nat) (names : List Pl.DeclM) (vn : Value) (w : World) (hc : w.cell? ⟨b, 3, none⟩ = some vn) (hn : DeclsAt w vn names) (hnl : names.length ≤ 10000) (nv : ¬ Pl.countD names 118 = 0) :
    Calls Tryz.prog 197 #[.pointer (some ⟨b, 0, none⟩), .string ⟨#[105, 110]⟩] w fun e w' => e = .returned (.string ⟨#[]⟩) ∧ ∃ n, w' = w.drewN n := by
  have hC1 := hide (fun n => count_ref names vn 105 (w.drewN n) (hn.drewN n) hnl)
  have hC2 := hide (fun n => count_ref names vn 118 (w.drewN n) (hn.drewN n) hnl)
  have hC3 := hide (fun n => count_ref names vn 111 (w.drewN n) (hn.drewN n) hnl)
  have q1 := Pl.countD_le names 105
  have q2 := Pl.countD_le names 118
  have q3 := Pl.countD_le names 111
  obtain ⟨adn, capn, rfl⟩ := hn.shape
  clear hn
  generalize Pl.countD names 105 = c1 at *
  generalize Pl.countD names 118 = c2 at *
  generalize Pl.countD names 111 = c3 at *
  go_enter Tryz.func197, Tryz.ntmps197
  go_wp2_with fail
  refine (unhide hC1 0).mono ?_
  rintro e w1 ⟨rfl, hw1⟩
  rw [hw1]
  clear hw1 w1 hC1
  go_wp2_with fail
  refine (unhide hC2 0).mono ?_
  rintro e w1 ⟨rfl, hw1⟩
  rw [hw1]
  clear hw1 w1 hC2
  go_wp2_with fail
  refine (unhide hC3 0).mono ?_
  rintro e w1 ⟨rfl, hw1⟩
  rw [hw1]
  clear hw1 w1 hC3
  go_wp2
  go_ret
  exact ⟨rfl, 0, rfl⟩
set_option maxRecDepth 100000 in
set_option maxHeartbeats 2000000 in
theorem heads_in1 (b : Nat) (names : List Pl.DeclM) (vn : Value) (w : World) (hc : w.cell? ⟨b, 3, none⟩ = some vn) (hn : DeclsAt w vn names) (hnl : names.length ≤ 10000) (nv : Pl.countD names 118 = 0) (no : ¬ Pl.countD names 111 = 0) :
    Calls Tryz.prog 197 #[.pointer (some ⟨b, 0, none⟩), .string ⟨#[105, 110]⟩] w fun e w' => e = .returned (.string ⟨#[]⟩) ∧ ∃ n, w' = w.drewN n := by
  have hC1 := hide (fun n => count_ref names vn 105 (w.drewN n) (hn.drewN n) hnl)
  have hC2 := hide (fun n => count_ref names vn 118 (w.drewN n) (hn.drewN n) hnl)
  have hC3 := hide (fun n => count_ref names vn 111 (w.drewN n) (hn.drewN n) hnl)
  have q1 := Pl.countD_le names 105
  have q2 := Pl.countD_le names 118
  have q3 := Pl.countD_le names 111
  obtain ⟨adn, capn, rfl⟩ := hn.shape
  clear hn
  generalize Pl.countD names 105 = c1 at *
  generalize Pl.countD names 118 = c2 at *
  generalize Pl.countD names 111 = c3 at *
  go_enter Tryz.func197, Tryz.ntmps197
  go_wp2_with fail
  refine (unhide hC1 0).mono ?_
  rintro e w1 ⟨rfl, hw1⟩
  rw [hw1]
  clear hw1 w1 hC1
  go_wp2_with fail
  refine (unhide hC2 0).mono ?_
  rintro e w1 ⟨rfl, hw1⟩
  rw [hw1]
  clear hw1 w1 hC2
  go_wp2_with fail
  refine (unhide hC3 0).mono ?_
  rintro e w1 ⟨rfl, hw1⟩
  rw [hw1]
  clear hw1 w1 hC3
  go_wp2
  go_ret
  exact ⟨rfl, 0, rfl⟩
set_option maxRecDepth 100000 in
set_option maxHeartbeats 2000000 in
theorem heads_in2 (b : Nat) (names : List Pl.DeclM) (vn : Value) (w : World) (hc : w.cell? ⟨b, 3, none⟩ = some vn) (hn : DeclsAt w vn names) (hnl : names.length ≤ 10000) (nv : Pl.countD names 118 = 0) (no : Pl.countD names 111 = 0) (ni : ¬ Pl.countD names 105 < 4) :
    Calls Tryz.prog 197 #[.pointer (some ⟨b, 0, none⟩), .string ⟨#[105, 110]⟩] w fun e w' => e = .returned (.string ⟨#[]⟩) ∧ ∃ n, w' = w.drewN n := by
  have hC1 := hide (fun n => count_ref names vn 105 (w.drewN n) (hn.drewN n) hnl)
  have hC2 := hide (fun n => count_ref names vn 118 (w.drewN n) (hn.drewN n) hnl)
  have hC3 := hide (fun n => count_ref names vn 111 (w.drewN n) (hn.drewN n) hnl)
  have q1 := Pl.countD_le names 105
  have q2 := Pl.countD_le names 118
  have q3 := Pl.countD_le names 111
  obtain ⟨adn, capn, rfl⟩ := hn.shape
  clear hn
  generalize Pl.countD names 105 = c1 at *
  generalize Pl.countD names 118 = c2 at *
  generalize Pl.countD names 111 = c3 at *
  go_enter Tryz.func197, Tryz.ntmps197
  go_wp2_with fail
  refine (unhide hC1 0).mono ?_
  rintro e w1 ⟨rfl, hw1⟩
  rw [hw1]
  clear hw1 w1 hC1
  go_wp2_with fail
  refine (unhide hC2 0).mono ?_
  rintro e w1 ⟨rfl, hw1⟩
  rw [hw1]
  clear hw1 w1 hC2
  go_wp2_with fail
  refine (unhide hC3 0).mono ?_
  rintro e w1 ⟨rfl, hw1⟩
  rw [hw1]
  clear hw1 w1 hC3
  go_wp2
  go_ret
  exact ⟨rfl, 0, rfl⟩
set_option maxRecDepth 100000 in
set_option maxHeartbeats 2000000 in
theorem heads_in3 (b : Nat) (names : List Pl.DeclM) (vn : Value) (w : World) (hc : w.cell? ⟨b, 3, none⟩ = some vn) (hn : DeclsAt w vn names) (hnl : names.length ≤ 10000) (nv : Pl.countD names 118 = 0) (no : Pl.countD names 111 = 0) (ni : Pl.countD names 105 < 4) :
    Calls Tryz.prog 197 #[.pointer (some ⟨b, 0, none⟩), .string ⟨#[105, 110]⟩] w fun e w' => e = .returned (.string ⟨#[72, 73, 98, 97, 105]⟩) ∧ ∃ n, w' = w.drewN n := by
  have hC1 := hide (fun n => count_ref names vn 105 (w.drewN n) (hn.drewN n) hnl)
  have hC2 := hide (fun n => count_ref names vn 118 (w.drewN n) (hn.drewN n) hnl)
  have hC3 := hide (fun n => count_ref names vn 111 (w.drewN n) (hn.drewN n) hnl)
  have q1 := Pl.countD_le names 105
  have q2 := Pl.countD_le names 118
  have q3 := Pl.countD_le names 111
  obtain ⟨adn, capn, rfl⟩ := hn.shape
  clear hn
  generalize Pl.countD names 105 = c1 at *
  generalize Pl.countD names 118 = c2 at *
  generalize Pl.countD names 111 = c3 at *
  go_enter Tryz.func197, Tryz.ntmps197
  go_wp2_with fail
  refine (unhide hC1 0).mono ?_
  rintro e w1 ⟨rfl, hw1⟩
  rw [hw1]
  clear hw1 w1 hC1
  go_wp2_with fail
  refine (unhide hC2 0).mono ?_
  rintro e w1 ⟨rfl, hw1⟩
  rw [hw1]
  clear hw1 w1 hC2
  go_wp2_with fail
  refine (unhide hC3 0).mono ?_
  rintro e w1 ⟨rfl, hw1⟩
  rw [hw1]
  clear hw1 w1 hC3
  go_wp2
  go_ret
  exact ⟨rfl, 0, rfl⟩
set_option maxRecDepth 100000 in
set_option maxHeartbeats 2000000 in
theorem heads_let0 (b : Nat) (names : List Pl.DeclM) (vn : Value) (w : World) (hc : w.cell? ⟨b, 3, none⟩ = some vn) (hn : DeclsAt w vn names) (hnl : names.length ≤ 10000) (ni : ¬ 0 < Pl.countD names 105) :
    Calls Tryz.prog 197 #[.pointer (some ⟨b, 0, none⟩), .string ⟨#[108, 101, 116]⟩] w fun e w' => e = .returned (.string ⟨#[]⟩) ∧ ∃ n, w' = w.drewN n := by
  have hC1 := hide (fun n => count_ref names vn 105 (w.drewN n) (hn.drewN n) hnl)
  have hC2 := hide (fun n => count_ref names vn 118 (w.drewN n) (hn.drewN n) hnl)
  have hC3 := hide (fun n => count_ref names vn 111 (w.drewN n) (hn.drewN n) hnl)
  have q1 := Pl.countD_le names 105
  have q2 := Pl.countD_le names 118
  have q3 := Pl.countD_le names 111
  obtain ⟨adn, capn, rfl⟩ := hn.shape
  clear hn
  generalize Pl.countD names 105 = c1 at *
  generalize Pl.countD names 118 = c2 at *
  generalize Pl.countD names 111 = c3 at *
  go_enter Tryz.func197, Tryz.ntmps197
  go_wp2_with fail
  refine (unhide hC1 0).mono ?_
  rintro e w1 ⟨rfl, hw1⟩
  rw [hw1]
  clear hw1 w1 hC1
  go_wp2_with fail
  refine (unhide hC2 0).mono ?_
  rintro e w1 ⟨rfl, hw1⟩
  rw [hw1]
  clear hw1 w1 hC2
  go_wp2_with fail
  refine (unhide hC3 0).mono ?_
  rintro e w1 ⟨rfl, hw1⟩
  rw [hw1]
  clear hw1 w1 hC3
  go_wp2
  go_ret
  exact ⟨rfl, 0, rfl⟩
set_option maxRecDepth 100000 in
set_option maxHeartbeats 2000000 in
theorem heads_let1 (b : Nat) (names : List Pl.DeclM) (vn : Value) (w : World) (hc : w.cell? ⟨b, 3, none⟩ = some vn) (hn : DeclsAt w vn names) (hnl : names.length ≤ 10000) (ni : 0 < Pl.countD names 105) (no : ¬ Pl.countD names 111 = 0) :
    Calls Tryz.prog 197 #[.pointer (some ⟨b, 0, none⟩), .string ⟨#[108, 101, 116]⟩] w fun e w' => e = .returned (.string ⟨#[]⟩) ∧ ∃ n, w' = w.drewN n := by
  have hC1 := hide (fun n => count_ref names vn 105 (w.drewN n) (hn.drewN n) hnl)
  have hC2 := hide (fun n => count_ref names vn 118 (w.drewN n) (hn.drewN n) hnl)
  have hC3 := hide (fun n => count_ref names vn 111 (w.drewN n) (hn.drewN n) hnl)
  have q1 := Pl.countD_le names 105
  have q2 := Pl.countD_le names 118
  have q3 := Pl.countD_le names 111
  obtain ⟨adn, capn, rfl⟩ := hn.shape
  clear hn
  generalize Pl.countD names 105 = c1 at *
  generalize Pl.countD names 118 = c2 at *
  generalize Pl.countD names 111 = c3 at *
  go_enter Tryz.func197, Tryz.ntmps197
  go_wp2_with fail
  refine (unhide hC1 0).mono ?_
  rintro e w1 ⟨rfl, hw1⟩
  rw [hw1]
  clear hw1 w1 hC1
  go_wp2_with fail
  refine (unhide hC2 0).mono ?_
  rintro e w1 ⟨rfl, hw1⟩
  rw [hw1]
  clear hw1 w1 hC2
  go_wp2_with fail
  refine (unhide hC3 0).mono ?_
  rintro e w1 ⟨rfl, hw1⟩
  rw [hw1]
  clear hw1 w1 hC3
  go_wp2
  go_ret
  exact ⟨rfl, 0, rfl⟩
set_option maxRecDepth 100000 in
set_option maxHeartbeats 2000000 in
theorem heads_let2 (b : Nat) (names : List Pl.DeclM) (vn : Value) (w : World) (hc : w.cell? ⟨b, 3, none⟩ = some vn) (hn : DeclsAt w vn names) (hnl : names.length ≤ 10000) (ni : 0 < Pl.countD names 105) (no : Pl.countD names 111 = 0) (nv : ¬ Pl.countD names 118 < 16) :
    Calls Tryz.prog 197 #[.pointer (some ⟨b, 0, none⟩), .string ⟨#[108, 101, 116]⟩] w fun e w' => e = .returned (.string ⟨#[]⟩) ∧ ∃ n, w' = w.drewN n := by
  have hC1 := hide (fun n => count_ref names vn 105 (w.drewN n) (hn.drewN n) hnl)
  have hC2 := hide (fun n => count_ref names vn 118 (w.drewN n) (hn.drewN n) hnl)
  have hC3 := hide (fun n => count_ref names vn 111 (w.drewN n) (hn.drewN n) hnl)
  have q1 := Pl.countD_le names 105
  have q2 := Pl.countD_le names 118
  have q3 := Pl.countD_le names 111
  obtain ⟨adn, capn, rfl⟩ := hn.shape
  clear hn
  generalize Pl.countD names 105 = c1 at *
  generalize Pl.countD names 118 = c2 at *
  generalize Pl.countD names 111 = c3 at *
  go_enter Tryz.func197, Tryz.ntmps197
  go_wp2_with fail
  refine (unhide hC1 0).mono ?_
  rintro e w1 ⟨rfl, hw1⟩
  rw [hw1]
  clear hw1 w1 hC1
  go_wp2_with fail
  refine (unhide hC2 0).mono ?_
  rintro e w1 ⟨rfl, hw1⟩
  rw [hw1]
  clear hw1 w1 hC2
  go_wp2_with fail
  refine (unhide hC3 0).mono ?_
  rintro e w1 ⟨rfl, hw1⟩
  rw [hw1]
  clear hw1 w1 hC3
  go_wp2
  go_ret
  exact ⟨rfl, 0, rfl⟩
set_option maxRecDepth 100000 in
set_option maxHeartbeats 2000000 in
theorem heads_let3 (b : Nat) (names : List Pl.DeclM) (vn : Value) (w : World) (hc : w.cell? ⟨b, 3, none⟩ = some vn) (hn : DeclsAt w vn names) (hnl : names.length ≤ 10000) (ni : 0 < Pl.countD names 105) (no : Pl.countD names 111 = 0) (nv : Pl.countD names 118 < 16) :
    Calls Tryz.prog 197 #[.pointer (some ⟨b, 0, none⟩), .string ⟨#[108, 101, 116]⟩] w fun e w' => e = .returned (.string ⟨#[72, 86, 69, 108]⟩) ∧ ∃ n, w' = w.drewN n := by
  have hC1 := hide (fun n => count_ref names vn 105 (w.drewN n) (hn.drewN n) hnl)
  have hC2 := hide (fun n => count_ref names vn 118 (w.drewN n) (hn.drewN n) hnl)
  have hC3 := hide (fun n => count_ref names vn 111 (w.drewN n) (hn.drewN n) hnl)
  have q1 := Pl.countD_le names 105
  have q2 := Pl.countD_le names 118
  have q3 := Pl.countD_le names 111
  obtain ⟨adn, capn, rfl⟩ := hn.shape
  clear hn
  generalize Pl.countD names 105 = c1 at *
  generalize Pl.countD names 118 = c2 at *
  generalize Pl.countD names 111 = c3 at *
  go_enter Tryz.func197, Tryz.ntmps197
  go_wp2_with fail
  refine (unhide hC1 0).mono ?_
  rintro e w1 ⟨rfl, hw1⟩
  rw [hw1]
  clear hw1 w1 hC1
  go_wp2_with fail
  refine (unhide hC2 0).mono ?_
  rintro e w1 ⟨rfl, hw1⟩
  rw [hw1]
  clear hw1 w1 hC2
  go_wp2_with fail
  refine (unhide hC3 0).mono ?_
  rintro e w1 ⟨rfl, hw1⟩
  rw [hw1]
  clear hw1 w1 hC3
  go_wp2
  go_ret
  exact ⟨rfl, 0, rfl⟩
set_option maxRecDepth 100000 in
set_option maxHeartbeats 2000000 in
theorem heads_out0 (b : Nat) (names : List Pl.DeclM) (vn : Value) (w : World) (hc : w.cell? ⟨b, 3, none⟩ = some vn) (hn : DeclsAt w vn names) (hnl : names.length ≤ 10000) (ni : ¬ 0 < Pl.countD names 105) :
    Calls Tryz.prog 197 #[.pointer (some ⟨b, 0, none⟩), .string ⟨#[111, 117, 116]⟩] w fun e w' => e = .returned (.string ⟨#[]⟩) ∧ ∃ n, w' = w.drewN n := by
  have hC1 := hide (fun n => count_ref names vn 105 (w.drewN n) (hn.drewN n) hnl)
  have hC2 := hide (fun n => count_ref names vn 118 (w.drewN n) (hn.drewN n) hnl)
  have hC3 := hide (fun n => count_ref names vn 111 (w.drewN n) (hn.drewN n) hnl)
  have q1 := Pl.countD_le names 105
  have q2 := Pl.countD_le names 118
  have q3 := Pl.countD_le names 111
  obtain ⟨adn, capn, rfl⟩ := hn.shape
  clear hn
  generalize Pl.countD names 105 = c1 at *
  generalize Pl.countD names 118 = c2 at *
  generalize Pl.countD names 111 = c3 at *
  go_enter Tryz.func197, Tryz.ntmps197
  go_wp2_with fail
  refine (unhide hC1 0).mono ?_
  rintro e w1 ⟨rfl, hw1⟩
  rw [hw1]
  clear hw1 w1 hC1
  go_wp2_with fail
  refine (unhide hC2 0).mono ?_
  rintro e w1 ⟨rfl, hw1⟩
  rw [hw1]
  clear hw1 w1 hC2
  go_wp2_with fail
  refine (unhide hC3 0).mono ?_
  rintro e w1 ⟨rfl, hw1⟩
  rw [hw1]
  clear hw1 w1 hC3
  go_wp2
  go_ret
  exact ⟨rfl, 0, rfl⟩
set_option maxRecDepth 100000 in
set_option maxHeartbeats 2000000 in
theorem heads_out1 (b : Nat) (names : List Pl.DeclM) (vn : Value) (w : World) (hc : w.cell? ⟨b, 3, none⟩ = some vn) (hn : DeclsAt w vn names) (hnl : names.length ≤ 10000) (ni : 0 < Pl.countD names 105) (no : ¬ Pl.countD names 111 < 4) :
    Calls Tryz.prog 197 #[.pointer (some ⟨b, 0, none⟩), .string ⟨#[111, 117, 116]⟩] w fun e w' => e = .returned (.string ⟨#[]⟩) ∧ ∃ n, w' = w.drewN n := by
  have hC1 := hide (fun n => count_ref names vn 105 (w.drewN n) (hn.drewN n) hnl)
  have hC2 := hide (fun n => count_ref names vn 118 (w.drewN n) (hn.drewN n) hnl)
  have hC3 := hide (fun n => count_ref names vn 111 (w.drewN n) (hn.drewN n) hnl)
  have q1 := Pl.countD_le names 105
  have q2 := Pl.countD_le names 118
  have q3 := Pl.countD_le names 111
  obtain ⟨adn, capn, rfl⟩ := hn.shape
  clear hn
  generalize Pl.countD names 105 = c1 at *
  generalize Pl.countD names 118 = c2 at *
  generalize Pl.countD names 111 = c3 at *
  go_enter Tryz.func197, Tryz.ntmps197
  go_wp2_with fail
  refine (unhide hC1 0).mono ?_
  rintro e w1 ⟨rfl, hw1⟩
  rw [hw1]
  clear hw1 w1 hC1
  go_wp2_with fail
  refine (unhide hC2 0).mono ?_
  rintro e w1 ⟨rfl, hw1⟩
  rw [hw1]
  clear hw1 w1 hC2
  go_wp2_with fail
  refine (unhide hC3 0).mono ?_
  rintro e w1 ⟨rfl, hw1⟩
  rw [hw1]
  clear hw1 w1 hC3
  go_wp2
  go_ret
  exact ⟨rfl, 0, rfl⟩
set_option maxRecDepth 100000 in
set_option maxHeartbeats 2000000 in
theorem heads_out2 (b : Nat) (names : List Pl.DeclM) (vn : Value) (w : World) (hc : w.cell? ⟨b, 3, none⟩ = some vn) (hn : DeclsAt w vn names) (hnl : names.length ≤ 10000) (ni : 0 < Pl.countD names 105) (no : Pl.countD names 111 < 4) :
    Calls Tryz.prog 197 #[.pointer (some ⟨b, 0, none⟩), .string ⟨#[111, 117, 116]⟩] w fun e w' => e = .returned (.string ⟨#[72, 79, 69, 111]⟩) ∧ ∃ n, w' = w.drewN n := by
  have hC1 := hide (fun n => count_ref names vn 105 (w.drewN n) (hn.drewN n) hnl)
  have hC2 := hide (fun n => count_ref names vn 118 (w.drewN n) (hn.drewN n) hnl)
  have hC3 := hide (fun n => count_ref names vn 111 (w.drewN n) (hn.drewN n) hnl)
  have q1 := Pl.countD_le names 105
  have q2 := Pl.countD_le names 118
  have q3 := Pl.countD_le names 111
  obtain ⟨adn, capn, rfl⟩ := hn.shape
  clear hn
  generalize Pl.countD names 105 = c1 at *
  generalize Pl.countD names 118 = c2 at *
  generalize Pl.countD names 111 = c3 at *
  go_enter Tryz.func197, Tryz.ntmps197
  go_wp2_with fail
  refine (unhide hC1 0).mono ?_
  rintro e w1 ⟨rfl, hw1⟩
  rw [hw1]
  clear hw1 w1 hC1
  go_wp2_with fail
  refine (unhide hC2 0).mono ?_
  rintro e w1 ⟨rfl, hw1⟩
  rw [hw1]
  clear hw1 w1 hC2
  go_wp2_with fail
  refine (unhide hC3 0).mono ?_
  rintro e w1 ⟨rfl, hw1⟩
  rw [hw1]
  clear hw1 w1 hC3
  go_wp2
  go_ret
  exact ⟨rfl, 0, rfl⟩
set_option maxRecDepth 100000 in
set_option maxHeartbeats 2000000 in
theorem heads_no (t : List UInt8) (b : Nat) (names : List Pl.DeclM) (vn : Value) (w : World) (hc : w.cell? ⟨b, 3, none⟩ = some vn) (hn : DeclsAt w vn names) (hnl : names.length ≤ 10000) (h1 : (t == [105, 110]) = false) (h2 : (t == [108, 101, 116]) = false) (h3 : (t == [111, 117, 116]) = false) :
    Calls Tryz.prog 197 #[.pointer (some ⟨b, 0, none⟩), .string ⟨t.toArray⟩] w fun e w' => e = .returned (.string ⟨#[]⟩) ∧ ∃ n, w' = w.drewN n := by
  have hC1 := hide (fun n => count_ref names vn 105 (w.drewN n) (hn.drewN n) hnl)
  have hC2 := hide (fun n => count_ref names vn 118 (w.drewN n) (hn.drewN n) hnl)
  have hC3 := hide (fun n => count_ref names vn 111 (w.drewN n) (hn.drewN n) hnl)
  have q1 := Pl.countD_le names 105
  have q2 := Pl.countD_le names 118
  have q3 := Pl.countD_le names 111
  obtain ⟨adn, capn, rfl⟩ := hn.shape
  clear hn
  generalize Pl.countD names 105 = c1 at *
  generalize Pl.countD names 118 = c2 at *
  generalize Pl.countD names 111 = c3 at *
  go_enter Tryz.func197, Tryz.ntmps197
  go_wp2_with fail
  refine (unhide hC1 0).mono ?_
  rintro e w1 ⟨rfl, hw1⟩
  rw [hw1]
  clear hw1 w1 hC1
  go_wp2_with fail
  refine (unhide hC2 0).mono ?_
  rintro e w1 ⟨rfl, hw1⟩
  rw [hw1]
  clear hw1 w1 hC2
  go_wp2_with fail
  refine (unhide hC3 0).mono ?_
  rintro e w1 ⟨rfl, hw1⟩
  rw [hw1]
  clear hw1 w1 hC3
  go_wp2
  go_ret
  exact ⟨rfl, 0, rfl⟩
theorem heads_ref (t : List UInt8) (b : Nat) (names : List Pl.DeclM) (vn : Value) (w : World) (hc : w.cell? ⟨b, 3, none⟩ = some vn) (hn : DeclsAt w vn names) (hnl : names.length ≤ 10000) :
    Calls Tryz.prog 197 #[.pointer (some ⟨b, 0, none⟩), .string ⟨t.toArray⟩] w fun e w' => e = .returned (.string ⟨(Pl.headsD names t).toArray⟩) ∧ ∃ n, w' = w.drewN n := by
  by_cases h1 : t = Pl.kIn
  · subst h1
    by_cases nv : Pl.countD names 118 = 0
    · by_cases no : Pl.countD names 111 = 0
      · by_cases ni : Pl.countD names 105 < 4
        · have e : Pl.headsD names Pl.kIn = [72, 73, 98, 97, 105] := by unfold Pl.headsD; rw [if_pos ⟨rfl, nv, no, ni⟩]
          rw [e]; exact heads_in3 b names vn w hc hn hnl nv no ni
        · have e : Pl.headsD names Pl.kIn = [] := by unfold Pl.headsD; rw [if_neg (fun h => ni h.2.2.2), if_neg (fun h => absurd h.1 (by decide)), if_neg (fun h => absurd h.1 (by decide))]
          rw [e]; exact heads_in2 b names vn w hc hn hnl nv no ni
      · have e : Pl.headsD names Pl.kIn = [] := by unfold Pl.headsD; rw [if_neg (fun h => no h.2.2.1), if_neg (fun h => absurd h.1 (by decide)), if_neg (fun h => absurd h.1 (by decide))]
        rw [e]; exact heads_in1 b names vn w hc hn hnl nv no
    · have e : Pl.headsD names Pl.kIn = [] := by unfold Pl.headsD; rw [if_neg (fun h => nv h.2.1), if_neg (fun h => absurd h.1 (by decide)), if_neg (fun h => absurd h.1 (by decide))]
      rw [e]; exact heads_in0 b names vn w hc hn hnl nv
  by_cases h2 : t = Pl.kLet
  · subst h2
    by_cases ni : 0 < Pl.countD names 105
    · by_cases no : Pl.countD names 111 = 0
      · by_cases nv : Pl.countD names 118 < 16
        · have e : Pl.headsD names Pl.kLet = [72, 86, 69, 108] := by unfold Pl.headsD; rw [if_neg (fun h => h1 h.1), if_pos ⟨rfl, ni, no, nv⟩]
          rw [e]; exact heads_let3 b names vn w hc hn hnl ni no nv
        · have e : Pl.headsD names Pl.kLet = [] := by unfold Pl.headsD; rw [if_neg (fun h => h1 h.1), if_neg (fun h => nv h.2.2.2), if_neg (fun h => absurd h.1 (by decide))]
          rw [e]; exact heads_let2 b names vn w hc hn hnl ni no nv
      · have e : Pl.headsD names Pl.kLet = [] := by unfold Pl.headsD; rw [if_neg (fun h => h1 h.1), if_neg (fun h => no h.2.2.1), if_neg (fun h => absurd h.1 (by decide))]
        rw [e]; exact heads_let1 b names vn w hc hn hnl ni no
    · have e : Pl.headsD names Pl.kLet = [] := by unfold Pl.headsD; rw [if_neg (fun h => h1 h.1), if_neg (fun h => ni h.2.1), if_neg (fun h => absurd h.1 (by decide))]
      rw [e]; exact heads_let0 b names vn w hc hn hnl ni
  by_cases h3 : t = Pl.kOut
  · subst h3
    by_cases ni : 0 < Pl.countD names 105
    · by_cases no : Pl.countD names 111 < 4
      · have e : Pl.headsD names Pl.kOut = [72, 79, 69, 111] := by unfold Pl.headsD; rw [if_neg (fun h => h1 h.1), if_neg (fun h => h2 h.1), if_pos ⟨rfl, ni, no⟩]
        rw [e]; exact heads_out2 b names vn w hc hn hnl ni no
      · have e : Pl.headsD names Pl.kOut = [] := by unfold Pl.headsD; rw [if_neg (fun h => h1 h.1), if_neg (fun h => h2 h.1), if_neg (fun h => no h.2.2)]
        rw [e]; exact heads_out1 b names vn w hc hn hnl ni no
    · have e : Pl.headsD names Pl.kOut = [] := by unfold Pl.headsD; rw [if_neg (fun h => h1 h.1), if_neg (fun h => h2 h.1), if_neg (fun h => ni h.2.1)]
      rw [e]; exact heads_out0 b names vn w hc hn hnl ni
  · have e : Pl.headsD names t = [] := by unfold Pl.headsD; rw [if_neg (fun h => h1 h.1), if_neg (fun h => h2 h.1), if_neg (fun h => h3 h.1)]
    rw [e]
    exact heads_no t b names vn w hc hn hnl (by simpa [Pl.kIn] using h1) (by simpa [Pl.kLet] using h2) (by simpa [Pl.kOut] using h3)

set_option maxRecDepth 100000 in
set_option maxHeartbeats 2000000 in
theorem bands_ref (t : List UInt8) (w : World) (hw : Pl.within t 1 6 = true) (hl : t.length ≤ 6000) :
    Calls Tryz.prog 201 #[.string ⟨t.toArray⟩] w fun e w' => e = .returned (.string ⟨(Pl.bandsD (Pl.number t).1.toNat).toArray⟩) ∧ w' = w := by
  have hN := hide (RNumber_any t w (by unfold maxLen; omega))
  have hb : 1 ≤ (Pl.number t).1 ∧ (Pl.number t).1 ≤ 6 := by unfold Pl.within at hw; simp at hw; exact ⟨hw.1.2, hw.2⟩
  have hn2 : (Pl.number t).2 = true := by unfold Pl.within at hw; simp at hw; exact hw.1.1
  generalize Pl.number t = nu at *
  obtain ⟨n, ok⟩ := nu
  simp only at hN hb hn2 ⊢
  subst hn2
  obtain ⟨k, rfl⟩ : ∃ k : Nat, n = (k : Int) := ⟨n.toNat, by omega⟩
  rw [Int.toNat_natCast]
  clear hw
  have hap : Hid (∀ i : Nat, (⟨(Pl.bandsD i).toArray⟩ : ByteArray) ++ ⟨#[82, 84]⟩ = ⟨(Pl.bandsD (i + 1)).toArray⟩) := fun i => by rw [Pl.bandsD, ← ByteArray.mk_append_mk]
  have hln : Hid (∀ i : Nat, (Pl.bandsD i).length = 2 * i) := fun i => by
    induction i with
    | zero => rfl
    | succ i ih => rw [Pl.bandsD, List.length_append, ih]; simp; omega
  go_enter Tryz.func201, Tryz.ntmps201
  go_wp2_with fail
  refine (unhide hN).mono ?_
  rintro e w1 ⟨rfl, hw1⟩
  rw [hw1]
  clear hw1 w1 hN
  go_wp2_with fail
  go_loop [5, 6] (fun s i => ∃ j : Nat, j ≤ k ∧ i = .int .i64 j ∧ s = .string ⟨(Pl.bandsD j).toArray⟩) (fun _ i => k - (intOf i).toNat)
  case atStart => exact ⟨0, by omega, rfl, rfl⟩
  case round =>
    obtain ⟨j, hj, rfl, rfl⟩ := hrel
    have e1 := hide (hap.out j)
    have e2 := hln.out j
    clear hap hln
    by_cases hlt : j < k
    · generalize Pl.bandsD j = S at *
      go_wp2_with fail
      go_round
      case rel => exact ⟨j + 1, by omega, by go_num, by rw [← unhide e1]⟩
      case measure => simp [intOf]; omega
    · have : j = k := by omega
      subst this
      go_wp2_with fail
      go_ret
      exact ⟨rfl, rfl⟩
end Go.Proofs.YtfaljekgpnbmiaaGreat
