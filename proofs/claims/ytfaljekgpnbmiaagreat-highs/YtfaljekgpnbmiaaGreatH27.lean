/- Joined: Ref23. -/
import Derived.Test.YtfaljekgpnbmiaaGreatH26
/-
  Contracts of the reference's leads and notes.
-/
namespace Go.Proofs.YtfaljekgpnbmiaaGreat
open Go.RowKit
set_option linter.unusedVariables false
set_option linter.unusedSimpArgs false

set_option maxRecDepth 100000 in
set_option maxHeartbeats 2000000 in
theorem leads_H (names : List Pl.DeclM) (last : Int) (t : List UInt8) (b : Nat) (vn : Value) (w : World) (hc3 : w.cell? ⟨b, 3, none⟩ = some vn) (hc4 : w.cell? ⟨b, 4, none⟩ = some (.int .i64 last)) (hn : DeclsAt w vn names) (hnl : names.length ≤ 10000) (htl : t.length ≤ 6000) :
    Calls Tryz.prog 142 #[.pointer (some ⟨b, 0, none⟩), .int .u8 72, .string ⟨t.toArray⟩] w fun e w' => e = .returned (.string ⟨(Pl.headsD names t).toArray⟩) ∧ ∃ n, w' = w.drewN n := by
  have hK := hide (heads_ref t b names vn w hc3 hn hnl)
  generalize Pl.headsD names t = R at *
  clear hn
  go_enter Tryz.func142, Tryz.ntmps142
  go_wp2_with fail
  refine (unhide hK).mono ?_
  rintro e w1 ⟨rfl, n, hw1⟩
  rw [hw1]
  clear hw1 w1 hK
  go_wp2
  go_ret
  exact ⟨rfl, _, rfl⟩
set_option maxRecDepth 100000 in
set_option maxHeartbeats 2000000 in
theorem leads_E (names : List Pl.DeclM) (last : Int) (t : List UInt8) (b : Nat) (vn : Value) (w : World) (hc3 : w.cell? ⟨b, 3, none⟩ = some vn) (hc4 : w.cell? ⟨b, 4, none⟩ = some (.int .i64 last)) (hn : DeclsAt w vn names) (hnl : names.length ≤ 10000) (htl : t.length ≤ 6000) :
    Calls Tryz.prog 142 #[.pointer (some ⟨b, 0, none⟩), .int .u8 69, .string ⟨t.toArray⟩] w fun e w' => e = .returned (.string ⟨(Pl.exprD names t).toArray⟩) ∧ ∃ n, w' = w.drewN n := by
  have hK := hide (expr_ref t b names vn w hc3 hn hnl htl)
  generalize Pl.exprD names t = R at *
  clear hn
  go_enter Tryz.func142, Tryz.ntmps142
  go_wp2_with fail
  refine (unhide hK).mono ?_
  rintro e w1 ⟨rfl, n, hw1⟩
  rw [hw1]
  clear hw1 w1 hK
  go_wp2
  go_ret
  exact ⟨rfl, _, rfl⟩
set_option maxRecDepth 100000 in
set_option maxHeartbeats 2000000 in
theorem leads_C (names : List Pl.DeclM) (last : Int) (t : List UInt8) (b : Nat) (vn : Value) (w : World) (hc3 : w.cell? ⟨b, 3, none⟩ = some vn) (hc4 : w.cell? ⟨b, 4, none⟩ = some (.int .i64 last)) (hn : DeclsAt w vn names) (hnl : names.length ≤ 10000) (htl : t.length ≤ 6000) :
    Calls Tryz.prog 142 #[.pointer (some ⟨b, 0, none⟩), .int .u8 67, .string ⟨t.toArray⟩] w fun e w' => e = .returned (.string ⟨(Pl.condD t).toArray⟩) ∧ ∃ n, w' = w.drewN n := by
  have hK := hide (cond_ref t w)
  generalize Pl.condD t = R at *
  clear hn
  go_enter Tryz.func142, Tryz.ntmps142
  go_wp2_with fail
  refine (unhide hK).mono ?_
  rintro e w1 ⟨rfl, hw1⟩
  rw [hw1]
  clear hw1 w1 hK
  go_wp2
  go_ret
  exact ⟨rfl, 0, rfl⟩
set_option maxRecDepth 100000 in
set_option maxHeartbeats 2000000 in
theorem leads_N (names : List Pl.DeclM) (last : Int) (t : List UInt8) (b : Nat) (vn : Value) (w : World) (hc3 : w.cell? ⟨b, 3, none⟩ = some vn) (hc4 : w.cell? ⟨b, 4, none⟩ = some (.int .i64 last)) (hn : DeclsAt w vn names) (hnl : names.length ≤ 10000) (htl : t.length ≤ 6000) :
    Calls Tryz.prog 142 #[.pointer (some ⟨b, 0, none⟩), .int .u8 78, .string ⟨t.toArray⟩] w fun e w' => e = .returned (.string ⟨(if Pl.within t 1 6 = true then Pl.bandsD (Pl.number t).1.toNat else []).toArray⟩) ∧ ∃ n, w' = w.drewN n := by
  have hK := hide (within_any t 1 6 w htl)
  clear hn
  cases hw : Pl.within t 1 6 with
  | false =>
    rw [hw] at hK
    rw [if_neg (by simp)]
    go_enter Tryz.func142, Tryz.ntmps142
    go_wp2_with fail
    refine (unhide hK).mono ?_
    rintro e w1 ⟨rfl, hw1⟩
    rw [hw1]
    clear hw1 w1 hK
    go_wp2
    go_ret
    exact ⟨rfl, 0, rfl⟩
  | true =>
    have hB := hide (bands_ref t w hw htl)
    rw [hw] at hK
    rw [if_pos rfl]
    generalize Pl.bandsD (Pl.number t).1.toNat = R at *
    go_enter Tryz.func142, Tryz.ntmps142
    go_wp2_with fail
    refine (unhide hK).mono ?_
    rintro e w1 ⟨rfl, hw1⟩
    rw [hw1]
    clear hw1 w1 hK
    go_wp2_with fail
    refine (unhide hB).mono ?_
    rintro e w1 ⟨rfl, hw1⟩
    rw [hw1]
    clear hw1 w1 hB
    go_wp2
    go_ret
    exact ⟨rfl, 0, rfl⟩
set_option maxRecDepth 100000 in
set_option maxHeartbeats 2000000 in
theorem leads_i (names : List Pl.DeclM) (last : Int) (t : List UInt8) (b : Nat) (vn : Value) (w : World) (hc3 : w.cell? ⟨b, 3, none⟩ = some vn) (hc4 : w.cell? ⟨b, 4, none⟩ = some (.int .i64 last)) (hn : DeclsAt w vn names) (hnl : names.length ≤ 10000) (htl : t.length ≤ 6000) :
    Calls Tryz.prog 142 #[.pointer (some ⟨b, 0, none⟩), .int .u8 105, .string ⟨t.toArray⟩] w fun e w' => e = .returned (.string ⟨(Pl.yesD (Pl.fresh names t)).toArray⟩) ∧ ∃ n, w' = w.drewN n := by
  have hK := hide (fresh_ref names vn t w hn hnl)
  clear hn
  try unfold Pl.roundText at hK
  try unfold Pl.roundText
  generalize Pl.fresh names t = ok at *
  cases ok
  all_goals
    go_enter Tryz.func142, Tryz.ntmps142
    go_wp2_with fail
    refine (unhide hK).mono ?_
    rintro e w1 ⟨rfl, hw1⟩
    rw [hw1]
    clear hw1 w1 hK
    go_wp2
    go_ret
    exact ⟨rfl, 0, rfl⟩
set_option maxRecDepth 100000 in
set_option maxHeartbeats 2000000 in
theorem leads_l (names : List Pl.DeclM) (last : Int) (t : List UInt8) (b : Nat) (vn : Value) (w : World) (hc3 : w.cell? ⟨b, 3, none⟩ = some vn) (hc4 : w.cell? ⟨b, 4, none⟩ = some (.int .i64 last)) (hn : DeclsAt w vn names) (hnl : names.length ≤ 10000) (htl : t.length ≤ 6000) :
    Calls Tryz.prog 142 #[.pointer (some ⟨b, 0, none⟩), .int .u8 108, .string ⟨t.toArray⟩] w fun e w' => e = .returned (.string ⟨(Pl.yesD (Pl.fresh names t)).toArray⟩) ∧ ∃ n, w' = w.drewN n := by
  have hK := hide (fresh_ref names vn t w hn hnl)
  clear hn
  try unfold Pl.roundText at hK
  try unfold Pl.roundText
  generalize Pl.fresh names t = ok at *
  cases ok
  all_goals
    go_enter Tryz.func142, Tryz.ntmps142
    go_wp2_with fail
    refine (unhide hK).mono ?_
    rintro e w1 ⟨rfl, hw1⟩
    rw [hw1]
    clear hw1 w1 hK
    go_wp2
    go_ret
    exact ⟨rfl, 0, rfl⟩
set_option maxRecDepth 100000 in
set_option maxHeartbeats 2000000 in
theorem leads_o (names : List Pl.DeclM) (last : Int) (t : List UInt8) (b : Nat) (vn : Value) (w : World) (hc3 : w.cell? ⟨b, 3, none⟩ = some vn) (hc4 : w.cell? ⟨b, 4, none⟩ = some (.int .i64 last)) (hn : DeclsAt w vn names) (hnl : names.length ≤ 10000) (htl : t.length ≤ 6000) :
    Calls Tryz.prog 142 #[.pointer (some ⟨b, 0, none⟩), .int .u8 111, .string ⟨t.toArray⟩] w fun e w' => e = .returned (.string ⟨(Pl.yesD (Pl.fresh names t)).toArray⟩) ∧ ∃ n, w' = w.drewN n := by
  have hK := hide (fresh_ref names vn t w hn hnl)
  clear hn
  try unfold Pl.roundText at hK
  try unfold Pl.roundText
  generalize Pl.fresh names t = ok at *
  cases ok
  all_goals
    go_enter Tryz.func142, Tryz.ntmps142
    go_wp2_with fail
    refine (unhide hK).mono ?_
    rintro e w1 ⟨rfl, hw1⟩
    rw [hw1]
    clear hw1 w1 hK
    go_wp2
    go_ret
    exact ⟨rfl, 0, rfl⟩
set_option maxRecDepth 100000 in
set_option maxHeartbeats 2000000 in
theorem leads_a (names : List Pl.DeclM) (last : Int) (t : List UInt8) (b : Nat) (vn : Value) (w : World) (hc3 : w.cell? ⟨b, 3, none⟩ = some vn) (hc4 : w.cell? ⟨b, 4, none⟩ = some (.int .i64 last)) (hn : DeclsAt w vn names) (hnl : names.length ≤ 10000) (htl : t.length ≤ 6000) :
    Calls Tryz.prog 142 #[.pointer (some ⟨b, 0, none⟩), .int .u8 97, .string ⟨t.toArray⟩] w fun e w' => e = .returned (.string ⟨(Pl.yesD (Pl.within t (-1000000000) 1000000000)).toArray⟩) ∧ ∃ n, w' = w.drewN n := by
  have hK := hide (within_any t (-1000000000) 1000000000 w htl)
  clear hn
  try unfold Pl.roundText at hK
  try unfold Pl.roundText
  generalize Pl.within t (-1000000000) 1000000000 = ok at *
  cases ok
  all_goals
    go_enter Tryz.func142, Tryz.ntmps142
    go_wp2_with fail
    refine (unhide hK).mono ?_
    rintro e w1 ⟨rfl, hw1⟩
    rw [hw1]
    clear hw1 w1 hK
    go_wp2
    go_ret
    exact ⟨rfl, 0, rfl⟩
set_option maxRecDepth 100000 in
set_option maxHeartbeats 2000000 in
theorem leads_b (names : List Pl.DeclM) (last : Int) (t : List UInt8) (b : Nat) (vn : Value) (w : World) (hc3 : w.cell? ⟨b, 3, none⟩ = some vn) (hc4 : w.cell? ⟨b, 4, none⟩ = some (.int .i64 last)) (hn : DeclsAt w vn names) (hnl : names.length ≤ 10000) (htl : t.length ≤ 6000) :
    Calls Tryz.prog 142 #[.pointer (some ⟨b, 0, none⟩), .int .u8 98, .string ⟨t.toArray⟩] w fun e w' => e = .returned (.string ⟨(Pl.yesD (Pl.within t last 1000000000)).toArray⟩) ∧ ∃ n, w' = w.drewN n := by
  have hK := hide (within_any t last 1000000000 w htl)
  clear hn
  try unfold Pl.roundText at hK
  try unfold Pl.roundText
  generalize Pl.within t last 1000000000 = ok at *
  cases ok
  all_goals
    go_enter Tryz.func142, Tryz.ntmps142
    go_wp2_with fail
    refine (unhide hK).mono ?_
    rintro e w1 ⟨rfl, hw1⟩
    rw [hw1]
    clear hw1 w1 hK
    go_wp2
    go_ret
    exact ⟨rfl, 0, rfl⟩
set_option maxRecDepth 100000 in
set_option maxHeartbeats 2000000 in
theorem leads_T (names : List Pl.DeclM) (last : Int) (t : List UInt8) (b : Nat) (vn : Value) (w : World) (hc3 : w.cell? ⟨b, 3, none⟩ = some vn) (hc4 : w.cell? ⟨b, 4, none⟩ = some (.int .i64 last)) (hn : DeclsAt w vn names) (hnl : names.length ≤ 10000) (htl : t.length ≤ 6000) :
    Calls Tryz.prog 142 #[.pointer (some ⟨b, 0, none⟩), .int .u8 84, .string ⟨t.toArray⟩] w fun e w' => e = .returned (.string ⟨(Pl.yesD (Pl.within t last 1000000000)).toArray⟩) ∧ ∃ n, w' = w.drewN n := by
  have hK := hide (within_any t last 1000000000 w htl)
  clear hn
  try unfold Pl.roundText at hK
  try unfold Pl.roundText
  generalize Pl.within t last 1000000000 = ok at *
  cases ok
  all_goals
    go_enter Tryz.func142, Tryz.ntmps142
    go_wp2_with fail
    refine (unhide hK).mono ?_
    rintro e w1 ⟨rfl, hw1⟩
    rw [hw1]
    clear hw1 w1 hK
    go_wp2
    go_ret
    exact ⟨rfl, 0, rfl⟩
set_option maxRecDepth 100000 in
set_option maxHeartbeats 2000000 in
theorem leads_M (names : List Pl.DeclM) (last : Int) (t : List UInt8) (b : Nat) (vn : Value) (w : World) (hc3 : w.cell? ⟨b, 3, none⟩ = some vn) (hc4 : w.cell? ⟨b, 4, none⟩ = some (.int .i64 last)) (hn : DeclsAt w vn names) (hnl : names.length ≤ 10000) (htl : t.length ≤ 6000) :
    Calls Tryz.prog 142 #[.pointer (some ⟨b, 0, none⟩), .int .u8 77, .string ⟨t.toArray⟩] w fun e w' => e = .returned (.string ⟨(Pl.yesD (Pl.holdsW Pl.roundText t)).toArray⟩) ∧ ∃ n, w' = w.drewN n := by
  have hK := hide (holds_ref Pl.roundText t w (by decide) (by omega))
  clear hn
  try unfold Pl.roundText at hK
  try unfold Pl.roundText
  generalize Pl.holdsW _ t = ok at *
  cases ok
  all_goals
    go_enter Tryz.func142, Tryz.ntmps142
    go_wp2_with fail
    refine (unhide hK).mono ?_
    rintro e w1 ⟨rfl, hw1⟩
    rw [hw1]
    clear hw1 w1 hK
    go_wp2
    go_ret
    exact ⟨rfl, 0, rfl⟩
set_option maxRecDepth 100000 in
set_option maxHeartbeats 2000000 in
theorem leads_D (names : List Pl.DeclM) (last : Int) (t : List UInt8) (b : Nat) (vn : Value) (w : World) (hc3 : w.cell? ⟨b, 3, none⟩ = some vn) (hc4 : w.cell? ⟨b, 4, none⟩ = some (.int .i64 last)) (hn : DeclsAt w vn names) (hnl : names.length ≤ 10000) (htl : t.length ≤ 6000) :
    Calls Tryz.prog 142 #[.pointer (some ⟨b, 0, none⟩), .int .u8 68, .string ⟨t.toArray⟩] w fun e w' => e = .returned (.string ⟨(Pl.yesD (Pl.within t 1 1000000)).toArray⟩) ∧ ∃ n, w' = w.drewN n := by
  have hK := hide (within_any t 1 1000000 w htl)
  clear hn
  try unfold Pl.roundText at hK
  try unfold Pl.roundText
  generalize Pl.within t 1 1000000 = ok at *
  cases ok
  all_goals
    go_enter Tryz.func142, Tryz.ntmps142
    go_wp2_with fail
    refine (unhide hK).mono ?_
    rintro e w1 ⟨rfl, hw1⟩
    rw [hw1]
    clear hw1 w1 hK
    go_wp2
    go_ret
    exact ⟨rfl, 0, rfl⟩
set_option maxRecDepth 100000 in
set_option maxHeartbeats 2000000 in
theorem leads_K (names : List Pl.DeclM) (last : Int) (t : List UInt8) (b : Nat) (vn : Value) (w : World) (hc3 : w.cell? ⟨b, 3, none⟩ = some vn) (hc4 : w.cell? ⟨b, 4, none⟩ = some (.int .i64 last)) (hn : DeclsAt w vn names) (hnl : names.length ≤ 10000) (htl : t.length ≤ 6000) :
    Calls Tryz.prog 142 #[.pointer (some ⟨b, 0, none⟩), .int .u8 75, .string ⟨t.toArray⟩] w fun e w' => e = .returned (.string ⟨(Pl.yesD (Pl.within t (-1000) 1000)).toArray⟩) ∧ ∃ n, w' = w.drewN n := by
  have hK := hide (within_any t (-1000) 1000 w htl)
  clear hn
  try unfold Pl.roundText at hK
  try unfold Pl.roundText
  generalize Pl.within t (-1000) 1000 = ok at *
  cases ok
  all_goals
    go_enter Tryz.func142, Tryz.ntmps142
    go_wp2_with fail
    refine (unhide hK).mono ?_
    rintro e w1 ⟨rfl, hw1⟩
    rw [hw1]
    clear hw1 w1 hK
    go_wp2
    go_ret
    exact ⟨rfl, 0, rfl⟩
set_option maxRecDepth 100000 in
set_option maxHeartbeats 2000000 in
theorem leads_R (names : List Pl.DeclM) (last : Int) (t : List UInt8) (b : Nat) (vn : Value) (w : World) (hc3 : w.cell? ⟨b, 3, none⟩ = some vn) (hc4 : w.cell? ⟨b, 4, none⟩ = some (.int .i64 last)) (hn : DeclsAt w vn names) (hnl : names.length ≤ 10000) (htl : t.length ≤ 6000) :
    Calls Tryz.prog 142 #[.pointer (some ⟨b, 0, none⟩), .int .u8 82, .string ⟨t.toArray⟩] w fun e w' => e = .returned (.string ⟨(Pl.yesD (Pl.within t (-1000) 1000)).toArray⟩) ∧ ∃ n, w' = w.drewN n := by
  have hK := hide (within_any t (-1000) 1000 w htl)
  clear hn
  try unfold Pl.roundText at hK
  try unfold Pl.roundText
  generalize Pl.within t (-1000) 1000 = ok at *
  cases ok
  all_goals
    go_enter Tryz.func142, Tryz.ntmps142
    go_wp2_with fail
    refine (unhide hK).mono ?_
    rintro e w1 ⟨rfl, hw1⟩
    rw [hw1]
    clear hw1 w1 hK
    go_wp2
    go_ret
    exact ⟨rfl, 0, rfl⟩
set_option maxRecDepth 100000 in
set_option maxHeartbeats 2000000 in
theorem leads_no (c : Nat) (t : List UInt8) (b : Nat) (w : World) (h72 : ((c : Int) == 72) = false) (h69 : ((c : Int) == 69) = false) (h67 : ((c : Int) == 67) = false) (h78 : ((c : Int) == 78) = false) (h105 : ((c : Int) == 105) = false) (h108 : ((c : Int) == 108) = false) (h111 : ((c : Int) == 111) = false) (h97 : ((c : Int) == 97) = false) (h98 : ((c : Int) == 98) = false) (h84 : ((c : Int) == 84) = false) (h77 : ((c : Int) == 77) = false) (h68 : ((c : Int) == 68) = false) (h75 : ((c : Int) == 75) = false) (h82 : ((c : Int) == 82) = false) :
    Calls Tryz.prog 142 #[.pointer (some ⟨b, 0, none⟩), .int .u8 c, .string ⟨t.toArray⟩] w fun e w' => e = .returned (.string ⟨(([] : List UInt8)).toArray⟩) ∧ ∃ n, w' = w.drewN n := by
  go_enter Tryz.func142, Tryz.ntmps142
  go_wp2
  go_ret
  exact ⟨rfl, 0, rfl⟩
theorem leads_ref (c : UInt8) (names : List Pl.DeclM) (last : Int) (t : List UInt8) (b : Nat) (vn : Value) (w : World) (hc3 : w.cell? ⟨b, 3, none⟩ = some vn) (hc4 : w.cell? ⟨b, 4, none⟩ = some (.int .i64 last)) (hn : DeclsAt w vn names) (hnl : names.length ≤ 10000) (htl : t.length ≤ 6000) :
    Calls Tryz.prog 142 #[.pointer (some ⟨b, 0, none⟩), .int .u8 c.toNat, .string ⟨t.toArray⟩] w fun e w' => e = .returned (.string ⟨(Pl.leadsD names last c t).toArray⟩) ∧ ∃ n, w' = w.drewN n := by
  by_cases h72 : c = 72
  · subst h72; exact leads_H names last t b vn w hc3 hc4 hn hnl htl
  by_cases h69 : c = 69
  · subst h69; exact leads_E names last t b vn w hc3 hc4 hn hnl htl
  by_cases h67 : c = 67
  · subst h67; exact leads_C names last t b vn w hc3 hc4 hn hnl htl
  by_cases h78 : c = 78
  · subst h78; exact leads_N names last t b vn w hc3 hc4 hn hnl htl
  by_cases h105 : c = 105
  · subst h105; exact leads_i names last t b vn w hc3 hc4 hn hnl htl
  by_cases h108 : c = 108
  · subst h108; exact leads_l names last t b vn w hc3 hc4 hn hnl htl
  by_cases h111 : c = 111
  · subst h111; exact leads_o names last t b vn w hc3 hc4 hn hnl htl
  by_cases h97 : c = 97
  · subst h97; exact leads_a names last t b vn w hc3 hc4 hn hnl htl
  by_cases h98 : c = 98
  · subst h98; exact leads_b names last t b vn w hc3 hc4 hn hnl htl
  by_cases h84 : c = 84
  · subst h84; exact leads_T names last t b vn w hc3 hc4 hn hnl htl
  by_cases h77 : c = 77
  · subst h77; exact leads_M names last t b vn w hc3 hc4 hn hnl htl
  by_cases h68 : c = 68
  · subst h68; exact leads_D names last t b vn w hc3 hc4 hn hnl htl
  by_cases h75 : c = 75
  · subst h75; exact leads_K names last t b vn w hc3 hc4 hn hnl htl
  by_cases h82 : c = 82
  · subst h82; exact leads_R names last t b vn w hc3 hc4 hn hnl htl
  have hx : ∀ k : UInt8, c ≠ k → ((c.toNat : Int) == (k.toNat : Int)) = false := by
    intro k hk
    rw [beq_eq_false_iff_ne]
    intro e
    exact hk (UInt8.toNat_inj.1 (by omega))
  have e : Pl.leadsD names last c t = [] := by
    unfold Pl.leadsD
    rw [if_neg h72, if_neg h69, if_neg h67, if_neg h78, if_neg (by simp [h105, h108, h111]), if_neg h97, if_neg (by simp [h98, h84]), if_neg h77, if_neg h68, if_neg (by simp [h75, h82])]
  rw [e]
  exact leads_no c.toNat t b w (hx 72 h72) (hx 69 h69) (hx 67 h67) (hx 78 h78) (hx 105 h105) (hx 108 h108) (hx 111 h111) (hx 97 h97) (hx 98 h98) (hx 84 h84) (hx 77 h77) (hx 68 h68) (hx 75 h75) (hx 82 h82)

/-! What is remembered. -/
theorem rd_facts {w : World} {g : Nat} {x0 x1 x2 x3 x4 x5 x6 : Value} {T : TypeId} (h : w.heap[g]? = some (.cells #[x0, x1, x2, x3, x4, x5, x6] T (0, 0))) : w.cell? ⟨g, 0, none⟩ = some x0 ∧ w.cell? ⟨g, 1, none⟩ = some x1 ∧ w.cell? ⟨g, 2, none⟩ = some x2 ∧ w.cell? ⟨g, 3, none⟩ = some x3 ∧ w.cell? ⟨g, 4, none⟩ = some x4 ∧ w.cell? ⟨g, 5, none⟩ = some x5 ∧ w.cell? ⟨g, 6, none⟩ = some x6 ∧ (∀ k, w.frozen? ⟨g, k, none⟩ = false) :=
  ⟨by rw [cellsOf h]; rfl, by rw [cellsOf h]; rfl, by rw [cellsOf h]; rfl, by rw [cellsOf h]; rfl, by rw [cellsOf h]; rfl, by rw [cellsOf h]; rfl, by rw [cellsOf h]; rfl, fun k => freeOf h k⟩
set_option maxRecDepth 100000 in
set_option maxHeartbeats 2000000 in
theorem notes_i (t : List UInt8) (b pos beg : Nat) (last : Int) (nm : List UInt8) (vt vp vn : Value) (w : World) (hk : w.heap[b]? = some (.cells #[vt, .int .i64 pos, vp, vn, .int .i64 last, .string ⟨nm.toArray⟩, .int .i64 beg] 200 (0, 0))) (htl : t.length ≤ 6000) (hp : pos ≤ 10000) :
    Calls Tryz.prog 143 #[.pointer (some ⟨b, 0, none⟩), .int .u8 105, .string ⟨t.toArray⟩] w fun e w' => e = .returned (.tuple #[]) ∧ Only b w w' ∧ w'.heap[b]? = some (.cells #[vt, .int .i64 pos, vp, vn, .int .i64 (last), .string ⟨(t).toArray⟩, .int .i64 ((pos : Int) + 1)] 200 (0, 0)) := by
  have hN := hide (RNumber_any t w (by unfold maxLen; omega))
  obtain ⟨c0, c1, c2, c3, c4, c5, c6, fz⟩ := rd_facts hk
  have fz1 := fz 4
  have fz2 := fz 5
  have fz3 := fz 6
  have hbd := Pl.number_bd t
  generalize Pl.number t = nu at *
  obtain ⟨n, ok⟩ := nu
  simp only at hN hbd ⊢
  have k0 := heap_setCell_same (w) b 5 _ _ (.string ⟨t.toArray⟩) hk
  have k1 := heap_setCell_same ((w).setCell ⟨b, 5, none⟩ (.string ⟨t.toArray⟩)) b 6 _ _ (.int .i64 ((pos : Int) + 1)) k0
  have c1' : (w.setCell ⟨b, 5, none⟩ (.string ⟨t.toArray⟩)).cell? ⟨b, 1, none⟩ = some (.int .i64 pos) := by rw [cellsOf k0]; rfl
  have c6' : (w.setCell ⟨b, 5, none⟩ (.string ⟨t.toArray⟩)).cell? ⟨b, 6, none⟩ = some (.int .i64 beg) := by rw [cellsOf k0]; rfl
  have f6' : (w.setCell ⟨b, 5, none⟩ (.string ⟨t.toArray⟩)).frozen? ⟨b, 6, none⟩ = false := freeOf k0 6
  have HH : Hid (Only b w ((w.setCell ⟨b, 5, none⟩ (.string ⟨t.toArray⟩)).setCell ⟨b, 6, none⟩ (.int .i64 ((pos : Int) + 1))) ∧ ((w.setCell ⟨b, 5, none⟩ (.string ⟨t.toArray⟩)).setCell ⟨b, 6, none⟩ (.int .i64 ((pos : Int) + 1))).heap[b]? = some (.cells #[vt, .int .i64 pos, vp, vn, .int .i64 (last), .string ⟨(t).toArray⟩, .int .i64 ((pos : Int) + 1)] 200 (0, 0))) := ⟨(((Only.of_below (b := b) (Below.refl w.heap.size w)).setCell 5 (.string ⟨t.toArray⟩)).setCell 6 (.int .i64 ((pos : Int) + 1))), by rw [k1]; rfl⟩
  clear hk fz k0 k1
  go_enter Tryz.func143, Tryz.ntmps143
  go_wp2_with fail
  refine (unhide hN).mono ?_
  rintro e w1 ⟨rfl, hw1⟩
  rw [hw1]
  clear hw1 w1 hN
  go_wp2
  go_end0
  exact ⟨rfl, HH.out.1, HH.out.2⟩
set_option maxRecDepth 100000 in
set_option maxHeartbeats 2000000 in
theorem notes_l (t : List UInt8) (b pos beg : Nat) (last : Int) (nm : List UInt8) (vt vp vn : Value) (w : World) (hk : w.heap[b]? = some (.cells #[vt, .int .i64 pos, vp, vn, .int .i64 last, .string ⟨nm.toArray⟩, .int .i64 beg] 200 (0, 0))) (htl : t.length ≤ 6000) (hp : pos ≤ 10000) :
    Calls Tryz.prog 143 #[.pointer (some ⟨b, 0, none⟩), .int .u8 108, .string ⟨t.toArray⟩] w fun e w' => e = .returned (.tuple #[]) ∧ Only b w w' ∧ w'.heap[b]? = some (.cells #[vt, .int .i64 pos, vp, vn, .int .i64 (last), .string ⟨(t).toArray⟩, .int .i64 ((pos : Int) + 1)] 200 (0, 0)) := by
  have hN := hide (RNumber_any t w (by unfold maxLen; omega))
  obtain ⟨c0, c1, c2, c3, c4, c5, c6, fz⟩ := rd_facts hk
  have fz1 := fz 4
  have fz2 := fz 5
  have fz3 := fz 6
  have hbd := Pl.number_bd t
  generalize Pl.number t = nu at *
  obtain ⟨n, ok⟩ := nu
  simp only at hN hbd ⊢
  have k0 := heap_setCell_same (w) b 5 _ _ (.string ⟨t.toArray⟩) hk
  have k1 := heap_setCell_same ((w).setCell ⟨b, 5, none⟩ (.string ⟨t.toArray⟩)) b 6 _ _ (.int .i64 ((pos : Int) + 1)) k0
  have c1' : (w.setCell ⟨b, 5, none⟩ (.string ⟨t.toArray⟩)).cell? ⟨b, 1, none⟩ = some (.int .i64 pos) := by rw [cellsOf k0]; rfl
  have c6' : (w.setCell ⟨b, 5, none⟩ (.string ⟨t.toArray⟩)).cell? ⟨b, 6, none⟩ = some (.int .i64 beg) := by rw [cellsOf k0]; rfl
  have f6' : (w.setCell ⟨b, 5, none⟩ (.string ⟨t.toArray⟩)).frozen? ⟨b, 6, none⟩ = false := freeOf k0 6
  have HH : Hid (Only b w ((w.setCell ⟨b, 5, none⟩ (.string ⟨t.toArray⟩)).setCell ⟨b, 6, none⟩ (.int .i64 ((pos : Int) + 1))) ∧ ((w.setCell ⟨b, 5, none⟩ (.string ⟨t.toArray⟩)).setCell ⟨b, 6, none⟩ (.int .i64 ((pos : Int) + 1))).heap[b]? = some (.cells #[vt, .int .i64 pos, vp, vn, .int .i64 (last), .string ⟨(t).toArray⟩, .int .i64 ((pos : Int) + 1)] 200 (0, 0))) := ⟨(((Only.of_below (b := b) (Below.refl w.heap.size w)).setCell 5 (.string ⟨t.toArray⟩)).setCell 6 (.int .i64 ((pos : Int) + 1))), by rw [k1]; rfl⟩
  clear hk fz k0 k1
  go_enter Tryz.func143, Tryz.ntmps143
  go_wp2_with fail
  refine (unhide hN).mono ?_
  rintro e w1 ⟨rfl, hw1⟩
  rw [hw1]
  clear hw1 w1 hN
  go_wp2
  go_end0
  exact ⟨rfl, HH.out.1, HH.out.2⟩
set_option maxRecDepth 100000 in
set_option maxHeartbeats 2000000 in
theorem notes_o (t : List UInt8) (b pos beg : Nat) (last : Int) (nm : List UInt8) (vt vp vn : Value) (w : World) (hk : w.heap[b]? = some (.cells #[vt, .int .i64 pos, vp, vn, .int .i64 last, .string ⟨nm.toArray⟩, .int .i64 beg] 200 (0, 0))) (htl : t.length ≤ 6000) (hp : pos ≤ 10000) :
    Calls Tryz.prog 143 #[.pointer (some ⟨b, 0, none⟩), .int .u8 111, .string ⟨t.toArray⟩] w fun e w' => e = .returned (.tuple #[]) ∧ Only b w w' ∧ w'.heap[b]? = some (.cells #[vt, .int .i64 pos, vp, vn, .int .i64 (last), .string ⟨(t).toArray⟩, .int .i64 ((pos : Int) + 1)] 200 (0, 0)) := by
  have hN := hide (RNumber_any t w (by unfold maxLen; omega))
  obtain ⟨c0, c1, c2, c3, c4, c5, c6, fz⟩ := rd_facts hk
  have fz1 := fz 4
  have fz2 := fz 5
  have fz3 := fz 6
  have hbd := Pl.number_bd t
  generalize Pl.number t = nu at *
  obtain ⟨n, ok⟩ := nu
  simp only at hN hbd ⊢
  have k0 := heap_setCell_same (w) b 5 _ _ (.string ⟨t.toArray⟩) hk
  have k1 := heap_setCell_same ((w).setCell ⟨b, 5, none⟩ (.string ⟨t.toArray⟩)) b 6 _ _ (.int .i64 ((pos : Int) + 1)) k0
  have c1' : (w.setCell ⟨b, 5, none⟩ (.string ⟨t.toArray⟩)).cell? ⟨b, 1, none⟩ = some (.int .i64 pos) := by rw [cellsOf k0]; rfl
  have c6' : (w.setCell ⟨b, 5, none⟩ (.string ⟨t.toArray⟩)).cell? ⟨b, 6, none⟩ = some (.int .i64 beg) := by rw [cellsOf k0]; rfl
  have f6' : (w.setCell ⟨b, 5, none⟩ (.string ⟨t.toArray⟩)).frozen? ⟨b, 6, none⟩ = false := freeOf k0 6
  have HH : Hid (Only b w ((w.setCell ⟨b, 5, none⟩ (.string ⟨t.toArray⟩)).setCell ⟨b, 6, none⟩ (.int .i64 ((pos : Int) + 1))) ∧ ((w.setCell ⟨b, 5, none⟩ (.string ⟨t.toArray⟩)).setCell ⟨b, 6, none⟩ (.int .i64 ((pos : Int) + 1))).heap[b]? = some (.cells #[vt, .int .i64 pos, vp, vn, .int .i64 (last), .string ⟨(t).toArray⟩, .int .i64 ((pos : Int) + 1)] 200 (0, 0))) := ⟨(((Only.of_below (b := b) (Below.refl w.heap.size w)).setCell 5 (.string ⟨t.toArray⟩)).setCell 6 (.int .i64 ((pos : Int) + 1))), by rw [k1]; rfl⟩
  clear hk fz k0 k1
  go_enter Tryz.func143, Tryz.ntmps143
  go_wp2_with fail
  refine (unhide hN).mono ?_
  rintro e w1 ⟨rfl, hw1⟩
  rw [hw1]
  clear hw1 w1 hN
  go_wp2
  go_end0
  exact ⟨rfl, HH.out.1, HH.out.2⟩
set_option maxRecDepth 100000 in
set_option maxHeartbeats 2000000 in
theorem notes_a (t : List UInt8) (b pos beg : Nat) (last : Int) (nm : List UInt8) (vt vp vn : Value) (w : World) (hk : w.heap[b]? = some (.cells #[vt, .int .i64 pos, vp, vn, .int .i64 last, .string ⟨nm.toArray⟩, .int .i64 beg] 200 (0, 0))) (htl : t.length ≤ 6000) (hp : pos ≤ 10000) :
    Calls Tryz.prog 143 #[.pointer (some ⟨b, 0, none⟩), .int .u8 97, .string ⟨t.toArray⟩] w fun e w' => e = .returned (.tuple #[]) ∧ Only b w w' ∧ w'.heap[b]? = some (.cells #[vt, .int .i64 pos, vp, vn, .int .i64 ((Pl.number t).1), .string ⟨(nm).toArray⟩, .int .i64 (beg)] 200 (0, 0)) := by
  have hN := hide (RNumber_any t w (by unfold maxLen; omega))
  obtain ⟨c0, c1, c2, c3, c4, c5, c6, fz⟩ := rd_facts hk
  have fz1 := fz 4
  have fz2 := fz 5
  have fz3 := fz 6
  have hbd := Pl.number_bd t
  generalize Pl.number t = nu at *
  obtain ⟨n, ok⟩ := nu
  simp only at hN hbd ⊢
  have k0 := heap_setCell_same (w) b 4 _ _ (.int .i64 n) hk
  have HH : Hid (Only b w (w.setCell ⟨b, 4, none⟩ (.int .i64 n)) ∧ (w.setCell ⟨b, 4, none⟩ (.int .i64 n)).heap[b]? = some (.cells #[vt, .int .i64 pos, vp, vn, .int .i64 (n), .string ⟨(nm).toArray⟩, .int .i64 (beg)] 200 (0, 0))) := ⟨((Only.of_below (b := b) (Below.refl w.heap.size w)).setCell 4 (.int .i64 n)), by rw [k0]; rfl⟩
  clear hk fz k0
  go_enter Tryz.func143, Tryz.ntmps143
  go_wp2_with fail
  refine (unhide hN).mono ?_
  rintro e w1 ⟨rfl, hw1⟩
  rw [hw1]
  clear hw1 w1 hN
  go_wp2
  go_end0
  exact ⟨rfl, HH.out.1, HH.out.2⟩
set_option maxRecDepth 100000 in
set_option maxHeartbeats 2000000 in
theorem notes_T (t : List UInt8) (b pos beg : Nat) (last : Int) (nm : List UInt8) (vt vp vn : Value) (w : World) (hk : w.heap[b]? = some (.cells #[vt, .int .i64 pos, vp, vn, .int .i64 last, .string ⟨nm.toArray⟩, .int .i64 beg] 200 (0, 0))) (htl : t.length ≤ 6000) (hp : pos ≤ 10000) :
    Calls Tryz.prog 143 #[.pointer (some ⟨b, 0, none⟩), .int .u8 84, .string ⟨t.toArray⟩] w fun e w' => e = .returned (.tuple #[]) ∧ Only b w w' ∧ w'.heap[b]? = some (.cells #[vt, .int .i64 pos, vp, vn, .int .i64 ((Pl.number t).1 + 1), .string ⟨(nm).toArray⟩, .int .i64 (beg)] 200 (0, 0)) := by
  have hN := hide (RNumber_any t w (by unfold maxLen; omega))
  obtain ⟨c0, c1, c2, c3, c4, c5, c6, fz⟩ := rd_facts hk
  have fz1 := fz 4
  have fz2 := fz 5
  have fz3 := fz 6
  have hbd := Pl.number_bd t
  generalize Pl.number t = nu at *
  obtain ⟨n, ok⟩ := nu
  simp only at hN hbd ⊢
  have k0 := heap_setCell_same (w) b 4 _ _ (.int .i64 (n + 1)) hk
  have HH : Hid (Only b w (w.setCell ⟨b, 4, none⟩ (.int .i64 (n + 1))) ∧ (w.setCell ⟨b, 4, none⟩ (.int .i64 (n + 1))).heap[b]? = some (.cells #[vt, .int .i64 pos, vp, vn, .int .i64 (n + 1), .string ⟨(nm).toArray⟩, .int .i64 (beg)] 200 (0, 0))) := ⟨((Only.of_below (b := b) (Below.refl w.heap.size w)).setCell 4 (.int .i64 (n + 1))), by rw [k0]; rfl⟩
  clear hk fz k0
  go_enter Tryz.func143, Tryz.ntmps143
  go_wp2_with fail
  refine (unhide hN).mono ?_
  rintro e w1 ⟨rfl, hw1⟩
  rw [hw1]
  clear hw1 w1 hN
  go_wp2
  go_end0
  exact ⟨rfl, HH.out.1, HH.out.2⟩
set_option maxRecDepth 100000 in
set_option maxHeartbeats 2000000 in
theorem notes_N (t : List UInt8) (b pos beg : Nat) (last : Int) (nm : List UInt8) (vt vp vn : Value) (w : World) (hk : w.heap[b]? = some (.cells #[vt, .int .i64 pos, vp, vn, .int .i64 last, .string ⟨nm.toArray⟩, .int .i64 beg] 200 (0, 0))) (htl : t.length ≤ 6000) (hp : pos ≤ 10000) :
    Calls Tryz.prog 143 #[.pointer (some ⟨b, 0, none⟩), .int .u8 78, .string ⟨t.toArray⟩] w fun e w' => e = .returned (.tuple #[]) ∧ Only b w w' ∧ w'.heap[b]? = some (.cells #[vt, .int .i64 pos, vp, vn, .int .i64 (-1000000000), .string ⟨(nm).toArray⟩, .int .i64 (beg)] 200 (0, 0)) := by
  have hN := hide (RNumber_any t w (by unfold maxLen; omega))
  obtain ⟨c0, c1, c2, c3, c4, c5, c6, fz⟩ := rd_facts hk
  have fz1 := fz 4
  have fz2 := fz 5
  have fz3 := fz 6
  have hbd := Pl.number_bd t
  generalize Pl.number t = nu at *
  obtain ⟨n, ok⟩ := nu
  simp only at hN hbd ⊢
  have k0 := heap_setCell_same (w) b 4 _ _ (.int .i64 (-1000000000)) hk
  have HH : Hid (Only b w (w.setCell ⟨b, 4, none⟩ (.int .i64 (-1000000000))) ∧ (w.setCell ⟨b, 4, none⟩ (.int .i64 (-1000000000))).heap[b]? = some (.cells #[vt, .int .i64 pos, vp, vn, .int .i64 (-1000000000), .string ⟨(nm).toArray⟩, .int .i64 (beg)] 200 (0, 0))) := ⟨((Only.of_below (b := b) (Below.refl w.heap.size w)).setCell 4 (.int .i64 (-1000000000))), by rw [k0]; rfl⟩
  clear hk fz k0
  go_enter Tryz.func143, Tryz.ntmps143
  go_wp2_with fail
  refine (unhide hN).mono ?_
  rintro e w1 ⟨rfl, hw1⟩
  rw [hw1]
  clear hw1 w1 hN
  go_wp2
  go_end0
  exact ⟨rfl, HH.out.1, HH.out.2⟩
set_option maxRecDepth 100000 in
set_option maxHeartbeats 2000000 in
theorem notes_no (t : List UInt8) (b pos beg : Nat) (last : Int) (nm : List UInt8) (vt vp vn : Value) (w : World) (hk : w.heap[b]? = some (.cells #[vt, .int .i64 pos, vp, vn, .int .i64 last, .string ⟨nm.toArray⟩, .int .i64 beg] 200 (0, 0))) (htl : t.length ≤ 6000) (hp : pos ≤ 10000) (c : Nat) (h105 : ((c : Int) == 105) = false) (h108 : ((c : Int) == 108) = false) (h111 : ((c : Int) == 111) = false) (h97 : ((c : Int) == 97) = false) (h84 : ((c : Int) == 84) = false) (h78 : ((c : Int) == 78) = false) :
    Calls Tryz.prog 143 #[.pointer (some ⟨b, 0, none⟩), .int .u8 c, .string ⟨t.toArray⟩] w fun e w' => e = .returned (.tuple #[]) ∧ Only b w w' ∧ w'.heap[b]? = some (.cells #[vt, .int .i64 pos, vp, vn, .int .i64 (last), .string ⟨(nm).toArray⟩, .int .i64 (beg)] 200 (0, 0)) := by
  have hN := hide (RNumber_any t w (by unfold maxLen; omega))
  obtain ⟨c0, c1, c2, c3, c4, c5, c6, fz⟩ := rd_facts hk
  have fz1 := fz 4
  have fz2 := fz 5
  have fz3 := fz 6
  have hbd := Pl.number_bd t
  generalize Pl.number t = nu at *
  obtain ⟨n, ok⟩ := nu
  simp only at hN hbd ⊢
  have HH : Hid (Only b w w ∧ w.heap[b]? = some (.cells #[vt, .int .i64 pos, vp, vn, .int .i64 last, .string ⟨nm.toArray⟩, .int .i64 beg] 200 (0, 0))) := ⟨Only.of_below (Below.refl _ _), hk⟩
  clear hk fz 
  go_enter Tryz.func143, Tryz.ntmps143
  go_wp2_with fail
  refine (unhide hN).mono ?_
  rintro e w1 ⟨rfl, hw1⟩
  rw [hw1]
  clear hw1 w1 hN
  go_wp2
  go_end0
  exact ⟨rfl, HH.out.1, HH.out.2⟩
theorem notes_ref (c : UInt8) (t : List UInt8) (b pos beg : Nat) (last : Int) (nm : List UInt8) (vt vp vn : Value) (w : World) (hk : w.heap[b]? = some (.cells #[vt, .int .i64 pos, vp, vn, .int .i64 last, .string ⟨nm.toArray⟩, .int .i64 beg] 200 (0, 0))) (htl : t.length ≤ 6000) (hp : pos ≤ 10000) :
    Calls Tryz.prog 143 #[.pointer (some ⟨b, 0, none⟩), .int .u8 c.toNat, .string ⟨t.toArray⟩] w fun e w' => e = .returned (.tuple #[]) ∧ Only b w w' ∧ w'.heap[b]? = some (.cells #[vt, .int .i64 pos, vp, vn, .int .i64 (Pl.lastD last c t), .string ⟨(if Pl.isNew c then t else nm).toArray⟩, .int .i64 (((if Pl.isNew c then pos + 1 else beg : Nat) : Int))] 200 (0, 0)) := by
  by_cases h105 : c = 105
  · subst h105; exact notes_i t b pos beg last nm vt vp vn w hk htl hp
  by_cases h108 : c = 108
  · subst h108; exact notes_l t b pos beg last nm vt vp vn w hk htl hp
  by_cases h111 : c = 111
  · subst h111; exact notes_o t b pos beg last nm vt vp vn w hk htl hp
  by_cases h97 : c = 97
  · subst h97; exact notes_a t b pos beg last nm vt vp vn w hk htl hp
  by_cases h84 : c = 84
  · subst h84; exact notes_T t b pos beg last nm vt vp vn w hk htl hp
  by_cases h78 : c = 78
  · subst h78; exact notes_N t b pos beg last nm vt vp vn w hk htl hp
  have hx : ∀ k : UInt8, c ≠ k → ((c.toNat : Int) == (k.toNat : Int)) = false := by
    intro k hk
    rw [beq_eq_false_iff_ne]
    intro e
    exact hk (UInt8.toNat_inj.1 (by omega))
  have e1 : Pl.lastD last c t = last := by unfold Pl.lastD; rw [if_neg h97, if_neg h84, if_neg h78]
  have e2 : ¬ Pl.isNew c := by unfold Pl.isNew; simp [h105, h108, h111]
  rw [e1, if_neg e2, if_neg e2]
  exact notes_no t b pos beg last nm vt vp vn w hk htl hp c.toNat (hx 105 h105) (hx 108 h108) (hx 111 h111) (hx 97 h97) (hx 84 h84) (hx 78 h78)
end Go.Proofs.YtfaljekgpnbmiaaGreat
