/- Joined: Ref21. -/
import Derived.Test.YtfaljekgpnbmiaaGreatH24
/-
  Contracts of the reference's cond, bands and expr.
-/
namespace Go.Proofs.YtfaljekgpnbmiaaGreat
open Go.RowKit
set_option linter.unusedVariables false
set_option linter.unusedSimpArgs false

set_option maxRecDepth 100000 in
set_option maxHeartbeats 2000000 in
theorem cond_no (t : List UInt8) (w : World) (h1 : (t == Pl.kLt) = false) (h2 : (t == Pl.kLe) = false) (h3 : (t == Pl.kEq) = false) (h4 : (t == Pl.kAnd) = false) (h5 : (t == Pl.kOr) = false) (h6 : (t == Pl.kNot) = false) :
    Calls Tryz.prog 199 #[.string ⟨t.toArray⟩] w fun e w' => e = .returned (.string ⟨#[]⟩) ∧ w' = w := by
  simp only [Pl.kLt, Pl.kLe, Pl.kEq, Pl.kAnd, Pl.kOr, Pl.kNot] at h1 h2 h3 h4 h5 h6
  go_enter Tryz.func199, Tryz.ntmps199
  go_wp2
  go_ret
  exact ⟨rfl, rfl⟩
set_option maxRecDepth 100000 in
set_option maxHeartbeats 2000000 in
theorem cond_kLt (w : World) :
    Calls Tryz.prog 199 #[.string ⟨Pl.kLt.toArray⟩] w fun e w' => e = .returned (.string ⟨(Pl.condD Pl.kLt).toArray⟩) ∧ w' = w := by
  rw [show Pl.condD Pl.kLt = _ from rfl]
  unfold Pl.kLt
  go_enter Tryz.func199, Tryz.ntmps199
  go_wp2
  go_ret
  exact ⟨rfl, rfl⟩
set_option maxRecDepth 100000 in
set_option maxHeartbeats 2000000 in
theorem cond_kLe (w : World) :
    Calls Tryz.prog 199 #[.string ⟨Pl.kLe.toArray⟩] w fun e w' => e = .returned (.string ⟨(Pl.condD Pl.kLe).toArray⟩) ∧ w' = w := by
  rw [show Pl.condD Pl.kLe = _ from rfl]
  unfold Pl.kLe
  go_enter Tryz.func199, Tryz.ntmps199
  go_wp2
  go_ret
  exact ⟨rfl, rfl⟩
set_option maxRecDepth 100000 in
set_option maxHeartbeats 2000000 in
theorem cond_kEq (w : World) :
    Calls Tryz.prog 199 #[.string ⟨Pl.kEq.toArray⟩] w fun e w' => e = .returned (.string ⟨(Pl.condD Pl.kEq).toArray⟩) ∧ w' = w := by
  rw [show Pl.condD Pl.kEq = _ from rfl]
  unfold Pl.kEq
  go_enter Tryz.func199, Tryz.ntmps199
  go_wp2
  go_ret
  exact ⟨rfl, rfl⟩
set_option maxRecDepth 100000 in
set_option maxHeartbeats 2000000 in
theorem cond_kAnd (w : World) :
    Calls Tryz.prog 199 #[.string ⟨Pl.kAnd.toArray⟩] w fun e w' => e = .returned (.string ⟨(Pl.condD Pl.kAnd).toArray⟩) ∧ w' = w := by
  rw [show Pl.condD Pl.kAnd = _ from rfl]
  unfold Pl.kAnd
  go_enter Tryz.func199, Tryz.ntmps199
  go_wp2
  go_ret
  exact ⟨rfl, rfl⟩
set_option maxRecDepth 100000 in
set_option maxHeartbeats 2000000 in
theorem cond_kOr (w : World) :
    Calls Tryz.prog 199 #[.string ⟨Pl.kOr.toArray⟩] w fun e w' => e = .returned (.string ⟨(Pl.condD Pl.kOr).toArray⟩) ∧ w' = w := by
  rw [show Pl.condD Pl.kOr = _ from rfl]
  unfold Pl.kOr
  go_enter Tryz.func199, Tryz.ntmps199
  go_wp2
  go_ret
  exact ⟨rfl, rfl⟩
set_option maxRecDepth 100000 in
set_option maxHeartbeats 2000000 in
theorem cond_kNot (w : World) :
    Calls Tryz.prog 199 #[.string ⟨Pl.kNot.toArray⟩] w fun e w' => e = .returned (.string ⟨(Pl.condD Pl.kNot).toArray⟩) ∧ w' = w := by
  rw [show Pl.condD Pl.kNot = _ from rfl]
  unfold Pl.kNot
  go_enter Tryz.func199, Tryz.ntmps199
  go_wp2
  go_ret
  exact ⟨rfl, rfl⟩
theorem cond_ref (t : List UInt8) (w : World) :
    Calls Tryz.prog 199 #[.string ⟨t.toArray⟩] w fun e w' => e = .returned (.string ⟨(Pl.condD t).toArray⟩) ∧ w' = w := by
  by_cases h1 : t = Pl.kLt
  · subst h1; exact cond_kLt w
  by_cases h2 : t = Pl.kLe
  · subst h2; exact cond_kLe w
  by_cases h3 : t = Pl.kEq
  · subst h3; exact cond_kEq w
  by_cases h4 : t = Pl.kAnd
  · subst h4; exact cond_kAnd w
  by_cases h5 : t = Pl.kOr
  · subst h5; exact cond_kOr w
  by_cases h6 : t = Pl.kNot
  · subst h6; exact cond_kNot w
  have e : Pl.condD t = [] := by unfold Pl.condD; rw [if_neg (by simp [h1, h2, h3]), if_neg (by simp [h4, h5]), if_neg h6]
  rw [e]
  exact cond_no t w (by simpa using h1) (by simpa using h2) (by simpa using h3) (by simpa using h4) (by simpa using h5) (by simpa using h6)

set_option maxRecDepth 100000 in
set_option maxHeartbeats 2000000 in
theorem expr_no (t : List UInt8) (b : Nat) (names : List Pl.DeclM) (vn : Value) (w : World) (hc : w.cell? ⟨b, 3, none⟩ = some vn) (hn : DeclsAt w vn names) (hnl : names.length ≤ 10000) (htl : t.length ≤ 6000) (h1 : (t == Pl.kAdd) = false) (h2 : (t == Pl.kSub) = false) (h3 : (t == Pl.kMin) = false) (h4 : (t == Pl.kMax) = false) (h5 : (t == Pl.kMul) = false) (h6 : (t == Pl.kIf) = false) (h7 : (t == Pl.kDiv) = false) (h8 : (t == Pl.kTab) = false) :
    Calls Tryz.prog 198 #[.pointer (some ⟨b, 0, none⟩), .string ⟨t.toArray⟩] w fun e w' => e = .returned (.string ⟨(Pl.yesD ((Pl.number t).2 || Pl.isOf names t 105 118)).toArray⟩) ∧ ∃ n, w' = w.drewN n := by
  simp only [Pl.kAdd, Pl.kSub, Pl.kMin, Pl.kMax, Pl.kMul, Pl.kIf, Pl.kDiv, Pl.kTab] at h1 h2 h3 h4 h5 h6 h7 h8
  have hN := hide (RNumber_any t w (by unfold maxLen; omega))
  have hI := hide (is_ref names vn t 105 118 w hn hnl)
  obtain ⟨adn, capn, rfl⟩ := hn.shape
  generalize Pl.number t = nu at *
  obtain ⟨n, ok⟩ := nu
  generalize Pl.isOf names t 105 118 = iv at *
  simp only at hN ⊢
  clear hn
  cases ok <;> cases iv
  all_goals
    go_enter Tryz.func198, Tryz.ntmps198
    go_wp2_with fail
    refine (unhide hN).mono ?_
    rintro e w1 ⟨rfl, hw1⟩
    rw [hw1]
    clear hw1 w1 hN
    go_wp2_with fail
    refine (unhide hI).mono ?_
    rintro e w1 ⟨rfl, nn, hw1⟩
    rw [hw1]
    clear hw1 w1 hI
    go_wp2
    go_ret
    exact ⟨rfl, _, rfl⟩
set_option maxRecDepth 100000 in
set_option maxHeartbeats 2000000 in
theorem expr_kAdd (b : Nat) (names : List Pl.DeclM) (w : World) :
    Calls Tryz.prog 198 #[.pointer (some ⟨b, 0, none⟩), .string ⟨Pl.kAdd.toArray⟩] w fun e w' => e = .returned (.string ⟨(Pl.exprD names Pl.kAdd).toArray⟩) ∧ ∃ n, w' = w.drewN n := by
  rw [show Pl.exprD names Pl.kAdd = _ from rfl]
  unfold Pl.kAdd
  go_enter Tryz.func198, Tryz.ntmps198
  go_wp2
  go_ret
  exact ⟨rfl, 0, rfl⟩
set_option maxRecDepth 100000 in
set_option maxHeartbeats 2000000 in
theorem expr_kSub (b : Nat) (names : List Pl.DeclM) (w : World) :
    Calls Tryz.prog 198 #[.pointer (some ⟨b, 0, none⟩), .string ⟨Pl.kSub.toArray⟩] w fun e w' => e = .returned (.string ⟨(Pl.exprD names Pl.kSub).toArray⟩) ∧ ∃ n, w' = w.drewN n := by
  rw [show Pl.exprD names Pl.kSub = _ from rfl]
  unfold Pl.kSub
  go_enter Tryz.func198, Tryz.ntmps198
  go_wp2
  go_ret
  exact ⟨rfl, 0, rfl⟩
set_option maxRecDepth 100000 in
set_option maxHeartbeats 2000000 in
theorem expr_kMin (b : Nat) (names : List Pl.DeclM) (w : World) :
    Calls Tryz.prog 198 #[.pointer (some ⟨b, 0, none⟩), .string ⟨Pl.kMin.toArray⟩] w fun e w' => e = .returned (.string ⟨(Pl.exprD names Pl.kMin).toArray⟩) ∧ ∃ n, w' = w.drewN n := by
  rw [show Pl.exprD names Pl.kMin = _ from rfl]
  unfold Pl.kMin
  go_enter Tryz.func198, Tryz.ntmps198
  go_wp2
  go_ret
  exact ⟨rfl, 0, rfl⟩
set_option maxRecDepth 100000 in
set_option maxHeartbeats 2000000 in
theorem expr_kMax (b : Nat) (names : List Pl.DeclM) (w : World) :
    Calls Tryz.prog 198 #[.pointer (some ⟨b, 0, none⟩), .string ⟨Pl.kMax.toArray⟩] w fun e w' => e = .returned (.string ⟨(Pl.exprD names Pl.kMax).toArray⟩) ∧ ∃ n, w' = w.drewN n := by
  rw [show Pl.exprD names Pl.kMax = _ from rfl]
  unfold Pl.kMax
  go_enter Tryz.func198, Tryz.ntmps198
  go_wp2
  go_ret
  exact ⟨rfl, 0, rfl⟩
set_option maxRecDepth 100000 in
set_option maxHeartbeats 2000000 in
theorem expr_kMul (b : Nat) (names : List Pl.DeclM) (w : World) :
    Calls Tryz.prog 198 #[.pointer (some ⟨b, 0, none⟩), .string ⟨Pl.kMul.toArray⟩] w fun e w' => e = .returned (.string ⟨(Pl.exprD names Pl.kMul).toArray⟩) ∧ ∃ n, w' = w.drewN n := by
  rw [show Pl.exprD names Pl.kMul = _ from rfl]
  unfold Pl.kMul
  go_enter Tryz.func198, Tryz.ntmps198
  go_wp2
  go_ret
  exact ⟨rfl, 0, rfl⟩
set_option maxRecDepth 100000 in
set_option maxHeartbeats 2000000 in
theorem expr_kIf (b : Nat) (names : List Pl.DeclM) (w : World) :
    Calls Tryz.prog 198 #[.pointer (some ⟨b, 0, none⟩), .string ⟨Pl.kIf.toArray⟩] w fun e w' => e = .returned (.string ⟨(Pl.exprD names Pl.kIf).toArray⟩) ∧ ∃ n, w' = w.drewN n := by
  rw [show Pl.exprD names Pl.kIf = _ from rfl]
  unfold Pl.kIf
  go_enter Tryz.func198, Tryz.ntmps198
  go_wp2
  go_ret
  exact ⟨rfl, 0, rfl⟩
set_option maxRecDepth 100000 in
set_option maxHeartbeats 2000000 in
theorem expr_kDiv (b : Nat) (names : List Pl.DeclM) (w : World) :
    Calls Tryz.prog 198 #[.pointer (some ⟨b, 0, none⟩), .string ⟨Pl.kDiv.toArray⟩] w fun e w' => e = .returned (.string ⟨(Pl.exprD names Pl.kDiv).toArray⟩) ∧ ∃ n, w' = w.drewN n := by
  rw [show Pl.exprD names Pl.kDiv = _ from rfl]
  unfold Pl.kDiv
  go_enter Tryz.func198, Tryz.ntmps198
  go_wp2
  go_ret
  exact ⟨rfl, 0, rfl⟩
set_option maxRecDepth 100000 in
set_option maxHeartbeats 2000000 in
theorem expr_kTab (b : Nat) (names : List Pl.DeclM) (w : World) :
    Calls Tryz.prog 198 #[.pointer (some ⟨b, 0, none⟩), .string ⟨Pl.kTab.toArray⟩] w fun e w' => e = .returned (.string ⟨(Pl.exprD names Pl.kTab).toArray⟩) ∧ ∃ n, w' = w.drewN n := by
  rw [show Pl.exprD names Pl.kTab = _ from rfl]
  unfold Pl.kTab
  go_enter Tryz.func198, Tryz.ntmps198
  go_wp2
  go_ret
  exact ⟨rfl, 0, rfl⟩
theorem expr_ref (t : List UInt8) (b : Nat) (names : List Pl.DeclM) (vn : Value) (w : World) (hc : w.cell? ⟨b, 3, none⟩ = some vn) (hn : DeclsAt w vn names) (hnl : names.length ≤ 10000) (htl : t.length ≤ 6000) :
    Calls Tryz.prog 198 #[.pointer (some ⟨b, 0, none⟩), .string ⟨t.toArray⟩] w fun e w' => e = .returned (.string ⟨(Pl.exprD names t).toArray⟩) ∧ ∃ n, w' = w.drewN n := by
  by_cases h1 : t = Pl.kAdd
  · subst h1; exact expr_kAdd b names w
  by_cases h2 : t = Pl.kSub
  · subst h2; exact expr_kSub b names w
  by_cases h3 : t = Pl.kMin
  · subst h3; exact expr_kMin b names w
  by_cases h4 : t = Pl.kMax
  · subst h4; exact expr_kMax b names w
  by_cases h5 : t = Pl.kMul
  · subst h5; exact expr_kMul b names w
  by_cases h6 : t = Pl.kIf
  · subst h6; exact expr_kIf b names w
  by_cases h7 : t = Pl.kDiv
  · subst h7; exact expr_kDiv b names w
  by_cases h8 : t = Pl.kTab
  · subst h8; exact expr_kTab b names w
  have e : Pl.exprD names t = Pl.yesD ((Pl.number t).2 || Pl.isOf names t 105 118) := by unfold Pl.exprD; rw [if_neg (by simp [h1, h2, h3, h4]), if_neg h5, if_neg h6, if_neg h7, if_neg h8]
  rw [e]
  exact expr_no t b names vn w hc hn hnl htl (by simpa using h1) (by simpa using h2) (by simpa using h3) (by simpa using h4) (by simpa using h5) (by simpa using h6) (by simpa using h7) (by simpa using h8)
end Go.Proofs.YtfaljekgpnbmiaaGreat
