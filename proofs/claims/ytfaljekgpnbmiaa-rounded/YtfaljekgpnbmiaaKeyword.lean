/-
  The contract of package token's isKeyword.
-/
import Derived.Test.YtfaljekgpnbmiaaTok
import Derived.Test.YtfaljekgpnbmiaaPlainName
namespace Go.Proofs.Ytfaljekgpnbmiaa
open Go.RowKit

set_option maxHeartbeats 2000000 in
theorem isKeyword_no (t : List UInt8) (w : World) (h : Pl.isKw t = false) :
    Calls Try.prog 174 #[.string ⟨t.toArray⟩] w fun e w' => e = .returned (.bool false) ∧ w' = w := by
  simp only [Pl.isKw, Pl.kws, Pl.kIn, Pl.kLet, Pl.kSet, Pl.kOut, Pl.kAdd, Pl.kSub, Pl.kMul, Pl.kMin, Pl.kMax, Pl.kIf, Pl.kDiv, Pl.kTab, Pl.kLt, Pl.kLe, Pl.kEq, Pl.kAnd, Pl.kOr, Pl.kNot, Pl.kDown, Pl.kUp, Pl.kZero, Pl.kNear, Pl.kFlr, Pl.kSel, List.contains_cons, Bool.or_eq_false_iff, List.contains_nil] at h
  obtain ⟨h1, h2, h3, h4, h5, h6, h7, h8, h9, h10, h11, h12, h13, h14, h15, h16, h17, h18, h19, h20, h21, h22, h23, h24, _⟩ := h
  go_enter Try.func174, Try.ntmps174
  go_wp2
  go_ret
  exact ⟨rfl, rfl⟩

set_option maxHeartbeats 4000000 in
theorem isKeyword_yes (t : List UInt8) (w : World) (h : Pl.isKw t = true) :
    Calls Try.prog 174 #[.string ⟨t.toArray⟩] w fun e w' => e = .returned (.bool true) ∧ w' = w := by
  simp only [Pl.isKw, Pl.kws, Pl.kIn, Pl.kLet, Pl.kSet, Pl.kOut, Pl.kAdd, Pl.kSub, Pl.kMul, Pl.kMin, Pl.kMax, Pl.kIf, Pl.kDiv, Pl.kTab, Pl.kLt, Pl.kLe, Pl.kEq, Pl.kAnd, Pl.kOr, Pl.kNot, Pl.kDown, Pl.kUp, Pl.kZero, Pl.kNear, Pl.kFlr, Pl.kSel, List.contains_cons, Bool.or_eq_true, beq_iff_eq, List.contains_nil] at h
  rcases h with rfl | rfl | rfl | rfl | rfl | rfl | rfl | rfl | rfl | rfl | rfl | rfl | rfl | rfl | rfl | rfl | rfl | rfl | rfl | rfl | rfl | rfl | rfl | rfl | h
  any_goals
    go_enter Try.func174, Try.ntmps174
    go_wp2
    go_ret
    exact ⟨rfl, rfl⟩
  cases h

theorem isKeyword_any (t : List UInt8) (w : World) :
    Calls Try.prog 174 #[.string ⟨t.toArray⟩] w fun e w' => e = .returned (.bool (Pl.isKw t)) ∧ w' = w := by
  cases h : Pl.isKw t
  · exact isKeyword_no t w h
  · exact isKeyword_yes t w h

end Go.Proofs.Ytfaljekgpnbmiaa
