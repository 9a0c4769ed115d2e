/-
  Names and keywords, as plain functions on lists of bytes.
-/
import Derived.Test.YtfaljekgpnbmiaaPlain
namespace Go.Proofs.Ytfaljekgpnbmiaa.Pl

def kIn : List UInt8 := [105, 110]
def kLet : List UInt8 := [108, 101, 116]
def kSet : List UInt8 := [115, 101, 116]
def kOut : List UInt8 := [111, 117, 116]
def kAdd : List UInt8 := [97, 100, 100]
def kSub : List UInt8 := [115, 117, 98]
def kMul : List UInt8 := [109, 117, 108]
def kMin : List UInt8 := [109, 105, 110]
def kMax : List UInt8 := [109, 97, 120]
def kIf : List UInt8 := [105, 102]
def kDiv : List UInt8 := [100, 105, 118]
def kTab : List UInt8 := [116, 97, 98]
def kLt : List UInt8 := [108, 116]
def kLe : List UInt8 := [108, 101]
def kEq : List UInt8 := [101, 113]
def kAnd : List UInt8 := [97, 110, 100]
def kOr : List UInt8 := [111, 114]
def kNot : List UInt8 := [110, 111, 116]
def kDown : List UInt8 := [100, 111, 119, 110]
def kUp : List UInt8 := [117, 112]
def kZero : List UInt8 := [122, 101, 114, 111]
def kNear : List UInt8 := [110, 101, 97, 114]
def kFlr : List UInt8 := [102, 108, 114]
def kSel : List UInt8 := [115, 101, 108]
def kws : List (List UInt8) := [kIn, kLet, kSet, kOut, kAdd, kSub, kMul, kMin, kMax, kIf, kDiv, kTab, kLt, kLe, kEq, kAnd, kOr, kNot, kDown, kUp, kZero, kNear, kFlr, kSel]
def isKw (t : List UInt8) : Bool := kws.contains t
def okc (c : UInt8) : Bool := isLet c || isDig c
def isName (t : List UInt8) : Bool :=
  match t with
  | [] => false
  | c :: r => decide (r.length ≤ 7) && isLet c && r.all okc && !isKw t

theorem isName_cons (c : UInt8) (r : List UInt8) : isName (c :: r) = (decide (r.length ≤ 7) && isLet c && r.all okc && !isKw (c :: r)) := rfl
theorem all_step (t : List UInt8) (k : Nat) (h : k < t.length) (hc : okc t[k] = true) : (t.drop (k + 1)).all okc = (t.drop k).all okc := by
  rw [List.drop_eq_getElem_cons h, List.all_cons, hc, Bool.true_and]
theorem all_no (t : List UInt8) (k : Nat) (h : k < t.length) (hc : okc t[k] = false) : (t.drop k).all okc = false := by
  rw [List.drop_eq_getElem_cons h, List.all_cons, hc, Bool.false_and]
theorem all_end (t : List UInt8) (k : Nat) (h : t.length ≤ k) : (t.drop k).all okc = true := by
  rw [List.drop_eq_nil_of_le h]; rfl
theorem okc_no {c : UInt8} (h : okc c = false) : isLet c = false ∧ isDig c = false := by simpa [okc] using h
theorem okc_yes {c : UInt8} (h : okc c = true) : isLet c = true ∨ isLet c = false ∧ isDig c = true := by
  unfold okc at h; cases hl : isLet c <;> simp_all

end Go.Proofs.Ytfaljekgpnbmiaa.Pl
