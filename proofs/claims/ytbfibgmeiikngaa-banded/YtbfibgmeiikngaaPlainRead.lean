/-
  What the program reads out of a text of the high form, and what it comes to, as plain functions.
-/
import Derived.Test.YtbfibgmeiikngaaPlainText
import Derived.Test.YtbfibgmeiikngaaPlainPlan
namespace Go.Proofs.Ytbfibgmeiikngaa.Pl

def startR (l : List UInt8) : RdM := ⟨[], [], [], tokens l, 0, []⟩
/-- The error, the place, the reader behind the text. -/
def readHigh (l : List UInt8) : Int × Int × RdM :=
  if 6000 < l.length then (1, 0, startR l)
  else if (textR (startR l)).1 = true then
    (if isBigW (textR (startR l)).2.ins (textR (startR l)).2.nodes = true then (3, 0, (textR (startR l)).2) else (0, 0, (textR (startR l)).2))
  else (2, (textR (startR l)).2.pos, (textR (startR l)).2)
theorem tokens_len_aux (l : List UInt8) : ∀ (cur : List UInt8) (rem : Bool), (∀ t ∈ scan l cur rem, t.length ≤ cur.length + l.length) := by
  induction l with
  | nil =>
    intro cur rem t ht
    simp only [scan, emit] at ht
    split at ht
    · simp at ht
    · simp at ht; subst ht; simp
  | cons c l ih =>
    intro cur rem t ht
    cases rem with
    | true =>
      rw [scan] at ht
      split at ht
      · have := ih _ _ t ht; simp; omega
      · have := ih _ _ t ht; simp; omega
    | false =>
      rw [scan] at ht
      split at ht
      · have := ih _ _ t ht; simp at this ⊢; omega
      · unfold emit at ht
        split at ht
        · have := ih _ _ t ht; simp at this ⊢; omega
        · rcases List.mem_cons.1 ht with rfl | ht
          · omega
          · have := ih _ _ t ht; simp at this ⊢; omega
theorem start_ok (l : List UInt8) (h : l.length ≤ 6000) : Ok 0 (startR l) :=
  ⟨by simp [RdM.sz, startR], by simp [startR], fun t ht => by have := tokens_len_aux l [] false t ht; simp at this; omega⟩

end Go.Proofs.Ytbfibgmeiikngaa.Pl
