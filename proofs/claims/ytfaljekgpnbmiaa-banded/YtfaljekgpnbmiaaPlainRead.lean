/-
  What the program reads out of a text of the high or the low form, and what it comes to, as plain functions.
-/
import Derived.Test.YtfaljekgpnbmiaaPlainLow
import Derived.Test.YtfaljekgpnbmiaaPlainPlan
namespace Go.Proofs.Ytfaljekgpnbmiaa.Pl

def startR (l : List UInt8) : RdM := ⟨[], [], [], tokens l, 0, []⟩
/-- The error and the place, of a text that was read to its end (right) or not. -/
def resultR (right : Bool) (r : RdM) : Int × Int :=
  if right = true then (if isBigW r.ins r.nodes = true then (3, 0) else (0, 0)) else (2, r.pos)
/-- The error, the place, the reader behind the text. -/
def readWith (T : Bool × RdM) (l : List UInt8) : Int × Int × RdM :=
  if 6000 < l.length then (1, 0, startR l) else ((resultR T.1 T.2).1, (resultR T.1 T.2).2, T.2)
def readHigh (l : List UInt8) : Int × Int × RdM := readWith (textR (startR l)) l
def readLow (l : List UInt8) : Int × Int × RdM := readWith (lowR (startR l)) l
/-- The error and the values of the outs. -/
def toldR (en : Int) (r : RdM) (home : List Int) : Int × List Int :=
  if en ≠ 0 then (en, []) else if isHomeB r.ins home = true then (0, runW r.nodes r.outs home) else (4, [])
def runHigh (l : List UInt8) (home : List Int) : Int × List Int := toldR (readHigh l).1 (readHigh l).2.2 home
def runLow (l : List UInt8) (home : List Int) : Int × List Int := toldR (readLow l).1 (readLow l).2.2 home
theorem readWith_zero (T : Bool × RdM) (l : List UInt8) (h : (readWith T l).1 = 0) : l.length ≤ 6000 ∧ (readWith T l).2.2 = T.2 := by
  unfold readWith at *
  split at h
  · simp at h
  · rename_i hl; rw [if_neg hl]; exact ⟨by omega, rfl⟩
theorem tokens_len_aux (l : List UInt8) : ∀ (cur : List UInt8) (rem : Bool), (∀ t ∈ scan l cur rem, t.length ≤ cur.length + l.length) := by
  induction l with
  | nil =>
    intro cur rem t ht
    simp only [scan, emit] at ht
    split at ht
    · simp at ht
    · simp at ht; subst ht; simp
  | cons c l ih =>
    intro cur rem t ht
    cases rem with
    | true =>
      rw [scan] at ht
      split at ht
      · have := ih _ _ t ht; simp; omega
      · have := ih _ _ t ht; simp; omega
    | false =>
      rw [scan] at ht
      split at ht
      · have := ih _ _ t ht; simp at this ⊢; omega
      · unfold emit at ht
        split at ht
        · have := ih _ _ t ht; simp at this ⊢; omega
        · rcases List.mem_cons.1 ht with rfl | ht
          · omega
          · have := ih _ _ t ht; simp at this ⊢; omega
theorem start_ok (l : List UInt8) (h : l.length ≤ 6000) : Ok 0 (startR l) :=
  ⟨by simp [RdM.sz, startR], by simp [startR], fun t ht => by have := tokens_len_aux l [] false t ht; simp at this; omega⟩

end Go.Proofs.Ytfaljekgpnbmiaa.Pl
