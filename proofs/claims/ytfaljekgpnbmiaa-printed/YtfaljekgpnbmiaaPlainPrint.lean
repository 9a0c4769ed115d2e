/-
  What is printed, as a plain list of bytes; its tokens are those of the text, also with remarks and other spaces.
-/
import Derived.Test.YtfaljekgpnbmiaaPlainBand
namespace Go.Proofs.Ytfaljekgpnbmiaa.Pl

def gapOf (t : List UInt8) : UInt8 := if t = kIn ∨ t = kLet ∨ t = kSet ∨ t = kOut then 10 else 32
def linesFrom : List (List UInt8) → List UInt8
  | [] => []
  | t :: r => gapOf t :: (t ++ linesFrom r)
def linesOf : List (List UInt8) → List UInt8
  | [] => []
  | t :: r => t ++ linesFrom r ++ [10]
/-- All but the last line feed. -/
def linesHead : List (List UInt8) → List UInt8
  | [] => []
  | t :: r => t ++ linesFrom r
theorem linesOf_eq (l : List (List UInt8)) (h : l ≠ []) : linesOf l = linesHead l ++ [10] := by
  cases l with
  | nil => exact absurd rfl h
  | cons t r => rfl
theorem linesFrom_snoc (l : List (List UInt8)) (t : List UInt8) : linesFrom (l ++ [t]) = linesFrom l ++ gapOf t :: t := by
  induction l with
  | nil => simp [linesFrom]
  | cons u r ih => simp [linesFrom, ih]
theorem linesHead_snoc (l : List (List UInt8)) (t : List UInt8) (h : l ≠ []) : linesHead (l ++ [t]) = linesHead l ++ [gapOf t] ++ t := by
  cases l with
  | nil => exact absurd rfl h
  | cons u r => simp [linesHead, linesFrom_snoc]
def printWith (R : Int × Int × RdM) (l : List UInt8) : List UInt8 × Int := if R.1 ≠ 0 then ([], R.1) else (linesOf (tokens l), 0)
def printHigh (l : List UInt8) : List UInt8 × Int := printWith (readHigh l) l
def printLow (l : List UInt8) : List UInt8 × Int := printWith (readLow l) l

theorem gap_ne (t : List UInt8) : isTok (gapOf t) = false ∧ decide ((gapOf t).toNat = 35) = false ∧ gapOf t ≠ 35 := by
  unfold gapOf; split <;> decide
theorem scan_lines (r : List (List UInt8)) : ∀ t : List UInt8, t ≠ [] → (∀ u ∈ r, GoodT u) → scan (linesFrom r ++ [10]) t false = t :: r := by
  induction r with
  | nil => intro t ht _; simp [linesFrom, scan, emit, ht, isTok]
  | cons u r ih =>
    intro t ht hg
    have hu := hg u (by simp)
    have hgp := gap_ne u
    rw [linesFrom, List.cons_append, scan, if_neg (by simp [hgp.1]), hgp.2.1, List.append_assoc, scan_take u _ [] hu.2, List.nil_append, ih u hu.1 (fun x hx => hg x (by simp [hx]))]
    simp [emit, ht]
theorem tokens_lines (l : List (List UInt8)) (h : ∀ t ∈ l, GoodT t) : tokens (linesOf l) = l := by
  cases l with
  | nil => rfl
  | cons t r =>
    have ht := h t (by simp)
    show scan (t ++ linesFrom r ++ [10]) [] false = _
    rw [List.append_assoc, scan_take t _ [] ht.2, List.nil_append, scan_lines r t ht.1 (fun x hx => h x (by simp [hx]))]
theorem scan_good (l : List UInt8) : ∀ (cur : List UInt8) (rem : Bool), (∀ c ∈ cur, isTok c = true) → ∀ t ∈ scan l cur rem, GoodT t := by
  have he : ∀ (cur : List UInt8) (ts : List (List UInt8)), (∀ c ∈ cur, isTok c = true) → (∀ t ∈ ts, GoodT t) → ∀ t ∈ emit cur ts, GoodT t := by
    intro cur ts hc hts t ht
    unfold emit at ht
    split at ht
    · exact hts t ht
    · rename_i hne
      rcases List.mem_cons.1 ht with rfl | ht
      · exact ⟨hne, hc⟩
      · exact hts t ht
  induction l with
  | nil => intro cur rem hc; rw [scan]; exact he cur [] hc (by simp)
  | cons c l ih =>
    intro cur rem hc
    cases rem with
    | true => rw [scan]; split <;> exact ih _ _ hc
    | false =>
      rw [scan]
      split
      · rename_i ht
        refine ih _ _ ?_
        intro x hx
        rcases List.mem_append.1 hx with hx | hx
        · exact hc x hx
        · rw [List.mem_singleton] at hx; subst hx; exact ht
      · exact he cur _ hc (ih _ _ (by simp))
theorem tokens_good (l : List UInt8) : ∀ t ∈ tokens l, GoodT t := scan_good l [] false (by simp)
/-- How long the tokens are together, one more for each. -/
def wide (l : List (List UInt8)) : Nat := (l.map fun t => t.length + 1).sum
theorem scan_wide (l : List UInt8) : ∀ (cur : List UInt8) (rem : Bool), wide (scan l cur rem) ≤ cur.length + l.length + 1 := by
  have he : ∀ (cur : List UInt8) (ts : List (List UInt8)), wide (emit cur ts) ≤ cur.length + 1 + wide ts := by
    intro cur ts; unfold emit; split
    · omega
    · simp [wide]
  induction l with
  | nil => intro cur rem; rw [scan]; have := he cur []; simp [wide] at *; omega
  | cons c l ih =>
    intro cur rem
    cases rem with
    | true => rw [scan]; split <;> (have := ih cur; simp only [List.length_cons]; first | (have := this false; omega) | (have := this true; omega))
    | false =>
      rw [scan]
      split
      · have := ih (cur ++ [c]) false; simp at this ⊢; omega
      · have h1 := he cur (scan l [] (decide (c.toNat = 35)))
        have h2 := ih [] (decide (c.toNat = 35))
        simp at h2 ⊢; omega
theorem linesFrom_len (l : List (List UInt8)) : (linesFrom l).length = wide l := by
  induction l with
  | nil => rfl
  | cons t r ih => simp [linesFrom, wide] at *; omega
theorem linesOf_len (l : List (List UInt8)) : (linesOf l).length = wide l := by
  cases l with
  | nil => rfl
  | cons t r => have := linesFrom_len r; simp [linesOf, wide] at *; omega
theorem linesHead_len (l : List (List UInt8)) : (linesHead l).length ≤ wide l := by
  cases l with
  | nil => simp [linesHead]
  | cons t r => have := linesFrom_len r; simp [linesHead, wide] at *; omega
theorem wide_take (l : List (List UInt8)) (k : Nat) : wide (l.take k) ≤ wide l := by
  have : wide (l.take k) + wide (l.drop k) = wide l := by
    unfold wide; rw [← List.sum_append, ← List.map_append, List.take_append_drop]
  omega
theorem print_len (l : List UInt8) : (linesOf (tokens l)).length ≤ l.length + 1 := by
  rw [linesOf_len]
  have := scan_wide l [] false
  unfold tokens; simpa using this
theorem linesFrom_35 (l : List (List UInt8)) (h : ∀ t ∈ l, GoodT t) : ∀ c ∈ linesFrom l, c ≠ 35 := by
  induction l with
  | nil => intro c hc; simp [linesFrom] at hc
  | cons t r ih =>
    intro c hc
    rw [linesFrom] at hc
    rcases List.mem_cons.1 hc with rfl | hc
    · exact (gap_ne t).2.2
    · rcases List.mem_append.1 hc with hc | hc
      · have := (h t (by simp)).2 c hc
        rintro rfl
        exact absurd this (by decide)
      · exact ih (fun u hu => h u (by simp [hu])) c hc
theorem linesOf_35 (l : List (List UInt8)) (h : ∀ t ∈ l, GoodT t) : ∀ c ∈ linesOf l, c ≠ 35 := by
  cases l with
  | nil => intro c hc; simp [linesOf] at hc
  | cons t r =>
    intro c hc
    rw [linesOf] at hc
    rcases List.mem_append.1 hc with hc | hc
    · rcases List.mem_append.1 hc with hc | hc
      · have := (h t (by simp)).2 c hc
        rintro rfl
        exact absurd this (by decide)
      · exact linesFrom_35 r (fun u hu => h u (by simp [hu])) c hc
    · simp at hc; subst hc; decide

/-- With remarks and other spaces in the place of each blank and line feed. -/
def dressB (c : UInt8) : List UInt8 := if c = 32 then [35, 105, 110, 32, 120, 10, 32] else if c = 10 then [32, 32] else [c]
def dressHead : List UInt8 := [35, 104, 101, 97, 100, 10, 32, 32]
def dressTail : List UInt8 := [35, 32, 111, 117, 116]
def dressed (p : List UInt8) : List UInt8 := dressHead ++ p.flatMap dressB ++ dressTail
theorem isTok_of (c : UInt8) (h1 : c ≠ 32) (h2 : c ≠ 10) (h3 : c ≠ 35) : isTok c = true := by
  have n1 : c.toNat ≠ 32 := fun h => h1 (UInt8.toNat_inj.1 (by rw [h]; rfl))
  have n2 : c.toNat ≠ 10 := fun h => h2 (UInt8.toNat_inj.1 (by rw [h]; rfl))
  have n3 : c.toNat ≠ 35 := fun h => h3 (UInt8.toNat_inj.1 (by rw [h]; rfl))
  simp [isTok, n1, n2, n3]
theorem scan_dressed (p : List UInt8) : ∀ cur : List UInt8, (∀ c ∈ p, c ≠ 35) → scan (p.flatMap dressB ++ dressTail) cur false = scan p cur false := by
  induction p with
  | nil => intro cur _; simp [scan, emit, dressTail, isTok]
  | cons c p ih =>
    intro cur h
    have ih1 := fun cur => ih cur (fun x hx => h x (by simp [hx]))
    have h35 := h c (by simp)
    rw [List.flatMap_cons, List.append_assoc]
    by_cases h1 : c = 32
    · subst h1
      have e := ih1 []
      simp [dressB, scan, emit, isTok, e]
    · by_cases h2 : c = 10
      · subst h2
        have e := ih1 []
        simp [dressB, scan, emit, isTok, e]
      · have ht := isTok_of c h1 h2 h35
        have e : dressB c = [c] := by unfold dressB; rw [if_neg h1, if_neg h2]
        rw [e, List.singleton_append, scan, if_pos ht, ih1, scan, if_pos ht]
theorem tokens_dressed (p : List UInt8) (h : ∀ c ∈ p, c ≠ 35) : tokens (dressed p) = tokens p := by
  unfold tokens dressed
  rw [List.append_assoc]
  have := scan_dressed p [] h
  simp [dressHead, scan, emit, isTok, this]
theorem dressed_len (p : List UInt8) : (dressed p).length ≤ 7 * p.length + 13 := by
  have : (p.flatMap dressB).length ≤ 7 * p.length := by
    induction p with
    | nil => simp
    | cons c p ih =>
      rw [List.flatMap_cons, List.length_append]
      have : (dressB c).length ≤ 7 := by unfold dressB; split; simp; split <;> simp
      rw [List.length_cons]; omega
  unfold dressed
  rw [List.length_append, List.length_append, show dressHead.length = 8 from rfl, show dressTail.length = 5 from rfl]
  omega

theorem readWith_same (f : RdM → Bool × RdM) (l l' : List UInt8) (h : tokens l' = tokens l) (hl : l.length ≤ 6000) (hl' : l'.length ≤ 6000) : readWith (f (startR l')) l' = readWith (f (startR l)) l := by
  have e : startR l' = startR l := by unfold startR; rw [h]
  unfold readWith
  rw [e, if_neg (by omega), if_neg (by omega)]

end Go.Proofs.Ytfaljekgpnbmiaa.Pl
