/-
  The tokens of a text, as a plain function on its bytes, and what each step of token.Split does to them.
-/
import Derived.Test.YtfaljekgpnbmiaaPlain
namespace Go.Proofs.Ytfaljekgpnbmiaa.Pl

def emit (cur : List UInt8) (l : List (List UInt8)) : List (List UInt8) := if cur = [] then l else cur :: l
def scan : List UInt8 → List UInt8 → Bool → List (List UInt8)
  | [], cur, _ => emit cur []
  | c :: r, cur, true => if c.toNat = 10 then scan r cur false else scan r cur true
  | c :: r, cur, false => if isTok c then scan r (cur ++ [c]) false else emit cur (scan r [] (decide (c.toNat = 35)))
def tokens (l : List UInt8) : List (List UInt8) := scan l [] false

theorem scan_take (p rest cur : List UInt8) (h : ∀ c ∈ p, isTok c = true) : scan (p ++ rest) cur false = scan rest (cur ++ p) false := by
  induction p generalizing cur with
  | nil => simp
  | cons c p ih =>
    rw [List.cons_append, scan, if_pos (h c (by simp)), ih _ (fun x hx => h x (by simp [hx]))]
    simp
theorem scan_cur (rest cur : List UInt8) (hc : cur ≠ []) (h : ∀ c r, rest = c :: r → isTok c = false) : scan rest cur false = cur :: scan rest [] false := by
  cases rest with
  | nil => simp [scan, emit, hc]
  | cons c r =>
    have := h c r rfl
    rw [scan, scan, if_neg (by simp [this]), if_neg (by simp [this])]
    simp [emit, hc]
theorem drop_dw (p : UInt8 → Bool) (l : List UInt8) : l.drop (l.takeWhile p).length = l.dropWhile p := by
  induction l with
  | nil => rfl
  | cons c r ih => by_cases h : p c <;> simp [h, ih]
theorem take_tw (p : UInt8 → Bool) (l : List UInt8) : l.take (l.takeWhile p).length = l.takeWhile p := by
  induction l with
  | nil => rfl
  | cons c r ih => by_cases h : p c <;> simp [h, ih]
theorem tw_all (p : UInt8 → Bool) (l : List UInt8) : ∀ c ∈ l.takeWhile p, p c = true := by
  induction l with
  | nil => simp
  | cons c r ih =>
    intro x hx
    by_cases h : p c
    · rw [List.takeWhile_cons, if_pos h] at hx
      rcases List.mem_cons.1 hx with rfl | hx
      · exact h
      · exact ih x hx
    · rw [List.takeWhile_cons, if_neg h] at hx; simp at hx
theorem dw_head (p : UInt8 → Bool) (l : List UInt8) : ∀ c r, l.dropWhile p = c :: r → p c = false := by
  induction l with
  | nil => simp
  | cons c r ih =>
    intro x y hx
    by_cases h : p c
    · rw [List.dropWhile_cons, if_pos h] at hx; exact ih x y hx
    · rw [List.dropWhile_cons, if_neg h] at hx; cases hx; simpa using h
theorem scan_run (l : List UInt8) (k : Nat) (h : k < runEnd l k) : scan (l.drop k) [] false = (l.drop k).take (runEnd l k - k) :: scan (l.drop (runEnd l k)) [] false := by
  have e1 : runEnd l k - k = ((l.drop k).takeWhile isTok).length := by unfold runEnd; omega
  have e2 : l.drop (runEnd l k) = (l.drop k).drop ((l.drop k).takeWhile isTok).length := by rw [List.drop_drop]; rfl
  rw [e1, e2, take_tw, drop_dw]
  generalize l.drop k = m at *
  have hne : m.takeWhile isTok ≠ [] := by intro e; rw [e] at e1; simp at e1; omega
  conv => lhs; rw [← List.takeWhile_append_dropWhile (p := isTok) (l := m)]
  rw [scan_take _ _ _ (tw_all isTok m), List.nil_append, scan_cur _ _ hne (dw_head isTok m)]
theorem scan_rem (m cur : List UInt8) : scan m cur true = scan (m.dropWhile isRem) cur false ∨ cur ≠ [] := by
  by_cases hcur : cur = []
  · left
    subst hcur
    induction m with
    | nil => rfl
    | cons c r ih =>
      by_cases h : isRem c = true
      · have : ¬ c.toNat = 10 := by simpa [isRem] using h
        rw [scan, if_neg this, ih, List.dropWhile_cons, if_pos h]
      · have h10 : c.toNat = 10 := by simpa [isRem] using h
        rw [scan, if_pos h10, List.dropWhile_cons, if_neg h, scan, if_neg (by simp [isTok, h10])]
        simp [emit, h10]
  · right; exact hcur
theorem scan_remark (l : List UInt8) (k : Nat) (h : k < l.length) (h35 : l[k].toNat = 35) : scan (l.drop k) [] false = scan (l.drop (remEnd l k)) [] false := by
  have e2 : l.drop (remEnd l k) = (l.drop k).dropWhile isRem := by rw [← drop_dw, List.drop_drop]; rfl
  rw [e2, List.drop_eq_getElem_cons h, scan, if_neg (by simp [isTok, h35])]
  have hr : isRem l[k] = true := by simp [isRem, h35]
  rw [List.dropWhile_cons, if_pos hr]
  rcases scan_rem (l.drop (k + 1)) [] with e | e
  · simp [emit, h35, e]
  · exact absurd rfl e
theorem scan_blank (l : List UInt8) (k : Nat) (h : k < l.length) (ht : isTok l[k] = false) (h35 : l[k].toNat ≠ 35) : scan (l.drop k) [] false = scan (l.drop (k + 1)) [] false := by
  rw [List.drop_eq_getElem_cons h, scan, if_neg (by simp [ht])]
  simp [emit, h35]
theorem tw_len (p : UInt8 → Bool) (l : List UInt8) : (l.takeWhile p).length ≤ l.length := by
  induction l with
  | nil => simp
  | cons c r ih => by_cases h : p c <;> simp [h]; omega
theorem runEnd_ge (l : List UInt8) (k : Nat) : k ≤ runEnd l k := by unfold runEnd; omega
theorem runEnd_le (l : List UInt8) (k : Nat) (h : k ≤ l.length) : runEnd l k ≤ l.length := by
  unfold runEnd
  have := tw_len isTok (l.drop k)
  simp at this; omega
theorem remEnd_le (l : List UInt8) (k : Nat) (h : k ≤ l.length) : remEnd l k ≤ l.length := by
  unfold remEnd
  have := tw_len isRem (l.drop k)
  simp at this; omega
theorem remEnd_gt (l : List UInt8) (k : Nat) (h : k < l.length) (h35 : l[k].toNat = 35) : k < remEnd l k := by
  have := remEnd_step l k h (by simp [isRem, h35])
  rw [← this]; unfold remEnd; omega
theorem isTok_of_run (l : List UInt8) (k : Nat) (h : k < l.length) (he : ¬ k < runEnd l k) : isTok l[k] = false := by
  cases ht : isTok l[k]
  · rfl
  · have := runEnd_step l k h ht; exfalso; apply he; rw [← this]; have := runEnd_ge l (k + 1); omega

end Go.Proofs.Ytfaljekgpnbmiaa.Pl
