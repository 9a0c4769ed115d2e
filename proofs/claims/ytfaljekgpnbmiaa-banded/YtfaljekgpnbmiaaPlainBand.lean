/-
  The text of one table, what the program reads out of it, as plain lists.
-/
import Derived.Test.YtfaljekgpnbmiaaPlainKeep
import Derived.Test.YtfaljekgpnbmiaaPlainRead
namespace Go.Proofs.Ytfaljekgpnbmiaa.Pl

def unwords : List (List UInt8) → List UInt8
  | [] => []
  | t :: r => t ++ r.flatMap fun u => 32 :: u
def GoodT (t : List UInt8) : Prop := t ≠ [] ∧ ∀ c ∈ t, isTok c = true
theorem unwords_snoc (l : List (List UInt8)) (h : l ≠ []) (u : List UInt8) : unwords (l ++ [u]) = unwords l ++ 32 :: u := by
  cases l with
  | nil => exact absurd rfl h
  | cons t r => simp [unwords]
theorem scan_words (r : List (List UInt8)) : ∀ t : List UInt8, t ≠ [] → (∀ u ∈ r, GoodT u) → scan (r.flatMap fun u => 32 :: u) t false = t :: r := by
  induction r with
  | nil => intro t ht _; simp [scan, emit, ht]
  | cons u r ih =>
    intro t ht hg
    have hu := hg u (by simp)
    rw [List.flatMap_cons, List.cons_append, scan, if_neg (by decide)]
    show emit t (scan (u ++ _) [] _) = _
    rw [show decide ((32 : UInt8).toNat = 35) = false by decide, scan_take u _ [] hu.2, List.nil_append, ih u hu.1 (fun x hx => hg x (by simp [hx]))]
    simp [emit, ht]
theorem tokens_unwords (l : List (List UInt8)) (h : ∀ t ∈ l, GoodT t) : tokens (unwords l) = l := by
  cases l with
  | nil => rfl
  | cons t r =>
    have ht := h t (by simp)
    unfold tokens unwords
    rw [scan_take t _ [] ht.2, List.nil_append, scan_words r t ht.1 (fun x hx => h x (by simp [hx]))]

theorem peek_at {r : RdM} {t : List UInt8} {ts : List (List UInt8)} (h : r.toks.drop r.pos = t :: ts) (hp : r.pos < 600) : r.peek = t := by
  have hl : r.pos < r.toks.length := by
    apply Classical.byContradiction
    intro hc
    rw [List.drop_eq_nil_of_le (by omega)] at h
    cases h
  rw [List.drop_eq_getElem_cons hl] at h
  unfold RdM.peek
  rw [if_neg (by omega), List.getD_eq_getElem?_getD, List.getElem?_eq_getElem hl]
  cases h; rfl
theorem skip_at {r : RdM} {t : List UInt8} {ts : List (List UInt8)} (h : r.toks.drop r.pos = t :: ts) (hp : r.pos < 600) (ht : t ≠ []) : r.skip = { r with pos := r.pos + 1 } := by
  unfold RdM.skip
  rw [peek_at h hp, if_neg ht]
theorem drop_next {α : Type} {l : List α} {k : Nat} {t : α} {ts : List α} (h : l.drop k = t :: ts) : l.drop (k + 1) = ts := by
  rw [← List.drop_drop, h]; rfl
theorem num_at {r : RdM} {t : List UInt8} {ts : List (List UInt8)} (h : r.toks.drop r.pos = t :: ts) (hp : r.pos < 600) (lo hi n : Int) (hn : number t = (n, true)) (h1 : lo ≤ n) (h2 : n ≤ hi) : r.num lo hi = some n := by
  unfold RdM.num
  rw [peek_at h hp, hn, if_pos ⟨rfl, h1, h2⟩]

def bandToks (l : List (Int × Int)) : List (List UInt8) := l.flatMap fun p => [decimalOf p.1, decimalOf p.2]
/-- Thresholds that rise, from least on; rates that may be. -/
def Rising : Int → List (Int × Int) → Prop
  | _, [] => True
  | least, p :: l => least ≤ p.1 ∧ p.1 ≤ 1000000000 ∧ -1000 ≤ p.2 ∧ p.2 ≤ 1000 ∧ Rising (p.1 + 1) l
theorem bandR_at {r : RdM} {ts : List (List UInt8)} (p : Int × Int) (least : Int) (h : r.toks.drop r.pos = decimalOf p.1 :: decimalOf p.2 :: ts) (hp : r.pos + 1 < 600) (h0 : -1000000000 ≤ least) (h1 : least ≤ p.1) (h2 : p.1 ≤ 1000000000) (h3 : -1000 ≤ p.2) (h4 : p.2 ≤ 1000) :
    bandR least r = (some p, { r with pos := r.pos + 2 }) := by
  have n1 := number_decimal p.1 (by omega) h2
  have n2 := number_decimal p.2 (by omega) (by omega)
  have d1 := (decimal_tok p.1 (by omega) h2).1
  have d2 := (decimal_tok p.2 (by omega) (by omega)).1
  have e1 := skip_at h (by omega) d1
  have hnx := drop_next h
  unfold bandR
  rw [num_at h (by omega) least 1000000000 p.1 n1 h1 h2]
  simp only
  rw [e1]
  rw [num_at (r := { r with pos := r.pos + 1 }) hnx (by simp only; omega) (-1000) 1000 p.2 n2 h3 h4]
  simp only
  rw [skip_at (r := { r with pos := r.pos + 1 }) hnx (by simp only; omega) d2]
theorem bandsR_at (l : List (Int × Int)) : ∀ (r : RdM) (ts : List (List UInt8)) (least : Int) (acc : List (Int × Int)), r.toks.drop r.pos = bandToks l ++ ts → r.pos + 2 * l.length < 600 → -1000000000 ≤ least → Rising least l →
    bandsR l.length least acc r = (some (acc ++ l), { r with pos := r.pos + 2 * l.length }) := by
  induction l with
  | nil => intro r ts least acc _ _ _ _; simp [bandsR]
  | cons p l ih =>
    intro r ts least acc h hp h0 hr
    obtain ⟨r1, r2, r3, r4, r5⟩ := hr
    have hb := bandR_at p least (r := r) (ts := bandToks l ++ ts) (by rw [h]; simp [bandToks]) (by simp at hp; omega) h0 r1 r2 r3 r4
    rw [List.length_cons, bandsR, hb]
    simp only
    have hd : ({ r with pos := r.pos + 2 } : RdM).toks.drop ({ r with pos := r.pos + 2 } : RdM).pos = bandToks l ++ ts := by
      have h2 : r.toks.drop r.pos = decimalOf p.1 :: decimalOf p.2 :: (bandToks l ++ ts) := by rw [h]; simp [bandToks]
      exact drop_next (drop_next h2)
    rw [ih { r with pos := r.pos + 2 } ts (p.1 + 1) (acc ++ [p]) hd (by simp at hp ⊢; omega) (by omega) r5]
    simp only [List.append_assoc, List.singleton_append, Prod.mk.injEq, true_and]
    congr 1
    omega

def tLo : List UInt8 := [45, 50, 48, 48, 48, 48, 48]
def tHi : List UInt8 := [50, 48, 48, 48, 48, 48]
def bandWords (l : List (Int × Int)) : List (List UInt8) := kIn :: [120] :: tLo :: tHi :: kOut :: [116] :: kTab :: [120] :: decimalOf l.length :: bandToks l
def bandText (l : List (Int × Int)) : List UInt8 := unwords (bandWords l)
theorem bandToks_len (l : List (Int × Int)) : (bandToks l).length = 2 * l.length := by
  induction l with
  | nil => rfl
  | cons p l ih =>
    have : bandToks (p :: l) = decimalOf p.1 :: decimalOf p.2 :: bandToks l := by simp [bandToks]
    rw [this]; simp [ih]; omega
theorem rising_mem (l : List (Int × Int)) : ∀ least, -1000000000 ≤ least → Rising least l → ∀ p ∈ l, -1000000000 ≤ p.1 ∧ p.1 ≤ 1000000000 ∧ -1000 ≤ p.2 ∧ p.2 ≤ 1000 := by
  induction l with
  | nil => intro _ _ _ p hp; simp at hp
  | cons q l ih =>
    intro least h0 hr p hp
    obtain ⟨r1, r2, r3, r4, r5⟩ := hr
    rcases List.mem_cons.1 hp with rfl | hp
    · exact ⟨by omega, r2, r3, r4⟩
    · exact ih (q.1 + 1) (by omega) r5 p hp
theorem bandWords_good (l : List (Int × Int)) (hn : l.length ≤ 6) (hr : Rising (-1000000000) l) : ∀ t ∈ bandWords l, GoodT t := by
  intro t ht
  unfold bandWords at ht
  simp only [List.mem_cons] at ht
  have dec : ∀ n : Int, -1000000000 ≤ n → n ≤ 1000000000 → GoodT (decimalOf n) := fun n h1 h2 => ⟨(decimal_tok n h1 h2).1, (decimal_tok n h1 h2).2.1⟩
  rcases ht with rfl | rfl | rfl | rfl | rfl | rfl | rfl | rfl | rfl | ht
  · exact ⟨by decide, by decide⟩
  · exact ⟨by decide, by decide⟩
  · exact ⟨by decide, by decide⟩
  · exact ⟨by decide, by decide⟩
  · exact ⟨by decide, by decide⟩
  · exact ⟨by decide, by decide⟩
  · exact ⟨by decide, by decide⟩
  · exact ⟨by decide, by decide⟩
  · exact dec _ (by omega) (by omega)
  · unfold bandToks at ht
    rw [List.mem_flatMap] at ht
    obtain ⟨p, hp, ht⟩ := ht
    have hm := rising_mem l (-1000000000) (by omega) hr p hp
    simp only [List.mem_cons, List.not_mem_nil, or_false] at ht
    rcases ht with rfl | rfl
    · exact dec _ hm.1 hm.2.1
    · exact dec _ (by omega) (by omega)

end Go.Proofs.Ytfaljekgpnbmiaa.Pl
