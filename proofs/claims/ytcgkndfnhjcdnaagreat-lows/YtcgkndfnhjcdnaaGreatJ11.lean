/- Joined: PlainBand PlainPrint PlainRef PlainTok. -/
import Derived.Test.YtcgkndfnhjcdnaaGreatJ10
/-
  The text of one table, what the program reads out of it, as plain lists.
-/
namespace Go.Proofs.YtcgkndfnhjcdnaaGreat.Pl

def unwords : List (List UInt8) → List UInt8
  | [] => []
  | t :: r => t ++ r.flatMap fun u => 32 :: u
def GoodT (t : List UInt8) : Prop := t ≠ [] ∧ ∀ c ∈ t, isTok c = true
theorem unwords_snoc (l : List (List UInt8)) (h : l ≠ []) (u : List UInt8) : unwords (l ++ [u]) = unwords l ++ 32 :: u := by
  cases l with
  | nil => exact absurd rfl h
  | cons t r => simp [unwords]
theorem scan_words (r : List (List UInt8)) : ∀ t : List UInt8, t ≠ [] → (∀ u ∈ r, GoodT u) → scan (r.flatMap fun u => 32 :: u) t false = t :: r := by
  induction r with
  | nil => intro t ht _; simp [scan, emit, ht]
  | cons u r ih =>
    intro t ht hg
    have hu := hg u (by simp)
    rw [List.flatMap_cons, List.cons_append, scan, if_neg (by decide)]
    show emit t (scan (u ++ _) [] _) = _
    rw [show decide ((32 : UInt8).toNat = 35) = false by decide, scan_take u _ [] hu.2, List.nil_append, ih u hu.1 (fun x hx => hg x (by simp [hx]))]
    simp [emit, ht]
theorem tokens_unwords (l : List (List UInt8)) (h : ∀ t ∈ l, GoodT t) : tokens (unwords l) = l := by
  cases l with
  | nil => rfl
  | cons t r =>
    have ht := h t (by simp)
    unfold tokens unwords
    rw [scan_take t _ [] ht.2, List.nil_append, scan_words r t ht.1 (fun x hx => h x (by simp [hx]))]

theorem peek_at {r : RdM} {t : List UInt8} {ts : List (List UInt8)} (h : r.toks.drop r.pos = t :: ts) (hp : r.pos < 600) : r.peek = t := by
  have hl : r.pos < r.toks.length := by
    apply Classical.byContradiction
    intro hc
    rw [List.drop_eq_nil_of_le (by omega)] at h
    cases h
  rw [List.drop_eq_getElem_cons hl] at h
  unfold RdM.peek
  rw [if_neg (by omega), List.getD_eq_getElem?_getD, List.getElem?_eq_getElem hl]
  cases h; rfl
theorem skip_at {r : RdM} {t : List UInt8} {ts : List (List UInt8)} (h : r.toks.drop r.pos = t :: ts) (hp : r.pos < 600) (ht : t ≠ []) : r.skip = { r with pos := r.pos + 1 } := by
  unfold RdM.skip
  rw [peek_at h hp, if_neg ht]
theorem drop_next {α : Type} {l : List α} {k : Nat} {t : α} {ts : List α} (h : l.drop k = t :: ts) : l.drop (k + 1) = ts := by
  rw [← List.drop_drop, h]; rfl
theorem num_at {r : RdM} {t : List UInt8} {ts : List (List UInt8)} (h : r.toks.drop r.pos = t :: ts) (hp : r.pos < 600) (lo hi n : Int) (hn : number t = (n, true)) (h1 : lo ≤ n) (h2 : n ≤ hi) : r.num lo hi = some n := by
  unfold RdM.num
  rw [peek_at h hp, hn, if_pos ⟨rfl, h1, h2⟩]

def bandToks (l : List (Int × Int)) : List (List UInt8) := l.flatMap fun p => [decimalOf p.1, decimalOf p.2]
/-- Thresholds that rise, from least on; rates that may be. -/
def Rising : Int → List (Int × Int) → Prop
  | _, [] => True
  | least, p :: l => least ≤ p.1 ∧ p.1 ≤ 1000000000 ∧ -1000 ≤ p.2 ∧ p.2 ≤ 1000 ∧ Rising (p.1 + 1) l
theorem bandR_at {r : RdM} {ts : List (List UInt8)} (p : Int × Int) (least : Int) (h : r.toks.drop r.pos = decimalOf p.1 :: decimalOf p.2 :: ts) (hp : r.pos + 1 < 600) (h0 : -1000000000 ≤ least) (h1 : least ≤ p.1) (h2 : p.1 ≤ 1000000000) (h3 : -1000 ≤ p.2) (h4 : p.2 ≤ 1000) :
    bandR least r = (some p, { r with pos := r.pos + 2 }) := by
  have n1 := number_decimal p.1 (by omega) h2
  have n2 := number_decimal p.2 (by omega) (by omega)
  have d1 := (decimal_tok p.1 (by omega) h2).1
  have d2 := (decimal_tok p.2 (by omega) (by omega)).1
  have e1 := skip_at h (by omega) d1
  have hnx := drop_next h
  unfold bandR
  rw [num_at h (by omega) least 1000000000 p.1 n1 h1 h2]
  simp only
  rw [e1]
  rw [num_at (r := { r with pos := r.pos + 1 }) hnx (by simp only; omega) (-1000) 1000 p.2 n2 h3 h4]
  simp only
  rw [skip_at (r := { r with pos := r.pos + 1 }) hnx (by simp only; omega) d2]
theorem bandsR_at (l : List (Int × Int)) : ∀ (r : RdM) (ts : List (List UInt8)) (least : Int) (acc : List (Int × Int)), r.toks.drop r.pos = bandToks l ++ ts → r.pos + 2 * l.length < 600 → -1000000000 ≤ least → Rising least l →
    bandsR l.length least acc r = (some (acc ++ l), { r with pos := r.pos + 2 * l.length }) := by
  induction l with
  | nil => intro r ts least acc _ _ _ _; simp [bandsR]
  | cons p l ih =>
    intro r ts least acc h hp h0 hr
    obtain ⟨r1, r2, r3, r4, r5⟩ := hr
    have hb := bandR_at p least (r := r) (ts := bandToks l ++ ts) (by rw [h]; simp [bandToks]) (by simp at hp; omega) h0 r1 r2 r3 r4
    rw [List.length_cons, bandsR, hb]
    simp only
    have hd : ({ r with pos := r.pos + 2 } : RdM).toks.drop ({ r with pos := r.pos + 2 } : RdM).pos = bandToks l ++ ts := by
      have h2 : r.toks.drop r.pos = decimalOf p.1 :: decimalOf p.2 :: (bandToks l ++ ts) := by rw [h]; simp [bandToks]
      exact drop_next (drop_next h2)
    rw [ih { r with pos := r.pos + 2 } ts (p.1 + 1) (acc ++ [p]) hd (by simp at hp ⊢; omega) (by omega) r5]
    simp only [List.append_assoc, List.singleton_append, Prod.mk.injEq, true_and]
    congr 1
    omega

def tLo : List UInt8 := [45, 50, 48, 48, 48, 48, 48]
def tHi : List UInt8 := [50, 48, 48, 48, 48, 48]
def bandWords (l : List (Int × Int)) : List (List UInt8) := kIn :: [120] :: tLo :: tHi :: kOut :: [116] :: kTab :: [120] :: decimalOf l.length :: bandToks l
def bandText (l : List (Int × Int)) : List UInt8 := unwords (bandWords l)
theorem bandToks_len (l : List (Int × Int)) : (bandToks l).length = 2 * l.length := by
  induction l with
  | nil => rfl
  | cons p l ih =>
    have : bandToks (p :: l) = decimalOf p.1 :: decimalOf p.2 :: bandToks l := by simp [bandToks]
    rw [this]; simp [ih]; omega
theorem rising_mem (l : List (Int × Int)) : ∀ least, -1000000000 ≤ least → Rising least l → ∀ p ∈ l, -1000000000 ≤ p.1 ∧ p.1 ≤ 1000000000 ∧ -1000 ≤ p.2 ∧ p.2 ≤ 1000 := by
  induction l with
  | nil => intro _ _ _ p hp; simp at hp
  | cons q l ih =>
    intro least h0 hr p hp
    obtain ⟨r1, r2, r3, r4, r5⟩ := hr
    rcases List.mem_cons.1 hp with rfl | hp
    · exact ⟨by omega, r2, r3, r4⟩
    · exact ih (q.1 + 1) (by omega) r5 p hp
theorem bandWords_good (l : List (Int × Int)) (hn : l.length ≤ 6) (hr : Rising (-1000000000) l) : ∀ t ∈ bandWords l, GoodT t := by
  intro t ht
  unfold bandWords at ht
  simp only [List.mem_cons] at ht
  have dec : ∀ n : Int, -1000000000 ≤ n → n ≤ 1000000000 → GoodT (decimalOf n) := fun n h1 h2 => ⟨(decimal_tok n h1 h2).1, (decimal_tok n h1 h2).2.1⟩
  rcases ht with rfl | rfl | rfl | rfl | rfl | rfl | rfl | rfl | rfl | ht
  · exact ⟨by decide, by decide⟩
  · exact ⟨by decide, by decide⟩
  · exact ⟨by decide, by decide⟩
  · exact ⟨by decide, by decide⟩
  · exact ⟨by decide, by decide⟩
  · exact ⟨by decide, by decide⟩
  · exact ⟨by decide, by decide⟩
  · exact ⟨by decide, by decide⟩
  · exact dec _ (by omega) (by omega)
  · unfold bandToks at ht
    rw [List.mem_flatMap] at ht
    obtain ⟨p, hp, ht⟩ := ht
    have hm := rising_mem l (-1000000000) (by omega) hr p hp
    simp only [List.mem_cons, List.not_mem_nil, or_false] at ht
    rcases ht with rfl | rfl
    · exact dec _ hm.1 hm.2.1
    · exact dec _ (by omega) (by omega)

end Go.Proofs.YtcgkndfnhjcdnaaGreat.Pl

/-
  What is printed, as a plain list of bytes; its tokens are those of the text, also with remarks and other spaces.
-/
namespace Go.Proofs.YtcgkndfnhjcdnaaGreat.Pl

def gapOf (t : List UInt8) : UInt8 := if t = kIn ∨ t = kLet ∨ t = kSet ∨ t = kOut then 10 else 32
def linesFrom : List (List UInt8) → List UInt8
  | [] => []
  | t :: r => gapOf t :: (t ++ linesFrom r)
def linesOf : List (List UInt8) → List UInt8
  | [] => []
  | t :: r => t ++ linesFrom r ++ [10]
/-- All but the last line feed. -/
def linesHead : List (List UInt8) → List UInt8
  | [] => []
  | t :: r => t ++ linesFrom r
theorem linesOf_eq (l : List (List UInt8)) (h : l ≠ []) : linesOf l = linesHead l ++ [10] := by
  cases l with
  | nil => exact absurd rfl h
  | cons t r => rfl
theorem linesFrom_snoc (l : List (List UInt8)) (t : List UInt8) : linesFrom (l ++ [t]) = linesFrom l ++ gapOf t :: t := by
  induction l with
  | nil => simp [linesFrom]
  | cons u r ih => simp [linesFrom, ih]
theorem linesHead_snoc (l : List (List UInt8)) (t : List UInt8) (h : l ≠ []) : linesHead (l ++ [t]) = linesHead l ++ [gapOf t] ++ t := by
  cases l with
  | nil => exact absurd rfl h
  | cons u r => simp [linesHead, linesFrom_snoc]
def printWith (R : Int × Int × RdM) (l : List UInt8) : List UInt8 × Int := if R.1 ≠ 0 then ([], R.1) else (linesOf (tokens l), 0)
def printHigh (l : List UInt8) : List UInt8 × Int := printWith (readHigh l) l
def printLow (l : List UInt8) : List UInt8 × Int := printWith (readLow l) l

theorem gap_ne (t : List UInt8) : isTok (gapOf t) = false ∧ decide ((gapOf t).toNat = 35) = false ∧ gapOf t ≠ 35 := by
  unfold gapOf; split <;> decide
theorem scan_lines (r : List (List UInt8)) : ∀ t : List UInt8, t ≠ [] → (∀ u ∈ r, GoodT u) → scan (linesFrom r ++ [10]) t false = t :: r := by
  induction r with
  | nil => intro t ht _; simp [linesFrom, scan, emit, ht, isTok]
  | cons u r ih =>
    intro t ht hg
    have hu := hg u (by simp)
    have hgp := gap_ne u
    rw [linesFrom, List.cons_append, scan, if_neg (by simp [hgp.1]), hgp.2.1, List.append_assoc, scan_take u _ [] hu.2, List.nil_append, ih u hu.1 (fun x hx => hg x (by simp [hx]))]
    simp [emit, ht]
theorem tokens_lines (l : List (List UInt8)) (h : ∀ t ∈ l, GoodT t) : tokens (linesOf l) = l := by
  cases l with
  | nil => rfl
  | cons t r =>
    have ht := h t (by simp)
    show scan (t ++ linesFrom r ++ [10]) [] false = _
    rw [List.append_assoc, scan_take t _ [] ht.2, List.nil_append, scan_lines r t ht.1 (fun x hx => h x (by simp [hx]))]
theorem scan_good (l : List UInt8) : ∀ (cur : List UInt8) (rem : Bool), (∀ c ∈ cur, isTok c = true) → ∀ t ∈ scan l cur rem, GoodT t := by
  have he : ∀ (cur : List UInt8) (ts : List (List UInt8)), (∀ c ∈ cur, isTok c = true) → (∀ t ∈ ts, GoodT t) → ∀ t ∈ emit cur ts, GoodT t := by
    intro cur ts hc hts t ht
    unfold emit at ht
    split at ht
    · exact hts t ht
    · rename_i hne
      rcases List.mem_cons.1 ht with rfl | ht
      · exact ⟨hne, hc⟩
      · exact hts t ht
  induction l with
  | nil => intro cur rem hc; rw [scan]; exact he cur [] hc (by simp)
  | cons c l ih =>
    intro cur rem hc
    cases rem with
    | true => rw [scan]; split <;> exact ih _ _ hc
    | false =>
      rw [scan]
      split
      · rename_i ht
        refine ih _ _ ?_
        intro x hx
        rcases List.mem_append.1 hx with hx | hx
        · exact hc x hx
        · rw [List.mem_singleton] at hx; subst hx; exact ht
      · exact he cur _ hc (ih _ _ (by simp))
theorem tokens_good (l : List UInt8) : ∀ t ∈ tokens l, GoodT t := scan_good l [] false (by simp)
/-- How long the tokens are together, one more for each. -/
def wide (l : List (List UInt8)) : Nat := (l.map fun t => t.length + 1).sum
theorem scan_wide (l : List UInt8) : ∀ (cur : List UInt8) (rem : Bool), wide (scan l cur rem) ≤ cur.length + l.length + 1 := by
  have he : ∀ (cur : List UInt8) (ts : List (List UInt8)), wide (emit cur ts) ≤ cur.length + 1 + wide ts := by
    intro cur ts; unfold emit; split
    · omega
    · simp [wide]
  induction l with
  | nil => intro cur rem; rw [scan]; have := he cur []; simp [wide] at *; omega
  | cons c l ih =>
    intro cur rem
    cases rem with
    | true => rw [scan]; split <;> (have := ih cur; simp only [List.length_cons]; first | (have := this false; omega) | (have := this true; omega))
    | false =>
      rw [scan]
      split
      · have := ih (cur ++ [c]) false; simp at this ⊢; omega
      · have h1 := he cur (scan l [] (decide (c.toNat = 35)))
        have h2 := ih [] (decide (c.toNat = 35))
        simp at h2 ⊢; omega
theorem linesFrom_len (l : List (List UInt8)) : (linesFrom l).length = wide l := by
  induction l with
  | nil => rfl
  | cons t r ih => simp [linesFrom, wide] at *; omega
theorem linesOf_len (l : List (List UInt8)) : (linesOf l).length = wide l := by
  cases l with
  | nil => rfl
  | cons t r => have := linesFrom_len r; simp [linesOf, wide] at *; omega
theorem linesHead_len (l : List (List UInt8)) : (linesHead l).length ≤ wide l := by
  cases l with
  | nil => simp [linesHead]
  | cons t r => have := linesFrom_len r; simp [linesHead, wide] at *; omega
theorem wide_take (l : List (List UInt8)) (k : Nat) : wide (l.take k) ≤ wide l := by
  have : wide (l.take k) + wide (l.drop k) = wide l := by
    unfold wide; rw [← List.sum_append, ← List.map_append, List.take_append_drop]
  omega
theorem print_len (l : List UInt8) : (linesOf (tokens l)).length ≤ l.length + 1 := by
  rw [linesOf_len]
  have := scan_wide l [] false
  unfold tokens; simpa using this
theorem linesFrom_35 (l : List (List UInt8)) (h : ∀ t ∈ l, GoodT t) : ∀ c ∈ linesFrom l, c ≠ 35 := by
  induction l with
  | nil => intro c hc; simp [linesFrom] at hc
  | cons t r ih =>
    intro c hc
    rw [linesFrom] at hc
    rcases List.mem_cons.1 hc with rfl | hc
    · exact (gap_ne t).2.2
    · rcases List.mem_append.1 hc with hc | hc
      · have := (h t (by simp)).2 c hc
        rintro rfl
        exact absurd this (by decide)
      · exact ih (fun u hu => h u (by simp [hu])) c hc
theorem linesOf_35 (l : List (List UInt8)) (h : ∀ t ∈ l, GoodT t) : ∀ c ∈ linesOf l, c ≠ 35 := by
  cases l with
  | nil => intro c hc; simp [linesOf] at hc
  | cons t r =>
    intro c hc
    rw [linesOf] at hc
    rcases List.mem_append.1 hc with hc | hc
    · rcases List.mem_append.1 hc with hc | hc
      · have := (h t (by simp)).2 c hc
        rintro rfl
        exact absurd this (by decide)
      · exact linesFrom_35 r (fun u hu => h u (by simp [hu])) c hc
    · simp at hc; subst hc; decide

/-- With remarks and other spaces in the place of each blank and line feed. -/
def dressB (c : UInt8) : List UInt8 := if c = 32 then [35, 105, 110, 32, 120, 10, 32] else if c = 10 then [32, 32] else [c]
def dressHead : List UInt8 := [35, 104, 101, 97, 100, 10, 32, 32]
def dressTail : List UInt8 := [35, 32, 111, 117, 116]
def dressed (p : List UInt8) : List UInt8 := dressHead ++ p.flatMap dressB ++ dressTail
theorem isTok_of (c : UInt8) (h1 : c ≠ 32) (h2 : c ≠ 10) (h3 : c ≠ 35) : isTok c = true := by
  have n1 : c.toNat ≠ 32 := fun h => h1 (UInt8.toNat_inj.1 (by rw [h]; rfl))
  have n2 : c.toNat ≠ 10 := fun h => h2 (UInt8.toNat_inj.1 (by rw [h]; rfl))
  have n3 : c.toNat ≠ 35 := fun h => h3 (UInt8.toNat_inj.1 (by rw [h]; rfl))
  simp [isTok, n1, n2, n3]
theorem scan_dressed (p : List UInt8) : ∀ cur : List UInt8, (∀ c ∈ p, c ≠ 35) → scan (p.flatMap dressB ++ dressTail) cur false = scan p cur false := by
  induction p with
  | nil => intro cur _; simp [scan, emit, dressTail, isTok]
  | cons c p ih =>
    intro cur h
    have ih1 := fun cur => ih cur (fun x hx => h x (by simp [hx]))
    have h35 := h c (by simp)
    rw [List.flatMap_cons, List.append_assoc]
    by_cases h1 : c = 32
    · subst h1
      have e := ih1 []
      simp [dressB, scan, emit, isTok, e]
    · by_cases h2 : c = 10
      · subst h2
        have e := ih1 []
        simp [dressB, scan, emit, isTok, e]
      · have ht := isTok_of c h1 h2 h35
        have e : dressB c = [c] := by unfold dressB; rw [if_neg h1, if_neg h2]
        rw [e, List.singleton_append, scan, if_pos ht, ih1, scan, if_pos ht]
theorem tokens_dressed (p : List UInt8) (h : ∀ c ∈ p, c ≠ 35) : tokens (dressed p) = tokens p := by
  unfold tokens dressed
  rw [List.append_assoc]
  have := scan_dressed p [] h
  simp [dressHead, scan, emit, isTok, this]
theorem dressed_len (p : List UInt8) : (dressed p).length ≤ 7 * p.length + 13 := by
  have : (p.flatMap dressB).length ≤ 7 * p.length := by
    induction p with
    | nil => simp
    | cons c p ih =>
      rw [List.flatMap_cons, List.length_append]
      have : (dressB c).length ≤ 7 := by unfold dressB; split; simp; split <;> simp
      rw [List.length_cons]; omega
  unfold dressed
  rw [List.length_append, List.length_append, show dressHead.length = 8 from rfl, show dressTail.length = 5 from rfl]
  omega

theorem readWith_same (f : RdM → Bool × RdM) (l l' : List UInt8) (h : tokens l' = tokens l) (hl : l.length ≤ 6000) (hl' : l'.length ≤ 6000) : readWith (f (startR l')) l' = readWith (f (startR l)) l := by
  have e : startR l' = startR l := by unfold startR; rw [h]
  unfold readWith
  rw [e, if_neg (by omega), if_neg (by omega)]

end Go.Proofs.YtcgkndfnhjcdnaaGreat.Pl

/-
  The reference's small functions on names and tokens, as plain functions.
-/
namespace Go.Proofs.YtcgkndfnhjcdnaaGreat.Pl

structure DeclM where
  name : List UInt8
  kind : Nat
  lo : Int
  hi : Int
  pos : Int
def findFrom : List DeclM → List UInt8 → Int → Int
  | [], _, _ => -1
  | d :: l, t, i => if d.name = t then i else findFrom l t (i + 1)
def findD (l : List DeclM) (t : List UInt8) : Int := findFrom l t 0
def countD : List DeclM → Nat → Nat
  | [], _ => 0
  | d :: l, k => (if d.kind = k then 1 else 0) + countD l k
def within (t : List UInt8) (lo hi : Int) : Bool := (number t).2 && decide (lo ≤ (number t).1) && decide ((number t).1 ≤ hi)
/-- Does t stand somewhere in s? -/
def holdsR : List UInt8 → List UInt8 → Bool
  | [], t => t.isEmpty
  | c :: r, t => t.isPrefixOf (c :: r) || holdsR r t
def holdsW (s w : List UInt8) : Bool := holdsR s ([32] ++ w ++ [32])
theorem isPrefixOf_take (t s : List UInt8) : t.isPrefixOf s = (s.take t.length == t) := by
  rw [Bool.eq_iff_iff, List.isPrefixOf_iff_prefix, beq_iff_eq, List.prefix_iff_eq_take]
  exact eq_comm
theorem holdsR_step (s t : List UInt8) (i : Nat) (h : i < s.length) : holdsR (s.drop i) t = (((s.drop i).take t.length == t) || holdsR (s.drop (i + 1)) t) := by
  rw [← isPrefixOf_take]
  conv => lhs; rw [List.drop_eq_getElem_cons h]
  conv => rhs; rw [List.drop_eq_getElem_cons h]
  rfl
theorem holdsR_short (s t : List UInt8) (h : s.length < t.length) : holdsR s t = false := by
  induction s with
  | nil => cases t with
    | nil => simp at h
    | cons c t => rfl
  | cons c s ih =>
    rw [holdsR, ih (by simp at h; omega), Bool.or_false, isPrefixOf_take]
    rw [beq_eq_false_iff_ne]
    intro e
    have := congrArg List.length e
    rw [List.length_take] at this
    omega
theorem findFrom_hit (l : List DeclM) (t : List UInt8) (k : Nat) (h : k < l.length) (he : l[k].name = t) : findFrom (l.drop k) t k = k := by
  rw [List.drop_eq_getElem_cons h, findFrom, if_pos he]
theorem findFrom_miss (l : List DeclM) (t : List UInt8) (k : Nat) (h : k < l.length) (he : l[k].name ≠ t) : findFrom (l.drop k) t k = findFrom (l.drop (k + 1)) t ((k : Int) + 1) := by
  rw [List.drop_eq_getElem_cons h, findFrom, if_neg he]
theorem findFrom_end (l : List DeclM) (t : List UInt8) (k : Nat) (h : l.length ≤ k) (i : Int) : findFrom (l.drop k) t i = -1 := by
  rw [List.drop_eq_nil_of_le h]; rfl
theorem countD_step (l : List DeclM) (k : Nat) (h : k < l.length) (c : Nat) : countD (l.drop k) c = (if l[k].kind = c then 1 else 0) + countD (l.drop (k + 1)) c := by
  rw [List.drop_eq_getElem_cons h, countD]
theorem countD_le (l : List DeclM) (c : Nat) : countD l c ≤ l.length := by
  induction l with
  | nil => simp [countD]
  | cons d l ih => rw [countD, List.length_cons]; split <;> omega
theorem findFrom_bd (l : List DeclM) (t : List UInt8) : ∀ i : Int, findFrom l t i = -1 ∨ (i ≤ findFrom l t i ∧ findFrom l t i < i + l.length) := by
  induction l with
  | nil => intro i; exact .inl rfl
  | cons d l ih =>
    intro i
    rw [findFrom]
    split
    · right; simp; omega
    · rcases ih (i + 1) with h | h
      · exact .inl h
      · right; simp; omega

end Go.Proofs.YtcgkndfnhjcdnaaGreat.Pl

/-
  How the reference finds the tokens: remarks and line feeds are blanked, then the text is parted at blanks. They are the same tokens. And which words stand in a list of words.
-/
namespace Go.Proofs.YtcgkndfnhjcdnaaGreat.Pl

/-- Behind the byte c: is a remark open? -/
def inNext (c : UInt8) (rem : Bool) : Bool := if c = 10 then false else if c = 35 then true else rem
def clearB (c : UInt8) (rem : Bool) : UInt8 := if inNext c rem = true ∨ c = 10 then 32 else c
def clear : List UInt8 → Bool → List UInt8
  | [], _ => []
  | c :: r, rem => clearB c rem :: clear r (inNext c rem)
theorem clear_len (l : List UInt8) : ∀ rem, (clear l rem).length = l.length := by
  induction l with
  | nil => intro _; rfl
  | cons c l ih => intro rem; simp [clear, ih]
def scanB : List UInt8 → List UInt8 → List (List UInt8)
  | [], _ => []
  | c :: r, cur => if c = 32 then emit cur (scanB r []) else scanB r (cur ++ [c])
theorem clear_ok (l : List UInt8) : ∀ rem, ∀ c ∈ clear l rem, c = 32 ∨ isTok c = true := by
  induction l with
  | nil => intro _ c hc; simp [clear] at hc
  | cons c l ih =>
    intro rem x hx
    rw [clear] at hx
    rcases List.mem_cons.1 hx with rfl | hx
    · unfold clearB
      by_cases h : inNext c rem = true ∨ c = 10
      · rw [if_pos h]; exact .inl rfl
      · rw [if_neg h]
        by_cases h32 : c = 32
        · exact .inl h32
        · refine .inr (isTok_of c h32 (fun e => h (.inr e)) ?_)
          intro e
          apply h
          left
          subst e
          rfl
    · exact ih _ x hx
theorem scanB_eq (l : List UInt8) : ∀ cur, (∀ c ∈ l, c = 32 ∨ isTok c = true) → scanB (l ++ [32]) cur = scan l cur false := by
  induction l with
  | nil => intro cur _; simp [scanB, scan]
  | cons c l ih =>
    intro cur h
    have ih' := fun cur => ih cur (fun x hx => h x (by simp [hx]))
    rw [List.cons_append, scanB, scan]
    by_cases h32 : c = 32
    · subst h32
      rw [if_pos rfl, if_neg (by decide), ih']
      rfl
    · have ht : isTok c = true := (h c (by simp)).resolve_left h32
      rw [if_neg h32, if_pos ht, ih']
theorem scan_clear (l : List UInt8) : (∀ cur, scan (clear l false) cur false = scan l cur false) ∧ scan (clear l true) [] false = scan l [] true := by
  induction l with
  | nil => exact ⟨fun _ => rfl, rfl⟩
  | cons c l ih =>
    refine ⟨fun cur => ?_, ?_⟩
    · rw [clear, scan]
      by_cases h10 : c = 10
      · subst h10
        have e1 : clearB 10 false = 32 := rfl
        have e2 : inNext 10 false = false := rfl
        rw [e1, e2, if_neg (by decide), scan, if_neg (by decide)]
        show emit cur (scan (clear l false) [] false) = emit cur (scan l [] false)
        rw [ih.1]
      · by_cases h35 : c = 35
        · subst h35
          have e1 : clearB 35 false = 32 := rfl
          have e2 : inNext 35 false = true := rfl
          rw [e1, e2, if_neg (by decide), scan, if_neg (by decide)]
          show emit cur (scan (clear l true) [] false) = emit cur (scan l [] true)
          rw [ih.2]
        · have e2 : inNext c false = false := by unfold inNext; rw [if_neg h10, if_neg h35]
          have e1 : clearB c false = c := by unfold clearB; rw [e2, if_neg (by simp [h10])]
          rw [e1, e2, scan, ih.1]
          by_cases ht : isTok c = true
          · rw [if_pos ht, if_pos ht]
          · rw [if_neg ht, if_neg ht]
            have h35' : decide (c.toNat = 35) = false := by
              rw [decide_eq_false_iff_not]; intro e; exact h35 (UInt8.toNat_inj.1 (by rw [e]; rfl))
            rw [h35', ih.1]
    · have e0 : ∀ X : List UInt8, scan (32 :: X) [] false = scan X [] false := fun X => by
        rw [scan, if_neg (by decide)]; rfl
      rw [clear]
      by_cases h10 : c = 10
      · subst h10
        have e1 : clearB 10 true = 32 := rfl
        have e2 : inNext 10 true = false := rfl
        rw [e1, e2, e0, ih.1]
        show _ = (if (10 : UInt8).toNat = 10 then scan l [] false else scan l [] true)
        rw [if_pos (by decide)]
      · have e2 : inNext c true = true := by unfold inNext; rw [if_neg h10]; split <;> rfl
        have e1 : clearB c true = 32 := by unfold clearB; rw [if_pos (.inl e2)]
        have n10 : ¬ c.toNat = 10 := fun e => h10 (UInt8.toNat_inj.1 (by rw [e]; rfl))
        rw [e1, e2, e0, ih.2]
        show _ = (if c.toNat = 10 then scan l [] false else scan l [] true)
        rw [if_neg n10]
theorem tokens_clear (l : List UInt8) : scanB (clear l false ++ [32]) [] = tokens l := by
  rw [scanB_eq _ _ (clear_ok l false), (scan_clear l).1]; rfl

/-- Words with a blank ahead of each, and one behind. -/
def pad : List (List UInt8) → List UInt8
  | [] => [32]
  | w :: ws => 32 :: (w ++ pad ws)
def NoSp (t : List UInt8) : Prop := ∀ c ∈ t, c ≠ 32
theorem pad_head (ws : List (List UInt8)) : ∃ r, pad ws = 32 :: r := by cases ws with | nil => exact ⟨_, rfl⟩ | cons w ws => exact ⟨_, rfl⟩
theorem prefix_word (t : List UInt8) : ∀ (w : List UInt8) (r : List UInt8), NoSp t → NoSp w → (t ++ [32]).isPrefixOf (w ++ 32 :: r) = decide (t = w) := by
  induction t with
  | nil =>
    intro w r _ hw
    cases w with
    | nil => simp [List.isPrefixOf]
    | cons c w =>
      have := hw c (by simp)
      simp [List.isPrefixOf]
      exact fun e => this e.symm
  | cons a t ih =>
    intro w r ht hw
    cases w with
    | nil =>
      have := ht a (by simp)
      simp [List.isPrefixOf, this]
    | cons c w =>
      rw [List.cons_append, List.cons_append, List.isPrefixOf, ih w r (fun x hx => ht x (by simp [hx])) (fun x hx => hw x (by simp [hx]))]
      by_cases h : a = c
      · subst h; simp
      · simp [h]
theorem holdsR_skip (w : List UInt8) (s u : List UInt8) (hw : NoSp w) : holdsR (w ++ s) (32 :: u) = holdsR s (32 :: u) := by
  induction w with
  | nil => rfl
  | cons c w ih =>
    have hc := hw c (by simp)
    rw [List.cons_append, holdsR, ih (fun x hx => hw x (by simp [hx]))]
    have : (32 : UInt8) ≠ c := fun e => hc e.symm
    simp [List.isPrefixOf, this]
theorem holds_pad (ws : List (List UInt8)) (t : List UInt8) (ht : NoSp t) (hws : ∀ w ∈ ws, NoSp w) : holdsR (pad ws) (32 :: (t ++ [32])) = decide (t ∈ ws) := by
  induction ws with
  | nil => cases t <;> simp [pad, holdsR, List.isPrefixOf]
  | cons w ws ih =>
    obtain ⟨r, hr⟩ := pad_head ws
    have hw := hws w (by simp)
    rw [pad, holdsR, holdsR_skip w _ _ hw, ih (fun x hx => hws x (by simp [hx]))]
    have e1 : (32 :: (t ++ [32])).isPrefixOf (32 :: (w ++ pad ws)) = decide (t = w) := by
      rw [List.isPrefixOf, hr, prefix_word t w r ht hw]; simp
    rw [e1]
    by_cases h : t = w <;> simp [h]
theorem noSp_of_good {t : List UInt8} (h : ∀ c ∈ t, isTok c = true) : NoSp t := fun c hc e => by
  have := h c hc; subst e; exact absurd this (by decide)
def headWords : List (List UInt8) := [kIn, kLet, kSet, kOut]
theorem holds_heads (t : List UInt8) (h : NoSp t) : holdsW (pad headWords) t = decide (t = kIn ∨ t = kLet ∨ t = kSet ∨ t = kOut) := by
  have := holds_pad headWords t h (by intro w hw; simp [headWords] at hw; rcases hw with rfl | rfl | rfl | rfl <;> (unfold NoSp; decide))
  unfold holdsW
  rw [show ([32] ++ t ++ [32] : List UInt8) = 32 :: (t ++ [32]) from rfl, this]
  simp [headWords]

end Go.Proofs.YtcgkndfnhjcdnaaGreat.Pl
