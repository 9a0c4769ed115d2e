/- Joined: Law2 PlainText PlainRead PlainBand PlainPrint PlainRef PlainTok. -/
import Derived.Test.YtbbdkgfdeghdfaaGreatJ11
/-
  Contracts of the statement's own lent, mark.
-/
namespace Go.Proofs.YtbbdkgfdeghdfaaGreat
open Go.RowKit

theorem lent_get (home : List Int) (i : Nat) (hi : i < home.length) : (lendCells home 2)[i]? = some (.int .i64 home[i]) := by
  unfold lendCells
  rw [List.getElem?_append_left (by simpa using hi), List.getElem?_map, List.getElem?_eq_getElem hi]; rfl
theorem lent_ink (home : List Int) (i : Nat) (h1 : home.length ≤ i) (h2 : i < home.length + 2) : (lendCells home 2)[i]? = some (.int .i64 1099511627783) := by
  unfold lendCells
  rw [List.getElem?_append_right (by simpa using h1)]
  simp only [List.length_map, List.replicate, Nat.sub_self, List.append_nil]
  have : i - home.length = 0 ∨ i - home.length = 1 := by omega
  rcases this with h | h <;> rw [h] <;> rfl
theorem lent_front {w : World} {g : Nat} {home : List Int} (h : w.heap[g]? = some (.cells (lendCells home 2).toArray 3 (0, 0))) (cap : Nat) : IntsAt w (.slice (some ⟨g, 0, none⟩) home.length cap) home := by
  refine ⟨_, _, rfl, fun i hi => ⟨g, 0, rfl, ?_⟩⟩
  rw [Nat.zero_add, cellsOf h, List.getElem?_toArray, lent_get home i hi, List.getD_eq_getElem?_getD, List.getElem?_eq_getElem hi]; rfl

set_option maxRecDepth 100000 in
set_option maxHeartbeats 1000000 in
theorem lent_law (home : List Int) (vh : Value) (g : Nat) (w : World) (hh : IntsAt w vh home) (hg : w.heap[g]? = some (.cells (lendCells home 2).toArray 3 (0, 0))) (hl : home.length ≤ 17592186043904) :
    Calls Tryz.prog 22 #[.slice (some ⟨g, 0, none⟩) (home.length + 2) (home.length + 2), vh] w fun e w' => e = .returned (.bool true) ∧ ∃ n, w' = w.drewN n := by
  have hS := hide (sameInts_law home (.slice (some ⟨g, 0, none⟩) home.length (home.length + 2)) vh w (lent_front hg _) hh (by unfold maxLen; omega))
  have HG := hide hg
  obtain ⟨a8, p8, rfl, _⟩ := hh
  clear hg
  go_enter Tryz.func22, Tryz.ntmps22
  go_wp2_with fail
  refine (unhide hS).mono ?_
  rintro e w1 ⟨rfl, m, hw1⟩
  rw [hw1]
  clear hw1 w1 hS
  go_wp2
  go_loopw [6] (fun i wr => ∃ (j n : Nat), j ≤ 2 ∧ i = .int .i64 ((home.length : Int) + j) ∧ wr = w.drewN n) (fun i _ => home.length + 2 - (intOf i).toNat)
  case atStart => exact ⟨0, m, by omega, by simp, rfl⟩
  case round =>
    obtain ⟨j, n, hj, rfl, rfl⟩ := hrel
    by_cases hlt : j < 2
    · have hc : (w.drewN n).cell? ⟨g, home.length + j, none⟩ = some (.int .i64 1099511627783) := by
        have : w.cell? ⟨g, home.length + j, none⟩ = some (.int .i64 1099511627783) := by
          rw [cellsOf (unhide HG), List.getElem?_toArray]; exact lent_ink home _ (by omega) (by omega)
        exact this
      go_wp2
      go_roundw
      case rel => exact ⟨j + 1, _, by omega, by go_num, rfl⟩
      case measure => simp [intOf]; omega
    · go_wp2
      go_ret
      exact ⟨rfl, _, rfl⟩
end Go.Proofs.YtbbdkgfdeghdfaaGreat

/-
  How the program reads a whole text of the high form, as plain functions.
-/
namespace Go.Proofs.YtbbdkgfdeghdfaaGreat.Pl

def inputR (r : RdM) : Bool × RdM :=
  match r.newName with
  | none => (false, r)
  | some name =>
    match r.skip.num (-1000000000) 1000000000 with
    | none => (false, r.skip)
    | some lo =>
      match r.skip.skip.num lo 1000000000 with
      | none => (false, r.skip.skip)
      | some hi => (true, ((r.skip.skip.skip.addIn (lo, hi)).addNode ⟨1, 0, 0, 0, r.ins.length, []⟩).addEnt name 0 r.nodes.length)
def inputsR : Nat → Bool → RdM → Bool × RdM
  | 0, _, r => (true, r)
  | k + 1, any, r =>
    if r.peek = kIn then
      match inputR r.skip with
      | (false, r1) => (false, r1)
      | (true, r1) => inputsR k true r1
    else (any, r)
def namedR (r : RdM) : Option (List UInt8 × Int) × RdM :=
  match r.newName with
  | none => (none, r)
  | some name =>
    match read 600 false r.skip with
    | (none, r1) => (none, r1)
    | (some n, r1) => (some (name, n), r1)
def letsR : Nat → RdM → Bool × RdM
  | 0, r => (true, r)
  | k + 1, r =>
    if r.peek = kLet then
      match namedR r.skip with
      | (none, r1) => (false, r1)
      | (some p, r1) => letsR k (r1.addEnt p.1 0 p.2)
    else (true, r)
def outsR : Nat → Bool → RdM → Bool × RdM
  | 0, _, r => (decide (r.toks.length ≤ r.pos), r)
  | k + 1, any, r =>
    if any = true ∧ r.toks.length ≤ r.pos then (true, r)
    else if r.peek = kOut then
      match namedR r.skip with
      | (none, r1) => (false, r1)
      | (some p, r1) => outsR k true ((r1.addEnt p.1 2 p.2).addOut p.2)
    else (false, r)
def textR (r : RdM) : Bool × RdM :=
  match inputsR 4 false r with
  | (false, r1) => (false, r1)
  | (true, r1) =>
    match letsR 16 r1 with
    | (false, r2) => (false, r2)
    | (true, r2) => outsR 4 false r2

theorem Ok.addEnt {s : Nat} {r : RdM} (h : Ok (s + 1) r) (t : List UInt8) (k n : Int) : Ok s (r.addEnt t k n) := by
  refine ⟨?_, h.pos, h.toks⟩
  have := h.size
  simp [RdM.sz, RdM.addEnt] at *; omega
theorem Ok.addOut {s : Nat} {r : RdM} (h : Ok (s + 1) r) (n : Int) : Ok s (r.addOut n) := by
  refine ⟨?_, h.pos, h.toks⟩
  have := h.size
  simp [RdM.sz, RdM.addOut] at *; omega
theorem Ok.addIn {s : Nat} {r : RdM} (h : Ok (s + 1) r) (p : Int × Int) : Ok s (r.addIn p) := by
  refine ⟨?_, h.pos, h.toks⟩
  have := h.size
  simp [RdM.sz, RdM.addIn] at *; omega
theorem newName_some {r : RdM} {t : List UInt8} (h : r.newName = some t) : r.peek ≠ [] ∧ t = r.peek := by
  unfold RdM.newName at h
  split at h
  · rename_i hc
    cases h
    refine ⟨?_, rfl⟩
    intro e; rw [e] at hc; exact absurd hc.1 (by decide)
  · cases h
theorem skip_same (r : RdM) : r.skip.nodes = r.nodes ∧ r.skip.ins = r.ins ∧ r.skip.ents = r.ents ∧ r.skip.outs = r.outs ∧ r.skip.toks = r.toks := by
  unfold RdM.skip; split <;> exact ⟨rfl, rfl, rfl, rfl, rfl⟩
theorem inputR_ok {s : Nat} {r : RdM} (h : Ok s r) : Ok s (inputR r).2 := by
  unfold inputR
  split
  · exact h
  · rename_i name hn
    have h1 := h.step (newName_some hn).1
    split
    · exact h1.less (by omega)
    · rename_i lo hlo
      have h2 := h1.step (num_some hlo).1
      split
      · exact h2.less (by omega)
      · rename_i hi hhi
        have h3 := h2.step (num_some hhi).1
        exact ((h3.addIn _).addNode _).addEnt _ _ _
theorem namedR_keeps (r : RdM) : Keeps r (namedR r).2 := by
  unfold namedR
  split
  · exact Keeps.refl r
  · have h := read_keeps 600 false r.skip
    split
    · rename_i e; rw [e] at h; exact (Keeps.skip r).trans h
    · rename_i e; rw [e] at h; exact (Keeps.skip r).trans h
theorem namedR_more {s : Nat} {r r1 : RdM} {p : List UInt8 × Int} (h : Ok s r) (e : namedR r = (some p, r1)) : Ok (s + 1) r1 := by
  unfold namedR at e
  split at e
  · cases e
  · rename_i name hn
    have h1 := h.step (newName_some hn).1
    have hk := read_keeps 600 false r.skip
    split at e
    · cases e
    · rename_i e2
      rw [e2] at hk
      cases e
      exact hk.ok _ h1

end Go.Proofs.YtbbdkgfdeghdfaaGreat.Pl

/-
  What the program reads out of a text of the high or the low form, and what it comes to, as plain functions.
-/
namespace Go.Proofs.YtbbdkgfdeghdfaaGreat.Pl

def startR (l : List UInt8) : RdM := ⟨[], [], [], tokens l, 0, []⟩
/-- The error and the place, of a text that was read to its end (right) or not. -/
def resultR (right : Bool) (r : RdM) : Int × Int :=
  if right = true then (if isBigW r.ins r.nodes = true then (3, 0) else (0, 0)) else (2, r.pos)
/-- The error, the place, the reader behind the text. -/
def readWith (T : Bool × RdM) (l : List UInt8) : Int × Int × RdM :=
  if 6000 < l.length then (1, 0, startR l) else ((resultR T.1 T.2).1, (resultR T.1 T.2).2, T.2)
def readHigh (l : List UInt8) : Int × Int × RdM := readWith (textR (startR l)) l
/-- The error and the values of the outs. -/
def toldR (en : Int) (r : RdM) (home : List Int) : Int × List Int :=
  if en ≠ 0 then (en, []) else if isHomeB r.ins home = true then (0, runW r.nodes r.outs home) else (4, [])
def runHigh (l : List UInt8) (home : List Int) : Int × List Int := toldR (readHigh l).1 (readHigh l).2.2 home
theorem readWith_zero (T : Bool × RdM) (l : List UInt8) (h : (readWith T l).1 = 0) : l.length ≤ 6000 ∧ (readWith T l).2.2 = T.2 := by
  unfold readWith at *
  split at h
  · simp at h
  · rename_i hl; rw [if_neg hl]; exact ⟨by omega, rfl⟩
theorem tokens_len_aux (l : List UInt8) : ∀ (cur : List UInt8) (rem : Bool), (∀ t ∈ scan l cur rem, t.length ≤ cur.length + l.length) := by
  induction l with
  | nil =>
    intro cur rem t ht
    simp only [scan, emit] at ht
    split at ht
    · simp at ht
    · simp at ht; subst ht; simp
  | cons c l ih =>
    intro cur rem t ht
    cases rem with
    | true =>
      rw [scan] at ht
      split at ht
      · have := ih _ _ t ht; simp; omega
      · have := ih _ _ t ht; simp; omega
    | false =>
      rw [scan] at ht
      split at ht
      · have := ih _ _ t ht; simp at this ⊢; omega
      · unfold emit at ht
        split at ht
        · have := ih _ _ t ht; simp at this ⊢; omega
        · rcases List.mem_cons.1 ht with rfl | ht
          · omega
          · have := ih _ _ t ht; simp at this ⊢; omega
theorem start_ok (l : List UInt8) (h : l.length ≤ 6000) : Ok 0 (startR l) :=
  ⟨by simp [RdM.sz, startR], by simp [startR], fun t ht => by have := tokens_len_aux l [] false t ht; simp at this; omega⟩

end Go.Proofs.YtbbdkgfdeghdfaaGreat.Pl

/-
  The text of one table, what the program reads out of it, as plain lists.
-/
namespace Go.Proofs.YtbbdkgfdeghdfaaGreat.Pl

def GoodT (t : List UInt8) : Prop := t ≠ [] ∧ ∀ c ∈ t, isTok c = true
end Go.Proofs.YtbbdkgfdeghdfaaGreat.Pl

/-
  What is printed, as a plain list of bytes; its tokens are those of the text, also with remarks and other spaces.
-/
namespace Go.Proofs.YtbbdkgfdeghdfaaGreat.Pl

def gapOf (t : List UInt8) : UInt8 := if t = kIn ∨ t = kLet ∨ t = kSet ∨ t = kOut then 10 else 32
def linesFrom : List (List UInt8) → List UInt8
  | [] => []
  | t :: r => gapOf t :: (t ++ linesFrom r)
def linesOf : List (List UInt8) → List UInt8
  | [] => []
  | t :: r => t ++ linesFrom r ++ [10]
/-- All but the last line feed. -/
def linesHead : List (List UInt8) → List UInt8
  | [] => []
  | t :: r => t ++ linesFrom r
theorem linesOf_eq (l : List (List UInt8)) (h : l ≠ []) : linesOf l = linesHead l ++ [10] := by
  cases l with
  | nil => exact absurd rfl h
  | cons t r => rfl
theorem linesFrom_snoc (l : List (List UInt8)) (t : List UInt8) : linesFrom (l ++ [t]) = linesFrom l ++ gapOf t :: t := by
  induction l with
  | nil => simp [linesFrom]
  | cons u r ih => simp [linesFrom, ih]
theorem linesHead_snoc (l : List (List UInt8)) (t : List UInt8) (h : l ≠ []) : linesHead (l ++ [t]) = linesHead l ++ [gapOf t] ++ t := by
  cases l with
  | nil => exact absurd rfl h
  | cons u r => simp [linesHead, linesFrom_snoc]
def printWith (R : Int × Int × RdM) (l : List UInt8) : List UInt8 × Int := if R.1 ≠ 0 then ([], R.1) else (linesOf (tokens l), 0)
def printHigh (l : List UInt8) : List UInt8 × Int := printWith (readHigh l) l
theorem scan_good (l : List UInt8) : ∀ (cur : List UInt8) (rem : Bool), (∀ c ∈ cur, isTok c = true) → ∀ t ∈ scan l cur rem, GoodT t := by
  have he : ∀ (cur : List UInt8) (ts : List (List UInt8)), (∀ c ∈ cur, isTok c = true) → (∀ t ∈ ts, GoodT t) → ∀ t ∈ emit cur ts, GoodT t := by
    intro cur ts hc hts t ht
    unfold emit at ht
    split at ht
    · exact hts t ht
    · rename_i hne
      rcases List.mem_cons.1 ht with rfl | ht
      · exact ⟨hne, hc⟩
      · exact hts t ht
  induction l with
  | nil => intro cur rem hc; rw [scan]; exact he cur [] hc (by simp)
  | cons c l ih =>
    intro cur rem hc
    cases rem with
    | true => rw [scan]; split <;> exact ih _ _ hc
    | false =>
      rw [scan]
      split
      · rename_i ht
        refine ih _ _ ?_
        intro x hx
        rcases List.mem_append.1 hx with hx | hx
        · exact hc x hx
        · rw [List.mem_singleton] at hx; subst hx; exact ht
      · exact he cur _ hc (ih _ _ (by simp))
theorem tokens_good (l : List UInt8) : ∀ t ∈ tokens l, GoodT t := scan_good l [] false (by simp)
/-- How long the tokens are together, one more for each. -/
def wide (l : List (List UInt8)) : Nat := (l.map fun t => t.length + 1).sum
theorem scan_wide (l : List UInt8) : ∀ (cur : List UInt8) (rem : Bool), wide (scan l cur rem) ≤ cur.length + l.length + 1 := by
  have he : ∀ (cur : List UInt8) (ts : List (List UInt8)), wide (emit cur ts) ≤ cur.length + 1 + wide ts := by
    intro cur ts; unfold emit; split
    · omega
    · simp [wide]
  induction l with
  | nil => intro cur rem; rw [scan]; have := he cur []; simp [wide] at *; omega
  | cons c l ih =>
    intro cur rem
    cases rem with
    | true => rw [scan]; split <;> (have := ih cur; simp only [List.length_cons]; first | (have := this false; omega) | (have := this true; omega))
    | false =>
      rw [scan]
      split
      · have := ih (cur ++ [c]) false; simp at this ⊢; omega
      · have h1 := he cur (scan l [] (decide (c.toNat = 35)))
        have h2 := ih [] (decide (c.toNat = 35))
        simp at h2 ⊢; omega
theorem linesFrom_len (l : List (List UInt8)) : (linesFrom l).length = wide l := by
  induction l with
  | nil => rfl
  | cons t r ih => simp [linesFrom, wide] at *; omega
theorem linesHead_len (l : List (List UInt8)) : (linesHead l).length ≤ wide l := by
  cases l with
  | nil => simp [linesHead]
  | cons t r => have := linesFrom_len r; simp [linesHead, wide] at *; omega
theorem wide_take (l : List (List UInt8)) (k : Nat) : wide (l.take k) ≤ wide l := by
  have : wide (l.take k) + wide (l.drop k) = wide l := by
    unfold wide; rw [← List.sum_append, ← List.map_append, List.take_append_drop]
  omega
theorem isTok_of (c : UInt8) (h1 : c ≠ 32) (h2 : c ≠ 10) (h3 : c ≠ 35) : isTok c = true := by
  have n1 : c.toNat ≠ 32 := fun h => h1 (UInt8.toNat_inj.1 (by rw [h]; rfl))
  have n2 : c.toNat ≠ 10 := fun h => h2 (UInt8.toNat_inj.1 (by rw [h]; rfl))
  have n3 : c.toNat ≠ 35 := fun h => h3 (UInt8.toNat_inj.1 (by rw [h]; rfl))
  simp [isTok, n1, n2, n3]
end Go.Proofs.YtbbdkgfdeghdfaaGreat.Pl

/-
  The reference's small functions on names and tokens, as plain functions.
-/
namespace Go.Proofs.YtbbdkgfdeghdfaaGreat.Pl

structure DeclM where
  name : List UInt8
  kind : Nat
  lo : Int
  hi : Int
  pos : Int
def findFrom : List DeclM → List UInt8 → Int → Int
  | [], _, _ => -1
  | d :: l, t, i => if d.name = t then i else findFrom l t (i + 1)
def findD (l : List DeclM) (t : List UInt8) : Int := findFrom l t 0
def countD : List DeclM → Nat → Nat
  | [], _ => 0
  | d :: l, k => (if d.kind = k then 1 else 0) + countD l k
def within (t : List UInt8) (lo hi : Int) : Bool := (number t).2 && decide (lo ≤ (number t).1) && decide ((number t).1 ≤ hi)
/-- Does t stand somewhere in s? -/
def holdsR : List UInt8 → List UInt8 → Bool
  | [], t => t.isEmpty
  | c :: r, t => t.isPrefixOf (c :: r) || holdsR r t
def holdsW (s w : List UInt8) : Bool := holdsR s ([32] ++ w ++ [32])
theorem isPrefixOf_take (t s : List UInt8) : t.isPrefixOf s = (s.take t.length == t) := by
  rw [Bool.eq_iff_iff, List.isPrefixOf_iff_prefix, beq_iff_eq, List.prefix_iff_eq_take]
  exact eq_comm
theorem holdsR_step (s t : List UInt8) (i : Nat) (h : i < s.length) : holdsR (s.drop i) t = (((s.drop i).take t.length == t) || holdsR (s.drop (i + 1)) t) := by
  rw [← isPrefixOf_take]
  conv => lhs; rw [List.drop_eq_getElem_cons h]
  conv => rhs; rw [List.drop_eq_getElem_cons h]
  rfl
theorem holdsR_short (s t : List UInt8) (h : s.length < t.length) : holdsR s t = false := by
  induction s with
  | nil => cases t with
    | nil => simp at h
    | cons c t => rfl
  | cons c s ih =>
    rw [holdsR, ih (by simp at h; omega), Bool.or_false, isPrefixOf_take]
    rw [beq_eq_false_iff_ne]
    intro e
    have := congrArg List.length e
    rw [List.length_take] at this
    omega
theorem findFrom_hit (l : List DeclM) (t : List UInt8) (k : Nat) (h : k < l.length) (he : l[k].name = t) : findFrom (l.drop k) t k = k := by
  rw [List.drop_eq_getElem_cons h, findFrom, if_pos he]
theorem findFrom_miss (l : List DeclM) (t : List UInt8) (k : Nat) (h : k < l.length) (he : l[k].name ≠ t) : findFrom (l.drop k) t k = findFrom (l.drop (k + 1)) t ((k : Int) + 1) := by
  rw [List.drop_eq_getElem_cons h, findFrom, if_neg he]
theorem findFrom_end (l : List DeclM) (t : List UInt8) (k : Nat) (h : l.length ≤ k) (i : Int) : findFrom (l.drop k) t i = -1 := by
  rw [List.drop_eq_nil_of_le h]; rfl
theorem countD_step (l : List DeclM) (k : Nat) (h : k < l.length) (c : Nat) : countD (l.drop k) c = (if l[k].kind = c then 1 else 0) + countD (l.drop (k + 1)) c := by
  rw [List.drop_eq_getElem_cons h, countD]
theorem countD_le (l : List DeclM) (c : Nat) : countD l c ≤ l.length := by
  induction l with
  | nil => simp [countD]
  | cons d l ih => rw [countD, List.length_cons]; split <;> omega
theorem findFrom_bd (l : List DeclM) (t : List UInt8) : ∀ i : Int, findFrom l t i = -1 ∨ (i ≤ findFrom l t i ∧ findFrom l t i < i + l.length) := by
  induction l with
  | nil => intro i; exact .inl rfl
  | cons d l ih =>
    intro i
    rw [findFrom]
    split
    · right; simp; omega
    · rcases ih (i + 1) with h | h
      · exact .inl h
      · right; simp; omega

end Go.Proofs.YtbbdkgfdeghdfaaGreat.Pl

/-
  How the reference finds the tokens: remarks and line feeds are blanked, then the text is parted at blanks. They are the same tokens. And which words stand in a list of words.
-/
namespace Go.Proofs.YtbbdkgfdeghdfaaGreat.Pl

/-- Behind the byte c: is a remark open? -/
def inNext (c : UInt8) (rem : Bool) : Bool := if c = 10 then false else if c = 35 then true else rem
def clearB (c : UInt8) (rem : Bool) : UInt8 := if inNext c rem = true ∨ c = 10 then 32 else c
def clear : List UInt8 → Bool → List UInt8
  | [], _ => []
  | c :: r, rem => clearB c rem :: clear r (inNext c rem)
theorem clear_len (l : List UInt8) : ∀ rem, (clear l rem).length = l.length := by
  induction l with
  | nil => intro _; rfl
  | cons c l ih => intro rem; simp [clear, ih]
def scanB : List UInt8 → List UInt8 → List (List UInt8)
  | [], _ => []
  | c :: r, cur => if c = 32 then emit cur (scanB r []) else scanB r (cur ++ [c])
theorem clear_ok (l : List UInt8) : ∀ rem, ∀ c ∈ clear l rem, c = 32 ∨ isTok c = true := by
  induction l with
  | nil => intro _ c hc; simp [clear] at hc
  | cons c l ih =>
    intro rem x hx
    rw [clear] at hx
    rcases List.mem_cons.1 hx with rfl | hx
    · unfold clearB
      by_cases h : inNext c rem = true ∨ c = 10
      · rw [if_pos h]; exact .inl rfl
      · rw [if_neg h]
        by_cases h32 : c = 32
        · exact .inl h32
        · refine .inr (isTok_of c h32 (fun e => h (.inr e)) ?_)
          intro e
          apply h
          left
          subst e
          rfl
    · exact ih _ x hx
theorem scanB_eq (l : List UInt8) : ∀ cur, (∀ c ∈ l, c = 32 ∨ isTok c = true) → scanB (l ++ [32]) cur = scan l cur false := by
  induction l with
  | nil => intro cur _; simp [scanB, scan]
  | cons c l ih =>
    intro cur h
    have ih' := fun cur => ih cur (fun x hx => h x (by simp [hx]))
    rw [List.cons_append, scanB, scan]
    by_cases h32 : c = 32
    · subst h32
      rw [if_pos rfl, if_neg (by decide), ih']
      rfl
    · have ht : isTok c = true := (h c (by simp)).resolve_left h32
      rw [if_neg h32, if_pos ht, ih']
theorem scan_clear (l : List UInt8) : (∀ cur, scan (clear l false) cur false = scan l cur false) ∧ scan (clear l true) [] false = scan l [] true := by
  induction l with
  | nil => exact ⟨fun _ => rfl, rfl⟩
  | cons c l ih =>
    refine ⟨fun cur => ?_, ?_⟩
    · rw [clear, scan]
      by_cases h10 : c = 10
      · subst h10
        have e1 : clearB 10 false = 32 := rfl
        have e2 : inNext 10 false = false := rfl
        rw [e1, e2, if_neg (by decide), scan, if_neg (by decide)]
        show emit cur (scan (clear l false) [] false) = emit cur (scan l [] false)
        rw [ih.1]
      · by_cases h35 : c = 35
        · subst h35
          have e1 : clearB 35 false = 32 := rfl
          have e2 : inNext 35 false = true := rfl
          rw [e1, e2, if_neg (by decide), scan, if_neg (by decide)]
          show emit cur (scan (clear l true) [] false) = emit cur (scan l [] true)
          rw [ih.2]
        · have e2 : inNext c false = false := by unfold inNext; rw [if_neg h10, if_neg h35]
          have e1 : clearB c false = c := by unfold clearB; rw [e2, if_neg (by simp [h10])]
          rw [e1, e2, scan, ih.1]
          by_cases ht : isTok c = true
          · rw [if_pos ht, if_pos ht]
          · rw [if_neg ht, if_neg ht]
            have h35' : decide (c.toNat = 35) = false := by
              rw [decide_eq_false_iff_not]; intro e; exact h35 (UInt8.toNat_inj.1 (by rw [e]; rfl))
            rw [h35', ih.1]
    · have e0 : ∀ X : List UInt8, scan (32 :: X) [] false = scan X [] false := fun X => by
        rw [scan, if_neg (by decide)]; rfl
      rw [clear]
      by_cases h10 : c = 10
      · subst h10
        have e1 : clearB 10 true = 32 := rfl
        have e2 : inNext 10 true = false := rfl
        rw [e1, e2, e0, ih.1]
        show _ = (if (10 : UInt8).toNat = 10 then scan l [] false else scan l [] true)
        rw [if_pos (by decide)]
      · have e2 : inNext c true = true := by unfold inNext; rw [if_neg h10]; split <;> rfl
        have e1 : clearB c true = 32 := by unfold clearB; rw [if_pos (.inl e2)]
        have n10 : ¬ c.toNat = 10 := fun e => h10 (UInt8.toNat_inj.1 (by rw [e]; rfl))
        rw [e1, e2, e0, ih.2]
        show _ = (if c.toNat = 10 then scan l [] false else scan l [] true)
        rw [if_neg n10]
theorem tokens_clear (l : List UInt8) : scanB (clear l false ++ [32]) [] = tokens l := by
  rw [scanB_eq _ _ (clear_ok l false), (scan_clear l).1]; rfl

/-- Words with a blank ahead of each, and one behind. -/
def pad : List (List UInt8) → List UInt8
  | [] => [32]
  | w :: ws => 32 :: (w ++ pad ws)
def NoSp (t : List UInt8) : Prop := ∀ c ∈ t, c ≠ 32
theorem pad_head (ws : List (List UInt8)) : ∃ r, pad ws = 32 :: r := by cases ws with | nil => exact ⟨_, rfl⟩ | cons w ws => exact ⟨_, rfl⟩
theorem prefix_word (t : List UInt8) : ∀ (w : List UInt8) (r : List UInt8), NoSp t → NoSp w → (t ++ [32]).isPrefixOf (w ++ 32 :: r) = decide (t = w) := by
  induction t with
  | nil =>
    intro w r _ hw
    cases w with
    | nil => simp [List.isPrefixOf]
    | cons c w =>
      have := hw c (by simp)
      simp [List.isPrefixOf]
      exact fun e => this e.symm
  | cons a t ih =>
    intro w r ht hw
    cases w with
    | nil =>
      have := ht a (by simp)
      simp [List.isPrefixOf, this]
    | cons c w =>
      rw [List.cons_append, List.cons_append, List.isPrefixOf, ih w r (fun x hx => ht x (by simp [hx])) (fun x hx => hw x (by simp [hx]))]
      by_cases h : a = c
      · subst h; simp
      · simp [h]
theorem holdsR_skip (w : List UInt8) (s u : List UInt8) (hw : NoSp w) : holdsR (w ++ s) (32 :: u) = holdsR s (32 :: u) := by
  induction w with
  | nil => rfl
  | cons c w ih =>
    have hc := hw c (by simp)
    rw [List.cons_append, holdsR, ih (fun x hx => hw x (by simp [hx]))]
    have : (32 : UInt8) ≠ c := fun e => hc e.symm
    simp [List.isPrefixOf, this]
theorem holds_pad (ws : List (List UInt8)) (t : List UInt8) (ht : NoSp t) (hws : ∀ w ∈ ws, NoSp w) : holdsR (pad ws) (32 :: (t ++ [32])) = decide (t ∈ ws) := by
  induction ws with
  | nil => cases t <;> simp [pad, holdsR, List.isPrefixOf]
  | cons w ws ih =>
    obtain ⟨r, hr⟩ := pad_head ws
    have hw := hws w (by simp)
    rw [pad, holdsR, holdsR_skip w _ _ hw, ih (fun x hx => hws x (by simp [hx]))]
    have e1 : (32 :: (t ++ [32])).isPrefixOf (32 :: (w ++ pad ws)) = decide (t = w) := by
      rw [List.isPrefixOf, hr, prefix_word t w r ht hw]; simp
    rw [e1]
    by_cases h : t = w <;> simp [h]
theorem noSp_of_good {t : List UInt8} (h : ∀ c ∈ t, isTok c = true) : NoSp t := fun c hc e => by
  have := h c hc; subst e; exact absurd this (by decide)
def headWords : List (List UInt8) := [kIn, kLet, kSet, kOut]
theorem holds_heads (t : List UInt8) (h : NoSp t) : holdsW (pad headWords) t = decide (t = kIn ∨ t = kLet ∨ t = kSet ∨ t = kOut) := by
  have := holds_pad headWords t h (by intro w hw; simp [headWords] at hw; rcases hw with rfl | rfl | rfl | rfl <;> (unfold NoSp; decide))
  unfold holdsW
  rw [show ([32] ++ t ++ [32] : List UInt8) = 32 :: (t ++ [32]) from rfl, this]
  simp [headWords]

end Go.Proofs.YtbbdkgfdeghdfaaGreat.Pl
