/- Joined: Law2 PlainText PlainLow PlainRead PlainBand PlainPrint PlainRef. -/
import Derived.Test.YtfaljekgpnbmiaaGreatL11
/-
  Contracts of the statement's own lent, mark.
-/
namespace Go.Proofs.YtfaljekgpnbmiaaGreat
open Go.RowKit

theorem lent_get (home : List Int) (i : Nat) (hi : i < home.length) : (lendCells home 2)[i]? = some (.int .i64 home[i]) := by
  unfold lendCells
  rw [List.getElem?_append_left (by simpa using hi), List.getElem?_map, List.getElem?_eq_getElem hi]; rfl
theorem lent_ink (home : List Int) (i : Nat) (h1 : home.length ≤ i) (h2 : i < home.length + 2) : (lendCells home 2)[i]? = some (.int .i64 1099511627783) := by
  unfold lendCells
  rw [List.getElem?_append_right (by simpa using h1)]
  simp only [List.length_map, List.replicate, Nat.sub_self, List.append_nil]
  have : i - home.length = 0 ∨ i - home.length = 1 := by omega
  rcases this with h | h <;> rw [h] <;> rfl
theorem lent_front {w : World} {g : Nat} {home : List Int} (h : w.heap[g]? = some (.cells (lendCells home 2).toArray 3 (0, 0))) (cap : Nat) : IntsAt w (.slice (some ⟨g, 0, none⟩) home.length cap) home := by
  refine ⟨_, _, rfl, fun i hi => ⟨g, 0, rfl, ?_⟩⟩
  rw [Nat.zero_add, cellsOf h, List.getElem?_toArray, lent_get home i hi, List.getD_eq_getElem?_getD, List.getElem?_eq_getElem hi]; rfl

set_option maxRecDepth 100000 in
set_option maxHeartbeats 1000000 in
theorem lent_law (home : List Int) (vh : Value) (g : Nat) (w : World) (hh : IntsAt w vh home) (hg : w.heap[g]? = some (.cells (lendCells home 2).toArray 3 (0, 0))) (hl : home.length ≤ 17592186043904) :
    Calls Tryz.prog 42 #[.slice (some ⟨g, 0, none⟩) (home.length + 2) (home.length + 2), vh] w fun e w' => e = .returned (.bool true) ∧ ∃ n, w' = w.drewN n := by
  have hS := hide (sameInts_law home (.slice (some ⟨g, 0, none⟩) home.length (home.length + 2)) vh w (lent_front hg _) hh (by unfold maxLen; omega))
  have HG := hide hg
  obtain ⟨a8, p8, rfl, _⟩ := hh
  clear hg
  go_enter Tryz.func42, Tryz.ntmps42
  go_wp2_with fail
  refine (unhide hS).mono ?_
  rintro e w1 ⟨rfl, m, hw1⟩
  rw [hw1]
  clear hw1 w1 hS
  go_wp2
  go_loopw [6] (fun i wr => ∃ (j n : Nat), j ≤ 2 ∧ i = .int .i64 ((home.length : Int) + j) ∧ wr = w.drewN n) (fun i _ => home.length + 2 - (intOf i).toNat)
  case atStart => exact ⟨0, m, by omega, by simp, rfl⟩
  case round =>
    obtain ⟨j, n, hj, rfl, rfl⟩ := hrel
    by_cases hlt : j < 2
    · have hc : (w.drewN n).cell? ⟨g, home.length + j, none⟩ = some (.int .i64 1099511627783) := by
        have : w.cell? ⟨g, home.length + j, none⟩ = some (.int .i64 1099511627783) := by
          rw [cellsOf (unhide HG), List.getElem?_toArray]; exact lent_ink home _ (by omega) (by omega)
        exact this
      go_wp2
      go_roundw
      case rel => exact ⟨j + 1, _, by omega, by go_num, rfl⟩
      case measure => simp [intOf]; omega
    · go_wp2
      go_ret
      exact ⟨rfl, _, rfl⟩
end Go.Proofs.YtfaljekgpnbmiaaGreat

/-
  How the program reads a whole text of the high form, as plain functions.
-/
namespace Go.Proofs.YtfaljekgpnbmiaaGreat.Pl

def inputR (r : RdM) : Bool × RdM :=
  match r.newName with
  | none => (false, r)
  | some name =>
    match r.skip.num (-1000000000) 1000000000 with
    | none => (false, r.skip)
    | some lo =>
      match r.skip.skip.num lo 1000000000 with
      | none => (false, r.skip.skip)
      | some hi => (true, ((r.skip.skip.skip.addIn (lo, hi)).addNode ⟨1, 0, 0, 0, r.ins.length, []⟩).addEnt name 0 r.nodes.length)
def inputsR : Nat → Bool → RdM → Bool × RdM
  | 0, _, r => (true, r)
  | k + 1, any, r =>
    if r.peek = kIn then
      match inputR r.skip with
      | (false, r1) => (false, r1)
      | (true, r1) => inputsR k true r1
    else (any, r)
theorem Ok.addEnt {s : Nat} {r : RdM} (h : Ok (s + 1) r) (t : List UInt8) (k n : Int) : Ok s (r.addEnt t k n) := by
  refine ⟨?_, h.pos, h.toks⟩
  have := h.size
  simp [RdM.sz, RdM.addEnt] at *; omega
theorem Ok.addOut {s : Nat} {r : RdM} (h : Ok (s + 1) r) (n : Int) : Ok s (r.addOut n) := by
  refine ⟨?_, h.pos, h.toks⟩
  have := h.size
  simp [RdM.sz, RdM.addOut] at *; omega
theorem Ok.addIn {s : Nat} {r : RdM} (h : Ok (s + 1) r) (p : Int × Int) : Ok s (r.addIn p) := by
  refine ⟨?_, h.pos, h.toks⟩
  have := h.size
  simp [RdM.sz, RdM.addIn] at *; omega
theorem newName_some {r : RdM} {t : List UInt8} (h : r.newName = some t) : r.peek ≠ [] ∧ t = r.peek := by
  unfold RdM.newName at h
  split at h
  · rename_i hc
    cases h
    refine ⟨?_, rfl⟩
    intro e; rw [e] at hc; exact absurd hc.1 (by decide)
  · cases h
theorem skip_same (r : RdM) : r.skip.nodes = r.nodes ∧ r.skip.ins = r.ins ∧ r.skip.ents = r.ents ∧ r.skip.outs = r.outs ∧ r.skip.toks = r.toks := by
  unfold RdM.skip; split <;> exact ⟨rfl, rfl, rfl, rfl, rfl⟩
theorem inputR_ok {s : Nat} {r : RdM} (h : Ok s r) : Ok s (inputR r).2 := by
  unfold inputR
  split
  · exact h
  · rename_i name hn
    have h1 := h.step (newName_some hn).1
    split
    · exact h1.less (by omega)
    · rename_i lo hlo
      have h2 := h1.step (num_some hlo).1
      split
      · exact h2.less (by omega)
      · rename_i hi hhi
        have h3 := h2.step (num_some hhi).1
        exact ((h3.addIn _).addNode _).addEnt _ _ _
theorem inputR_even {r : RdM} (h : r.ents.length = r.ins.length) : (inputR r).2.ents.length = (inputR r).2.ins.length := by
  unfold inputR
  split
  · exact h
  · split
    · rw [(skip_same _).2.2.1, (skip_same _).2.1]; exact h
    · split
      · rw [(skip_same _).2.2.1, (skip_same _).2.1, (skip_same _).2.2.1, (skip_same _).2.1]; exact h
      · simp only [RdM.addEnt, RdM.addNode, RdM.addIn, List.length_append, List.length_singleton]
        rw [(skip_same _).2.2.1, (skip_same _).2.1, (skip_same _).2.2.1, (skip_same _).2.1, (skip_same _).2.2.1, (skip_same _).2.1, h]
end Go.Proofs.YtfaljekgpnbmiaaGreat.Pl

/-
  How the program reads the low form, as plain functions on the reader's data.
-/
namespace Go.Proofs.YtfaljekgpnbmiaaGreat.Pl

def RdM.flag (r : RdM) : Option Int × RdM := r.knownStep 1
def quotLR (r : RdM) : Option Int × RdM :=
  match r.leaf with
  | (none, r1) => (none, r1)
  | (some a, r1) =>
    match r1.num 1 1000000 with
    | none => (none, r1)
    | some d => (some r1.nodes.length, r1.skip.addNode ⟨8, a, 0, 0, d, []⟩)
def opOf (t : List UInt8) : Option Int :=
  if t = kAdd then some 2 else if t = kSub then some 3 else if t = kMul then some 4 else if t = kFlr then some 8 else if t = kSel then some 7
  else if t = kLt then some 13 else if t = kLe then some 14 else if t = kEq then some 15 else if t = kAnd then some 16 else if t = kOr then some 17
  else if t = kNot then some 18 else none
def isFlagB (op : Int) : Bool := decide (op = 13 ∨ op = 14 ∨ op = 15 ∨ op = 16 ∨ op = 17 ∨ op = 18)
def resultLR (op : Int) (r : RdM) : Option Int × RdM :=
  if op = 4 then productR RdM.leaf r
  else if op = 8 then quotLR r
  else if op = 7 then choiceR RdM.flag RdM.leaf r
  else if op = 16 ∨ op = 17 then pairR RdM.flag op r
  else if op = 18 then oneR RdM.flag (fun a => ⟨18, a, 0, 0, 0, []⟩) r
  else pairR RdM.leaf op r
def kindOf (op : Int) : Int := if isFlagB op = true then 1 else 0
def stepR (r : RdM) : Bool × RdM :=
  match r.newName with
  | none => (false, r)
  | some name =>
    match opOf r.skip.peek with
    | none => (false, r.skip)
    | some op =>
      match resultLR op r.skip.skip with
      | (none, r1) => (false, r1)
      | (some n, r1) => (true, r1.addEnt name (kindOf op) n)
def stepsR : Nat → RdM → Bool × RdM
  | 0, r => (true, r)
  | k + 1, r =>
    if r.peek = kSet then
      match stepR r.skip with
      | (false, r1) => (false, r1)
      | (true, r1) => stepsR k r1
    else (true, r)
def outLR (r : RdM) : Bool × RdM :=
  match r.newName with
  | none => (false, r)
  | some name =>
    match r.skip.leaf with
    | (none, r1) => (false, r1)
    | (some n, r1) => (true, (r1.addEnt name 2 n).addOut n)
def outsLR : Nat → Bool → RdM → Bool × RdM
  | 0, _, r => (decide (r.toks.length ≤ r.pos), r)
  | k + 1, any, r =>
    if any = true ∧ r.toks.length ≤ r.pos then (true, r)
    else if r.peek = kOut then
      match outLR r.skip with
      | (false, r1) => (false, r1)
      | (true, r1) => outsLR k true r1
    else (false, r)
def lowR (r : RdM) : Bool × RdM :=
  match inputsR 4 false r with
  | (false, r1) => (false, r1)
  | (true, r1) =>
    match stepsR 80 r1 with
    | (false, r2) => (false, r2)
    | (true, r2) => outsLR 4 false r2

theorem flag_keeps (r : RdM) : Keeps r r.flag.2 := knownStep_keeps 1 r
theorem quotLR_keeps (r : RdM) : Keeps1 r (quotLR r).2 := by
  have h := leaf_keeps r
  unfold quotLR
  split
  · rename_i e; rw [e] at h; exact h.less
  · rename_i e
    rw [e] at h
    split
    · exact h.less
    · exact (h.trans (Keeps.skip _)).then1 (.add _ _)
theorem resultLR_keeps (op : Int) (r : RdM) : Keeps1 r (resultLR op r).2 := by
  unfold resultLR
  split
  · exact productR_keeps leaf_keeps r
  split
  · exact quotLR_keeps r
  split
  · exact choiceR_keeps flag_keeps leaf_keeps r
  split
  · exact pairR_keeps flag_keeps _ r
  split
  · exact oneR_keeps flag_keeps _ r
  · exact pairR_keeps leaf_keeps _ r
theorem opOf_some {t : List UInt8} {op : Int} (h : opOf t = some op) : t ≠ [] := by
  rintro rfl
  have e : opOf [] = none := by decide
  rw [e] at h; cases h
theorem stepR_ok {s : Nat} {r : RdM} (h : Ok s r) : Ok s (stepR r).2 := by
  unfold stepR
  split
  · exact h
  · rename_i name hn
    have h1 := h.step (newName_some hn).1
    split
    · exact h1.less (by omega)
    · rename_i op ho
      have h2 := h1.step (opOf_some ho)
      have hk := resultLR_keeps op r.skip.skip
      split
      · rename_i e; rw [e] at hk; exact (hk.ok _ h2).less (by omega)
      · rename_i e; rw [e] at hk; exact ((hk.ok _ h2).addEnt _ _ _).less (by omega)
theorem stepsR_ok (n : Nat) : ∀ (r : RdM), Ok 0 r → Ok 0 (stepsR n r).2 := by
  induction n with
  | zero => intro r h; exact h
  | succ n ih =>
    intro r h
    rw [stepsR]
    split
    · have hk := stepR_ok h.skip
      split
      · rename_i e; rw [e] at hk; exact hk
      · rename_i e; rw [e] at hk; exact ih _ hk
    · exact h
theorem outLR_ok {s : Nat} {r : RdM} (h : Ok (s + 1) r) : Ok s (outLR r).2 := by
  unfold outLR
  split
  · exact h.less (by omega)
  · rename_i name hn
    have h1 := h.step (newName_some hn).1
    have hk := leaf_keeps r.skip
    split
    · rename_i e; rw [e] at hk; exact (hk.ok _ h1).less (by omega)
    · rename_i e; rw [e] at hk; exact ((hk.ok _ h1).addEnt _ _ _).addOut _
theorem outsLR_ok (n : Nat) : ∀ (any : Bool) (r : RdM), Ok 0 r → Ok 0 (outsLR n any r).2 := by
  induction n with
  | zero => intro _ r h; exact h
  | succ n ih =>
    intro any r h
    rw [outsLR]
    split
    · exact h
    · split
      · rename_i hp
        have hk := outLR_ok (h.step (by rw [hp]; decide))
        split
        · rename_i e; rw [e] at hk; exact hk
        · rename_i e; rw [e] at hk; exact ih _ _ hk
      · exact h

end Go.Proofs.YtfaljekgpnbmiaaGreat.Pl

/-
  What the program reads out of a text of the high or the low form, and what it comes to, as plain functions.
-/
namespace Go.Proofs.YtfaljekgpnbmiaaGreat.Pl

def startR (l : List UInt8) : RdM := ⟨[], [], [], tokens l, 0, []⟩
/-- The error and the place, of a text that was read to its end (right) or not. -/
def resultR (right : Bool) (r : RdM) : Int × Int :=
  if right = true then (if isBigW r.ins r.nodes = true then (3, 0) else (0, 0)) else (2, r.pos)
/-- The error, the place, the reader behind the text. -/
def readWith (T : Bool × RdM) (l : List UInt8) : Int × Int × RdM :=
  if 6000 < l.length then (1, 0, startR l) else ((resultR T.1 T.2).1, (resultR T.1 T.2).2, T.2)
def readLow (l : List UInt8) : Int × Int × RdM := readWith (lowR (startR l)) l
/-- The error and the values of the outs. -/
def toldR (en : Int) (r : RdM) (home : List Int) : Int × List Int :=
  if en ≠ 0 then (en, []) else if isHomeB r.ins home = true then (0, runW r.nodes r.outs home) else (4, [])
def runLow (l : List UInt8) (home : List Int) : Int × List Int := toldR (readLow l).1 (readLow l).2.2 home
theorem readWith_zero (T : Bool × RdM) (l : List UInt8) (h : (readWith T l).1 = 0) : l.length ≤ 6000 ∧ (readWith T l).2.2 = T.2 := by
  unfold readWith at *
  split at h
  · simp at h
  · rename_i hl; rw [if_neg hl]; exact ⟨by omega, rfl⟩
theorem tokens_len_aux (l : List UInt8) : ∀ (cur : List UInt8) (rem : Bool), (∀ t ∈ scan l cur rem, t.length ≤ cur.length + l.length) := by
  induction l with
  | nil =>
    intro cur rem t ht
    simp only [scan, emit] at ht
    split at ht
    · simp at ht
    · simp at ht; subst ht; simp
  | cons c l ih =>
    intro cur rem t ht
    cases rem with
    | true =>
      rw [scan] at ht
      split at ht
      · have := ih _ _ t ht; simp; omega
      · have := ih _ _ t ht; simp; omega
    | false =>
      rw [scan] at ht
      split at ht
      · have := ih _ _ t ht; simp at this ⊢; omega
      · unfold emit at ht
        split at ht
        · have := ih _ _ t ht; simp at this ⊢; omega
        · rcases List.mem_cons.1 ht with rfl | ht
          · omega
          · have := ih _ _ t ht; simp at this ⊢; omega
theorem start_ok (l : List UInt8) (h : l.length ≤ 6000) : Ok 0 (startR l) :=
  ⟨by simp [RdM.sz, startR], by simp [startR], fun t ht => by have := tokens_len_aux l [] false t ht; simp at this; omega⟩

end Go.Proofs.YtfaljekgpnbmiaaGreat.Pl

/-
  The text of one table, what the program reads out of it, as plain lists.
-/
namespace Go.Proofs.YtfaljekgpnbmiaaGreat.Pl

def GoodT (t : List UInt8) : Prop := t ≠ [] ∧ ∀ c ∈ t, isTok c = true
end Go.Proofs.YtfaljekgpnbmiaaGreat.Pl

/-
  What is printed, as a plain list of bytes; its tokens are those of the text, also with remarks and other spaces.
-/
namespace Go.Proofs.YtfaljekgpnbmiaaGreat.Pl

def gapOf (t : List UInt8) : UInt8 := if t = kIn ∨ t = kLet ∨ t = kSet ∨ t = kOut then 10 else 32
def linesFrom : List (List UInt8) → List UInt8
  | [] => []
  | t :: r => gapOf t :: (t ++ linesFrom r)
def linesOf : List (List UInt8) → List UInt8
  | [] => []
  | t :: r => t ++ linesFrom r ++ [10]
/-- All but the last line feed. -/
def linesHead : List (List UInt8) → List UInt8
  | [] => []
  | t :: r => t ++ linesFrom r
theorem linesOf_eq (l : List (List UInt8)) (h : l ≠ []) : linesOf l = linesHead l ++ [10] := by
  cases l with
  | nil => exact absurd rfl h
  | cons t r => rfl
theorem linesFrom_snoc (l : List (List UInt8)) (t : List UInt8) : linesFrom (l ++ [t]) = linesFrom l ++ gapOf t :: t := by
  induction l with
  | nil => simp [linesFrom]
  | cons u r ih => simp [linesFrom, ih]
theorem linesHead_snoc (l : List (List UInt8)) (t : List UInt8) (h : l ≠ []) : linesHead (l ++ [t]) = linesHead l ++ [gapOf t] ++ t := by
  cases l with
  | nil => exact absurd rfl h
  | cons u r => simp [linesHead, linesFrom_snoc]
def printWith (R : Int × Int × RdM) (l : List UInt8) : List UInt8 × Int := if R.1 ≠ 0 then ([], R.1) else (linesOf (tokens l), 0)
def printLow (l : List UInt8) : List UInt8 × Int := printWith (readLow l) l

theorem scan_good (l : List UInt8) : ∀ (cur : List UInt8) (rem : Bool), (∀ c ∈ cur, isTok c = true) → ∀ t ∈ scan l cur rem, GoodT t := by
  have he : ∀ (cur : List UInt8) (ts : List (List UInt8)), (∀ c ∈ cur, isTok c = true) → (∀ t ∈ ts, GoodT t) → ∀ t ∈ emit cur ts, GoodT t := by
    intro cur ts hc hts t ht
    unfold emit at ht
    split at ht
    · exact hts t ht
    · rename_i hne
      rcases List.mem_cons.1 ht with rfl | ht
      · exact ⟨hne, hc⟩
      · exact hts t ht
  induction l with
  | nil => intro cur rem hc; rw [scan]; exact he cur [] hc (by simp)
  | cons c l ih =>
    intro cur rem hc
    cases rem with
    | true => rw [scan]; split <;> exact ih _ _ hc
    | false =>
      rw [scan]
      split
      · rename_i ht
        refine ih _ _ ?_
        intro x hx
        rcases List.mem_append.1 hx with hx | hx
        · exact hc x hx
        · rw [List.mem_singleton] at hx; subst hx; exact ht
      · exact he cur _ hc (ih _ _ (by simp))
theorem tokens_good (l : List UInt8) : ∀ t ∈ tokens l, GoodT t := scan_good l [] false (by simp)
/-- How long the tokens are together, one more for each. -/
def wide (l : List (List UInt8)) : Nat := (l.map fun t => t.length + 1).sum
theorem scan_wide (l : List UInt8) : ∀ (cur : List UInt8) (rem : Bool), wide (scan l cur rem) ≤ cur.length + l.length + 1 := by
  have he : ∀ (cur : List UInt8) (ts : List (List UInt8)), wide (emit cur ts) ≤ cur.length + 1 + wide ts := by
    intro cur ts; unfold emit; split
    · omega
    · simp [wide]
  induction l with
  | nil => intro cur rem; rw [scan]; have := he cur []; simp [wide] at *; omega
  | cons c l ih =>
    intro cur rem
    cases rem with
    | true => rw [scan]; split <;> (have := ih cur; simp only [List.length_cons]; first | (have := this false; omega) | (have := this true; omega))
    | false =>
      rw [scan]
      split
      · have := ih (cur ++ [c]) false; simp at this ⊢; omega
      · have h1 := he cur (scan l [] (decide (c.toNat = 35)))
        have h2 := ih [] (decide (c.toNat = 35))
        simp at h2 ⊢; omega
theorem linesFrom_len (l : List (List UInt8)) : (linesFrom l).length = wide l := by
  induction l with
  | nil => rfl
  | cons t r ih => simp [linesFrom, wide] at *; omega
theorem linesHead_len (l : List (List UInt8)) : (linesHead l).length ≤ wide l := by
  cases l with
  | nil => simp [linesHead]
  | cons t r => have := linesFrom_len r; simp [linesHead, wide] at *; omega
theorem wide_take (l : List (List UInt8)) (k : Nat) : wide (l.take k) ≤ wide l := by
  have : wide (l.take k) + wide (l.drop k) = wide l := by
    unfold wide; rw [← List.sum_append, ← List.map_append, List.take_append_drop]
  omega
theorem isTok_of (c : UInt8) (h1 : c ≠ 32) (h2 : c ≠ 10) (h3 : c ≠ 35) : isTok c = true := by
  have n1 : c.toNat ≠ 32 := fun h => h1 (UInt8.toNat_inj.1 (by rw [h]; rfl))
  have n2 : c.toNat ≠ 10 := fun h => h2 (UInt8.toNat_inj.1 (by rw [h]; rfl))
  have n3 : c.toNat ≠ 35 := fun h => h3 (UInt8.toNat_inj.1 (by rw [h]; rfl))
  simp [isTok, n1, n2, n3]
end Go.Proofs.YtfaljekgpnbmiaaGreat.Pl

/-
  The reference's small functions on names and tokens, as plain functions.
-/
namespace Go.Proofs.YtfaljekgpnbmiaaGreat.Pl

structure DeclM where
  name : List UInt8
  kind : Nat
  lo : Int
  hi : Int
  pos : Int
def findFrom : List DeclM → List UInt8 → Int → Int
  | [], _, _ => -1
  | d :: l, t, i => if d.name = t then i else findFrom l t (i + 1)
def findD (l : List DeclM) (t : List UInt8) : Int := findFrom l t 0
def countD : List DeclM → Nat → Nat
  | [], _ => 0
  | d :: l, k => (if d.kind = k then 1 else 0) + countD l k
def within (t : List UInt8) (lo hi : Int) : Bool := (number t).2 && decide (lo ≤ (number t).1) && decide ((number t).1 ≤ hi)
/-- Does t stand somewhere in s? -/
def holdsR : List UInt8 → List UInt8 → Bool
  | [], t => t.isEmpty
  | c :: r, t => t.isPrefixOf (c :: r) || holdsR r t
def holdsW (s w : List UInt8) : Bool := holdsR s ([32] ++ w ++ [32])
theorem isPrefixOf_take (t s : List UInt8) : t.isPrefixOf s = (s.take t.length == t) := by
  rw [Bool.eq_iff_iff, List.isPrefixOf_iff_prefix, beq_iff_eq, List.prefix_iff_eq_take]
  exact eq_comm
theorem holdsR_step (s t : List UInt8) (i : Nat) (h : i < s.length) : holdsR (s.drop i) t = (((s.drop i).take t.length == t) || holdsR (s.drop (i + 1)) t) := by
  rw [← isPrefixOf_take]
  conv => lhs; rw [List.drop_eq_getElem_cons h]
  conv => rhs; rw [List.drop_eq_getElem_cons h]
  rfl
theorem holdsR_short (s t : List UInt8) (h : s.length < t.length) : holdsR s t = false := by
  induction s with
  | nil => cases t with
    | nil => simp at h
    | cons c t => rfl
  | cons c s ih =>
    rw [holdsR, ih (by simp at h; omega), Bool.or_false, isPrefixOf_take]
    rw [beq_eq_false_iff_ne]
    intro e
    have := congrArg List.length e
    rw [List.length_take] at this
    omega
theorem findFrom_hit (l : List DeclM) (t : List UInt8) (k : Nat) (h : k < l.length) (he : l[k].name = t) : findFrom (l.drop k) t k = k := by
  rw [List.drop_eq_getElem_cons h, findFrom, if_pos he]
theorem findFrom_miss (l : List DeclM) (t : List UInt8) (k : Nat) (h : k < l.length) (he : l[k].name ≠ t) : findFrom (l.drop k) t k = findFrom (l.drop (k + 1)) t ((k : Int) + 1) := by
  rw [List.drop_eq_getElem_cons h, findFrom, if_neg he]
theorem findFrom_end (l : List DeclM) (t : List UInt8) (k : Nat) (h : l.length ≤ k) (i : Int) : findFrom (l.drop k) t i = -1 := by
  rw [List.drop_eq_nil_of_le h]; rfl
theorem countD_step (l : List DeclM) (k : Nat) (h : k < l.length) (c : Nat) : countD (l.drop k) c = (if l[k].kind = c then 1 else 0) + countD (l.drop (k + 1)) c := by
  rw [List.drop_eq_getElem_cons h, countD]
theorem countD_le (l : List DeclM) (c : Nat) : countD l c ≤ l.length := by
  induction l with
  | nil => simp [countD]
  | cons d l ih => rw [countD, List.length_cons]; split <;> omega
theorem findFrom_bd (l : List DeclM) (t : List UInt8) : ∀ i : Int, findFrom l t i = -1 ∨ (i ≤ findFrom l t i ∧ findFrom l t i < i + l.length) := by
  induction l with
  | nil => intro i; exact .inl rfl
  | cons d l ih =>
    intro i
    rw [findFrom]
    split
    · right; simp; omega
    · rcases ih (i + 1) with h | h
      · exact .inl h
      · right; simp; omega

end Go.Proofs.YtfaljekgpnbmiaaGreat.Pl
