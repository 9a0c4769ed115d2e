/-
  Contracts of CheckHigh, CheckLow, statute.printed, PrintHigh, PrintLow; RunHigh and RunLow with nothing asked of the text.
-/
import Derived.Test.YtfaljekgpnbmiaaRunHigh
import Derived.Test.YtfaljekgpnbmiaaPrint1
import Derived.Test.YtfaljekgpnbmiaaPlainSize
namespace Go.Proofs.Ytfaljekgpnbmiaa
open Go.RowKit

theorem tokens_some (f : Pl.RdM → Bool × Pl.RdM) (l : List UInt8) (hf : ∀ r, r.toks = [] → (f r).1 = false) (h : (Pl.readWith (f (Pl.startR l)) l).1 = 0) : Pl.tokens l ≠ [] ∧ l.length ≤ 6000 := by
  have hl := (Pl.readWith_zero _ _ h).1
  refine ⟨?_, hl⟩
  intro e
  have := hf (Pl.startR l) e
  unfold Pl.readWith Pl.resultR at h
  rw [if_neg (by omega), this] at h
  simp at h
theorem inputs_empty (r : Pl.RdM) (h : r.toks = []) : (Pl.inputsR 4 false r).1 = false := by
  have hp : r.peek = [] := by unfold Pl.RdM.peek; rw [if_pos (by simp [h])]
  rw [Pl.inputsR, hp, if_neg (by decide)]
theorem text_empty (r : Pl.RdM) (h : r.toks = []) : (Pl.textR r).1 = false := by
  have := inputs_empty r h
  unfold Pl.textR
  split
  · rfl
  · rename_i e; rw [e] at this; cases this
theorem low_empty (r : Pl.RdM) (h : r.toks = []) : (Pl.lowR r).1 = false := by
  have := inputs_empty r h
  unfold Pl.lowR
  split
  · rfl
  · rename_i e; rw [e] at this; cases this

set_option maxRecDepth 100000 in
set_option maxHeartbeats 2000000 in
theorem sprinted_any (l : List UInt8) (en : Int) (w : World) (h : en = 0 → Pl.tokens l ≠ [] ∧ l.length ≤ 6000) :
    Calls Try.prog 26 #[.string ⟨l.toArray⟩, .int .i64 en] w fun e w' => e = .returned (.tuple #[strV (if en ≠ 0 then [] else Pl.linesOf (Pl.tokens l)), .int .i64 en]) ∧ Below w.heap.size w w' := by
  by_cases h0 : en = 0
  · subst h0
    obtain ⟨h1, h2⟩ := h rfl
    rw [if_neg (by simp)]
    have hS := Split_any l w h2
    have hg : ∀ t ∈ Pl.tokens l, t ≠ [] := fun t ht => (Pl.tokens_good l t ht).1
    have hw : Pl.wide (Pl.tokens l) ≤ 10000 := by have := Pl.scan_wide l [] false; unfold Pl.tokens; simp at this; omega
    have hL := hide (fun w1 v (h : StrsOwn w.heap.size w1 v (Pl.tokens l)) => Lines_any (Pl.tokens l) _ v w1 h hg h1 hw)
    generalize Pl.linesOf (Pl.tokens l) = P at *
    generalize Pl.tokens l = K at *
    clear hg hw h h1
    unfold strV at hL ⊢
    go_enter Try.func26, Try.ntmps26
    go_wp2_with fail
    refine hS.mono ?_
    rintro e w1 ⟨v, rfl, hown, hb1⟩
    have hL1 := hide (unhide hL w1 v hown)
    obtain ⟨ad, cap, rfl⟩ := slice_shape hown
    clear hown hL hS
    go_wp2_with fail
    refine (unhide hL1).mono ?_
    rintro e w2 ⟨rfl, hb2⟩
    have HH := hide (hb1.trans (hb2.mono hb1.size))
    clear hL1 hb1 hb2
    go_wp2_with fail
    go_ret2
    exact ⟨rfl, unhide HH⟩
  · have hne : (en != 0) = true := by simpa using h0
    rw [if_pos h0]
    clear h h0
    go_enter Try.func26, Try.ntmps26
    go_wp2_with fail
    go_ret2
    exact ⟨rfl, Below.refl _ _⟩

set_option maxRecDepth 100000 in
set_option maxHeartbeats 2000000 in
theorem CheckHigh_any (l : List UInt8) (w : World) (hlm : l.length ≤ maxLen) :
    Calls Try.prog 28 #[.string ⟨l.toArray⟩] w fun e w' => e = .returned (.tuple #[.int .i64 (Pl.readHigh l).1, .int .i64 (Pl.readHigh l).2.1]) ∧ Below w.heap.size w w' := by
  have hRd := ReadHigh_any l w hlm (fun _ => Pl.text_bands l)
  generalize Pl.readHigh l = q at *
  obtain ⟨en, pl, r⟩ := q
  go_enter Try.func28, Try.ntmps28
  go_wp2_with fail
  refine hRd.mono ?_
  rintro e w1 ⟨vi, vn, vo, vx, vy, rfl, hra, hb1⟩
  obtain ⟨ai, ni, ci, rfl⟩ := hra.si
  obtain ⟨an, nn, cn, rfl⟩ := hra.sn
  obtain ⟨ao, no, co, rfl⟩ := hra.so
  obtain ⟨ax, nx, cx, rfl⟩ := hra.sx
  obtain ⟨ay, ny, cy, rfl⟩ := hra.sy
  have HB := hide hb1
  have HB2 := hide (hb1.alloc hb1.size (.cells #[.slice ai ni ci, .slice an nn cn, .slice ao no co, .slice ax nx cx, .slice ay ny cy] 50))
  clear hRd hra hb1
  go_wp2_with fail
  go_ret2
  exact ⟨rfl, by first | exact unhide HB | exact unhide HB2⟩
set_option maxRecDepth 100000 in
set_option maxHeartbeats 2000000 in
theorem PrintHigh_any (l : List UInt8) (w : World) (hlm : l.length ≤ maxLen) :
    Calls Try.prog 12 #[.string ⟨l.toArray⟩] w fun e w' => e = .returned (.tuple #[strV (Pl.printHigh l).1, .int .i64 (Pl.printHigh l).2]) ∧ Below w.heap.size w w' := by
  have hRd := ReadHigh_any l w hlm (fun _ => Pl.text_bands l)
  have hP := fun w1 => sprinted_any l (Pl.readHigh l).1 w1 (fun h0 => tokens_some Pl.textR l text_empty h0)
  have e1 : Pl.printHigh l = (if (Pl.readHigh l).1 ≠ 0 then [] else Pl.linesOf (Pl.tokens l), (Pl.readHigh l).1) := by
    unfold Pl.printHigh Pl.printWith
    by_cases h0 : (Pl.readHigh l).1 = 0
    · rw [if_neg (by simp [h0]), if_neg (by simp [h0]), h0]
    · rw [if_pos h0, if_pos h0]
  rw [e1]
  clear e1
  simp only
  generalize (if (Pl.readHigh l).1 ≠ 0 then [] else Pl.linesOf (Pl.tokens l)) = P at *
  generalize Pl.readHigh l = q at *
  obtain ⟨en, pl, r⟩ := q
  simp only at hP hRd ⊢
  unfold strV at hP ⊢
  have HP := hide hP
  clear hP
  go_enter Try.func12, Try.ntmps12
  go_wp2_with fail
  refine hRd.mono ?_
  rintro e w1 ⟨vi, vn, vo, vx, vy, rfl, hra, hb1⟩
  obtain ⟨ai, ni, ci, rfl⟩ := hra.si
  obtain ⟨an, nn, cn, rfl⟩ := hra.sn
  obtain ⟨ao, no, co, rfl⟩ := hra.so
  obtain ⟨ax, nx, cx, rfl⟩ := hra.sx
  obtain ⟨ay, ny, cy, rfl⟩ := hra.sy
  clear hRd hra
  have HB := hide (hb1.alloc hb1.size (.cells #[.slice ai ni ci, .slice an nn cn, .slice ao no co, .slice ax nx cx, .slice ay ny cy] 50))
  have HB1 := hide hb1
  clear hb1
  go_wp2_with fail
  refine (unhide HP _).mono ?_
  rintro e w2 ⟨rfl, hb2⟩
  have HH : Hid (Below w.heap.size w w2) := by first | exact (unhide HB).trans (hb2.mono (unhide HB).size) | exact (unhide HB1).trans (hb2.mono (unhide HB1).size)
  clear HP hb2
  go_wp2_with fail
  go_ret2
  exact ⟨rfl, HH.out⟩
theorem RunHigh_all (l : List UInt8) (home : List Int) (vh : Value) (w : World) (hlm : l.length ≤ maxLen) (hh : IntsAt w vh home) :
    Calls Try.prog 10 #[.string ⟨l.toArray⟩, vh] w fun e w' => ∃ v, e = .returned (.tuple #[v, .int .i64 (Pl.runHigh l home).1]) ∧ IntsOwn w.heap.size w' v (Pl.runHigh l home).2 ∧ Below w.heap.size w w' :=
  RunHigh_any l home vh w hlm hh (fun _ => Pl.text_bands l)

set_option maxRecDepth 100000 in
set_option maxHeartbeats 2000000 in
theorem CheckLow_any (l : List UInt8) (w : World) (hlm : l.length ≤ maxLen) :
    Calls Try.prog 27 #[.string ⟨l.toArray⟩] w fun e w' => e = .returned (.tuple #[.int .i64 (Pl.readLow l).1, .int .i64 (Pl.readLow l).2.1]) ∧ Below w.heap.size w w' := by
  have hRd := ReadLow_any l w hlm (fun _ => Pl.low_bands l)
  generalize Pl.readLow l = q at *
  obtain ⟨en, pl, r⟩ := q
  go_enter Try.func27, Try.ntmps27
  go_wp2_with fail
  refine hRd.mono ?_
  rintro e w1 ⟨vi, vn, vo, vx, vy, rfl, hra, hb1⟩
  obtain ⟨ai, ni, ci, rfl⟩ := hra.si
  obtain ⟨an, nn, cn, rfl⟩ := hra.sn
  obtain ⟨ao, no, co, rfl⟩ := hra.so
  obtain ⟨ax, nx, cx, rfl⟩ := hra.sx
  obtain ⟨ay, ny, cy, rfl⟩ := hra.sy
  have HB := hide hb1
  have HB2 := hide (hb1.alloc hb1.size (.cells #[.slice ai ni ci, .slice an nn cn, .slice ao no co, .slice ax nx cx, .slice ay ny cy] 50))
  clear hRd hra hb1
  go_wp2_with fail
  go_ret2
  exact ⟨rfl, by first | exact unhide HB | exact unhide HB2⟩
set_option maxRecDepth 100000 in
set_option maxHeartbeats 2000000 in
theorem PrintLow_any (l : List UInt8) (w : World) (hlm : l.length ≤ maxLen) :
    Calls Try.prog 13 #[.string ⟨l.toArray⟩] w fun e w' => e = .returned (.tuple #[strV (Pl.printLow l).1, .int .i64 (Pl.printLow l).2]) ∧ Below w.heap.size w w' := by
  have hRd := ReadLow_any l w hlm (fun _ => Pl.low_bands l)
  have hP := fun w1 => sprinted_any l (Pl.readLow l).1 w1 (fun h0 => tokens_some Pl.lowR l low_empty h0)
  have e1 : Pl.printLow l = (if (Pl.readLow l).1 ≠ 0 then [] else Pl.linesOf (Pl.tokens l), (Pl.readLow l).1) := by
    unfold Pl.printLow Pl.printWith
    by_cases h0 : (Pl.readLow l).1 = 0
    · rw [if_neg (by simp [h0]), if_neg (by simp [h0]), h0]
    · rw [if_pos h0, if_pos h0]
  rw [e1]
  clear e1
  simp only
  generalize (if (Pl.readLow l).1 ≠ 0 then [] else Pl.linesOf (Pl.tokens l)) = P at *
  generalize Pl.readLow l = q at *
  obtain ⟨en, pl, r⟩ := q
  simp only at hP hRd ⊢
  unfold strV at hP ⊢
  have HP := hide hP
  clear hP
  go_enter Try.func13, Try.ntmps13
  go_wp2_with fail
  refine hRd.mono ?_
  rintro e w1 ⟨vi, vn, vo, vx, vy, rfl, hra, hb1⟩
  obtain ⟨ai, ni, ci, rfl⟩ := hra.si
  obtain ⟨an, nn, cn, rfl⟩ := hra.sn
  obtain ⟨ao, no, co, rfl⟩ := hra.so
  obtain ⟨ax, nx, cx, rfl⟩ := hra.sx
  obtain ⟨ay, ny, cy, rfl⟩ := hra.sy
  clear hRd hra
  have HB := hide (hb1.alloc hb1.size (.cells #[.slice ai ni ci, .slice an nn cn, .slice ao no co, .slice ax nx cx, .slice ay ny cy] 50))
  have HB1 := hide hb1
  clear hb1
  go_wp2_with fail
  refine (unhide HP _).mono ?_
  rintro e w2 ⟨rfl, hb2⟩
  have HH : Hid (Below w.heap.size w w2) := by first | exact (unhide HB).trans (hb2.mono (unhide HB).size) | exact (unhide HB1).trans (hb2.mono (unhide HB1).size)
  clear HP hb2
  go_wp2_with fail
  go_ret2
  exact ⟨rfl, HH.out⟩
theorem RunLow_all (l : List UInt8) (home : List Int) (vh : Value) (w : World) (hlm : l.length ≤ maxLen) (hh : IntsAt w vh home) :
    Calls Try.prog 11 #[.string ⟨l.toArray⟩, vh] w fun e w' => ∃ v, e = .returned (.tuple #[v, .int .i64 (Pl.runLow l home).1]) ∧ IntsOwn w.heap.size w' v (Pl.runLow l home).2 ∧ Below w.heap.size w w' :=
  RunLow_any l home vh w hlm hh (fun _ => Pl.low_bands l)
end Go.Proofs.Ytfaljekgpnbmiaa
