/- Joined: Ref36 Ref37 Ref38 Law14. -/
import Derived.Test.YtfaljekgpnbmiaaGreatH44
/-
  The contract of the reference's ReadHigh.
-/
namespace Go.Proofs.YtfaljekgpnbmiaaGreat
open Go.RowKit
set_option linter.unusedVariables false
set_option linter.unusedSimpArgs false

/-- What the reference reads, by the names that it finds. -/
def Pl.refHigh (l : List UInt8) (names : List Pl.DeclM) : Int × Int × List Pl.DeclM :=
  if 6000 < l.length then (1, 0, [])
  else match Pl.textR ⟨[], [], [], Pl.tokens l, 0, []⟩ with
    | (false, r1) => (2, (r1.pos : Int), [])
    | (true, r) => if Pl.isBigW r.ins r.nodes = true then (3, 0, []) else (0, 0, names)
def Pl.HighFine (l : List UInt8) (names : List Pl.DeclM) (exs : List Pl.Ex) : Prop :=
  (∀ r1, Pl.textR ⟨[], [], [], Pl.tokens l, 0, []⟩ = (false, r1) → Pl.Ends (Pl.tokens l) ⟨0, [72], [], 0, [], 0⟩ (.inr r1.pos)) ∧
  (∀ r, Pl.textR ⟨[], [], [], Pl.tokens l, 0, []⟩ = (true, r) → Pl.Ends (Pl.tokens l) ⟨0, [72], [], 0, [], 0⟩ (.inl names) ∧ Pl.Trees (Pl.tokens l) names exs ∧ names.length ≤ 10000 ∧ Pl.bigH names exs [] = Pl.isBigW r.ins r.nodes)
set_option maxRecDepth 100000 in
set_option maxHeartbeats 3000000 in
theorem ReadHigh_ref (l : List UInt8) (w : World) (hlm : l.length ≤ maxLen) (names : List Pl.DeclM) (exs : List Pl.Ex) (hwf : Pl.HighFine l names exs) :
    Calls Tryz.prog 73 #[.string ⟨l.toArray⟩] w fun e w' => ∃ vt vn vk, e = .returned (.tuple #[.agg #[vt, vn, vk], .int .i64 (Pl.refHigh l names).1, .int .i64 (Pl.refHigh l names).2.1]) ∧ TextOwn w' (Pl.refHigh l names).1 (Pl.tokens l) (Pl.refHigh l names).2.2 vt vn vk ∧ Below w.heap.size w w' := by
  unfold maxLen at hlm
  have hal : Below w.heap.size w (w.alloc (.cells #[.slice none 0 0, .slice none 0 0, .slice none 0 0] 124)) := (Below.refl _ w).alloc (Nat.le_refl _) _
  have hnew := heap_alloc_new w (.cells #[.slice none 0 0, .slice none 0 0, .slice none 0 0] 124)
  by_cases hlong : 6000 < l.length
  · have hR : Hid (Pl.refHigh l names = (1, 0, [])) := by unfold Pl.refHigh Hid; rw [if_pos hlong]
    have HA := hide hal
    clear hal hnew hwf
    go_enter Tryz.func73, Tryz.ntmps73
    go_wp2_with fail
    rw [hR.out]
    exact bodyPost_ret (v := .tuple #[.agg #[.slice none 0 0, .slice none 0 0, .slice none 0 0], .int .i64 1, .int .i64 0]) (by simp [results, Tryz.results73, go_sem]) rfl ⟨_, _, _, rfl, TextOwn.none _ _ _ _ (by simp), unhide HA⟩
  · have hl6 : l.length ≤ 6000 := by omega
    obtain ⟨hts, ht6⟩ := toks_small l hl6
    have hTk := hide (Tokens_ref l (w.alloc (.cells #[.slice none 0 0, .slice none 0 0, .slice none 0 0] 124)) hl6)
    have hLo0 := hide (fun w1 vt B res (hE : Pl.Ends (Pl.tokens l) ⟨0, [72], [], 0, [], 0⟩ res) (h : StrsOwn B w1 vt (Pl.tokens l)) => High_ref (Pl.tokens l) vt w1 res hE (strs_at h) (by omega) ht6)
    have hR : Hid (Pl.refHigh l names = match Pl.textR ⟨[], [], [], Pl.tokens l, 0, []⟩ with | (false, r1) => ((2 : Int), (r1.pos : Int), []) | (true, r) => if Pl.isBigW r.ins r.nodes = true then (3, 0, []) else (0, 0, names)) := by unfold Pl.refHigh Hid; rw [if_neg hlong]
    obtain ⟨hf1, hf2⟩ := hwf
    have H6 := hide ht6
    generalize Pl.tokens l = toks at *
    clear ht6
    cases hq : Pl.textR ⟨[], [], [], toks, 0, []⟩ with
    | mk ok rr =>
    cases ok with
    | false =>
      have hE := hf1 rr hq
      have hLo := hide (fun w1 vt B (h : StrsOwn B w1 vt toks) => unhide hLo0 w1 vt B _ hE h)
      have hR2 : Hid (Pl.refHigh l names = ((2 : Int), (rr.pos : Int), [])) := by have := hR.out; rw [hq] at this; exact this
      clear hR
      have hR := hR2
      generalize rr.pos = p at *
      clear hf1 hf2 hE hLo0 hq hR2
      go_enter Tryz.func73, Tryz.ntmps73
      go_wp2_with fail
      refine (unhide hTk).mono ?_
      rintro e w1 ⟨vt, rfl, hst, hb1⟩
      have hL1 := hide (unhide hLo _ _ _ hst)
      obtain ⟨a1, p1, rfl⟩ := slice_shape hst
      clear hst
      go_wp2_with fail
      refine (unhide hL1).mono ?_
      rintro e w2 ⟨rfl, hb2⟩
      have hb12 := hb1.trans (hb2.mono hb1.size)
      have hk := (hb12.block w.heap.size (by simp)).trans hnew
      obtain ⟨c0, c1, c2, f0, f1, f2⟩ := text_facts hk
      have HH := hide (fun x y z => (((hal.trans (hb12.mono (by simp))).setCell (p := ⟨w.heap.size, 0, none⟩) (Nat.le_refl _) x).setCell (p := ⟨w.heap.size, 1, none⟩) (Nat.le_refl _) y).setCell (p := ⟨w.heap.size, 2, none⟩) (Nat.le_refl _) z)
      clear hb1 hb2 hb12 hk hal hnew hTk hLo hL1
      go_wp2_with fail
      rw [hR.out]
      exact bodyPost_ret (v := .tuple #[.agg #[.slice none 0 0, .slice none 0 0, .slice none 0 0], .int .i64 2, .int .i64 p]) (by simp [results, Tryz.results73, go_sem, c0, c1, c2]) rfl ⟨_, _, _, rfl, TextOwn.none _ _ _ _ (by simp), unhide HH _ _ _⟩
    | true =>
      obtain ⟨hE, hw1, hw2, hbg⟩ := hf2 rr hq
      have hLo := hide (fun w1 vt B (h : StrsOwn B w1 vt toks) => unhide hLo0 w1 vt B _ hE h)
      rw [hq] at hR
      clear hf1 hf2 hE hLo0 hq
      cases hwd : Pl.isBigW rr.ins rr.nodes with
      | true =>
        have hR' : Hid (Pl.refHigh l names = (3, 0, [])) := by have := hR.out; simp only [hwd, if_true] at this; exact this
        clear hR
        go_enter Tryz.func73, Tryz.ntmps73
        go_wp2_with fail
        refine (unhide hTk).mono ?_
        rintro e w1 ⟨vt, rfl, hst, hb1⟩
        have hL1 := hide (unhide hLo _ _ _ hst)
        have HST := hide hst
        obtain ⟨a1, p1, rfl⟩ := slice_shape hst
        clear hst
        go_wp2_with fail
        refine (unhide hL1).mono ?_
        rintro e w2 ⟨⟨vn, rfl, hdn⟩, hb2⟩
        have hb12 := hb1.trans (hb2.mono hb1.size)
        obtain ⟨a2, p2, rfl⟩ := slice_shape hdn
        have hbx := hb12.alloc hb12.size (.cells #[.slice a1 toks.length p1, .slice a2 names.length p2, .slice none 0 0] 124)
        have hstx : StrsOwn (w.alloc (.cells #[.slice none 0 0, .slice none 0 0, .slice none 0 0] 124)).heap.size (w2.alloc (.cells #[.slice a1 toks.length p1, .slice a2 names.length p2, .slice none 0 0] 124)) (.slice a1 toks.length p1) toks := World.ownsRow.alloc (own_keep (unhide HST) (.of_below hb2)) _
        have hdnx : DeclsOwn (w.alloc (.cells #[.slice none 0 0, .slice none 0 0, .slice none 0 0] 124)).heap.size (w2.alloc (.cells #[.slice a1 toks.length p1, .slice a2 names.length p2, .slice none 0 0] 124)) (.slice a2 names.length p2) names := World.ownsRow.alloc (own_mono hdn hb1.size) _
        have hWd := hide (big_ref toks names exs (.slice a1 toks.length p1) (.slice a2 names.length p2) (w2.alloc (.cells #[.slice a1 toks.length p1, .slice a2 names.length p2, .slice none 0 0] 124)) (strs_at hstx) (decls_at hdnx) hw1 (by omega) hw2 (unhide H6))
        rw [hbg, hwd] at hWd
        have hxn := heap_alloc_new w2 (.cells #[.slice a1 toks.length p1, .slice a2 names.length p2, .slice none 0 0] 124)
        obtain ⟨x0, x1, x2, _⟩ := text_facts hxn
        clear hb1 hb2 hdn HST hL1 hLo hTk
        go_wp2_with fail
        refine (unhide hWd).mono ?_
        rintro e w3 ⟨rfl, hb3⟩
        have hbb := hbx.trans (hb3.mono hbx.size)
        have hk := (hbb.block w.heap.size (by simp)).trans hnew
        obtain ⟨c0, c1, c2, f0, f1, f2⟩ := text_facts hk
        have hkx := (hb3.block w2.heap.size (by simp)).trans hxn
        obtain ⟨z0, z1, z2, _⟩ := text_facts hkx
        have HH := hide (fun x y z => (((hal.trans (hbb.mono (by simp))).setCell (p := ⟨w.heap.size, 0, none⟩) (Nat.le_refl _) x).setCell (p := ⟨w.heap.size, 1, none⟩) (Nat.le_refl _) y).setCell (p := ⟨w.heap.size, 2, none⟩) (Nat.le_refl _) z)
        clear hbx hstx hdnx hWd hxn x0 x1 x2 hb3 hbb hk hkx hb12 hal hnew z0 z1 z2 hw1
        go_wp2_with fail
        rw [hR'.out]
        exact bodyPost_ret (v := .tuple #[.agg #[.slice none 0 0, .slice none 0 0, .slice none 0 0], .int .i64 3, .int .i64 0]) (by simp [results, Tryz.results73, go_sem, c0, c1, c2]) rfl ⟨_, _, _, rfl, TextOwn.none _ _ _ _ (by simp), unhide HH _ _ _⟩
      | false =>
        have hR' : Hid (Pl.refHigh l names = (0, 0, names)) := by have := hR.out; simp only [hwd, Bool.false_eq_true, if_false] at this; exact this
        clear hR
        go_enter Tryz.func73, Tryz.ntmps73
        go_wp2_with fail
        refine (unhide hTk).mono ?_
        rintro e w1 ⟨vt, rfl, hst, hb1⟩
        have hL1 := hide (unhide hLo _ _ _ hst)
        have HST := hide hst
        obtain ⟨a1, p1, rfl⟩ := slice_shape hst
        clear hst
        go_wp2_with fail
        refine (unhide hL1).mono ?_
        rintro e w2 ⟨⟨vn, rfl, hdn⟩, hb2⟩
        have hb12 := hb1.trans (hb2.mono hb1.size)
        obtain ⟨a2, p2, rfl⟩ := slice_shape hdn
        have hbx := hb12.alloc hb12.size (.cells #[.slice a1 toks.length p1, .slice a2 names.length p2, .slice none 0 0] 124)
        have hstx : StrsOwn (w.alloc (.cells #[.slice none 0 0, .slice none 0 0, .slice none 0 0] 124)).heap.size (w2.alloc (.cells #[.slice a1 toks.length p1, .slice a2 names.length p2, .slice none 0 0] 124)) (.slice a1 toks.length p1) toks := World.ownsRow.alloc (own_keep (unhide HST) (.of_below hb2)) _
        have hdnx : DeclsOwn (w.alloc (.cells #[.slice none 0 0, .slice none 0 0, .slice none 0 0] 124)).heap.size (w2.alloc (.cells #[.slice a1 toks.length p1, .slice a2 names.length p2, .slice none 0 0] 124)) (.slice a2 names.length p2) names := World.ownsRow.alloc (own_mono hdn hb1.size) _
        have hWd := hide (big_ref toks names exs (.slice a1 toks.length p1) (.slice a2 names.length p2) (w2.alloc (.cells #[.slice a1 toks.length p1, .slice a2 names.length p2, .slice none 0 0] 124)) (strs_at hstx) (decls_at hdnx) hw1 (by omega) hw2 (unhide H6))
        rw [hbg, hwd] at hWd
        have hxn := heap_alloc_new w2 (.cells #[.slice a1 toks.length p1, .slice a2 names.length p2, .slice none 0 0] 124)
        obtain ⟨x0, x1, x2, _⟩ := text_facts hxn
        clear hb1 hb2 hdn HST hL1 hLo hTk
        go_wp2_with fail
        refine (unhide hWd).mono ?_
        rintro e w3 ⟨rfl, hb3⟩
        have hbb := hbx.trans (hb3.mono hbx.size)
        have hk := (hbb.block w.heap.size (by simp)).trans hnew
        obtain ⟨c0, c1, c2, f0, f1, f2⟩ := text_facts hk
        have hkx := (hb3.block w2.heap.size (by simp)).trans hxn
        obtain ⟨z0, z1, z2, _⟩ := text_facts hkx
        have HH := hide (fun x y z => (((hal.trans (hbb.mono (by simp))).setCell (p := ⟨w.heap.size, 0, none⟩) (Nat.le_refl _) x).setCell (p := ⟨w.heap.size, 1, none⟩) (Nat.le_refl _) y).setCell (p := ⟨w.heap.size, 2, none⟩) (Nat.le_refl _) z)
        have HT := hide (fun x y z => (TextOwn.mk (w := w3) (e := 0) (toks := toks) (names := names) (vt := .slice a1 toks.length p1) (vn := .slice a2 names.length p2) (vk := .slice none 0 0) (fun _ => ⟨_, own_keep hstx (.of_below hb3), own_keep hdnx (.of_below hb3), rfl⟩) ⟨_, _, _, rfl⟩ ⟨_, _, _, rfl⟩ ⟨_, _, _, rfl⟩).keep (keep_text hk x y z))
        clear hbx hstx hdnx hWd hxn x0 x1 x2 hb3 hbb hk hkx hb12 hal hnew hw1
        go_wp2_with fail
        rw [hR'.out]
        exact bodyPost_ret (v := .tuple #[.agg #[.slice a1 toks.length p1, .slice a2 names.length p2, .slice none 0 0], .int .i64 0, .int .i64 0]) (by simp [results, Tryz.results73, go_sem, c0, c1, c2]) rfl ⟨_, _, _, rfl, unhide HT _ _ _, unhide HH _ _ _⟩
end Go.Proofs.YtfaljekgpnbmiaaGreat

/-
  Contracts of the reference's CheckHigh, PrintHigh, RunHigh.
-/
namespace Go.Proofs.YtfaljekgpnbmiaaGreat
open Go.RowKit
set_option linter.unusedVariables false
set_option linter.unusedSimpArgs false

def Pl.refPrintHigh (l : List UInt8) (names : List Pl.DeclM) : List UInt8 × Int := if (Pl.refHigh l names).1 ≠ 0 then ([], (Pl.refHigh l names).1) else (Pl.linesOf (Pl.tokens l), 0)
def Pl.refRunHigh (l : List UInt8) (names : List Pl.DeclM) (exs : List Pl.Ex) (home : List Int) : Int × List Int :=
  if (Pl.refHigh l names).1 ≠ 0 then ((Pl.refHigh l names).1, [])
  else if Pl.fitsD names home = true then (0, Pl.outVals names (Pl.vH home exs []))
  else (4, [])
theorem refHigh_zero (l : List UInt8) (names : List Pl.DeclM) (h : (Pl.refHigh l names).1 = 0) : l.length ≤ 6000 ∧ (Pl.refHigh l names).2.2 = names ∧ ∃ r, Pl.textR ⟨[], [], [], Pl.tokens l, 0, []⟩ = (true, r) := by
  unfold Pl.refHigh at *
  split at h
  · simp at h
  · rename_i hl
    rw [if_neg hl]
    split at h
    · simp at h
    · rename_i r hr
      split at h
      · simp at h
      · rename_i hw
        rw [hr]
        first
          | (rw [if_neg hw]; exact ⟨by omega, rfl, r, rfl⟩)
          | (simp only [if_neg hw]; exact ⟨by omega, rfl, r, rfl⟩)

set_option maxRecDepth 100000 in
set_option maxHeartbeats 2000000 in
theorem CheckHigh_ref (l : List UInt8) (names : List Pl.DeclM) (exs : List Pl.Ex) (w : World) (hlm : l.length ≤ maxLen) (hf : Pl.HighFine l names exs) :
    Calls Tryz.prog 36 #[.string ⟨l.toArray⟩] w fun e w' => e = .returned (.tuple #[.int .i64 (Pl.refHigh l names).1, .int .i64 (Pl.refHigh l names).2.1]) ∧ Below w.heap.size w w' := by
  have hRd := ReadHigh_ref l w hlm names exs hf
  generalize Pl.refHigh l names = q at *
  obtain ⟨en, pl, ds⟩ := q
  go_enter Tryz.func36, Tryz.ntmps36
  go_wp2_with fail
  refine hRd.mono ?_
  rintro e w1 ⟨vi, vn, vo, rfl, hra, hb1⟩
  obtain ⟨ai, ni, ci, rfl⟩ := hra.st
  obtain ⟨an, nn, cn, rfl⟩ := hra.sn
  obtain ⟨ao, no, co, rfl⟩ := hra.sk
  have HB := hide hb1
  have HB2 := hide (hb1.alloc hb1.size (.cells #[.slice ai ni ci, .slice an nn cn, .slice ao no co] 124))
  clear hRd hra hb1
  go_wp2_with fail
  go_ret2
  exact ⟨rfl, by first | exact unhide HB | exact unhide HB2⟩

set_option maxRecDepth 100000 in
set_option maxHeartbeats 2000000 in
theorem PrintHigh_ref (l : List UInt8) (names : List Pl.DeclM) (exs : List Pl.Ex) (w : World) (hlm : l.length ≤ maxLen) (hf : Pl.HighFine l names exs) (hne : (Pl.refHigh l names).1 = 0 → Pl.tokens l ≠ []) :
    Calls Tryz.prog 39 #[.string ⟨l.toArray⟩] w fun e w' => e = .returned (.tuple #[strV (Pl.refPrintHigh l names).1, .int .i64 (Pl.refPrintHigh l names).2]) ∧ Below w.heap.size w w' := by
  have hRd := ReadHigh_ref l w hlm names exs hf
  have hz := refHigh_zero l names
  unfold Pl.refPrintHigh
  generalize Pl.refHigh l names = q at *
  obtain ⟨en, pl, ds⟩ := q
  simp only at hRd hz hne ⊢
  by_cases h0 : en = 0
  · subst h0
    have hl6 := (hz rfl).1
    have hw : Pl.wide (Pl.tokens l) ≤ 10000 := by have := Pl.scan_wide l [] false; unfold Pl.tokens; simp at this; omega
    have hP := hide (fun w1 vt B (h : StrsOwn B w1 vt (Pl.tokens l)) => Print_ref (Pl.tokens l) vt w1 (strs_at h) (fun t ht => Pl.noSp_of_good (Pl.tokens_good l t ht).2) (hne rfl) hw)
    rw [if_neg (by simp)]
    simp only
    generalize Pl.linesOf (Pl.tokens l) = P at *
    generalize Pl.tokens l = K at *
    unfold strV at hP ⊢
    clear hz hne hw hf
    go_enter Tryz.func39, Tryz.ntmps39
    go_wp2_with fail
    refine hRd.mono ?_
    rintro e w1 ⟨vi, vn, vo, rfl, hra, hb1⟩
    obtain ⟨B, hst, hdn, rfl⟩ := hra.good rfl
    obtain ⟨ai, ni, rfl⟩ := slice_shape hst
    obtain ⟨an, nn, rfl⟩ := slice_shape hdn
    have hnew := heap_alloc_new w1 (.cells #[.slice ai K.length ni, .slice an ds.length nn, .slice none 0 0] 124)
    obtain ⟨x0, x1, x2, _⟩ := text_facts hnew
    have hP1 := hide (unhide hP _ _ B (World.ownsRow.alloc hst (.cells #[.slice ai K.length ni, .slice an ds.length nn, .slice none 0 0] 124)))
    have HB2 := hide (hb1.alloc hb1.size (.cells #[.slice ai K.length ni, .slice an ds.length nn, .slice none 0 0] 124))
    clear hRd hra hb1 hst hdn hP hnew
    go_wp2_with fail
    refine (unhide hP1).mono ?_
    rintro e w2 ⟨rfl, hw2⟩
    rw [hw2]
    clear hw2 w2 hP1
    go_wp2_with fail
    go_ret2
    exact ⟨rfl, unhide HB2⟩
  · rw [if_pos h0]
    have hne2 : (en != 0) = true := by simpa using h0
    clear hz hne h0 hf
    go_enter Tryz.func39, Tryz.ntmps39
    go_wp2_with fail
    refine hRd.mono ?_
    rintro e w1 ⟨vi, vn, vo, rfl, hra, hb1⟩
    obtain ⟨ai, ni, ci, rfl⟩ := hra.st
    obtain ⟨an, nn, cn, rfl⟩ := hra.sn
    obtain ⟨ao, no, co, rfl⟩ := hra.sk
    have HB2 := hide (hb1.alloc hb1.size (.cells #[.slice ai ni ci, .slice an nn cn, .slice ao no co] 124))
    clear hRd hra hb1
    go_wp2_with fail
    go_ret2
    exact ⟨rfl, unhide HB2⟩

set_option maxRecDepth 100000 in
set_option maxHeartbeats 2000000 in
theorem RunHigh_ref (l : List UInt8) (names : List Pl.DeclM) (exs : List Pl.Ex) (home : List Int) (vh : Value) (w : World) (hlm : l.length ≤ maxLen) (hf : Pl.HighFine l names exs) (hh : IntsAt w vh home) (hhl : home.length ≤ maxLen) (hsf : (Pl.refHigh l names).1 = 0 → Pl.fitsD names home = true → Pl.fineH home exs [] ∧ ∀ j, (hj : j < names.length) → home.length ≤ j → names[j].kind ≠ 105) :
    Calls Tryz.prog 41 #[.string ⟨l.toArray⟩, vh] w fun e w' => ∃ v, e = .returned (.tuple #[v, .int .i64 (Pl.refRunHigh l names exs home).1]) ∧ IntsOwn w.heap.size w' v (Pl.refRunHigh l names exs home).2 ∧ Below w.heap.size w w' := by
  have hRd := ReadHigh_ref l w hlm names exs hf
  have hz := refHigh_zero l names
  have hHM := hide hh
  obtain ⟨a8, p8, rfl, _⟩ := hh
  by_cases h0 : (Pl.refHigh l names).1 = 0
  · obtain ⟨hl6, hds, rr, hlow⟩ := hz h0
    obtain ⟨_, hwf, hdl, _⟩ := hf.2 _ hlow
    obtain ⟨hts, ht6⟩ := toks_small l hl6
    have hrun : Pl.refRunHigh l names exs home = if Pl.fitsD names home = true then (0, Pl.outVals names (Pl.vH home exs [])) else (4, []) := by unfold Pl.refRunHigh; rw [if_neg (by simp [h0])]
    have hsf2 := hsf h0
    rw [h0, hds] at hRd
    generalize (Pl.refHigh l names).2.1 = pl at *
    clear hds
    generalize Pl.tokens l = toks at *
    rw [hrun]
    have hFi := hide (fun w1 vn (hb : Below w.heap.size w w1) (h : DeclsAt w1 vn names) => Fits_ref names home vn (.slice a8 home.length p8) w1 h ((unhide hHM).below hb) hdl hhl)
    have hTe := hide (fun w1 vt vn (hb : Below w.heap.size w w1) (h1 : StrsAt w1 vt toks) (h2 : DeclsAt w1 vn names) (hfit : Pl.fitsD names home = true) => Outs_ref toks names exs home vt vn (.slice none 0 0) (.slice a8 home.length p8) w1 h1 h2 ((unhide hHM).below hb) ⟨_, _, _, rfl⟩ hwf (hsf2 hfit).2 (hsf2 hfit).1 (by omega) hdl ht6)
    clear hf hsf hz hrun hsf2 hlow hwf ht6 h0 hHM
    cases hfit : Pl.fitsD names home with
    | false =>
      rw [if_neg (by simp)]
      rw [hfit] at hFi
      clear hTe
      go_enter Tryz.func41, Tryz.ntmps41
      go_wp2_with fail
      refine hRd.mono ?_
      rintro e w1 ⟨vi, vn, vo, rfl, hra, hb1⟩
      obtain ⟨B, hst, hdn, rfl⟩ := hra.good rfl
      obtain ⟨ai, ni, rfl⟩ := slice_shape hst
      obtain ⟨an, nn, rfl⟩ := slice_shape hdn
      have hb2 := hb1.alloc hb1.size (.cells #[.slice ai toks.length ni, .slice an names.length nn, .slice none 0 0] 124)
      have hnew := heap_alloc_new w1 (.cells #[.slice ai toks.length ni, .slice an names.length nn, .slice none 0 0] 124)
      obtain ⟨x0, x1, x2, _⟩ := text_facts hnew
      have hF1 := hide (unhide hFi _ (.slice an names.length nn) hb2 (decls_at (B := B) (World.ownsRow.alloc hdn _)))
      have HB2 := hide hb2
      clear hRd hra hb1 hst hdn hFi hnew hb2
      go_wp2_with fail
      refine (unhide hF1).mono ?_
      rintro e w2 ⟨rfl, m, hw2⟩
      rw [hw2]
      clear hw2 w2 hF1
      go_wp2_with fail
      go_ret2
      exact ⟨_, rfl, World.ownsRow_nil _ _ _ _, below_drewN (unhide HB2) m⟩
    | true =>
      rw [if_pos rfl]
      rw [hfit] at hFi
      go_enter Tryz.func41, Tryz.ntmps41
      go_wp2_with fail
      refine hRd.mono ?_
      rintro e w1 ⟨vi, vn, vo, rfl, hra, hb1⟩
      obtain ⟨B, hst, hdn, rfl⟩ := hra.good rfl
      obtain ⟨ai, ni, rfl⟩ := slice_shape hst
      obtain ⟨an, nn, rfl⟩ := slice_shape hdn
      have hb2 := hb1.alloc hb1.size (.cells #[.slice ai toks.length ni, .slice an names.length nn, .slice none 0 0] 124)
      have hnew := heap_alloc_new w1 (.cells #[.slice ai toks.length ni, .slice an names.length nn, .slice none 0 0] 124)
      obtain ⟨x0, x1, x2, _⟩ := text_facts hnew
      have hdx : DeclsAt (w1.alloc (.cells #[.slice ai toks.length ni, .slice an names.length nn, .slice none 0 0] 124)) (.slice an names.length nn) names := decls_at (B := B) (World.ownsRow.alloc hdn _)
      have hsx : StrsAt (w1.alloc (.cells #[.slice ai toks.length ni, .slice an names.length nn, .slice none 0 0] 124)) (.slice ai toks.length ni) toks := strs_at (B := B) (World.ownsRow.alloc hst _)
      have hF1 := hide (unhide hFi _ (.slice an names.length nn) hb2 hdx)
      have hT1 := hide (fun m => unhide hTe _ _ _ (below_drewN hb2 m) (hsx.drewN m) (hdx.drewN m) hfit)
      have HB2 := hide hb2
      clear hRd hra hb1 hst hdn hFi hnew hb2 hTe hdx hsx
      go_wp2_with fail
      refine (unhide hF1).mono ?_
      rintro e w2 ⟨rfl, m, hw2⟩
      rw [hw2]
      clear hw2 w2 hF1
      go_wp2_with fail
      refine (unhide hT1 m).mono ?_
      rintro e w3 ⟨v, rfl, hv, hb3⟩
      have HH : Hid (IntsOwn w.heap.size w3 v (Pl.outVals names (Pl.vH home exs [])) ∧ Below w.heap.size w w3) := by
        have hb := below_drewN (unhide HB2) m
        exact ⟨own_mono hv hb.size, hb.trans (hb3.mono hb.size)⟩
      obtain ⟨av, cv, rfl⟩ := slice_shape hv
      clear hT1 hv hb3 HB2
      go_wp2_with fail
      go_ret2
      exact ⟨_, rfl, HH.out.1, HH.out.2⟩
  · have hres : Hid (Pl.refRunHigh l names exs home = ((Pl.refHigh l names).1, [])) := by unfold Pl.refRunHigh Hid; rw [if_pos h0]
    rw [hres.out]
    have hne2 : ((Pl.refHigh l names).1 != 0) = true := by simpa using h0
    generalize (Pl.refHigh l names).1 = en at *
    generalize (Pl.refHigh l names).2.1 = pl at *
    generalize (Pl.refHigh l names).2.2 = ds at *
    clear hz h0 hf hsf hHM hres
    go_enter Tryz.func41, Tryz.ntmps41
    go_wp2_with fail
    refine hRd.mono ?_
    rintro e w1 ⟨vi, vn, vo, rfl, hra, hb1⟩
    obtain ⟨ai, ni, ci, rfl⟩ := hra.st
    obtain ⟨an, nn, cn, rfl⟩ := hra.sn
    obtain ⟨ao, no, co, rfl⟩ := hra.sk
    have HB2 := hide (hb1.alloc hb1.size (.cells #[.slice ai ni ci, .slice an nn cn, .slice ao no co] 124))
    clear hRd hra hb1
    go_wp2_with fail
    go_ret2
    exact ⟨_, rfl, World.ownsRow_nil _ _ _ _, unhide HB2⟩
end Go.Proofs.YtfaljekgpnbmiaaGreat

/-
  The whole high form: the program answers as the reference.
-/
namespace Go.Proofs.YtfaljekgpnbmiaaGreat.Pl
open Go.RowKit
set_option linter.unusedVariables false
set_option linter.unusedSimpArgs false

/-- What there is of a text: the names that the reference finds, and their trees. -/
structure HighAll (l : List UInt8) (names : List DeclM) (exs : List Ex) : Prop where
  fine : HighFine l names exs
  read : (refHigh l names).1 = (readHigh l).1 ∧ (refHigh l names).2.1 = (readHigh l).2.1
  print : refPrintHigh l names = printHigh l
  run : ∀ home, refRunHigh l names exs home = runHigh l home
  safe : ∀ home, (refHigh l names).1 = 0 → fitsD names home = true → fineH home exs [] ∧ ∀ j, (hj : j < names.length) → home.length ≤ j → names[j].kind ≠ 105
  some : (refHigh l names).1 = 0 → tokens l ≠ []
  short : ∀ home, (runHigh l home).2.length ≤ 88
theorem high_all (l : List UInt8) : ∃ names exs, HighAll l names exs := by
  have hsp : ∀ t ∈ tokens l, NoSp t := fun t ht => noSp_of_good (tokens_good l t ht).2
  have hrd : ∀ names, (refHigh l names).1 = (readHigh l).1 ∧ (refHigh l names).2.1 = (readHigh l).2.1 := by
    intro names
    unfold refHigh readHigh readWith resultR startR
    by_cases hl : 6000 < l.length
    · rw [if_pos hl, if_pos hl]; exact ⟨rfl, rfl⟩
    · rw [if_neg hl, if_neg hl]
      cases hq : textR ⟨[], [], [], tokens l, 0, []⟩ with
      | mk ok r =>
      cases ok with
      | false => exact ⟨rfl, rfl⟩
      | true =>
        simp only
        rw [if_pos trivial]
        by_cases hb : isBigW r.ins r.nodes = true
        · rw [if_pos hb, if_pos hb]; exact ⟨rfl, rfl⟩
        · rw [if_neg hb, if_neg hb]; exact ⟨rfl, rfl⟩
  have hpr : ∀ names, refPrintHigh l names = printHigh l := by
    intro names
    unfold refPrintHigh printHigh printWith
    rw [(hrd names).1]
  have hso : ∀ names, (refHigh l names).1 = 0 → tokens l ≠ [] := by
    intro names h0
    rw [(hrd names).1] at h0
    exact (tokens_some textR l text_empty h0).1
  have hz : (readHigh l).1 = 0 → (readHigh l).2.2 = (textR ⟨[], [], [], tokens l, 0, []⟩).2 := fun h => (readWith_zero _ _ h).2
  rcases high_eq (tokens l) hsp with ⟨r1, h1, h2⟩ | ⟨names, r, h1, hB, hn, h2⟩
  · have hne : ∀ names, (refHigh l names).1 ≠ 0 := by
      intro names h0
      obtain ⟨_, _, r, hr⟩ := refHigh_zero l names h0
      rw [h1] at hr
      cases hr
    have hne2 : (readHigh l).1 ≠ 0 := by rw [← (hrd []).1]; exact hne []
    refine ⟨[], [], ⟨⟨fun r2 hr => ?_, fun r2 hr => ?_⟩, hrd [], hpr [], fun home => ?_, fun home h0 => absurd h0 (hne []), fun h0 => absurd h0 (hne []), fun home => ?_⟩⟩
    · rw [h1] at hr; cases hr; exact h2 0 [] 0
    · rw [h1] at hr; cases hr
    · unfold refRunHigh runHigh toldR
      rw [if_pos (hne []), if_pos hne2, (hrd []).1]
    · unfold runHigh toldR
      rw [if_pos hne2]; simp
  · obtain ⟨exs, hT, hbg, hval⟩ := hB.all
    have hrr : (readHigh l).1 = 0 → (readHigh l).2.2 = r := fun h => by rw [hz h, h1]
    have hbig : (readHigh l).1 = 0 → isBigW r.ins r.nodes = false := by
      intro h0
      unfold readHigh readWith resultR startR at h0
      split at h0
      · simp at h0
      · rw [h1] at h0
        simp only at h0
        rw [if_pos trivial] at h0
        split at h0
        · simp at h0
        · rename_i hb; simpa using hb
    refine ⟨names, exs, ⟨⟨fun r2 hr => ?_, fun r2 hr => ?_⟩, hrd names, hpr names, fun home => ?_, fun home h0 hf => ?_, hso names, fun home => ?_⟩⟩
    · rw [h1] at hr; cases hr
    · rw [h1] at hr; cases hr
      exact ⟨h2 0 [] 0, hT, by omega, hbg⟩
    · unfold refRunHigh runHigh toldR
      rw [(hrd names).1]
      by_cases h0 : (readHigh l).1 = 0
      · have hn0 : ¬ (readHigh l).1 ≠ 0 := fun h => h h0
        rw [if_neg hn0, if_neg hn0, hrr h0, hB.fits]
        by_cases hh : isHomeB r.ins home = true
        · rw [if_pos hh, if_pos hh, (hval (hbig h0) home hh).1]
        · rw [if_neg hh, if_neg hh]
      · rw [if_pos h0, if_pos h0]
    · rw [(hrd names).1] at h0
      rw [hB.fits] at hf
      refine ⟨(hval (hbig h0) home hf).2, fun j hj hle hk => ?_⟩
      have := (hB.inputs.2.2.2 j hj).1 hk
      unfold isHomeB at hf
      simp only [Bool.and_eq_true, decide_eq_true_eq] at hf
      omega
    · unfold runHigh toldR
      by_cases h0 : (readHigh l).1 = 0
      · rw [if_neg (fun h => h h0)]
        split
        · rw [hrr h0]
          have := hB.kinds.2
          simp only [runW, List.length_map]
          omega
        · simp
      · rw [if_pos h0]; simp
end Go.Proofs.YtfaljekgpnbmiaaGreat.Pl

/-
  Contracts of the statement's own checkHigh, printHigh.
-/
namespace Go.Proofs.YtfaljekgpnbmiaaGreat
open Go.RowKit
set_option linter.unusedVariables false
set_option linter.unusedSimpArgs false

set_option maxRecDepth 100000 in
set_option maxHeartbeats 1000000 in
theorem checkHigh_law (l : List UInt8) (w : World) (hlm : l.length ≤ maxLen) :
    Calls Tryz.prog 11 #[.string ⟨l.toArray⟩] w fun e w' => e = .returned (.bool true) ∧ Below w.heap.size w w' := by
  have hP := hide (CheckHigh_any l w hlm)
  obtain ⟨names, exs, hA⟩ := Pl.high_all l
  have hRf := hide (fun w1 => CheckHigh_ref l names exs w1 hlm hA.fine)
  have hE := hide hA.read
  clear hA
  go_enter Tryz.func11, Tryz.ntmps11
  go_wp2_with fail
  refine (unhide hP).mono ?_
  rintro e w1 ⟨rfl, hb1⟩
  have HB1 := hide hb1
  clear hP hb1
  go_wp2_with fail
  refine ((unhide hRf) w1).mono ?_
  rintro e w2 ⟨rfl, hb2⟩
  have HB2 := hide ((unhide HB1).trans (hb2.mono (unhide HB1).size))
  clear hb2
  rw [(unhide hE).1, (unhide hE).2]
  go_wp2_with (go_at_call 37; refine (num_law _ _).mono ?_; rintro e w' ⟨rfl, rfl⟩)
  go_ret
  exact ⟨by simp, unhide HB2⟩

set_option maxRecDepth 100000 in
set_option maxHeartbeats 1000000 in
theorem printHigh_law (l : List UInt8) (w : World) (hlm : l.length ≤ maxLen) :
    Calls Tryz.prog 12 #[.string ⟨l.toArray⟩] w fun e w' => e = .returned (.bool true) ∧ Below w.heap.size w w' := by
  have hP := hide (PrintHigh_any l w hlm)
  obtain ⟨names, exs, hA⟩ := Pl.high_all l
  have hRf := hide (fun w1 => PrintHigh_ref l names exs w1 hlm hA.fine hA.some)
  have hE := hide hA.print
  clear hA
  go_enter Tryz.func12, Tryz.ntmps12
  go_wp2_with fail
  refine (unhide hP).mono ?_
  rintro e w1 ⟨rfl, hb1⟩
  have HB1 := hide hb1
  clear hP hb1
  go_wp2_with fail
  refine ((unhide hRf) w1).mono ?_
  rintro e w2 ⟨rfl, hb2⟩
  have HB2 := hide ((unhide HB1).trans (hb2.mono (unhide HB1).size))
  clear hb2
  rw [unhide hE]
  unfold strV
  go_wp2_with (go_at_call 37; refine (num_law _ _).mono ?_; rintro e w' ⟨rfl, rfl⟩)
  go_ret
  exact ⟨by simp, unhide HB2⟩
end Go.Proofs.YtfaljekgpnbmiaaGreat
