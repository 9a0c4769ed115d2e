/-
  The contract of the statement's printed, and the walk of Printed.
-/
import Derived.Test.YtfaljekgpnbmiaaPrint3
namespace Go.Proofs.Ytfaljekgpnbmiaa
open Go.RowKit

theorem F_bad (low : Bool) (l : List UInt8) (home : List Int) (h : (Pl.readF low l).1 ≠ 0) : Pl.printF low l = ([], (Pl.readF low l).1) ∧ Pl.runF low l home = ((Pl.readF low l).1, []) := by
  cases low
  · simp only [Pl.readF, Pl.printF, Pl.runF, Bool.false_eq_true, if_false] at *
    unfold Pl.printHigh Pl.printWith Pl.runHigh Pl.toldR
    rw [if_pos h, if_pos h]; exact ⟨rfl, rfl⟩
  · simp only [Pl.readF, Pl.printF, Pl.runF, if_true] at *
    unfold Pl.printLow Pl.printWith Pl.runLow Pl.toldR
    rw [if_pos h, if_pos h]; exact ⟨rfl, rfl⟩
theorem F_good (low : Bool) (l : List UInt8) (home : List Int) (h : (Pl.readF low l).1 = 0) :
    Pl.printF low l = (Pl.linesOf (Pl.tokens l), 0) ∧ ((Pl.runF low l home).1 = 0 ∨ (Pl.runF low l home).1 = 4) ∧ ((Pl.runF low l home).1 = 0 ↔ 0 < (Pl.runF low l home).2.length) ∧ (Pl.runF low l home).2.length ≤ 1000 ∧ l.length ≤ 6000 := by
  cases low
  · simp only [Pl.readF, Pl.printF, Pl.runF, Bool.false_eq_true, if_false] at *
    have ht := Pl.told_len (Pl.textR (Pl.startR l)) l home (fun r' e => Pl.textR_some _ _ e)
    have hz := readHigh_sizes l h
    refine ⟨by unfold Pl.printHigh Pl.printWith; rw [if_neg (by simp [h])], ht.2 h, ht.1, ?_, hz.2.2.2.1⟩
    unfold Pl.runHigh Pl.toldR
    rw [if_neg (by simp [h])]
    split
    · simp [Pl.runW]; exact hz.2.2.1
    · simp
  · simp only [Pl.readF, Pl.printF, Pl.runF, if_true] at *
    have ht := Pl.told_len (Pl.lowR (Pl.startR l)) l home (fun r' e => Pl.lowR_some _ _ e)
    have hz := readLow_sizes l h
    refine ⟨by unfold Pl.printLow Pl.printWith; rw [if_neg (by simp [h])], ht.2 h, ht.1, ?_, hz.2.2.2.1⟩
    unfold Pl.runLow Pl.toldR
    rw [if_neg (by simp [h])]
    split
    · simp [Pl.runW]; exact hz.2.2.1
    · simp
theorem F_again (low : Bool) (l ag : List UInt8) (home : List Int) (h : (Pl.readF low l).1 = 0) (ht : Pl.tokens ag = Pl.tokens l) (hl : ag.length ≤ 6000) :
    (Pl.readF low ag).1 = 0 ∧ Pl.printF low ag = (Pl.linesOf (Pl.tokens l), 0) ∧ Pl.runF low ag home = Pl.runF low l home := by
  have hl6 := (F_good low l home h).2.2.2.2
  have hR : Pl.readF low ag = Pl.readF low l := by
    cases low
    · exact Pl.readWith_same Pl.textR l ag ht hl6 hl
    · exact Pl.readWith_same Pl.lowR l ag ht hl6 hl
  have h' : (Pl.readF low ag).1 = 0 := by rw [hR]; exact h
  refine ⟨h', by rw [(F_good low ag home h').1, ht], ?_⟩
  cases low
  · simp only [Pl.readF, Bool.false_eq_true, if_false] at hR; simp only [Pl.runF, Pl.runHigh, Bool.false_eq_true, if_false, hR]
  · simp only [Pl.readF, if_true] at hR; simp only [Pl.runF, Pl.runLow, if_true, hR]

set_option maxRecDepth 100000 in
set_option maxHeartbeats 1000000 in
theorem kprinted_any (low : Bool) (p ag : List UInt8) (home lst : List Int) (g : Int) (vh vl : Value) (w : World) (hag : ag.length ≤ 6000 → (Pl.readF low ag).1 = 0 ∧ Pl.printF low ag = (p, 0) ∧ Pl.runF low ag home = (g, lst)) (hlm : ag.length ≤ 100000) (hh : IntsAt w vh home) (hl : IntsAt w vl lst) (hll : lst.length ≤ 1000) :
    Calls Try.prog 15 #[.bool low, .string ⟨p.toArray⟩, vh, vl, .int .i64 g, .string ⟨ag.toArray⟩] w fun e w' => e = .returned (.bool true) ∧ Below w.heap.size w w' := by
  have hF := form_any low ag home vh w (by unfold maxLen; omega) hh
  obtain ⟨adh, nh, caph, hvh⟩ : ∃ ad n cap, vh = .slice ad n cap := by obtain ⟨x, y, e, _⟩ := hh; exact ⟨_, _, _, e⟩
  obtain ⟨adl, nl, capl, hvl⟩ : ∃ ad n cap, vl = .slice ad n cap := by obtain ⟨x, y, e, _⟩ := hl; exact ⟨_, _, _, e⟩
  subst hvh hvl
  by_cases h6 : 6000 < ag.length
  · clear hF hag hh hl
    go_enter Try.func15, Try.ntmps15
    go_wp2
    go_ret
    exact ⟨rfl, Below.refl _ _⟩
  · obtain ⟨e1, e2, e3⟩ := hag (by omega)
    rw [e1, e2, e3] at hF
    simp only at hF
    unfold strV at hF
    have hS := hide (fun w1 v (hb : Below w.heap.size w w1) (h : IntsOwn w.heap.size w1 v lst) => same_eq lst v (.slice adl nl capl) w1 (ints_own h) (hl.below hb) (by unfold maxLen; omega))
    clear hag hh hl e1 e2 e3
    go_enter Try.func15, Try.ntmps15
    go_wp2_with fail
    refine hF.mono ?_
    rintro e w1 ⟨v, rfl, hv, hb1⟩
    have hS1 := hide (unhide hS w1 v hb1 hv)
    obtain ⟨ad, cap, rfl⟩ := slice_shape hv
    have HB := hide hb1
    clear hF hS hv hb1
    go_wp2_with fail
    refine (unhide hS1).mono ?_
    rintro e w2 ⟨rfl, n, rfl⟩
    clear hS1
    go_wp2
    go_ret
    exact ⟨ret_bool (by simp), below_drewN (unhide HB) n⟩
end Go.Proofs.Ytfaljekgpnbmiaa
