/-
  The walk of the statement Printed.
-/
import Derived.Test.YtfaljekgpnbmiaaPrint4
namespace Go.Proofs.Ytfaljekgpnbmiaa
open Go.RowKit

theorem fix_high : Pl.printHigh [105, 110, 32, 120, 32, 48, 32, 57, 35, 32, 111, 102, 32, 111, 110, 101, 10, 111, 117, 116, 32, 32, 121, 32, 97, 100, 100, 32, 120, 32, 49] = ([105, 110, 32, 120, 32, 48, 32, 57, 10, 111, 117, 116, 32, 121, 32, 97, 100, 100, 32, 120, 32, 49, 10], 0) := by decide +kernel
theorem fix_low : Pl.printLow [105, 110, 32, 120, 32, 48, 32, 57, 32, 115, 101, 116, 32, 97, 32, 97, 100, 100, 32, 120, 32, 49, 32, 35, 32, 111, 102, 32, 111, 110, 101, 10, 10, 111, 117, 116, 32, 121, 32, 97, 35] = ([105, 110, 32, 120, 32, 48, 32, 57, 10, 115, 101, 116, 32, 97, 32, 97, 100, 100, 32, 120, 32, 49, 10, 111, 117, 116, 32, 121, 32, 97, 10], 0) := by decide +kernel

set_option maxRecDepth 100000 in
set_option maxHeartbeats 2000000 in
theorem Printed_walk (l : List UInt8) (low : Bool) (home : List Int) (vh : Value) (w : World) (hlm : l.length ≤ maxLen) (hh : IntsAt w vh home) :
    Calls Try.prog 5 #[.string ⟨l.toArray⟩, .bool low, vh] w fun e w' => e = .returned (.bool true) ∧ Below w.heap.size w w' := by
  have h1 := PrintHigh_any [105, 110, 32, 120, 32, 48, 32, 57, 35, 32, 111, 102, 32, 111, 110, 101, 10, 111, 117, 116, 32, 32, 121, 32, 97, 100, 100, 32, 120, 32, 49] w (by unfold maxLen; decide)
  have h2 := hide (fun w => PrintLow_any [105, 110, 32, 120, 32, 48, 32, 57, 32, 115, 101, 116, 32, 97, 32, 97, 100, 100, 32, 120, 32, 49, 32, 35, 32, 111, 102, 32, 111, 110, 101, 10, 10, 111, 117, 116, 32, 121, 32, 97, 35] w (by unfold maxLen; decide))
  rw [fix_high] at h1
  simp only [fix_low] at h2
  have hF := hide (fun w1 (hb : Below w.heap.size w w1) => form_any low l home vh w1 hlm (hh.below hb))
  unfold strV at h1 h2 hF
  obtain ⟨adh, nh, caph, hvh⟩ : ∃ ad n cap, vh = .slice ad n cap := by obtain ⟨x, y, e, _⟩ := hh; exact ⟨_, _, _, e⟩
  subst hvh
  by_cases h0 : (Pl.readF low l).1 = 0
  · obtain ⟨e1, e2, e3, e4, e5⟩ := F_good low l home h0
    have hpl := Pl.print_len l
    have hdl := Pl.dressed_len (Pl.linesOf (Pl.tokens l))
    have hg := Pl.tokens_good l
    have ht1 := Pl.tokens_lines _ hg
    have ht2 := (Pl.tokens_dressed _ (Pl.linesOf_35 _ hg)).trans ht1
    have hA1 := F_again low l (Pl.linesOf (Pl.tokens l)) home h0 ht1
    have hA2 := F_again low l (Pl.dressed (Pl.linesOf (Pl.tokens l))) home h0 ht2
    simp only [h0, e1] at hF
    have HD := hide (fun w => dressed_any (Pl.linesOf (Pl.tokens l)) w (by omega))
    generalize Pl.linesOf (Pl.tokens l) = p at *
    generalize Pl.dressed p = q at *
    generalize hU : Pl.runF low l home = U at *
    obtain ⟨c, lst⟩ := U
    simp only at e2 e3 e4 hF
    have HP := hide (fun w1 vl ag (hag : ag = p ∨ ag = q) (hb : Below w.heap.size w w1) (hl : IntsAt w1 vl lst) => kprinted_any low p ag home lst c (.slice adh nh caph) vl w1 (by rcases hag with rfl | rfl; exact hA1; exact hA2) (by rcases hag with rfl | rfl <;> omega) (hh.below hb) hl e4)
    clear hA1 hA2 ht1 ht2 hg hU hh h0 e1 e5
    unfold strV at HD
    go_enter Try.func5, Try.ntmps5
    go_wp2_with fail
    refine h1.mono ?_
    rintro e w1 ⟨rfl, hb1⟩
    go_wp2_with fail
    refine (unhide h2 _).mono ?_
    rintro e w2 ⟨rfl, hb2⟩
    have hb12 := hb1.trans (hb2.mono hb1.size)
    have hF1 := hide (unhide hF w2 hb12)
    have HB2 := hide hb12
    clear h1 h2 hF hb1 hb2 hb12
    go_wp2_with fail
    refine (unhide hF1).mono ?_
    rintro e w3 ⟨v, rfl, hv, hb3⟩
    have hb23 := (unhide HB2).trans (hb3.mono (unhide HB2).size)
    have HL := hide (ints_own hv)
    obtain ⟨ad, cap, rfl⟩ := slice_shape hv
    have hP1 := hide (unhide HP w3 _ p (.inl rfl) hb23 (unhide HL))
    have HB3 := hide hb23
    clear hF1 hv hb3 HB2 hb23
    have hcs : (c = 0 ∧ 0 < lst.length) ∨ (c = 4 ∧ lst.length = 0) := by omega
    clear e2 e3
    generalize lst.length = nn at *
    rcases hcs with ⟨rfl, hl0⟩ | ⟨rfl, rfl⟩
    all_goals
      go_wp2_with fail
      refine (unhide hP1).mono ?_
      rintro e w4 ⟨rfl, hb4⟩
      have hb34 := (unhide HB3).trans (hb4.mono (unhide HB3).size)
      have hP2 := hide (unhide HP w4 _ q (.inr rfl) hb34 ((unhide HL).below hb4))
      have HB4 := hide hb34
      clear hP1 hb4 hb34 HP HL
      go_wp2_with fail
      refine (unhide HD _).mono ?_
      rintro e w' ⟨rfl, hw'⟩
      rw [hw']
      clear hw' w'
      go_wp2_with fail
      refine (unhide hP2).mono ?_
      rintro e w5 ⟨rfl, hb5⟩
      have HB5 := hide ((unhide HB4).trans (hb5.mono (unhide HB4).size))
      clear hP2 hb5 HB3 HB4
      go_wp2
      go_ret
      exact ⟨ret_bool (by simp), unhide HB5⟩
  · obtain ⟨e1, e2⟩ := F_bad low l home h0
    simp only [e1, e2] at hF
    have hne : ((Pl.readF low l).1 != 0) = true := by simpa using h0
    generalize (Pl.readF low l).1 = a at *
    clear e1 e2 hh h0
    go_enter Try.func5, Try.ntmps5
    go_wp2_with fail
    refine h1.mono ?_
    rintro e w1 ⟨rfl, hb1⟩
    go_wp2_with fail
    refine (unhide h2 _).mono ?_
    rintro e w2 ⟨rfl, hb2⟩
    have hb12 := hb1.trans (hb2.mono hb1.size)
    have hF1 := hide (unhide hF w2 hb12)
    have HB2 := hide hb12
    clear h1 h2 hF hb1 hb2 hb12
    go_wp2_with fail
    refine (unhide hF1).mono ?_
    rintro e w3 ⟨v, rfl, hv, hb3⟩
    have HB3 := hide ((unhide HB2).trans (hb3.mono (unhide HB2).size))
    obtain ⟨ad, cap, rfl⟩ := slice_shape hv
    clear hF1 hv hb3 HB2
    go_wp2
    go_ret
    exact ⟨ret_bool (by simp), unhide HB3⟩
end Go.Proofs.Ytfaljekgpnbmiaa
