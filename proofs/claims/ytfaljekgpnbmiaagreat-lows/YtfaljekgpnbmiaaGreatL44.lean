/- Joined: Law13 Facts LowsF. -/
import Derived.Test.YtfaljekgpnbmiaaGreatL43
/-
  The walk of the statement Lows.
-/
namespace Go.Proofs.YtfaljekgpnbmiaaGreat
open Go.RowKit

set_option maxRecDepth 100000 in
set_option maxHeartbeats 4000000 in
theorem Lows_walk (l : List UInt8) (home : List Int) (vh : Value) (w : World) (hlm : l.length ≤ maxLen) (hh : IntsAt w vh home) (hhl : home.length ≤ 17592186043904) :
    Calls Tryz.prog 4 #[.string ⟨l.toArray⟩, vh] w fun e w' => e = .returned (.bool true) ∧ Below w.heap.size w w' := by
  have HM := hide hh
  have H0 : Hid (HeldAt w.heap.size (w.alloc (.cells #[.int .i64 0, .slice none 0 0, .slice none 0 0, .slice none 0 0] 28)) w.heap.size 0 [] (.slice none 0 0) ∧ Below w.heap.size w (w.alloc (.cells #[.int .i64 0, .slice none 0 0, .slice none 0 0, .slice none 0 0] 28))) :=
    ⟨⟨Nat.le_refl _, heap_alloc_new w _, World.ownsRow_nil _ _ _ _⟩, (Below.refl _ _).alloc (Nat.le_refl _) _⟩
  have hC := hide (fun w1 => checkLow_law l w1 hlm)
  have hP := hide (fun w1 => printLow_law l w1 hlm)
  obtain ⟨a8, p8, rfl, _⟩ := hh
  go_enter Tryz.func4, Tryz.ntmps4
  go_wp2_with fail
  refine ((unhide hC) _).mono ?_
  rintro e w1 ⟨rfl, hb1⟩
  have H1 : Hid (HeldAt w.heap.size w1 w.heap.size 0 [] (.slice none 0 0) ∧ Below w.heap.size w w1) := ⟨(unhide H0).1.below hb1, (unhide H0).2.trans (hb1.mono (unhide H0).2.size)⟩
  clear H0 hb1 hC
  go_wp2_with fail
  refine ((unhide hP) _).mono ?_
  rintro e w2 ⟨rfl, hb2⟩
  have H2 : Hid (HeldAt w.heap.size w2 w.heap.size 0 [] (.slice none 0 0) ∧ Below w.heap.size w w2) := ⟨(unhide H1).1.below hb2, (unhide H1).2.trans (hb2.mono (unhide H1).2.size)⟩
  have hR := hide (runLow_law l home _ (unhide H2).1 (by simp) ((unhide HM).below (unhide H2).2) hlm hhl (unhide H2).2.size (by simp) (by omega))
  clear H1 hb2 hP
  go_wp2_with fail
  refine (unhide hR).mono ?_
  rintro e w3 ⟨rfl, new1, v1, q1, q2, q3, q4⟩
  have hb3 : Below w.heap.size w w3 := (unhide H2).2.trans q4
  have hR2 := hide (runLow_law l home _ q1 q3 ((unhide HM).below hb3) hlm hhl hb3.size (by simp; omega) (by omega))
  have HB3 := hide hb3
  clear hR H2 q1 q3 q4 hb3
  go_wp2_with fail
  refine (unhide hR2).mono ?_
  rintro e w4 ⟨rfl, new2, v2, q1, q5, q3, q4⟩
  have hb4 : Below w.heap.size w w4 := (unhide HB3).trans q4
  have hD := hide (dry_law q1 q3 (by simp; omega))
  have HB4 := hide hb4
  clear hR2 HB3 q1 q3 q4 hb4
  go_wp2_with fail
  refine (unhide hD).mono ?_
  rintro e w5 ⟨rfl, hb5⟩
  have HB5 : Hid (Below w.heap.size w w5) := (unhide HB4).trans (hb5.mono (unhide HB4).size)
  clear hD hb5
  go_wp2
  go_ret
  exact ⟨rfl, unhide HB5⟩
end Go.Proofs.YtfaljekgpnbmiaaGreat

/-
  What a row says of a program's make: its facts, one by one, come to all of them together.
-/
namespace Go.Proofs.YtfaljekgpnbmiaaGreat
open Go.ChangeShapes Go.WideShapes Go.ChangeAt Go.RowKit

theorem joined_parts (P : Program) (f : FuncId) (fn : Func) (s : ChangeSpec) (c : OpenClaim) (k0 : c.wf (OpenSpec.ofChange s) = true) (k1 : laidOutB P = true) (k2 : mapsRowed P = true) (k3 : fn.params.all (P.readableRec ·) = true) (k4 : namedTie P c.named s.vars = true) (k5 : (c.stops == []) = true) (k6 : (P.stops == []) = true) (k7 : (c.knobs == []) = true) (k8 : (P.stopKnobs == []) = true) (k9 : (c.inPlace == P.inPlace f) = true) (k10 : (c.unfollowed == P.unfollowed f) = true) (k11 : (c.recurses == P.recurses f) = true) (k12 : (c.named == P.varsNamed f) = true) (k13 : (c.maps == (fn.params.toList ++ s.plain.varTypes P).any (P.mapsRec ·)) = true) (k14 : (c.ifaces == (fn.params.toList ++ s.plain.varTypes P).any (P.ifacesRec ·)) = true) (k15 : (c.mapsOut == P.mapsAmong fn.resultTypes.toList) = true) (k16 : (c.loops == (fn.params.toList ++ s.plain.varTypes P).any (P.loopsFrom ·)) = true) (k17 : (c.wideKeys == (fn.params.toList ++ s.plain.varTypes P ++ fn.resultTypes.toList).any (P.wideKeysFrom ·)) = true) (k18 : s.vars.all (P.varReadable ·) = true) (k19 : fn.resultTypes.all (fun t => P.readableRec t && decide (t < P.types.size)) = true) (k20 : (c.ifacesOut == fn.resultTypes.toList.any (P.ifacesRec ·)) = true) (k21 : (c.loopsOut == fn.resultTypes.toList.any (P.loopsFrom ·)) = true) (k22 : (c.plainKeys == P.plainKeys) = true) (k23 : c.shortTexts.isNone = true) (k24 : P.stopsHeard = true) (k25 : P.mayEnter = true) (k26 : (c.lifted == P.liftsFinal) = true) (k27 : (P.make == some c.make) = true) (k28 : c.domain.isEmpty = true) (k29 : (c.kinds == []) = true) (k30 : (c.pinned == c.pinnedBy) = true) (k31 : (c.veiled == (fn.params.toList ++ s.plain.varTypes P ++ fn.resultTypes.toList).any (P.veiledRec ·)) = true) (k32 : c.veiledFits P fn.params.toList (fn.params.toList ++ s.plain.varTypes P ++ fn.resultTypes.toList) = true) : joinedFacts P f fn s c = true := by
  unfold joinedFacts
  simp only [Bool.and_eq_true]
  refine ⟨⟨⟨⟨⟨⟨⟨⟨⟨⟨⟨⟨⟨⟨⟨⟨⟨⟨⟨⟨⟨⟨⟨⟨⟨⟨⟨⟨⟨⟨⟨k0, k1⟩, k2⟩, k3⟩, k4⟩, k5⟩, k6⟩, k7⟩, k8⟩, k9⟩, k10⟩, k11⟩, k12⟩, k13⟩, k14⟩, k15⟩, k16⟩, k17⟩, k18⟩, k19⟩, k20⟩, k21⟩, k22⟩, k23⟩, k24⟩, k25⟩, k26⟩, k27⟩, ?_⟩, k30⟩, k31⟩, k32⟩
  rw [if_pos k28]; exact k29
end Go.Proofs.YtfaljekgpnbmiaaGreat

/-
  What the row of Lows says of the program's make: each of its facts by itself.
-/
namespace Go.Proofs.YtfaljekgpnbmiaaGreat
open Go.ChangeShapes Go.WideShapes Go.ChangeAt Go.RowKit

theorem lows_k0 : Rows.lowsRow.wf (OpenSpec.ofChange Rows.lowsSpec) = true := by kernel_rfl
theorem lows_k1 : laidOutB Tryz.pinned.checked.prog = true := by kernel_rfl
theorem lows_k2 : mapsRowed Tryz.pinned.checked.prog = true := by kernel_rfl
theorem lows_k3 : Tryz.f4.params.all (Tryz.pinned.checked.prog.readableRec ·) = true := by kernel_rfl
theorem lows_k4 : namedTie Tryz.pinned.checked.prog Rows.lowsRow.named Rows.lowsSpec.vars = true := by kernel_rfl
theorem lows_k5 : (Rows.lowsRow.stops == []) = true := by kernel_rfl
theorem lows_k6 : (Tryz.pinned.checked.prog.stops == []) = true := by kernel_rfl
theorem lows_k7 : (Rows.lowsRow.knobs == []) = true := by kernel_rfl
theorem lows_k8 : (Tryz.pinned.checked.prog.stopKnobs == []) = true := by kernel_rfl
theorem lows_k9 : (Rows.lowsRow.inPlace == Tryz.pinned.checked.prog.inPlace 4) = true := by kernel_rfl
theorem lows_k10 : (Rows.lowsRow.unfollowed == Tryz.pinned.checked.prog.unfollowed 4) = true := by kernel_rfl
theorem lows_k11 : (Rows.lowsRow.recurses == Tryz.pinned.checked.prog.recurses 4) = true := by kernel_rfl
theorem lows_k12 : (Rows.lowsRow.named == Tryz.pinned.checked.prog.varsNamed 4) = true := by kernel_rfl
theorem lows_k13 : (Rows.lowsRow.maps == (Tryz.f4.params.toList ++ Rows.lowsSpec.plain.varTypes Tryz.pinned.checked.prog).any (Tryz.pinned.checked.prog.mapsRec ·)) = true := by kernel_rfl
theorem lows_k14 : (Rows.lowsRow.ifaces == (Tryz.f4.params.toList ++ Rows.lowsSpec.plain.varTypes Tryz.pinned.checked.prog).any (Tryz.pinned.checked.prog.ifacesRec ·)) = true := by kernel_rfl
theorem lows_k15 : (Rows.lowsRow.mapsOut == Tryz.pinned.checked.prog.mapsAmong Tryz.f4.resultTypes.toList) = true := by kernel_rfl
theorem lows_k16 : (Rows.lowsRow.loops == (Tryz.f4.params.toList ++ Rows.lowsSpec.plain.varTypes Tryz.pinned.checked.prog).any (Tryz.pinned.checked.prog.loopsFrom ·)) = true := by kernel_rfl
theorem lows_k17 : (Rows.lowsRow.wideKeys == (Tryz.f4.params.toList ++ Rows.lowsSpec.plain.varTypes Tryz.pinned.checked.prog ++ Tryz.f4.resultTypes.toList).any (Tryz.pinned.checked.prog.wideKeysFrom ·)) = true := by kernel_rfl
theorem lows_k18 : Rows.lowsSpec.vars.all (Tryz.pinned.checked.prog.varReadable ·) = true := by kernel_rfl
theorem lows_k19 : Tryz.f4.resultTypes.all (fun t => Tryz.pinned.checked.prog.readableRec t && decide (t < Tryz.pinned.checked.prog.types.size)) = true := by kernel_rfl
theorem lows_k20 : (Rows.lowsRow.ifacesOut == Tryz.f4.resultTypes.toList.any (Tryz.pinned.checked.prog.ifacesRec ·)) = true := by kernel_rfl
theorem lows_k21 : (Rows.lowsRow.loopsOut == Tryz.f4.resultTypes.toList.any (Tryz.pinned.checked.prog.loopsFrom ·)) = true := by kernel_rfl
theorem lows_k22 : (Rows.lowsRow.plainKeys == Tryz.pinned.checked.prog.plainKeys) = true := by kernel_rfl
theorem lows_k23 : Rows.lowsRow.shortTexts.isNone = true := by kernel_rfl
theorem lows_k24 : Tryz.pinned.checked.prog.stopsHeard = true := by kernel_rfl
theorem lows_k25 : Tryz.pinned.checked.prog.mayEnter = true := by kernel_rfl
theorem lows_k26 : (Rows.lowsRow.lifted == Tryz.pinned.checked.prog.liftsFinal) = true := by kernel_rfl
theorem lows_k27 : (Tryz.pinned.checked.prog.make == some Rows.lowsRow.make) = true := by kernel_rfl
theorem lows_k28 : Rows.lowsRow.domain.isEmpty = true := by kernel_rfl
theorem lows_k29 : (Rows.lowsRow.kinds == []) = true := by kernel_rfl
theorem lows_k30 : (Rows.lowsRow.pinned == Rows.lowsRow.pinnedBy) = true := by kernel_rfl
theorem lows_k31 : (Rows.lowsRow.veiled == (Tryz.f4.params.toList ++ Rows.lowsSpec.plain.varTypes Tryz.pinned.checked.prog ++ Tryz.f4.resultTypes.toList).any (Tryz.pinned.checked.prog.veiledRec ·)) = true := by kernel_rfl
theorem lows_k32 : Rows.lowsRow.veiledFits Tryz.pinned.checked.prog Tryz.f4.params.toList (Tryz.f4.params.toList ++ Rows.lowsSpec.plain.varTypes Tryz.pinned.checked.prog ++ Tryz.f4.resultTypes.toList) = true := by kernel_rfl
theorem lows_closed : joinedFacts Tryz.pinned.checked.prog 4 Tryz.f4 Rows.lowsSpec Rows.lowsRow = true := joined_parts Tryz.pinned.checked.prog 4 Tryz.f4 Rows.lowsSpec Rows.lowsRow lows_k0 lows_k1 lows_k2 lows_k3 lows_k4 lows_k5 lows_k6 lows_k7 lows_k8 lows_k9 lows_k10 lows_k11 lows_k12 lows_k13 lows_k14 lows_k15 lows_k16 lows_k17 lows_k18 lows_k19 lows_k20 lows_k21 lows_k22 lows_k23 lows_k24 lows_k25 lows_k26 lows_k27 lows_k28 lows_k29 lows_k30 lows_k31 lows_k32
end Go.Proofs.YtfaljekgpnbmiaaGreat
