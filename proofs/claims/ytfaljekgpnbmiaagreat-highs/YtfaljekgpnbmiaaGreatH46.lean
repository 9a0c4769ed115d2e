/- Joined: Law15 Law16 Facts HighsF. -/
import Derived.Test.YtfaljekgpnbmiaaGreatH45
/-
  Contract of the statement's own runHigh: the walk.
-/
namespace Go.Proofs.YtfaljekgpnbmiaaGreat
open Go.RowKit
set_option linter.unusedVariables false
set_option linter.unusedSimpArgs false

set_option maxRecDepth 100000 in
set_option maxHeartbeats 4000000 in
theorem runHigh_law {B : Nat} {w : World} {b N : Nat} {ents : List (Value × Int)} {v0 : Value} (l : List UInt8) (home : List Int) (vh : Value) (hH : HeldAt B w b N ents v0) (hE : ∀ e ∈ ents, EntOk w e) (hh : IntsAt w vh home) (hlm : l.length ≤ maxLen) (hhl : home.length ≤ 17592186043904) (hB : B ≤ w.heap.size) (hn : ents.length ≤ 90) (hN : N ≤ 90) :
    Calls Tryz.prog 13 #[.pointer (some ⟨b, 0, none⟩), .string ⟨l.toArray⟩, vh] w fun e w' => e = .returned (.bool true) ∧ ∃ new v1, HeldAt B w' b (N + 2) (ents ++ new) v1 ∧ new.length = 8 ∧ (∀ e ∈ ents ++ new, EntOk w' e) ∧ Below B w w' := by
  have hml : home.length ≤ maxLen := by unfold maxLen; omega
  obtain ⟨names, exs, hA⟩ := Pl.high_all l
  have runHigh_len := hide hA.short
  have HAl := hide hA
  clear hA
  have hLd := hide (lend_law home vh w hh hhl)
  have HHm := hide hh
  have HH := hide hH
  have HE := hide hE
  obtain ⟨a8, p8, rfl, _⟩ := hh
  clear hH hE
  go_enter Tryz.func13, Tryz.ntmps13
  go_wp2_with fail
  refine (unhide hLd).mono ?_
  rintro e w1 ⟨g, rfl, hg, hgb, hb1⟩
  have hm1 : IntsAt w1 (.slice a8 home.length p8) home := (unhide HHm).below hb1
  have hR := hide (RunHigh_all l home (.slice (some ⟨g, 0, none⟩) home.length (home.length + 2)) w1 hlm (lent_front hgb _))
  have HG1 := hide hgb
  have HB1 := hide hb1
  have HM1 := hide hm1
  clear hLd hgb hb1 hm1
  go_wp2_with fail
  refine (unhide hR).mono ?_
  rintro e w2 ⟨v, rfl, hv2, hb2⟩
  have hm2 := (unhide HM1).below hb2
  obtain ⟨va, vc, rfl, hvc⟩ := ints_shape hv2
  have hRf := hide (RunHigh_ref l names exs home (.slice a8 home.length p8) w2 hlm (unhide HAl).fine hm2 hml (fun h0 hf => (unhide HAl).safe home h0 hf))
  rw [(unhide HAl).run home] at hRf
  have hgl : g < w1.heap.size := lt_of_block (unhide HG1)
  have HG2 : Hid (w2.heap[g]? = some (.cells (lendCells home 2).toArray 3 (0, 0))) := by rw [hb2.block g hgl]; exact unhide HG1
  have HB2 := hide hb2
  have HM2 := hide hm2
  have HV2 := hide hv2
  clear hR hb2 hm2 hv2
  go_wp2_with fail
  refine (unhide hRf).mono ?_
  rintro e w3 ⟨v', rfl, hv3, hb3⟩
  have hm3 := (unhide HM2).below hb3
  obtain ⟨va', vc', rfl, hvc'⟩ := ints_shape hv3
  have hgl2 : g < w2.heap.size := Nat.lt_of_lt_of_le hgl (unhide HB2).size
  have hg3 : w3.heap[g]? = some (.cells (lendCells home 2).toArray 3 (0, 0)) := by rw [hb3.block g hgl2]; exact unhide HG2
  have hS1 := hide (lent_law home _ g w3 hm3 hg3 hhl)
  have HV3 : Hid (IntsOwn w1.heap.size w3 (.slice va (Pl.runHigh l home).2.length vc) (Pl.runHigh l home).2 ∧ IntsOwn w2.heap.size w3 (.slice va' (Pl.runHigh l home).2.length vc') (Pl.runHigh l home).2 ∧ w3.heap[g]? = some (.cells (lendCells home 2).toArray 3 (0, 0)) ∧ Below w.heap.size w w3) :=
    ⟨own_keep (unhide HV2) (.of_below hb3), hv3, hg3, ((unhide HB1).trans ((unhide HB2).mono (unhide HB1).size)).trans (hb3.mono (Nat.le_trans (unhide HB1).size (unhide HB2).size))⟩
  have hz23 : w1.heap.size ≤ w2.heap.size ∧ w2.heap.size ≤ w3.heap.size := ⟨(unhide HB2).size, hb3.size⟩
  have HVB : Hid (∀ k, Value.ownBlock (.slice va (Pl.runHigh l home).2.length vc) = some k → w1.heap.size ≤ k ∧ k < w2.heap.size) := by
    intro k hk
    rcases (unhide HV2).2 with ⟨h1, _⟩ | ⟨k', cap, cur, h1, h2, h3, _⟩
    · rw [h1] at hk; simp [Value.ownBlock] at hk
    · rw [h1] at hk; simp [Value.ownBlock] at hk; subst hk; exact ⟨h2, lt_of_block h3⟩
  clear hRf HV2 HM2 HG2 HB2 HB1 HM1 HG1 hv3 hb3 hm3 hg3
  go_wp2_with fail
  refine (unhide hS1).mono ?_
  rintro e w4 ⟨rfl, m1, hw4⟩
  have hb4 : Below w3.heap.size w3 w4 := by rw [hw4]; exact below_drewN (Below.refl _ _) _
  have hS2 := hide (sameInts_law (Pl.runHigh l home).2 _ _ w4 ((ints_own (unhide HV3).1).below hb4) ((ints_own (unhide HV3).2.1).below hb4) (by have := unhide runHigh_len home; unfold maxLen; omega))
  have HB4 := hide hb4
  clear hS1 hw4 hb4
  go_wp2_with fail
  refine (unhide hS2).mono ?_
  rintro e w5 ⟨rfl, m2, hw5⟩
  have hb5 : Below w3.heap.size w3 w5 := by rw [hw5]; exact below_drewN (unhide HB4) _
  have hz5 : w3.heap.size ≤ w5.heap.size := hb5.size
  obtain ⟨q1, _, q3, q4⟩ := unhide HV3
  have hb05 : Below w.heap.size w w5 := q4.trans (hb5.mono q4.size)
  have hg5 : w5.heap[g]? = some (.cells (lendCells home 2).toArray 3 (0, 0)) := by rw [hb5.block g (lt_of_block q3)]; exact q3
  have hI1 := hide (ints_law _ _ ((unhide HH).below hb05) (lend_own hg5 (Nat.le_trans hB hg) hhl) (fun e he => ⟨(unhide HE e he).keepT (.of_below hb05), fun k hk hc => by have := (unhide HE e he).lt hc; simp [Value.ownBlock] at hk; omega⟩) (Nat.le_trans hB hb05.size) (by simp; omega) (by omega) (by omega))
  have HQ : Hid (IntsOwn w1.heap.size w5 (.slice va (Pl.runHigh l home).2.length vc) (Pl.runHigh l home).2 ∧ Below w.heap.size w w5) := ⟨own_keep q1 (.of_below hb5), hb05⟩
  clear hS2 hw5 hb5 HV3 HB4 q1 q3 q4 hg5 hb05
  go_wp2_with fail
  refine (unhide hI1).mono ?_
  rintro e w6 ⟨rfl, new1, v1, h61, h62, h63, h64, h65, h66⟩
  have hI2 := hide (ints_law (.slice va (Pl.runHigh l home).2.length vc) (Pl.runHigh l home).2 h61 (ints_keepX (own_mono (unhide HQ).1 (Nat.le_trans hB (Nat.le_trans (Nat.le_of_lt (Nat.lt_of_le_of_lt hg hgl)) (Nat.le_refl _)))) (fun k hk hc => by have := (unhide HVB k hk).1; simp [Value.ownBlock] at hc; omega) h65)
    (fun e he => ⟨h63 e he, fun k hk hc => by
      have hk2 := unhide HVB k hk
      rcases List.mem_append.1 he with he | he
      · have := (unhide HE e he).lt hc; omega
      · rcases h64 e he k hc with h | h
        · simp [Value.ownBlock] at h; omega
        · omega⟩)
    (Nat.le_trans (Nat.le_trans hB (unhide HQ).2.size) h66.size) (by have := unhide runHigh_len home; omega) (by simp; omega) (by omega))
  have HB6 := hide ((unhide HQ).2.mono hB |>.trans h66)
  have hl1 := h62
  clear hI1 h61 h62 h63 h64 h65 h66
  go_wp2_with fail
  refine (unhide hI2).mono ?_
  rintro e w7 ⟨rfl, new2, v2, h71, h72, h73, h74, h75, h76⟩
  have HF : Hid (HeldAt B w7 b (N + 2) (ents ++ (new1 ++ new2)) v2 ∧ (new1 ++ new2).length = 8 ∧ (∀ e ∈ ents ++ (new1 ++ new2), EntOk w7 e) ∧ Below B w w7) :=
    ⟨by rw [← List.append_assoc]; exact h71, by simp [hl1, h72], by rw [← List.append_assoc]; exact h73, (unhide HB6).trans h76⟩
  clear hI2 h71 h72 h73 h74 h75 h76
  go_wp2_with (go_at_call 37; refine (num_law _ _).mono ?_; rintro e w' ⟨rfl, rfl⟩)
  go_ret
  exact ⟨by simp, new1 ++ new2, v2, unhide HF⟩
end Go.Proofs.YtfaljekgpnbmiaaGreat

/-
  The walk of the statement Highs.
-/
namespace Go.Proofs.YtfaljekgpnbmiaaGreat
open Go.RowKit
set_option linter.unusedVariables false
set_option linter.unusedSimpArgs false

set_option maxRecDepth 100000 in
set_option maxHeartbeats 4000000 in
theorem Highs_walk (l : List UInt8) (home : List Int) (vh : Value) (w : World) (hlm : l.length ≤ maxLen) (hh : IntsAt w vh home) (hhl : home.length ≤ 17592186043904) :
    Calls Tryz.prog 3 #[.string ⟨l.toArray⟩, vh] w fun e w' => e = .returned (.bool true) ∧ Below w.heap.size w w' := by
  have HM := hide hh
  have H0 : Hid (HeldAt w.heap.size (w.alloc (.cells #[.int .i64 0, .slice none 0 0, .slice none 0 0, .slice none 0 0] 28)) w.heap.size 0 [] (.slice none 0 0) ∧ Below w.heap.size w (w.alloc (.cells #[.int .i64 0, .slice none 0 0, .slice none 0 0, .slice none 0 0] 28))) :=
    ⟨⟨Nat.le_refl _, heap_alloc_new w _, World.ownsRow_nil _ _ _ _⟩, (Below.refl _ _).alloc (Nat.le_refl _) _⟩
  have hC := hide (fun w1 => checkHigh_law l w1 hlm)
  have hP := hide (fun w1 => printHigh_law l w1 hlm)
  obtain ⟨a8, p8, rfl, _⟩ := hh
  go_enter Tryz.func3, Tryz.ntmps3
  go_wp2_with fail
  refine ((unhide hC) _).mono ?_
  rintro e w1 ⟨rfl, hb1⟩
  have H1 : Hid (HeldAt w.heap.size w1 w.heap.size 0 [] (.slice none 0 0) ∧ Below w.heap.size w w1) := ⟨(unhide H0).1.below hb1, (unhide H0).2.trans (hb1.mono (unhide H0).2.size)⟩
  clear H0 hb1 hC
  go_wp2_with fail
  refine ((unhide hP) _).mono ?_
  rintro e w2 ⟨rfl, hb2⟩
  have H2 : Hid (HeldAt w.heap.size w2 w.heap.size 0 [] (.slice none 0 0) ∧ Below w.heap.size w w2) := ⟨(unhide H1).1.below hb2, (unhide H1).2.trans (hb2.mono (unhide H1).2.size)⟩
  have hR := hide (runHigh_law l home _ (unhide H2).1 (by simp) ((unhide HM).below (unhide H2).2) hlm hhl (unhide H2).2.size (by simp) (by omega))
  clear H1 hb2 hP
  go_wp2_with fail
  refine (unhide hR).mono ?_
  rintro e w3 ⟨rfl, new1, v1, q1, q2, q3, q4⟩
  have hb3 : Below w.heap.size w w3 := (unhide H2).2.trans q4
  have hR2 := hide (runHigh_law l home _ q1 q3 ((unhide HM).below hb3) hlm hhl hb3.size (by simp; omega) (by omega))
  have HB3 := hide hb3
  clear hR H2 q1 q3 q4 hb3
  go_wp2_with fail
  refine (unhide hR2).mono ?_
  rintro e w4 ⟨rfl, new2, v2, q1, q5, q3, q4⟩
  have hb4 : Below w.heap.size w w4 := (unhide HB3).trans q4
  have hD := hide (dry_law q1 q3 (by simp; omega))
  have HB4 := hide hb4
  clear hR2 HB3 q1 q3 q4 hb4
  go_wp2_with fail
  refine (unhide hD).mono ?_
  rintro e w5 ⟨rfl, hb5⟩
  have HB5 : Hid (Below w.heap.size w w5) := (unhide HB4).trans (hb5.mono (unhide HB4).size)
  clear hD hb5
  go_wp2
  go_ret
  exact ⟨rfl, unhide HB5⟩
end Go.Proofs.YtfaljekgpnbmiaaGreat

/-
  What a row says of a program's make: its facts, one by one, come to all of them together.
-/
namespace Go.Proofs.YtfaljekgpnbmiaaGreat
open Go.ChangeShapes Go.WideShapes Go.ChangeAt Go.RowKit

theorem joined_parts (P : Program) (f : FuncId) (fn : Func) (s : ChangeSpec) (c : OpenClaim) (k0 : c.wf (OpenSpec.ofChange s) = true) (k1 : laidOutB P = true) (k2 : mapsRowed P = true) (k3 : fn.params.all (P.readableRec ·) = true) (k4 : namedTie P c.named s.vars = true) (k5 : (c.stops == []) = true) (k6 : (P.stops == []) = true) (k7 : (c.knobs == []) = true) (k8 : (P.stopKnobs == []) = true) (k9 : (c.inPlace == P.inPlace f) = true) (k10 : (c.unfollowed == P.unfollowed f) = true) (k11 : (c.recurses == P.recurses f) = true) (k12 : (c.named == P.varsNamed f) = true) (k13 : (c.maps == (fn.params.toList ++ s.plain.varTypes P).any (P.mapsRec ·)) = true) (k14 : (c.ifaces == (fn.params.toList ++ s.plain.varTypes P).any (P.ifacesRec ·)) = true) (k15 : (c.mapsOut == P.mapsAmong fn.resultTypes.toList) = true) (k16 : (c.loops == (fn.params.toList ++ s.plain.varTypes P).any (P.loopsFrom ·)) = true) (k17 : (c.wideKeys == (fn.params.toList ++ s.plain.varTypes P ++ fn.resultTypes.toList).any (P.wideKeysFrom ·)) = true) (k18 : s.vars.all (P.varReadable ·) = true) (k19 : fn.resultTypes.all (fun t => P.readableRec t && decide (t < P.types.size)) = true) (k20 : (c.ifacesOut == fn.resultTypes.toList.any (P.ifacesRec ·)) = true) (k21 : (c.loopsOut == fn.resultTypes.toList.any (P.loopsFrom ·)) = true) (k22 : (c.plainKeys == P.plainKeys) = true) (k23 : c.shortTexts.isNone = true) (k24 : P.stopsHeard = true) (k25 : P.mayEnter = true) (k26 : (c.lifted == P.liftsFinal) = true) (k27 : (P.make == some c.make) = true) (k28 : c.domain.isEmpty = true) (k29 : (c.kinds == []) = true) (k30 : (c.pinned == c.pinnedBy) = true) (k31 : (c.veiled == (fn.params.toList ++ s.plain.varTypes P ++ fn.resultTypes.toList).any (P.veiledRec ·)) = true) (k32 : c.veiledFits P fn.params.toList (fn.params.toList ++ s.plain.varTypes P ++ fn.resultTypes.toList) = true) : joinedFacts P f fn s c = true := by
  unfold joinedFacts
  simp only [Bool.and_eq_true]
  refine ⟨⟨⟨⟨⟨⟨⟨⟨⟨⟨⟨⟨⟨⟨⟨⟨⟨⟨⟨⟨⟨⟨⟨⟨⟨⟨⟨⟨⟨⟨⟨k0, k1⟩, k2⟩, k3⟩, k4⟩, k5⟩, k6⟩, k7⟩, k8⟩, k9⟩, k10⟩, k11⟩, k12⟩, k13⟩, k14⟩, k15⟩, k16⟩, k17⟩, k18⟩, k19⟩, k20⟩, k21⟩, k22⟩, k23⟩, k24⟩, k25⟩, k26⟩, k27⟩, ?_⟩, k30⟩, k31⟩, k32⟩
  rw [if_pos k28]; exact k29
end Go.Proofs.YtfaljekgpnbmiaaGreat

/-
  What the row of Highs says of the program's make: each of its facts by itself.
-/
namespace Go.Proofs.YtfaljekgpnbmiaaGreat
open Go.ChangeShapes Go.WideShapes Go.ChangeAt Go.RowKit

theorem highs_k0 : Rows.highsRow.wf (OpenSpec.ofChange Rows.highsSpec) = true := by kernel_rfl
theorem highs_k1 : laidOutB Tryz.pinned.checked.prog = true := by kernel_rfl
theorem highs_k2 : mapsRowed Tryz.pinned.checked.prog = true := by kernel_rfl
theorem highs_k3 : Tryz.f3.params.all (Tryz.pinned.checked.prog.readableRec ·) = true := by kernel_rfl
theorem highs_k4 : namedTie Tryz.pinned.checked.prog Rows.highsRow.named Rows.highsSpec.vars = true := by kernel_rfl
theorem highs_k5 : (Rows.highsRow.stops == []) = true := by kernel_rfl
theorem highs_k6 : (Tryz.pinned.checked.prog.stops == []) = true := by kernel_rfl
theorem highs_k7 : (Rows.highsRow.knobs == []) = true := by kernel_rfl
theorem highs_k8 : (Tryz.pinned.checked.prog.stopKnobs == []) = true := by kernel_rfl
theorem highs_k9 : (Rows.highsRow.inPlace == Tryz.pinned.checked.prog.inPlace 3) = true := by kernel_rfl
theorem highs_k10 : (Rows.highsRow.unfollowed == Tryz.pinned.checked.prog.unfollowed 3) = true := by kernel_rfl
theorem highs_k11 : (Rows.highsRow.recurses == Tryz.pinned.checked.prog.recurses 3) = true := by kernel_rfl
theorem highs_k12 : (Rows.highsRow.named == Tryz.pinned.checked.prog.varsNamed 3) = true := by kernel_rfl
theorem highs_k13 : (Rows.highsRow.maps == (Tryz.f3.params.toList ++ Rows.highsSpec.plain.varTypes Tryz.pinned.checked.prog).any (Tryz.pinned.checked.prog.mapsRec ·)) = true := by kernel_rfl
theorem highs_k14 : (Rows.highsRow.ifaces == (Tryz.f3.params.toList ++ Rows.highsSpec.plain.varTypes Tryz.pinned.checked.prog).any (Tryz.pinned.checked.prog.ifacesRec ·)) = true := by kernel_rfl
theorem highs_k15 : (Rows.highsRow.mapsOut == Tryz.pinned.checked.prog.mapsAmong Tryz.f3.resultTypes.toList) = true := by kernel_rfl
theorem highs_k16 : (Rows.highsRow.loops == (Tryz.f3.params.toList ++ Rows.highsSpec.plain.varTypes Tryz.pinned.checked.prog).any (Tryz.pinned.checked.prog.loopsFrom ·)) = true := by kernel_rfl
theorem highs_k17 : (Rows.highsRow.wideKeys == (Tryz.f3.params.toList ++ Rows.highsSpec.plain.varTypes Tryz.pinned.checked.prog ++ Tryz.f3.resultTypes.toList).any (Tryz.pinned.checked.prog.wideKeysFrom ·)) = true := by kernel_rfl
theorem highs_k18 : Rows.highsSpec.vars.all (Tryz.pinned.checked.prog.varReadable ·) = true := by kernel_rfl
theorem highs_k19 : Tryz.f3.resultTypes.all (fun t => Tryz.pinned.checked.prog.readableRec t && decide (t < Tryz.pinned.checked.prog.types.size)) = true := by kernel_rfl
theorem highs_k20 : (Rows.highsRow.ifacesOut == Tryz.f3.resultTypes.toList.any (Tryz.pinned.checked.prog.ifacesRec ·)) = true := by kernel_rfl
theorem highs_k21 : (Rows.highsRow.loopsOut == Tryz.f3.resultTypes.toList.any (Tryz.pinned.checked.prog.loopsFrom ·)) = true := by kernel_rfl
theorem highs_k22 : (Rows.highsRow.plainKeys == Tryz.pinned.checked.prog.plainKeys) = true := by kernel_rfl
theorem highs_k23 : Rows.highsRow.shortTexts.isNone = true := by kernel_rfl
theorem highs_k24 : Tryz.pinned.checked.prog.stopsHeard = true := by kernel_rfl
theorem highs_k25 : Tryz.pinned.checked.prog.mayEnter = true := by kernel_rfl
theorem highs_k26 : (Rows.highsRow.lifted == Tryz.pinned.checked.prog.liftsFinal) = true := by kernel_rfl
theorem highs_k27 : (Tryz.pinned.checked.prog.make == some Rows.highsRow.make) = true := by kernel_rfl
theorem highs_k28 : Rows.highsRow.domain.isEmpty = true := by kernel_rfl
theorem highs_k29 : (Rows.highsRow.kinds == []) = true := by kernel_rfl
theorem highs_k30 : (Rows.highsRow.pinned == Rows.highsRow.pinnedBy) = true := by kernel_rfl
theorem highs_k31 : (Rows.highsRow.veiled == (Tryz.f3.params.toList ++ Rows.highsSpec.plain.varTypes Tryz.pinned.checked.prog ++ Tryz.f3.resultTypes.toList).any (Tryz.pinned.checked.prog.veiledRec ·)) = true := by kernel_rfl
theorem highs_k32 : Rows.highsRow.veiledFits Tryz.pinned.checked.prog Tryz.f3.params.toList (Tryz.f3.params.toList ++ Rows.highsSpec.plain.varTypes Tryz.pinned.checked.prog ++ Tryz.f3.resultTypes.toList) = true := by kernel_rfl
theorem highs_closed : joinedFacts Tryz.pinned.checked.prog 3 Tryz.f3 Rows.highsSpec Rows.highsRow = true := joined_parts Tryz.pinned.checked.prog 3 Tryz.f3 Rows.highsSpec Rows.highsRow highs_k0 highs_k1 highs_k2 highs_k3 highs_k4 highs_k5 highs_k6 highs_k7 highs_k8 highs_k9 highs_k10 highs_k11 highs_k12 highs_k13 highs_k14 highs_k15 highs_k16 highs_k17 highs_k18 highs_k19 highs_k20 highs_k21 highs_k22 highs_k23 highs_k24 highs_k25 highs_k26 highs_k27 highs_k28 highs_k29 highs_k30 highs_k31 highs_k32
end Go.Proofs.YtfaljekgpnbmiaaGreat
