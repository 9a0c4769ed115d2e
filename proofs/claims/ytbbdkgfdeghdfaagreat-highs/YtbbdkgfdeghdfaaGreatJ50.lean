/- Joined: Law14 Law15 Law16. -/
import Derived.Test.YtbbdkgfdeghdfaaGreatJ49
/-
  Contracts of the statement's own checkHigh, printHigh.
-/
namespace Go.Proofs.YtbbdkgfdeghdfaaGreat
open Go.RowKit
set_option linter.unusedVariables false
set_option linter.unusedSimpArgs false

set_option maxRecDepth 100000 in
set_option maxHeartbeats 1000000 in
theorem checkHigh_law (l : List UInt8) (w : World) (hlm : l.length ≤ maxLen) :
    Calls Tryz.prog 6 #[.string ⟨l.toArray⟩] w fun e w' => e = .returned (.bool true) ∧ Below w.heap.size w w' := by
  have hP := hide (CheckHigh_any l w hlm)
  obtain ⟨names, exs, hA⟩ := Pl.high_all l
  have hRf := hide (fun w1 => CheckHigh_ref l names exs w1 hlm hA.fine)
  have hE := hide hA.read
  clear hA
  go_enter Tryz.func6, Tryz.ntmps6
  go_wp2_with fail
  refine (unhide hP).mono ?_
  rintro e w1 ⟨rfl, hb1⟩
  have HB1 := hide hb1
  clear hP hb1
  go_wp2_with fail
  refine ((unhide hRf) w1).mono ?_
  rintro e w2 ⟨rfl, hb2⟩
  have HB2 := hide ((unhide HB1).trans (hb2.mono (unhide HB1).size))
  clear hb2
  rw [(unhide hE).1, (unhide hE).2]
  go_wp2_with (go_at_call 16; refine (num_law _ _).mono ?_; rintro e w' ⟨rfl, rfl⟩)
  go_ret
  exact ⟨by simp, unhide HB2⟩

set_option maxRecDepth 100000 in
set_option maxHeartbeats 1000000 in
theorem printHigh_law (l : List UInt8) (w : World) (hlm : l.length ≤ maxLen) :
    Calls Tryz.prog 7 #[.string ⟨l.toArray⟩] w fun e w' => e = .returned (.bool true) ∧ Below w.heap.size w w' := by
  have hP := hide (PrintHigh_any l w hlm)
  obtain ⟨names, exs, hA⟩ := Pl.high_all l
  have hRf := hide (fun w1 => PrintHigh_ref l names exs w1 hlm hA.fine hA.some)
  have hE := hide hA.print
  clear hA
  go_enter Tryz.func7, Tryz.ntmps7
  go_wp2_with fail
  refine (unhide hP).mono ?_
  rintro e w1 ⟨rfl, hb1⟩
  have HB1 := hide hb1
  clear hP hb1
  go_wp2_with fail
  refine ((unhide hRf) w1).mono ?_
  rintro e w2 ⟨rfl, hb2⟩
  have HB2 := hide ((unhide HB1).trans (hb2.mono (unhide HB1).size))
  clear hb2
  rw [unhide hE]
  unfold strV
  go_wp2_with (go_at_call 16; refine (num_law _ _).mono ?_; rintro e w' ⟨rfl, rfl⟩)
  go_ret
  exact ⟨by simp, unhide HB2⟩
end Go.Proofs.YtbbdkgfdeghdfaaGreat

/-
  Contract of the statement's own runHigh: the walk.
-/
namespace Go.Proofs.YtbbdkgfdeghdfaaGreat
open Go.RowKit
set_option linter.unusedVariables false
set_option linter.unusedSimpArgs false

set_option maxRecDepth 100000 in
set_option maxHeartbeats 4000000 in
theorem runHigh_law {B : Nat} {w : World} {b N : Nat} {ents : List (Value × Int)} {v0 : Value} (l : List UInt8) (home : List Int) (vh : Value) (hH : HeldAt B w b N ents v0) (hE : ∀ e ∈ ents, EntOk w e) (hh : IntsAt w vh home) (hlm : l.length ≤ maxLen) (hhl : home.length ≤ 17592186043904) (hB : B ≤ w.heap.size) (hn : ents.length ≤ 90) (hN : N ≤ 90) :
    Calls Tryz.prog 8 #[.pointer (some ⟨b, 0, none⟩), .string ⟨l.toArray⟩, vh] w fun e w' => e = .returned (.bool true) ∧ ∃ new v1, HeldAt B w' b (N + 2) (ents ++ new) v1 ∧ new.length = 8 ∧ (∀ e ∈ ents ++ new, EntOk w' e) ∧ Below B w w' := by
  have hml : home.length ≤ maxLen := by unfold maxLen; omega
  obtain ⟨names, exs, hA⟩ := Pl.high_all l
  have runHigh_len := hide hA.short
  have HAl := hide hA
  clear hA
  have hLd := hide (lend_law home vh w hh hhl)
  have HHm := hide hh
  have HH := hide hH
  have HE := hide hE
  obtain ⟨a8, p8, rfl, _⟩ := hh
  clear hH hE
  go_enter Tryz.func8, Tryz.ntmps8
  go_wp2_with fail
  refine (unhide hLd).mono ?_
  rintro e w1 ⟨g, rfl, hg, hgb, hb1⟩
  have hm1 : IntsAt w1 (.slice a8 home.length p8) home := (unhide HHm).below hb1
  have hR := hide (RunHigh_all l home (.slice (some ⟨g, 0, none⟩) home.length (home.length + 2)) w1 hlm (lent_front hgb _))
  have HG1 := hide hgb
  have HB1 := hide hb1
  have HM1 := hide hm1
  clear hLd hgb hb1 hm1
  go_wp2_with fail
  refine (unhide hR).mono ?_
  rintro e w2 ⟨v, rfl, hv2, hb2⟩
  have hm2 := (unhide HM1).below hb2
  obtain ⟨va, vc, rfl, hvc⟩ := ints_shape hv2
  have hRf := hide (RunHigh_ref l names exs home (.slice a8 home.length p8) w2 hlm (unhide HAl).fine hm2 hml (fun h0 hf => (unhide HAl).safe home h0 hf))
  rw [(unhide HAl).run home] at hRf
  have hgl : g < w1.heap.size := lt_of_block (unhide HG1)
  have HG2 : Hid (w2.heap[g]? = some (.cells (lendCells home 2).toArray 3 (0, 0))) := by rw [hb2.block g hgl]; exact unhide HG1
  have HB2 := hide hb2
  have HM2 := hide hm2
  have HV2 := hide hv2
  clear hR hb2 hm2 hv2
  go_wp2_with fail
  refine (unhide hRf).mono ?_
  rintro e w3 ⟨v', rfl, hv3, hb3⟩
  have hm3 := (unhide HM2).below hb3
  obtain ⟨va', vc', rfl, hvc'⟩ := ints_shape hv3
  have hgl2 : g < w2.heap.size := Nat.lt_of_lt_of_le hgl (unhide HB2).size
  have hg3 : w3.heap[g]? = some (.cells (lendCells home 2).toArray 3 (0, 0)) := by rw [hb3.block g hgl2]; exact unhide HG2
  have hS1 := hide (lent_law home _ g w3 hm3 hg3 hhl)
  have HV3 : Hid (IntsOwn w1.heap.size w3 (.slice va (Pl.runHigh l home).2.length vc) (Pl.runHigh l home).2 ∧ IntsOwn w2.heap.size w3 (.slice va' (Pl.runHigh l home).2.length vc') (Pl.runHigh l home).2 ∧ w3.heap[g]? = some (.cells (lendCells home 2).toArray 3 (0, 0)) ∧ Below w.heap.size w w3) :=
    ⟨own_keep (unhide HV2) (.of_below hb3), hv3, hg3, ((unhide HB1).trans ((unhide HB2).mono (unhide HB1).size)).trans (hb3.mono (Nat.le_trans (unhide HB1).size (unhide HB2).size))⟩
  have hz23 : w1.heap.size ≤ w2.heap.size ∧ w2.heap.size ≤ w3.heap.size := ⟨(unhide HB2).size, hb3.size⟩
  have HVB : Hid (∀ k, Value.ownBlock (.slice va (Pl.runHigh l home).2.length vc) = some k → w1.heap.size ≤ k ∧ k < w2.heap.size) := by
    intro k hk
    rcases (unhide HV2).2 with ⟨h1, _⟩ | ⟨k', cap, cur, h1, h2, h3, _⟩
    · rw [h1] at hk; simp [Value.ownBlock] at hk
    · rw [h1] at hk; simp [Value.ownBlock] at hk; subst hk; exact ⟨h2, lt_of_block h3⟩
  clear hRf HV2 HM2 HG2 HB2 HB1 HM1 HG1 hv3 hb3 hm3 hg3
  go_wp2_with fail
  refine (unhide hS1).mono ?_
  rintro e w4 ⟨rfl, m1, hw4⟩
  have hb4 : Below w3.heap.size w3 w4 := by rw [hw4]; exact below_drewN (Below.refl _ _) _
  have hS2 := hide (sameInts_law (Pl.runHigh l home).2 _ _ w4 ((ints_own (unhide HV3).1).below hb4) ((ints_own (unhide HV3).2.1).below hb4) (by have := unhide runHigh_len home; unfold maxLen; omega))
  have HB4 := hide hb4
  clear hS1 hw4 hb4
  go_wp2_with fail
  refine (unhide hS2).mono ?_
  rintro e w5 ⟨rfl, m2, hw5⟩
  have hb5 : Below w3.heap.size w3 w5 := by rw [hw5]; exact below_drewN (unhide HB4) _
  have hz5 : w3.heap.size ≤ w5.heap.size := hb5.size
  obtain ⟨q1, _, q3, q4⟩ := unhide HV3
  have hb05 : Below w.heap.size w w5 := q4.trans (hb5.mono q4.size)
  have hg5 : w5.heap[g]? = some (.cells (lendCells home 2).toArray 3 (0, 0)) := by rw [hb5.block g (lt_of_block q3)]; exact q3
  have hI1 := hide (ints_law _ _ ((unhide HH).below hb05) (lend_own hg5 (Nat.le_trans hB hg) hhl) (fun e he => ⟨(unhide HE e he).keepT (.of_below hb05), fun k hk hc => by have := (unhide HE e he).lt hc; simp [Value.ownBlock] at hk; omega⟩) (Nat.le_trans hB hb05.size) (by simp; omega) (by omega) (by omega))
  have HQ : Hid (IntsOwn w1.heap.size w5 (.slice va (Pl.runHigh l home).2.length vc) (Pl.runHigh l home).2 ∧ Below w.heap.size w w5) := ⟨own_keep q1 (.of_below hb5), hb05⟩
  clear hS2 hw5 hb5 HV3 HB4 q1 q3 q4 hg5 hb05
  go_wp2_with fail
  refine (unhide hI1).mono ?_
  rintro e w6 ⟨rfl, new1, v1, h61, h62, h63, h64, h65, h66⟩
  have hI2 := hide (ints_law (.slice va (Pl.runHigh l home).2.length vc) (Pl.runHigh l home).2 h61 (ints_keepX (own_mono (unhide HQ).1 (Nat.le_trans hB (Nat.le_trans (Nat.le_of_lt (Nat.lt_of_le_of_lt hg hgl)) (Nat.le_refl _)))) (fun k hk hc => by have := (unhide HVB k hk).1; simp [Value.ownBlock] at hc; omega) h65)
    (fun e he => ⟨h63 e he, fun k hk hc => by
      have hk2 := unhide HVB k hk
      rcases List.mem_append.1 he with he | he
      · have := (unhide HE e he).lt hc; omega
      · rcases h64 e he k hc with h | h
        · simp [Value.ownBlock] at h; omega
        · omega⟩)
    (Nat.le_trans (Nat.le_trans hB (unhide HQ).2.size) h66.size) (by have := unhide runHigh_len home; omega) (by simp; omega) (by omega))
  have HB6 := hide ((unhide HQ).2.mono hB |>.trans h66)
  have hl1 := h62
  clear hI1 h61 h62 h63 h64 h65 h66
  go_wp2_with fail
  refine (unhide hI2).mono ?_
  rintro e w7 ⟨rfl, new2, v2, h71, h72, h73, h74, h75, h76⟩
  have HF : Hid (HeldAt B w7 b (N + 2) (ents ++ (new1 ++ new2)) v2 ∧ (new1 ++ new2).length = 8 ∧ (∀ e ∈ ents ++ (new1 ++ new2), EntOk w7 e) ∧ Below B w w7) :=
    ⟨by rw [← List.append_assoc]; exact h71, by simp [hl1, h72], by rw [← List.append_assoc]; exact h73, (unhide HB6).trans h76⟩
  clear hI2 h71 h72 h73 h74 h75 h76
  go_wp2_with (go_at_call 16; refine (num_law _ _).mono ?_; rintro e w' ⟨rfl, rfl⟩)
  go_ret
  exact ⟨by simp, new1 ++ new2, v2, unhide HF⟩
end Go.Proofs.YtbbdkgfdeghdfaaGreat

/-
  The walk of the statement Highs.
-/
namespace Go.Proofs.YtbbdkgfdeghdfaaGreat
open Go.RowKit
set_option linter.unusedVariables false
set_option linter.unusedSimpArgs false

set_option maxRecDepth 100000 in
set_option maxHeartbeats 4000000 in
theorem Highs_walk (l : List UInt8) (home : List Int) (vh : Value) (w : World) (hlm : l.length ≤ maxLen) (hh : IntsAt w vh home) (hhl : home.length ≤ 17592186043904) :
    Calls Tryz.prog 3 #[.string ⟨l.toArray⟩, vh] w fun e w' => e = .returned (.bool true) ∧ Below w.heap.size w w' := by
  have HM := hide hh
  have H0 : Hid (HeldAt w.heap.size (w.alloc (.cells #[.int .i64 0, .slice none 0 0, .slice none 0 0, .slice none 0 0] 28)) w.heap.size 0 [] (.slice none 0 0) ∧ Below w.heap.size w (w.alloc (.cells #[.int .i64 0, .slice none 0 0, .slice none 0 0, .slice none 0 0] 28))) :=
    ⟨⟨Nat.le_refl _, heap_alloc_new w _, World.ownsRow_nil _ _ _ _⟩, (Below.refl _ _).alloc (Nat.le_refl _) _⟩
  have hC := hide (fun w1 => checkHigh_law l w1 hlm)
  have hP := hide (fun w1 => printHigh_law l w1 hlm)
  obtain ⟨a8, p8, rfl, _⟩ := hh
  go_enter Tryz.func3, Tryz.ntmps3
  go_wp2_with fail
  refine ((unhide hC) _).mono ?_
  rintro e w1 ⟨rfl, hb1⟩
  have H1 : Hid (HeldAt w.heap.size w1 w.heap.size 0 [] (.slice none 0 0) ∧ Below w.heap.size w w1) := ⟨(unhide H0).1.below hb1, (unhide H0).2.trans (hb1.mono (unhide H0).2.size)⟩
  clear H0 hb1 hC
  go_wp2_with fail
  refine ((unhide hP) _).mono ?_
  rintro e w2 ⟨rfl, hb2⟩
  have H2 : Hid (HeldAt w.heap.size w2 w.heap.size 0 [] (.slice none 0 0) ∧ Below w.heap.size w w2) := ⟨(unhide H1).1.below hb2, (unhide H1).2.trans (hb2.mono (unhide H1).2.size)⟩
  have hR := hide (runHigh_law l home _ (unhide H2).1 (by simp) ((unhide HM).below (unhide H2).2) hlm hhl (unhide H2).2.size (by simp) (by omega))
  clear H1 hb2 hP
  go_wp2_with fail
  refine (unhide hR).mono ?_
  rintro e w3 ⟨rfl, new1, v1, q1, q2, q3, q4⟩
  have hb3 : Below w.heap.size w w3 := (unhide H2).2.trans q4
  have hR2 := hide (runHigh_law l home _ q1 q3 ((unhide HM).below hb3) hlm hhl hb3.size (by simp; omega) (by omega))
  have HB3 := hide hb3
  clear hR H2 q1 q3 q4 hb3
  go_wp2_with fail
  refine (unhide hR2).mono ?_
  rintro e w4 ⟨rfl, new2, v2, q1, q5, q3, q4⟩
  have hb4 : Below w.heap.size w w4 := (unhide HB3).trans q4
  have hD := hide (dry_law q1 q3 (by simp; omega))
  have HB4 := hide hb4
  clear hR2 HB3 q1 q3 q4 hb4
  go_wp2_with fail
  refine (unhide hD).mono ?_
  rintro e w5 ⟨rfl, hb5⟩
  have HB5 : Hid (Below w.heap.size w w5) := (unhide HB4).trans (hb5.mono (unhide HB4).size)
  clear hD hb5
  go_wp2
  go_ret
  exact ⟨rfl, unhide HB5⟩
end Go.Proofs.YtbbdkgfdeghdfaaGreat
