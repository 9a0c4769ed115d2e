/- Joined: Plan2. -/
import Derived.Test.YtfaljekgpnbmiaaGreatH06
/-
  Contracts of the plan's bandSum, bandBound, inputBound.
-/
namespace Go.Proofs.YtfaljekgpnbmiaaGreat
open Go.RowKit

/-- A slice of pairs of ints (bands, spans) that reads as l. -/
def PairsAt (w : World) (v : Value) (l : List (Int × Int)) : Prop :=
  ∃ ad cap, v = .slice ad l.length cap ∧ ∀ i, (hi : i < l.length) → ∃ g, ad = some ⟨g, 0, none⟩ ∧ w.cell? ⟨g, i * 2, none⟩ = some (.int .i64 l[i].1) ∧ w.cell? ⟨g, i * 2 + 1, none⟩ = some (.int .i64 l[i].2)
theorem spanCells_get (l : List (Int × Int)) (i : Nat) (hi : i < l.length) : (spanCells l)[i * 2]? = some (intV l[i].1) ∧ (spanCells l)[i * 2 + 1]? = some (intV l[i].2) := by
  induction l generalizing i with
  | nil => simp at hi
  | cons e l ih =>
    cases i with
    | zero => exact ⟨rfl, rfl⟩
    | succ i =>
      have := ih i (by simpa using hi)
      have e1 : spanCells (e :: l) = intV e.1 :: intV e.2 :: spanCells l := by simp [spanCells]
      rw [e1]
      rw [show (i + 1) * 2 = i * 2 + 1 + 1 by omega]
      simpa using this
theorem pairs_own {B : Nat} {e : TypeId} {w : World} {v : Value} {l : List (Int × Int)} (h : w.ownsRow B e 2 v l.length (spanCells l)) : PairsAt w v l := by
  rcases h.2 with ⟨rfl, hn⟩ | ⟨g, cap, cur, rfl, hb, hgg, hle, hm, hcs, htk⟩
  · exact ⟨none, 0, by rw [hn], fun i hi => by omega⟩
  · refine ⟨some ⟨g, 0, none⟩, cap, rfl, fun i hi => ⟨g, rfl, ?_, ?_⟩⟩
    · have := World.ownsRow.cellAt h (i * 2) (by omega)
      rw [this]; exact (spanCells_get l i hi).1
    · have := World.ownsRow.cellAt h (i * 2 + 1) (by omega)
      rw [this]; exact (spanCells_get l i hi).2
theorem cell_kept {w w' : World} {a : Addr} {x : Value} (h : Below w.heap.size w w') (hc : w.cell? a = some x) : w'.cell? a = some x :=
  (h.cell (World.block_lt_of_cell? w a hc)).trans hc
theorem PairsAt.below {w w' : World} {v : Value} {l : List (Int × Int)} (h : PairsAt w v l) (hb : Below w.heap.size w w') : PairsAt w' v l := by
  obtain ⟨ad, cap, hv, hc⟩ := h
  refine ⟨ad, cap, hv, fun i hi => ?_⟩
  obtain ⟨g, hg, h1, h2⟩ := hc i hi
  exact ⟨g, hg, cell_kept hb h1, cell_kept hb h2⟩
theorem IntsAt.below {w w' : World} {v : Value} {l : List Int} (h : IntsAt w v l) (hb : Below w.heap.size w w') : IntsAt w' v l := by
  obtain ⟨ad, cap, hv, hc⟩ := h
  refine ⟨ad, cap, hv, fun i hi => ?_⟩
  obtain ⟨b, off, hg, h1⟩ := hc i hi
  exact ⟨b, off, hg, cell_kept hb h1⟩

theorem bb_step (a acc : Int) (l : List (Int × Int)) (k : Nat) (h : k < l.length) : Pl.bandBoundFrom a (l.drop k) acc = Pl.bandBoundFrom a (l.drop (k + 1)) (wrap64 (acc + wrap64 (Pl.absW l[k].2 * wrap64 (a + Pl.absW l[k].1)))) := by
  rw [List.drop_eq_getElem_cons h, Pl.bandBoundFrom]
theorem bb_end (a acc : Int) (l : List (Int × Int)) (k : Nat) (h : l.length ≤ k) : Pl.bandBoundFrom a (l.drop k) acc = acc := by
  rw [List.drop_eq_nil_of_le h]; rfl

set_option maxHeartbeats 400000 in
theorem bandBound_any (a : Int) (l : List (Int × Int)) (v : Value) (w : World) (h : PairsAt w v l) (hl : l.length ≤ 1000) :
    Calls Tryz.prog 252 #[.int .i64 a, v] w fun e w' => e = .returned (.int .i64 (Pl.bandBoundW a l)) ∧ w' = w := by
  obtain ⟨ad, cap, rfl, hc⟩ := h
  go_enter Tryz.func252, Tryz.ntmps252
  go_wp2
  go_loop [5, 6] (fun s i => ∃ (k : Nat) (acc : Int), k ≤ l.length ∧ i = .int .i64 k ∧ s = .int .i64 acc ∧ Hid (Pl.bandBoundFrom a (l.drop k) acc = Pl.bandBoundW a l)) (fun _ i => l.length - (intOf i).toNat)
  case atStart => exact ⟨0, 0, by omega, rfl, rfl, rfl⟩
  case round =>
    obtain ⟨k, acc, hk, rfl, rfl, hr⟩ := hrel
    by_cases hlt : k < l.length
    · obtain ⟨g, rfl, h1, h2⟩ := hc k hlt
      have hx : Hid (Pl.bandBoundFrom a (l.drop (k + 1)) (wrap64 (acc + wrap64 (Pl.absW l[k].2 * wrap64 (a + Pl.absW l[k].1)))) = Pl.bandBoundW a l) := (bb_step a acc l k hlt).symm.trans hr.out
      clear hc hr
      generalize l[k].1 = x at *
      generalize l[k].2 = y at *
      go_wp2_with (go_at_call 250; refine (absoluteW_any _ _).mono ?_; rintro e w' ⟨rfl, rfl⟩)
      go_round
      case rel => exact ⟨k + 1, _, by omega, by go_num, rfl, hx.out⟩
      case measure => simp [intOf]; omega
    · have hx : Hid (acc = Pl.bandBoundW a l) := (bb_end a acc l k (by omega)).symm.trans hr.out
      clear hc hr
      go_wp2
      go_ret
      exact ⟨ret_int hx.out, rfl⟩

theorem bs_end (a acc : Int) (l : List (Int × Int)) (k : Nat) (h : l.length ≤ k) : Pl.bandSumFrom a (l.drop k) acc = acc := by
  rw [List.drop_eq_nil_of_le h]; rfl
def topOf (a : Int) (l : List (Int × Int)) (k : Nat) : Int := if h : k + 1 < l.length then Pl.lesser a l[k + 1].1 else a
theorem bs_yes (a acc : Int) (l : List (Int × Int)) (k : Nat) (h : k < l.length) (ht : l[k].1 < topOf a l k) : Pl.bandSumFrom a (l.drop k) acc = Pl.bandSumFrom a (l.drop (k + 1)) (wrap64 (acc + wrap64 (l[k].2 * wrap64 (topOf a l k - l[k].1)))) := by
  rw [List.drop_eq_getElem_cons h]
  unfold topOf at *
  split at ht
  · rename_i h2
    rw [dif_pos h2, List.drop_eq_getElem_cons h2, Pl.bandSumFrom, if_pos ht]
  · rename_i h2
    rw [dif_neg h2, List.drop_eq_nil_of_le (by omega)]
    show (if l[k].1 < a then _ else _) = _
    rw [if_pos ht]; rfl
theorem bs_no (a acc : Int) (l : List (Int × Int)) (k : Nat) (h : k < l.length) (ht : ¬ l[k].1 < topOf a l k) : Pl.bandSumFrom a (l.drop k) acc = Pl.bandSumFrom a (l.drop (k + 1)) acc := by
  rw [List.drop_eq_getElem_cons h]
  unfold topOf at *
  split at ht
  · rename_i h2
    rw [List.drop_eq_getElem_cons h2, Pl.bandSumFrom, if_neg ht]
  · rename_i h2
    rw [List.drop_eq_nil_of_le (by omega)]
    show (if l[k].1 < a then _ else _) = _
    rw [if_neg ht]; rfl

set_option maxHeartbeats 1000000 in
theorem bandSum_any (a : Int) (l : List (Int × Int)) (v : Value) (w : World) (h : PairsAt w v l) (hl : l.length ≤ 1000) :
    Calls Tryz.prog 195 #[.int .i64 a, v] w fun e w' => e = .returned (.int .i64 (Pl.bandSumW a l)) ∧ ∃ n, w' = w.drewN n := by
  obtain ⟨ad, cap, rfl, hc⟩ := h
  go_enter Tryz.func195, Tryz.ntmps195
  go_wp2
  go_loopw [5, 6] (fun s i wr => ∃ (k n : Nat) (acc : Int), k ≤ l.length ∧ i = .int .i64 k ∧ s = .int .i64 acc ∧ wr = w.drewN n ∧ Hid (Pl.bandSumFrom a (l.drop k) acc = Pl.bandSumW a l)) (fun _ i _ => l.length - (intOf i).toNat)
  case atStart => exact ⟨0, 0, 0, by omega, rfl, rfl, rfl, rfl⟩
  case round =>
    obtain ⟨k, n, acc, hk, rfl, rfl, rfl, hr⟩ := hrel
    by_cases hlt : k < l.length
    · obtain ⟨g, rfl, h1, h2⟩ := hc k hlt
      by_cases hnx : k + 1 < l.length
      · obtain ⟨g2, hg2, h3, _⟩ := hc (k + 1) hnx
        obtain rfl : g = g2 := by simpa using hg2
        have htop : topOf a l k = Pl.lesser a l[k + 1].1 := by unfold topOf; rw [dif_pos hnx]
        by_cases ht : l[k].1 < topOf a l k
        · have hx : Hid (Pl.bandSumFrom a (l.drop (k + 1)) (wrap64 (acc + wrap64 (l[k].2 * wrap64 (topOf a l k - l[k].1)))) = Pl.bandSumW a l) := (bs_yes a acc l k hlt ht).symm.trans hr.out
          rw [htop] at hx ht
          clear hc hr htop hg2
          generalize l[k].1 = x at *
          generalize l[k].2 = y at *
          generalize l[k + 1].1 = z at *
          go_wp2_with (go_at_call 192; refine (lesser_any _ _ _).mono ?_; rintro e w' ⟨rfl, rfl⟩)
          go_quiet (fail)
          go_wp2
          go_roundw
          case rel => exact ⟨k + 1, _, _, by omega, by go_num, rfl, rfl, hx.out⟩
          case measure => simp [intOf]; omega
        · have hx : Hid (Pl.bandSumFrom a (l.drop (k + 1)) acc = Pl.bandSumW a l) := (bs_no a acc l k hlt ht).symm.trans hr.out
          rw [htop] at ht
          clear hc hr htop hg2
          generalize l[k].1 = x at *
          generalize l[k].2 = y at *
          generalize l[k + 1].1 = z at *
          go_wp2_with (go_at_call 192; refine (lesser_any _ _ _).mono ?_; rintro e w' ⟨rfl, rfl⟩)
          go_roundw
          case rel => exact ⟨k + 1, _, _, by omega, by go_num, rfl, rfl, hx.out⟩
          case measure => simp [intOf]; omega
      · have htop : topOf a l k = a := by unfold topOf; rw [dif_neg hnx]
        by_cases ht : l[k].1 < topOf a l k
        · have hx : Hid (Pl.bandSumFrom a (l.drop (k + 1)) (wrap64 (acc + wrap64 (l[k].2 * wrap64 (topOf a l k - l[k].1)))) = Pl.bandSumW a l) := (bs_yes a acc l k hlt ht).symm.trans hr.out
          rw [htop] at hx ht
          clear hc hr htop
          generalize l[k].1 = x at *
          generalize l[k].2 = y at *
          go_wp2_with fail
          go_quiet (fail)
          go_wp2
          go_roundw
          case rel => exact ⟨k + 1, _, _, by omega, by go_num, rfl, rfl, hx.out⟩
          case measure => simp [intOf]; omega
        · have hx : Hid (Pl.bandSumFrom a (l.drop (k + 1)) acc = Pl.bandSumW a l) := (bs_no a acc l k hlt ht).symm.trans hr.out
          rw [htop] at ht
          clear hc hr htop
          generalize l[k].1 = x at *
          generalize l[k].2 = y at *
          go_wp2_with fail
          go_roundw
          case rel => exact ⟨k + 1, _, _, by omega, by go_num, rfl, rfl, hx.out⟩
          case measure => simp [intOf]; omega
    · have hx : Hid (acc = Pl.bandSumW a l) := (bs_end a acc l k (by omega)).symm.trans hr.out
      clear hc hr
      go_wp2
      go_ret
      exact ⟨ret_int hx.out, n, rfl⟩

set_option maxHeartbeats 400000 in
theorem inputBound_any (ins : List (Int × Int)) (i : Int) (b : Nat) (v : Value) (w : World) (hv : w.cell? ⟨b, 0, none⟩ = some v) (h : PairsAt w v ins) :
    Calls Tryz.prog 251 #[.pointer (some ⟨b, 0, none⟩), .int .i64 i] w fun e w' => e = .returned (.int .i64 (Pl.inputBoundW ins i)) ∧ w' = w := by
  obtain ⟨ad, cap, rfl, hc⟩ := h
  by_cases h0 : i < 0
  · have hx : Hid (Pl.inputBoundW ins i = 0) := by rw [Pl.inputBoundW, if_neg (by omega)]; rfl
    have hd : decide (i < 0) = true := by simpa using h0
    clear hc
    go_enter Tryz.func251, Tryz.ntmps251
    go_wp2
    go_ret
    exact ⟨ret_int hx.out.symm, rfl⟩
  · by_cases h1 : (ins.length : Int) ≤ i
    · have hx : Hid (Pl.inputBoundW ins i = 0) := by rw [Pl.inputBoundW, if_neg (by omega)]; rfl
      have hd : decide (i < 0) = false := by simpa using h0
      have hd2 : decide ((ins.length : Int) ≤ i) = true := by simpa using h1
      clear hc
      go_enter Tryz.func251, Tryz.ntmps251
      go_wp2
      go_ret
      exact ⟨ret_int hx.out.symm, rfl⟩
    · obtain ⟨k, rfl⟩ := Int.eq_ofNat_of_zero_le (show 0 ≤ i by omega)
      have hk : k < ins.length := by omega
      have hx : Hid (Pl.inputBoundW ins k = Pl.greater (Pl.absW ins[k].1) (Pl.absW ins[k].2)) := by
        rw [Pl.inputBoundW, if_pos (by omega), Int.toNat_natCast, List.getD_eq_getElem?_getD, List.getElem?_eq_getElem hk]; rfl
      obtain ⟨g, rfl, hc1, hc2⟩ := hc k hk
      clear hc
      generalize ins[k].1 = x at *
      generalize ins[k].2 = y at *
      go_enter Tryz.func251, Tryz.ntmps251
      go_wp2_with (first | (go_at_call 250; refine (absoluteW_any _ _).mono ?_; rintro e w' ⟨rfl, rfl⟩) | (go_at_call 193; refine (greater_any _ _ _).mono ?_; rintro e w' ⟨rfl, rfl⟩))
      go_ret
      exact ⟨ret_int hx.out.symm, rfl⟩
end Go.Proofs.YtfaljekgpnbmiaaGreat
