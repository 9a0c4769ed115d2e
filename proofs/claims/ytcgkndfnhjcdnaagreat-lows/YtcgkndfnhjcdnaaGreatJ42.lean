/- Joined: Law11 Law12 Law13. -/
import Derived.Test.YtcgkndfnhjcdnaaGreatJ41
/-
  Contract of the statement's own runLow: the walk.
-/
namespace Go.Proofs.YtcgkndfnhjcdnaaGreat
open Go.RowKit

/-- All that the walk has behind the calls. -/
theorem drew_below {B : Nat} {w w' : World} (h : Below B w w') (n : Nat) : Below B w (w'.drewN n) := below_drewN h n
set_option maxRecDepth 100000 in
set_option maxHeartbeats 4000000 in
theorem runLow_law {B : Nat} {w : World} {b N : Nat} {ents : List (Value × Int)} {v0 : Value} (l : List UInt8) (home : List Int) (vh : Value) (hH : HeldAt B w b N ents v0) (hE : ∀ e ∈ ents, EntOk w e) (hh : IntsAt w vh home) (hlm : l.length ≤ maxLen) (hhl : home.length ≤ 17592186043904) (hB : B ≤ w.heap.size) (hn : ents.length ≤ 90) (hN : N ≤ 90) :
    Calls Tryz.prog 11 #[.pointer (some ⟨b, 0, none⟩), .string ⟨l.toArray⟩, vh] w fun e w' => e = .returned (.bool true) ∧ ∃ new v1, HeldAt B w' b (N + 2) (ents ++ new) v1 ∧ new.length = 8 ∧ (∀ e ∈ ents ++ new, EntOk w' e) ∧ Below B w w' := by
  have hml : home.length ≤ maxLen := by unfold maxLen; omega
  have hLd := hide (lend_law home vh w hh hhl)
  have HHm := hide hh
  have HH := hide hH
  have HE := hide hE
  obtain ⟨a8, p8, rfl, _⟩ := hh
  clear hH hE
  go_enter Tryz.func11, Tryz.ntmps11
  go_wp2_with fail
  refine (unhide hLd).mono ?_
  rintro e w1 ⟨g, rfl, hg, hgb, hb1⟩
  have hm1 : IntsAt w1 (.slice a8 home.length p8) home := (unhide HHm).below hb1
  have hR := hide (RunLow_all l home (.slice (some ⟨g, 0, none⟩) home.length (home.length + 2)) w1 hlm (lent_front hgb _))
  have HG1 := hide hgb
  have HB1 := hide hb1
  have HM1 := hide hm1
  clear hLd hgb hb1 hm1
  go_wp2_with fail
  refine (unhide hR).mono ?_
  rintro e w2 ⟨v, rfl, hv2, hb2⟩
  have hm2 := (unhide HM1).below hb2
  obtain ⟨va, vc, rfl, hvc⟩ := ints_shape hv2
  have hRf := hide (RunLow_ref l home (.slice a8 home.length p8) w2 hlm (Pl.low_fine l) hm2 hml (fun h0 hf => Pl.low_safe l home h0 hf))
  rw [Pl.low_run] at hRf
  have hgl : g < w1.heap.size := lt_of_block (unhide HG1)
  have HG2 : Hid (w2.heap[g]? = some (.cells (lendCells home 2).toArray 3 (0, 0))) := by rw [hb2.block g hgl]; exact unhide HG1
  have HB2 := hide hb2
  have HM2 := hide hm2
  have HV2 := hide hv2
  clear hR hb2 hm2 hv2
  go_wp2_with fail
  refine (unhide hRf).mono ?_
  rintro e w3 ⟨v', rfl, hv3, hb3⟩
  have hm3 := (unhide HM2).below hb3
  obtain ⟨va', vc', rfl, hvc'⟩ := ints_shape hv3
  have hgl2 : g < w2.heap.size := Nat.lt_of_lt_of_le hgl (unhide HB2).size
  have hg3 : w3.heap[g]? = some (.cells (lendCells home 2).toArray 3 (0, 0)) := by rw [hb3.block g hgl2]; exact unhide HG2
  have hS1 := hide (lent_law home _ g w3 hm3 hg3 hhl)
  have HV3 : Hid (IntsOwn w1.heap.size w3 (.slice va (Pl.runLow l home).2.length vc) (Pl.runLow l home).2 ∧ IntsOwn w2.heap.size w3 (.slice va' (Pl.runLow l home).2.length vc') (Pl.runLow l home).2 ∧ w3.heap[g]? = some (.cells (lendCells home 2).toArray 3 (0, 0)) ∧ Below w.heap.size w w3) :=
    ⟨own_keep (unhide HV2) (.of_below hb3), hv3, hg3, ((unhide HB1).trans ((unhide HB2).mono (unhide HB1).size)).trans (hb3.mono (Nat.le_trans (unhide HB1).size (unhide HB2).size))⟩
  have hz23 : w1.heap.size ≤ w2.heap.size ∧ w2.heap.size ≤ w3.heap.size := ⟨(unhide HB2).size, hb3.size⟩
  have HVB : Hid (∀ k, Value.ownBlock (.slice va (Pl.runLow l home).2.length vc) = some k → w1.heap.size ≤ k ∧ k < w2.heap.size) := by
    intro k hk
    rcases (unhide HV2).2 with ⟨h1, _⟩ | ⟨k', cap, cur, h1, h2, h3, _⟩
    · rw [h1] at hk; simp [Value.ownBlock] at hk
    · rw [h1] at hk; simp [Value.ownBlock] at hk; subst hk; exact ⟨h2, lt_of_block h3⟩
  clear hRf HV2 HM2 HG2 HB2 HB1 HM1 HG1 hv3 hb3 hm3 hg3
  go_wp2_with fail
  refine (unhide hS1).mono ?_
  rintro e w4 ⟨rfl, m1, hw4⟩
  have hb4 : Below w3.heap.size w3 w4 := by rw [hw4]; exact below_drewN (Below.refl _ _) _
  have hS2 := hide (sameInts_law (Pl.runLow l home).2 _ _ w4 ((ints_own (unhide HV3).1).below hb4) ((ints_own (unhide HV3).2.1).below hb4) (by have := runLow_len l home; unfold maxLen; omega))
  have HB4 := hide hb4
  clear hS1 hw4 hb4
  go_wp2_with fail
  refine (unhide hS2).mono ?_
  rintro e w5 ⟨rfl, m2, hw5⟩
  have hb5 : Below w3.heap.size w3 w5 := by rw [hw5]; exact below_drewN (unhide HB4) _
  have hz5 : w3.heap.size ≤ w5.heap.size := hb5.size
  obtain ⟨q1, _, q3, q4⟩ := unhide HV3
  have hb05 : Below w.heap.size w w5 := q4.trans (hb5.mono q4.size)
  have hg5 : w5.heap[g]? = some (.cells (lendCells home 2).toArray 3 (0, 0)) := by rw [hb5.block g (lt_of_block q3)]; exact q3
  have hI1 := hide (ints_law _ _ ((unhide HH).below hb05) (lend_own hg5 (Nat.le_trans hB hg) hhl) (fun e he => ⟨(unhide HE e he).keepT (.of_below hb05), fun k hk hc => by have := (unhide HE e he).lt hc; simp [Value.ownBlock] at hk; omega⟩) (Nat.le_trans hB hb05.size) (by simp; omega) (by omega) (by omega))
  have HQ : Hid (IntsOwn w1.heap.size w5 (.slice va (Pl.runLow l home).2.length vc) (Pl.runLow l home).2 ∧ Below w.heap.size w w5) := ⟨own_keep q1 (.of_below hb5), hb05⟩
  clear hS2 hw5 hb5 HV3 HB4 q1 q3 q4 hg5 hb05
  go_wp2_with fail
  refine (unhide hI1).mono ?_
  rintro e w6 ⟨rfl, new1, v1, h61, h62, h63, h64, h65, h66⟩
  have hI2 := hide (ints_law (.slice va (Pl.runLow l home).2.length vc) (Pl.runLow l home).2 h61 (ints_keepX (own_mono (unhide HQ).1 (Nat.le_trans hB (Nat.le_trans (Nat.le_of_lt (Nat.lt_of_le_of_lt hg hgl)) (Nat.le_refl _)))) (fun k hk hc => by have := (unhide HVB k hk).1; simp [Value.ownBlock] at hc; omega) h65)
    (fun e he => ⟨h63 e he, fun k hk hc => by
      have hk2 := unhide HVB k hk
      rcases List.mem_append.1 he with he | he
      · have := (unhide HE e he).lt hc; omega
      · rcases h64 e he k hc with h | h
        · simp [Value.ownBlock] at h; omega
        · omega⟩)
    (Nat.le_trans (Nat.le_trans hB (unhide HQ).2.size) h66.size) (by have := runLow_len l home; omega) (by simp; omega) (by omega))
  have HB6 := hide ((unhide HQ).2.mono hB |>.trans h66)
  have hl1 := h62
  clear hI1 h61 h62 h63 h64 h65 h66
  go_wp2_with fail
  refine (unhide hI2).mono ?_
  rintro e w7 ⟨rfl, new2, v2, h71, h72, h73, h74, h75, h76⟩
  have HF : Hid (HeldAt B w7 b (N + 2) (ents ++ (new1 ++ new2)) v2 ∧ (new1 ++ new2).length = 8 ∧ (∀ e ∈ ents ++ (new1 ++ new2), EntOk w7 e) ∧ Below B w w7) :=
    ⟨by rw [← List.append_assoc]; exact h71, by simp [hl1, h72], by rw [← List.append_assoc]; exact h73, (unhide HB6).trans h76⟩
  clear hI2 h71 h72 h73 h74 h75 h76
  go_wp2_with (go_at_call 14; refine (num_law _ _).mono ?_; rintro e w' ⟨rfl, rfl⟩)
  go_ret
  exact ⟨by simp, new1 ++ new2, v2, unhide HF⟩
end Go.Proofs.YtcgkndfnhjcdnaaGreat

/-
  Contract of the statement's own dry.
-/
namespace Go.Proofs.YtcgkndfnhjcdnaaGreat
open Go.RowKit

theorem entCellsH_len (ents : List (Value × Int)) : (entCellsH ents).length = 2 * ents.length := by
  induction ents with
  | nil => rfl
  | cons e r ih => simp only [entCellsH, List.map_cons, List.flatten_cons, List.length_append, List.length_cons, List.length_nil] at *; omega
theorem entCellsH_get (ents : List (Value × Int)) : ∀ k, (h : k < ents.length) → (entCellsH ents)[2 * k]? = some ents[k].1 ∧ (entCellsH ents)[2 * k + 1]? = some (intV ents[k].2) := by
  induction ents with
  | nil => intro k h; simp at h
  | cons e r ih =>
    intro k h
    cases k with
    | zero => exact ⟨rfl, rfl⟩
    | succ k =>
      have := ih k (by simpa using h)
      have e1 : 2 * (k + 1) = 2 * k + 2 := by omega
      rw [e1]
      exact this
theorem held_get {B : Nat} {w : World} {b N : Nat} {ents : List (Value × Int)} {va : Option Addr} {vn vc : Nat} (h : HeldAt B w b N ents (.slice va vn vc)) (k : Nat) (hk : k < ents.length) : ∃ g, va = some ⟨g, 0, none⟩ ∧ w.cell? ⟨g, k * 2, none⟩ = some ents[k].1 ∧ w.cell? ⟨g, k * 2 + 1, none⟩ = some (.int .i64 ents[k].2) := by
  rcases h.own.2 with ⟨_, hn⟩ | ⟨g, cap, cur, he, hb, hgg, hle, hm, hcs, htk⟩
  · omega
  · injection he with e1 _ _
    obtain ⟨c1, c2⟩ := entCellsH_get ents k hk
    rw [Nat.mul_comm] at c1 c2
    rw [← htk] at c1 c2
    refine ⟨g, e1, ?_, ?_⟩
    · rw [cellsOf hgg, ← Array.getElem?_toList]
      rw [List.getElem?_take, if_pos (by omega)] at c1; exact c1
    · rw [cellsOf hgg, ← Array.getElem?_toList]
      rw [List.getElem?_take, if_pos (by omega)] at c2; exact c2

set_option maxRecDepth 100000 in
set_option maxHeartbeats 4000000 in
theorem dry_law {B : Nat} {w : World} {b N : Nat} {ents : List (Value × Int)} {v0 : Value} (hH : HeldAt B w b N ents v0) (hE : ∀ e ∈ ents, EntOk w e) (hn : ents.length ≤ 100) :
    Calls Tryz.prog 8 #[.pointer (some ⟨b, 0, none⟩)] w fun e w' => e = .returned (.bool true) ∧ Below w.heap.size w w' := by
  obtain ⟨va, vc, rfl⟩ := slice_shape hH.own
  have HH := hide hH
  have HE := hide hE
  obtain ⟨T, hT⟩ : ∃ T : Nat, T = ents.length := ⟨_, rfl⟩
  rw [← hT] at HH hn
  have HT := hide hT
  clear hH hE hT
  go_enter Tryz.func8, Tryz.ntmps8
  go_wp2
  go_loopw [3] (fun i wr => ∃ k : Nat, k ≤ T ∧ i = .int .i64 k ∧ Hid (Below w.heap.size w wr)) (fun i _ => T - (intOf i).toNat)
  case atStart => exact ⟨0, by omega, rfl, Below.refl _ _⟩
  case round =>
    obtain ⟨k, hk, rfl, hh⟩ := hrel
    have hHr := (unhide HH).below (unhide hh)
    have c1 : wr.cell? ⟨b, 1, none⟩ = some (.slice va T vc) := by rw [cellsOf hHr.blk]; rfl
    have c2 : wr.cell? ⟨b, 2, none⟩ = some (.slice none 0 0) := by rw [cellsOf hHr.blk]; rfl
    have c3 : wr.cell? ⟨b, 3, none⟩ = some (.slice none 0 0) := by rw [cellsOf hHr.blk]; rfl
    by_cases hlt : k < T
    · have hke : k < ents.length := by have := unhide HT; omega
      obtain ⟨g, rfl, d1, d2⟩ := held_get hHr k hke
      have hok := (unhide HE ents[k] (List.getElem_mem hke)).keepT (.of_below (unhide hh))
      generalize ents[k] = en at *
      obtain ⟨ev, n⟩ := en
      obtain ⟨m, hev⟩ := hok
      simp only at d1 d2 hev
      obtain ⟨ea, ec, rfl, hec⟩ := ints_shape hev
      rw [List.length_replicate] at d1 hev
      have hmm : m ≤ maxLen := by
        rcases hev.2 with ⟨_, h0⟩ | ⟨_, cap, _, _, _, _, h1, h2, _⟩
        · simp at h0; omega
        · simp at h1; omega
      unfold maxLen at hmm
      have hI := hide ((ints_own hev).below ((Below.refl _ _).alloc (Nat.le_refl _) (.cells #[.slice ea m ec, .int .i64 n] 50)))
      have x0 : (wr.alloc (.cells #[.slice ea m ec, .int .i64 n] 50)).cell? ⟨wr.heap.size, 0, none⟩ = some (.slice ea m ec) := by rw [cellsOf (heap_alloc_new wr _)]; rfl
      have x1 : (wr.alloc (.cells #[.slice ea m ec, .int .i64 n] 50)).cell? ⟨wr.heap.size, 1, none⟩ = some (.int .i64 n) := by rw [cellsOf (heap_alloc_new wr _)]; rfl
      have HB : Hid (∀ q, Below w.heap.size w ((wr.alloc (.cells #[.slice ea m ec, .int .i64 n] 50)).drewN q)) := fun q => below_drewN ((unhide hh).alloc (unhide hh).size _) q
      clear hh hev hHr
      obtain ⟨wv, hwv⟩ : ∃ wv : World, wv = wr := ⟨wr, rfl⟩
      subst hwv
      go_wp2
      go_loopw [5] (fun i wr => ∃ (j q : Nat), j ≤ m ∧ i = .int .i64 j ∧ wr = (wv.alloc (.cells #[.slice ea m ec, .int .i64 n] 50)).drewN q) (fun i _ => m - (intOf i).toNat)
      case atStart => exact ⟨0, 0, by omega, rfl, rfl⟩
      case round =>
        obtain ⟨j, q, hj, rfl, rfl⟩ := hrel
        by_cases hjm : j < m
        · obtain ⟨b1, o1, rfl, y1⟩ := ints_get (unhide hI) j (by simpa using hjm)
          have y2 : (wv.alloc (.cells #[.slice (some ⟨b1, o1, none⟩) m ec, .int .i64 n] 50)).cell? ⟨b1, o1 + j, none⟩ = some (.int .i64 n) := by
            simpa using y1
          go_wp2
          go_quiet (fail)
          go_wp2
          go_roundw
          case rel => exact ⟨j + 1, _, by omega, by go_num, rfl⟩
          case measure => simp [intOf]; omega
        · go_wp2
          go_roundw
          case rel => exact ⟨k + 1, by omega, by go_num, unhide HB _⟩
          case measure => simp [intOf]; omega
    · have HB : Hid (Below w.heap.size w wr) := hh
      clear hh hHr
      obtain ⟨wv, hwv⟩ : ∃ wv : World, wv = wr := ⟨wr, rfl⟩
      subst hwv
      go_wp2
      go_loopw [6] (fun i wr => i = .int .i64 0 ∧ wr = wv) (fun _ _ => 0)
      case atStart => exact ⟨rfl, rfl⟩
      case round =>
        obtain ⟨rfl, hw6⟩ := hrel
        rw [hw6]
        clear hw6 wr
        go_wp2
        go_loopw [9] (fun i wr => i = .int .i64 0 ∧ wr = wv) (fun _ _ => 0)
        case atStart => exact ⟨rfl, rfl⟩
        case round =>
          obtain ⟨rfl, hw9⟩ := hrel
          rw [hw9]
          clear hw9 wr
          go_wp2
          go_ret
          exact ⟨rfl, unhide HB⟩
end Go.Proofs.YtcgkndfnhjcdnaaGreat

/-
  The walk of the statement Lows.
-/
namespace Go.Proofs.YtcgkndfnhjcdnaaGreat
open Go.RowKit

set_option maxRecDepth 100000 in
set_option maxHeartbeats 4000000 in
theorem Lows_walk (l : List UInt8) (home : List Int) (vh : Value) (w : World) (hlm : l.length ≤ maxLen) (hh : IntsAt w vh home) (hhl : home.length ≤ 17592186043904) :
    Calls Tryz.prog 4 #[.string ⟨l.toArray⟩, vh] w fun e w' => e = .returned (.bool true) ∧ Below w.heap.size w w' := by
  have HM := hide hh
  have H0 : Hid (HeldAt w.heap.size (w.alloc (.cells #[.int .i64 0, .slice none 0 0, .slice none 0 0, .slice none 0 0] 28)) w.heap.size 0 [] (.slice none 0 0) ∧ Below w.heap.size w (w.alloc (.cells #[.int .i64 0, .slice none 0 0, .slice none 0 0, .slice none 0 0] 28))) :=
    ⟨⟨Nat.le_refl _, heap_alloc_new w _, World.ownsRow_nil _ _ _ _⟩, (Below.refl _ _).alloc (Nat.le_refl _) _⟩
  have hC := hide (fun w1 => checkLow_law l w1 hlm)
  have hP := hide (fun w1 => printLow_law l w1 hlm)
  obtain ⟨a8, p8, rfl, _⟩ := hh
  go_enter Tryz.func4, Tryz.ntmps4
  go_wp2_with fail
  refine ((unhide hC) _).mono ?_
  rintro e w1 ⟨rfl, hb1⟩
  have H1 : Hid (HeldAt w.heap.size w1 w.heap.size 0 [] (.slice none 0 0) ∧ Below w.heap.size w w1) := ⟨(unhide H0).1.below hb1, (unhide H0).2.trans (hb1.mono (unhide H0).2.size)⟩
  clear H0 hb1 hC
  go_wp2_with fail
  refine ((unhide hP) _).mono ?_
  rintro e w2 ⟨rfl, hb2⟩
  have H2 : Hid (HeldAt w.heap.size w2 w.heap.size 0 [] (.slice none 0 0) ∧ Below w.heap.size w w2) := ⟨(unhide H1).1.below hb2, (unhide H1).2.trans (hb2.mono (unhide H1).2.size)⟩
  have hR := hide (runLow_law l home _ (unhide H2).1 (by simp) ((unhide HM).below (unhide H2).2) hlm hhl (unhide H2).2.size (by simp) (by omega))
  clear H1 hb2 hP
  go_wp2_with fail
  refine (unhide hR).mono ?_
  rintro e w3 ⟨rfl, new1, v1, q1, q2, q3, q4⟩
  have hb3 : Below w.heap.size w w3 := (unhide H2).2.trans q4
  have hR2 := hide (runLow_law l home _ q1 q3 ((unhide HM).below hb3) hlm hhl hb3.size (by simp; omega) (by omega))
  have HB3 := hide hb3
  clear hR H2 q1 q3 q4 hb3
  go_wp2_with fail
  refine (unhide hR2).mono ?_
  rintro e w4 ⟨rfl, new2, v2, q1, q5, q3, q4⟩
  have hb4 : Below w.heap.size w w4 := (unhide HB3).trans q4
  have hD := hide (dry_law q1 q3 (by simp; omega))
  have HB4 := hide hb4
  clear hR2 HB3 q1 q3 q4 hb4
  go_wp2_with fail
  refine (unhide hD).mono ?_
  rintro e w5 ⟨rfl, hb5⟩
  have HB5 : Hid (Below w.heap.size w w5) := (unhide HB4).trans (hb5.mono (unhide HB4).size)
  clear hD hb5
  go_wp2
  go_ret
  exact ⟨rfl, unhide HB5⟩
end Go.Proofs.YtcgkndfnhjcdnaaGreat
