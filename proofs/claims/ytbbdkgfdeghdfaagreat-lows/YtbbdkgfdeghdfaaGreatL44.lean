/- Joined: Law12 Law13. -/
import Derived.Test.YtbbdkgfdeghdfaaGreatL43
/-
  Contract of the statement's own dry.
-/
namespace Go.Proofs.YtbbdkgfdeghdfaaGreat
open Go.RowKit

theorem entCellsH_get (ents : List (Value × Int)) : ∀ k, (h : k < ents.length) → (entCellsH ents)[2 * k]? = some ents[k].1 ∧ (entCellsH ents)[2 * k + 1]? = some (intV ents[k].2) := by
  induction ents with
  | nil => intro k h; simp at h
  | cons e r ih =>
    intro k h
    cases k with
    | zero => exact ⟨rfl, rfl⟩
    | succ k =>
      have := ih k (by simpa using h)
      have e1 : 2 * (k + 1) = 2 * k + 2 := by omega
      rw [e1]
      exact this
theorem held_get {B : Nat} {w : World} {b N : Nat} {ents : List (Value × Int)} {va : Option Addr} {vn vc : Nat} (h : HeldAt B w b N ents (.slice va vn vc)) (k : Nat) (hk : k < ents.length) : ∃ g, va = some ⟨g, 0, none⟩ ∧ w.cell? ⟨g, k * 2, none⟩ = some ents[k].1 ∧ w.cell? ⟨g, k * 2 + 1, none⟩ = some (.int .i64 ents[k].2) := by
  rcases h.own.2 with ⟨_, hn⟩ | ⟨g, cap, cur, he, hb, hgg, hle, hm, hcs, htk⟩
  · omega
  · injection he with e1 _ _
    obtain ⟨c1, c2⟩ := entCellsH_get ents k hk
    rw [Nat.mul_comm] at c1 c2
    rw [← htk] at c1 c2
    refine ⟨g, e1, ?_, ?_⟩
    · rw [cellsOf hgg, ← Array.getElem?_toList]
      rw [List.getElem?_take, if_pos (by omega)] at c1; exact c1
    · rw [cellsOf hgg, ← Array.getElem?_toList]
      rw [List.getElem?_take, if_pos (by omega)] at c2; exact c2

set_option maxRecDepth 100000 in
set_option maxHeartbeats 4000000 in
theorem dry_law {B : Nat} {w : World} {b N : Nat} {ents : List (Value × Int)} {v0 : Value} (hH : HeldAt B w b N ents v0) (hE : ∀ e ∈ ents, EntOk w e) (hn : ents.length ≤ 100) :
    Calls Tryz.prog 9 #[.pointer (some ⟨b, 0, none⟩)] w fun e w' => e = .returned (.bool true) ∧ Below w.heap.size w w' := by
  obtain ⟨va, vc, rfl⟩ := slice_shape hH.own
  have HH := hide hH
  have HE := hide hE
  obtain ⟨T, hT⟩ : ∃ T : Nat, T = ents.length := ⟨_, rfl⟩
  rw [← hT] at HH hn
  have HT := hide hT
  clear hH hE hT
  go_enter Tryz.func9, Tryz.ntmps9
  go_wp2
  go_loopw [3] (fun i wr => ∃ k : Nat, k ≤ T ∧ i = .int .i64 k ∧ Hid (Below w.heap.size w wr)) (fun i _ => T - (intOf i).toNat)
  case atStart => exact ⟨0, by omega, rfl, Below.refl _ _⟩
  case round =>
    obtain ⟨k, hk, rfl, hh⟩ := hrel
    have hHr := (unhide HH).below (unhide hh)
    have c1 : wr.cell? ⟨b, 1, none⟩ = some (.slice va T vc) := by rw [cellsOf hHr.blk]; rfl
    have c2 : wr.cell? ⟨b, 2, none⟩ = some (.slice none 0 0) := by rw [cellsOf hHr.blk]; rfl
    have c3 : wr.cell? ⟨b, 3, none⟩ = some (.slice none 0 0) := by rw [cellsOf hHr.blk]; rfl
    by_cases hlt : k < T
    · have hke : k < ents.length := by have := unhide HT; omega
      obtain ⟨g, rfl, d1, d2⟩ := held_get hHr k hke
      have hok := (unhide HE ents[k] (List.getElem_mem hke)).keepT (.of_below (unhide hh))
      generalize ents[k] = en at *
      obtain ⟨ev, n⟩ := en
      obtain ⟨m, hev⟩ := hok
      simp only at d1 d2 hev
      obtain ⟨ea, ec, rfl, hec⟩ := ints_shape hev
      rw [List.length_replicate] at d1 hev
      have hmm : m ≤ maxLen := by
        rcases hev.2 with ⟨_, h0⟩ | ⟨_, cap, _, _, _, _, h1, h2, _⟩
        · simp at h0; omega
        · simp at h1; omega
      unfold maxLen at hmm
      have hI := hide ((ints_own hev).below ((Below.refl _ _).alloc (Nat.le_refl _) (.cells #[.slice ea m ec, .int .i64 n] 53)))
      have x0 : (wr.alloc (.cells #[.slice ea m ec, .int .i64 n] 53)).cell? ⟨wr.heap.size, 0, none⟩ = some (.slice ea m ec) := by rw [cellsOf (heap_alloc_new wr _)]; rfl
      have x1 : (wr.alloc (.cells #[.slice ea m ec, .int .i64 n] 53)).cell? ⟨wr.heap.size, 1, none⟩ = some (.int .i64 n) := by rw [cellsOf (heap_alloc_new wr _)]; rfl
      have HB : Hid (∀ q, Below w.heap.size w ((wr.alloc (.cells #[.slice ea m ec, .int .i64 n] 53)).drewN q)) := fun q => below_drewN ((unhide hh).alloc (unhide hh).size _) q
      clear hh hev hHr
      obtain ⟨wv, hwv⟩ : ∃ wv : World, wv = wr := ⟨wr, rfl⟩
      subst hwv
      go_wp2
      go_loopw [5] (fun i wr => ∃ (j q : Nat), j ≤ m ∧ i = .int .i64 j ∧ wr = (wv.alloc (.cells #[.slice ea m ec, .int .i64 n] 53)).drewN q) (fun i _ => m - (intOf i).toNat)
      case atStart => exact ⟨0, 0, by omega, rfl, rfl⟩
      case round =>
        obtain ⟨j, q, hj, rfl, rfl⟩ := hrel
        by_cases hjm : j < m
        · obtain ⟨b1, o1, rfl, y1⟩ := ints_get (unhide hI) j (by simpa using hjm)
          have y2 : (wv.alloc (.cells #[.slice (some ⟨b1, o1, none⟩) m ec, .int .i64 n] 53)).cell? ⟨b1, o1 + j, none⟩ = some (.int .i64 n) := by
            simpa using y1
          go_wp2
          go_quiet (fail)
          go_wp2
          go_roundw
          case rel => exact ⟨j + 1, _, by omega, by go_num, rfl⟩
          case measure => simp [intOf]; omega
        · go_wp2
          go_roundw
          case rel => exact ⟨k + 1, by omega, by go_num, unhide HB _⟩
          case measure => simp [intOf]; omega
    · have HB : Hid (Below w.heap.size w wr) := hh
      clear hh hHr
      obtain ⟨wv, hwv⟩ : ∃ wv : World, wv = wr := ⟨wr, rfl⟩
      subst hwv
      go_wp2
      go_loopw [6] (fun i wr => i = .int .i64 0 ∧ wr = wv) (fun _ _ => 0)
      case atStart => exact ⟨rfl, rfl⟩
      case round =>
        obtain ⟨rfl, hw6⟩ := hrel
        rw [hw6]
        clear hw6 wr
        go_wp2
        go_loopw [9] (fun i wr => i = .int .i64 0 ∧ wr = wv) (fun _ _ => 0)
        case atStart => exact ⟨rfl, rfl⟩
        case round =>
          obtain ⟨rfl, hw9⟩ := hrel
          rw [hw9]
          clear hw9 wr
          go_wp2
          go_ret
          exact ⟨rfl, unhide HB⟩
end Go.Proofs.YtbbdkgfdeghdfaaGreat

/-
  The walk of the statement Lows.
-/
namespace Go.Proofs.YtbbdkgfdeghdfaaGreat
open Go.RowKit

set_option maxRecDepth 100000 in
set_option maxHeartbeats 4000000 in
theorem Lows_walk (l : List UInt8) (home : List Int) (vh : Value) (w : World) (hlm : l.length ≤ maxLen) (hh : IntsAt w vh home) (hhl : home.length ≤ 17592186043904) :
    Calls Tryz.prog 4 #[.string ⟨l.toArray⟩, vh] w fun e w' => e = .returned (.bool true) ∧ Below w.heap.size w w' := by
  have HM := hide hh
  have H0 : Hid (HeldAt w.heap.size (w.alloc (.cells #[.int .i64 0, .slice none 0 0, .slice none 0 0, .slice none 0 0] 28)) w.heap.size 0 [] (.slice none 0 0) ∧ Below w.heap.size w (w.alloc (.cells #[.int .i64 0, .slice none 0 0, .slice none 0 0, .slice none 0 0] 28))) :=
    ⟨⟨Nat.le_refl _, heap_alloc_new w _, World.ownsRow_nil _ _ _ _⟩, (Below.refl _ _).alloc (Nat.le_refl _) _⟩
  have hC := hide (fun w1 => checkLow_law l w1 hlm)
  have hP := hide (fun w1 => printLow_law l w1 hlm)
  obtain ⟨a8, p8, rfl, _⟩ := hh
  go_enter Tryz.func4, Tryz.ntmps4
  go_wp2_with fail
  refine ((unhide hC) _).mono ?_
  rintro e w1 ⟨rfl, hb1⟩
  have H1 : Hid (HeldAt w.heap.size w1 w.heap.size 0 [] (.slice none 0 0) ∧ Below w.heap.size w w1) := ⟨(unhide H0).1.below hb1, (unhide H0).2.trans (hb1.mono (unhide H0).2.size)⟩
  clear H0 hb1 hC
  go_wp2_with fail
  refine ((unhide hP) _).mono ?_
  rintro e w2 ⟨rfl, hb2⟩
  have H2 : Hid (HeldAt w.heap.size w2 w.heap.size 0 [] (.slice none 0 0) ∧ Below w.heap.size w w2) := ⟨(unhide H1).1.below hb2, (unhide H1).2.trans (hb2.mono (unhide H1).2.size)⟩
  have hR := hide (runLow_law l home _ (unhide H2).1 (by simp) ((unhide HM).below (unhide H2).2) hlm hhl (unhide H2).2.size (by simp) (by omega))
  clear H1 hb2 hP
  go_wp2_with fail
  refine (unhide hR).mono ?_
  rintro e w3 ⟨rfl, new1, v1, q1, q2, q3, q4⟩
  have hb3 : Below w.heap.size w w3 := (unhide H2).2.trans q4
  have hR2 := hide (runLow_law l home _ q1 q3 ((unhide HM).below hb3) hlm hhl hb3.size (by simp; omega) (by omega))
  have HB3 := hide hb3
  clear hR H2 q1 q3 q4 hb3
  go_wp2_with fail
  refine (unhide hR2).mono ?_
  rintro e w4 ⟨rfl, new2, v2, q1, q5, q3, q4⟩
  have hb4 : Below w.heap.size w w4 := (unhide HB3).trans q4
  have hD := hide (dry_law q1 q3 (by simp; omega))
  have HB4 := hide hb4
  clear hR2 HB3 q1 q3 q4 hb4
  go_wp2_with fail
  refine (unhide hD).mono ?_
  rintro e w5 ⟨rfl, hb5⟩
  have HB5 : Hid (Below w.heap.size w w5) := (unhide HB4).trans (hb5.mono (unhide HB4).size)
  clear hD hb5
  go_wp2
  go_ret
  exact ⟨rfl, unhide HB5⟩
end Go.Proofs.YtbbdkgfdeghdfaaGreat
