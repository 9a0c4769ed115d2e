/- Joined: High2 High3. -/
import Derived.Test.YtbbdkgfdeghdfaaGreatJ17
/-
  Contracts of package high's choice, rounding, quotient and oneBand.
-/
namespace Go.Proofs.YtbbdkgfdeghdfaaGreat
open Go.RowKit

section
variable {f g : Pl.RdM → Option Int × Pl.RdM} {lo : Nat}

set_option maxHeartbeats 1000000 in
theorem choice_any (G : ReadC 248 g lo) (hkg : ∀ r, Pl.Keeps r (g r).2) (E : ReadC 168 f lo) (hk : ∀ r, Pl.Keeps r (f r).2) {B : Nat} {w : World} {b : Nat} {r : Pl.RdM} {s : Nat} (h : Rd B w b r) (ok : Pl.Ok s r) (hp : r.peek ≠ []) (hl : lo ≤ r.pos + 1) :
    Calls Tryz.prog 210 #[.pointer (some ⟨b, 0, none⟩)] w fun e w' => e = .returned (optV (Pl.choiceR g f r.skip).1) ∧ Rd B w' b (Pl.choiceR g f r.skip).2 ∧ Below B w w' := by
  have ok1 := ok.step hp
  have hl1 : lo ≤ r.skip.pos := by rw [(Pl.skip_of hp).1]; exact hl
  have hpos := ok.pos
  unfold Pl.choiceR
  cases hf1 : g r.skip with
  | mk o r1 =>
  cases o with
  | none =>
    go_enter Tryz.func210, Tryz.ntmps210
    go_wp2_with fail
    refine (Skip_any h hpos).mono ?_
    rintro e w1 ⟨rfl, hrw1, hbw1⟩
    go_wp2_with fail
    refine (G.no hrw1 ok1 hl1 hf1).mono ?_
    rintro e w2 ⟨rfl, hrw2, hbw2⟩
    have HH : Hid (Rd B w2 b r1 ∧ Below B w w2) := ⟨hrw2, (hbw1.trans hbw2)⟩
    clear hrw1 hbw1 hrw2 hbw2 h
    go_wp2
    go_ret2
    exact ⟨rfl, HH.out.1, HH.out.2⟩
  | some a =>
    have k1 := keeps_of hkg hf1
    have ok2 := k1.ok _ ok1
    have hl2 : lo ≤ r1.pos := Nat.le_trans hl1 k1.pos
    simp only
    cases hf2 : f r1 with
    | mk o r2 =>
    cases o with
    | none =>
      go_enter Tryz.func210, Tryz.ntmps210
      go_wp2_with fail
      refine (Skip_any h hpos).mono ?_
      rintro e w1 ⟨rfl, hrw1, hbw1⟩
      go_wp2_with fail
      refine (G.yes hrw1 ok1 hl1 hf1).mono ?_
      rintro e w2 ⟨rfl, hrw2, hbw2⟩
      go_wp2_with fail
      refine (E.no hrw2 ok2 hl2 hf2).mono ?_
      rintro e w3 ⟨rfl, hrw3, hbw3⟩
      have HH : Hid (Rd B w3 b r2 ∧ Below B w w3) := ⟨hrw3, ((hbw1.trans hbw2).trans hbw3)⟩
      clear hrw1 hbw1 hrw2 hbw2 hrw3 hbw3 h
      go_wp2
      go_ret2
      exact ⟨rfl, HH.out.1, HH.out.2⟩
    | some c =>
      have k2 := keeps_of hk hf2
      have ok3 := k2.ok _ ok2
      have hl3 : lo ≤ r2.pos := Nat.le_trans hl2 k2.pos
      simp only [Pl.oneR]
      cases hf3 : f r2 with
      | mk o r3 =>
      cases o with
      | none =>
        go_enter Tryz.func210, Tryz.ntmps210
        go_wp2_with fail
        refine (Skip_any h hpos).mono ?_
        rintro e w1 ⟨rfl, hrw1, hbw1⟩
        go_wp2_with fail
        refine (G.yes hrw1 ok1 hl1 hf1).mono ?_
        rintro e w2 ⟨rfl, hrw2, hbw2⟩
        go_wp2_with fail
        refine (E.yes hrw2 ok2 hl2 hf2).mono ?_
        rintro e w3 ⟨rfl, hrw3, hbw3⟩
        go_wp2_with fail
        refine (E.no hrw3 ok3 hl3 hf3).mono ?_
        rintro e w4 ⟨rfl, hrw4, hbw4⟩
        have HH : Hid (Rd B w4 b r3 ∧ Below B w w4) := ⟨hrw4, (((hbw1.trans hbw2).trans hbw3).trans hbw4)⟩
        clear hrw1 hbw1 hrw2 hbw2 hrw3 hbw3 hrw4 hbw4 h
        go_wp2
        go_ret2
        exact ⟨rfl, HH.out.1, HH.out.2⟩
      | some d =>
        have k3 := keeps_of hk hf3
        have ok4 := k3.ok _ ok3
        go_enter Tryz.func210, Tryz.ntmps210
        go_wp2_with fail
        refine (Skip_any h hpos).mono ?_
        rintro e w1 ⟨rfl, hrw1, hbw1⟩
        go_wp2_with fail
        refine (G.yes hrw1 ok1 hl1 hf1).mono ?_
        rintro e w2 ⟨rfl, hrw2, hbw2⟩
        go_wp2_with fail
        refine (E.yes hrw2 ok2 hl2 hf2).mono ?_
        rintro e w3 ⟨rfl, hrw3, hbw3⟩
        go_wp2_with fail
        refine (E.yes hrw3 ok3 hl3 hf3).mono ?_
        rintro e w4 ⟨rfl, hrw4, hbw4⟩
        go_wp2_with fail
        refine (Append_any hrw4 ⟨7, a, c, d, 0, []⟩ (.slice none 0 0) (World.ownsRow_nil _ _ _ _) (nodes_le ok4)).mono ?_
        rintro e w5 ⟨rfl, hrw5, hbw5⟩
        have HH : Hid (Rd B w5 b (r3.addNode ⟨7, a, c, d, 0, []⟩) ∧ Below B w w5) := ⟨hrw5, ((((hbw1.trans hbw2).trans hbw3).trans hbw4).trans hbw5)⟩
        clear hrw1 hbw1 hrw2 hbw2 hrw3 hbw3 hrw4 hbw4 hrw5 hbw5 h
        go_wp2
        go_ret2
        exact ⟨rfl, HH.out.1, HH.out.2⟩

set_option maxHeartbeats 1000000 in
theorem rounding_no {B : Nat} {w : World} {b : Nat} {r : Pl.RdM} (h : Rd B w b r) (hp : r.pos ≤ 600) (hno : Pl.roundingOf r.peek = none) :
    Calls Tryz.prog 249 #[.pointer (some ⟨b, 0, none⟩)] w fun e w' => e = .returned (.tuple #[.int .i64 8, .bool false]) ∧ Rd B w' b r ∧ Below B w w' := by
  have hpc := Peek_any h hp
  have h1 : Hid (∀ n, Rd B (w.drewN n) b r ∧ Below B w (w.drewN n)) := fun n => ⟨h.drewN n, below_drewN (Below.refl B w) n⟩
  generalize r.peek = t at *
  have hc : (t == Pl.kDown) = false ∧ (t == Pl.kUp) = false ∧ (t == Pl.kZero) = false ∧ (t == Pl.kNear) = false := by
    unfold Pl.roundingOf at hno
    refine ⟨?_, ?_, ?_, ?_⟩ <;> (rw [beq_eq_false_iff_ne]; rintro rfl; revert hno; decide)
  simp only [Pl.kDown, Pl.kUp, Pl.kZero, Pl.kNear] at hc
  obtain ⟨hc1, hc2, hc3, hc4⟩ := hc
  clear hno h
  go_enter Tryz.func249, Tryz.ntmps249
  go_wp2_with fail
  refine hpc.mono ?_
  rintro e w' ⟨rfl, n, rfl⟩
  unfold strV
  clear hpc
  go_wp2
  go_ret2
  exact ⟨rfl, (h1.out n).1, (h1.out n).2⟩

set_option maxHeartbeats 1000000 in
theorem rounding_yes {B : Nat} {w : World} {b : Nat} {r : Pl.RdM} (h : Rd B w b r) (hp : r.pos ≤ 600) (op : Int) (hno : Pl.roundingOf r.peek = some op) :
    Calls Tryz.prog 249 #[.pointer (some ⟨b, 0, none⟩)] w fun e w' => e = .returned (.tuple #[.int .i64 op, .bool true]) ∧ Rd B w' b r.skip ∧ Below B w w' := by
  have hpc := Peek_any h hp
  have h1 : Hid (∀ n, Rd B (w.drewN n) b r ∧ Below B w (w.drewN n)) := fun n => ⟨h.drewN n, below_drewN (Below.refl B w) n⟩
  have hc : (r.peek = Pl.kDown ∧ op = 8) ∨ (r.peek = Pl.kUp ∧ op = 9) ∨ (r.peek = Pl.kZero ∧ op = 10) ∨ (r.peek = Pl.kNear ∧ op = 11) := by
    unfold Pl.roundingOf at hno
    split at hno
    · cases hno; exact .inl ⟨‹_›, rfl⟩
    split at hno
    · cases hno; exact .inr (.inl ⟨‹_›, rfl⟩)
    split at hno
    · cases hno; exact .inr (.inr (.inl ⟨‹_›, rfl⟩))
    split at hno
    · cases hno; exact .inr (.inr (.inr ⟨‹_›, rfl⟩))
    · cases hno
  clear hno h
  rcases hc with ⟨e1, rfl⟩ | ⟨e1, rfl⟩ | ⟨e1, rfl⟩ | ⟨e1, rfl⟩
  all_goals
    rw [e1] at hpc
    clear e1
    go_enter Tryz.func249, Tryz.ntmps249
    go_wp2_with fail
    refine hpc.mono ?_
    rintro e w' ⟨rfl, n, rfl⟩
    simp only [strV, Pl.kDown, Pl.kUp, Pl.kZero, Pl.kNear]
    clear hpc
    go_wp2_with fail
    refine (Skip_any (h1.out n).1 hp).mono ?_
    rintro e w2 ⟨rfl, hr, hbb⟩
    have HH : Hid (Rd B w2 b r.skip ∧ Below B w w2) := ⟨hr, (h1.out n).2.trans hbb⟩
    clear hr hbb h1
    go_wp2
    go_ret2
    exact ⟨rfl, HH.out.1, HH.out.2⟩

set_option maxHeartbeats 1000000 in
theorem quotient_any (E : ReadC 168 f lo) (hk : ∀ r, Pl.Keeps r (f r).2) {B : Nat} {w : World} {b : Nat} {r : Pl.RdM} {s : Nat} (h : Rd B w b r) (ok : Pl.Ok s r) (hp : r.peek ≠ []) (hl : lo ≤ r.pos + 1) :
    Calls Tryz.prog 211 #[.pointer (some ⟨b, 0, none⟩)] w fun e w' => e = .returned (optV (Pl.quotientR f r.skip).1) ∧ Rd B w' b (Pl.quotientR f r.skip).2 ∧ Below B w w' := by
  have ok1 := ok.step hp
  have hl1 : lo ≤ r.skip.pos := by rw [(Pl.skip_of hp).1]; exact hl
  have hpos := ok.pos
  unfold Pl.quotientR
  cases hn : Pl.roundingOf r.skip.peek with
  | none =>
    go_enter Tryz.func211, Tryz.ntmps211
    go_wp2_with fail
    refine (Skip_any h hpos).mono ?_
    rintro e w1 ⟨rfl, hrw1, hbw1⟩
    go_wp2_with fail
    refine (rounding_no hrw1 ok1.pos hn).mono ?_
    rintro e w2 ⟨rfl, hrw2, hbw2⟩
    have HH : Hid (Rd B w2 b r.skip ∧ Below B w w2) := ⟨hrw2, (hbw1.trans hbw2)⟩
    clear hrw1 hbw1 hrw2 hbw2 h
    go_wp2
    go_ret2
    exact ⟨rfl, HH.out.1, HH.out.2⟩
  | some op =>
    have ks := Pl.Keeps.skip r.skip
    have ok2 := ks.ok _ ok1
    have hl2 : lo ≤ r.skip.skip.pos := Nat.le_trans hl1 ks.pos
    simp only
    cases hf1 : f r.skip.skip with
    | mk o r1 =>
    cases o with
    | none =>
      go_enter Tryz.func211, Tryz.ntmps211
      go_wp2_with fail
      refine (Skip_any h hpos).mono ?_
      rintro e w1 ⟨rfl, hrw1, hbw1⟩
      go_wp2_with fail
      refine (rounding_yes hrw1 ok1.pos op hn).mono ?_
      rintro e w2 ⟨rfl, hrw2, hbw2⟩
      go_wp2_with fail
      refine (E.no hrw2 ok2 hl2 hf1).mono ?_
      rintro e w3 ⟨rfl, hrw3, hbw3⟩
      have HH : Hid (Rd B w3 b r1 ∧ Below B w w3) := ⟨hrw3, ((hbw1.trans hbw2).trans hbw3)⟩
      clear hrw1 hbw1 hrw2 hbw2 hrw3 hbw3 h
      go_wp2
      go_ret2
      exact ⟨rfl, HH.out.1, HH.out.2⟩
    | some a =>
      have k1 := keeps_of hk hf1
      have ok3 := k1.ok _ ok2
      simp only
      cases hd : r1.num 1 1000000 with
      | none =>
        go_enter Tryz.func211, Tryz.ntmps211
        go_wp2_with fail
        refine (Skip_any h hpos).mono ?_
        rintro e w1 ⟨rfl, hrw1, hbw1⟩
        go_wp2_with fail
        refine (rounding_yes hrw1 ok1.pos op hn).mono ?_
        rintro e w2 ⟨rfl, hrw2, hbw2⟩
        go_wp2_with fail
        refine (E.yes hrw2 ok2 hl2 hf1).mono ?_
        rintro e w3 ⟨rfl, hrw3, hbw3⟩
        go_wp2_with fail
        refine (RNum_no hrw3 ok3.pos ok3.peek_len _ _ hd).mono ?_
        rintro e w4 ⟨rfl, hrw4, hbw4⟩
        have HH : Hid (Rd B w4 b r1 ∧ Below B w w4) := ⟨hrw4, (((hbw1.trans hbw2).trans hbw3).trans hbw4)⟩
        clear hrw1 hbw1 hrw2 hbw2 hrw3 hbw3 hrw4 hbw4 h
        go_wp2
        go_ret2
        exact ⟨rfl, HH.out.1, HH.out.2⟩
      | some d =>
        have ok4 := ok3.skip
        have e1 : r1.skip.nodes.length = r1.nodes.length := by unfold Pl.RdM.skip; split <;> rfl
        have ha := fun w4 (hr : Rd B w4 b r1.skip) => Append_any hr ⟨op, a, 0, 0, d, []⟩ (.slice none 0 0) (World.ownsRow_nil _ _ _ _) (nodes_le ok4)
        simp only [e1] at ha
        go_enter Tryz.func211, Tryz.ntmps211
        go_wp2_with fail
        refine (Skip_any h hpos).mono ?_
        rintro e w1 ⟨rfl, hrw1, hbw1⟩
        go_wp2_with fail
        refine (rounding_yes hrw1 ok1.pos op hn).mono ?_
        rintro e w2 ⟨rfl, hrw2, hbw2⟩
        go_wp2_with fail
        refine (E.yes hrw2 ok2 hl2 hf1).mono ?_
        rintro e w3 ⟨rfl, hrw3, hbw3⟩
        go_wp2_with fail
        refine (RNum_yes hrw3 ok3.pos ok3.peek_len _ _ d hd).mono ?_
        rintro e w4 ⟨rfl, hrw4, hbw4⟩
        go_wp2_with fail
        refine (ha _ hrw4).mono ?_
        rintro e w5 ⟨rfl, hrw5, hbw5⟩
        have HH : Hid (Rd B w5 b (r1.skip.addNode ⟨op, a, 0, 0, d, []⟩) ∧ Below B w w5) := ⟨hrw5, ((((hbw1.trans hbw2).trans hbw3).trans hbw4).trans hbw5)⟩
        clear hrw1 hbw1 hrw2 hbw2 hrw3 hbw3 hrw4 hbw4 hrw5 hbw5 h
        go_wp2
        go_ret2
        exact ⟨rfl, HH.out.1, HH.out.2⟩

end

theorem band_facts {w : World} {g : Nat} {x y : Value} (h : w.heap[g]? = some (.cells #[x, y] 198 (0, 0))) : w.cell? ⟨g, 0, none⟩ = some x ∧ w.cell? ⟨g, 1, none⟩ = some y ∧ w.frozen? ⟨g, 0, none⟩ = false ∧ w.frozen? ⟨g, 1, none⟩ = false :=
  ⟨by rw [cellsOf h]; rfl, by rw [cellsOf h]; rfl, freeOf h 0, freeOf h 1⟩
/-- A store into a new block of its own leaves the reader as it was. -/
theorem band_store {w w1 : World} {b p : Nat} (hlt : b < w.heap.size) (m : Moves b p w w1) (x y : Value) :
    Moves b p w ((w1.setCell ⟨w.heap.size, 0, none⟩ x).setCell ⟨w.heap.size, 1, none⟩ y) := (m.far (Nat.le_refl _) hlt 0 x).far (Nat.le_refl _) hlt 1 y

set_option maxHeartbeats 1000000 in
theorem oneBand_any {B : Nat} {w : World} {b : Nat} {r : Pl.RdM} {s : Nat} (h : Rd B w b r) (ok : Pl.Ok s r) (least : Int) :
    Calls Tryz.prog 250 #[.pointer (some ⟨b, 0, none⟩), .int .i64 least] w fun e w' => e = .returned (.tuple #[.agg #[.int .i64 ((Pl.bandR least r).1.getD (0, 0)).1, .int .i64 ((Pl.bandR least r).1.getD (0, 0)).2], .bool (Pl.bandR least r).1.isSome]) ∧ Moves b (Pl.bandR least r).2.pos w w' := by
  have hbd := h.bd
  have hal : Below w.heap.size w (w.alloc (.cells #[.int .i64 0, .int .i64 0] 198)) := (Below.refl _ w).alloc (Nat.le_refl _) _
  have h0 := h.below hal
  have hnew := heap_alloc_new w (.cells #[.int .i64 0, .int .i64 0] 198)
  have hO := h.stays hal
  unfold Pl.bandR
  cases hn : r.num least 1000000000 with
  | none =>
    have hc := RNumO_no h0 ok.pos ok.peek_len _ _ hn
    go_enter Tryz.func250, Tryz.ntmps250
    go_wp2_with fail
    refine hc.mono ?_
    rintro e w1 ⟨rfl, hb1⟩
    clear hc
    have hk := (hb1.only.block w.heap.size (by simp) (by omega)).trans hnew
    obtain ⟨hc0, hc1, hf0, hf1⟩ := band_facts hk
    have HH : Hid (∀ x y, Moves b r.pos w ((w1.setCell ⟨w.heap.size, 0, none⟩ x).setCell ⟨w.heap.size, 1, none⟩ y)) := fun x y => band_store hbd.2.2 (hO.trans hb1) x y
    clear hk hb1 hO hnew h0 hal h
    go_wp2
    exact bodyPost_ret (v := .tuple #[.agg #[.int .i64 0, .int .i64 0], .bool false]) (by simp [results, Tryz.results250, go_sem, hc0, hc1]) rfl ⟨rfl, HH.out _ _⟩
  | some t =>
    have hc := RNumO_yes h0 ok.pos ok.peek_len _ _ t hn
    simp only
    have ok1 := ok.skip
    cases hn2 : r.skip.num (-1000) 1000 with
    | none =>
      go_enter Tryz.func250, Tryz.ntmps250
      go_wp2_with fail
      refine hc.mono ?_
      rintro e w1 ⟨rfl, hb1⟩
      clear hc
      have hk := (hb1.only.block w.heap.size (by simp) (by omega)).trans hnew
      have hs1 := hb1.only.size
      go_wp2_with fail
      refine (RNumO_no (h0.skips hb1) ok1.pos ok1.peek_len _ _ hn2).mono ?_
      rintro e w2 ⟨rfl, hb2⟩
      have hk2 := (hb2.only.block w.heap.size (by simp at hs1; omega) (by omega)).trans hk
      obtain ⟨hc0, hc1, hf0, hf1⟩ := band_facts hk2
      have HH : Hid (∀ x y, Moves b r.skip.pos w ((w2.setCell ⟨w.heap.size, 0, none⟩ x).setCell ⟨w.heap.size, 1, none⟩ y)) := fun x y => band_store hbd.2.2 ((hO.trans hb1).trans hb2) x y
      clear hk hb1 hO hnew h0 hal h hk2 hb2 hs1
      go_wp2
      exact bodyPost_ret (v := .tuple #[.agg #[.int .i64 0, .int .i64 0], .bool false]) (by simp [results, Tryz.results250, go_sem, hc0, hc1]) rfl ⟨rfl, HH.out _ _⟩
    | some k =>
      go_enter Tryz.func250, Tryz.ntmps250
      go_wp2_with fail
      refine hc.mono ?_
      rintro e w1 ⟨rfl, hb1⟩
      clear hc
      have hk := (hb1.only.block w.heap.size (by simp) (by omega)).trans hnew
      have hs1 := hb1.only.size
      go_wp2_with fail
      refine (RNumO_yes (h0.skips hb1) ok1.pos ok1.peek_len _ _ k hn2).mono ?_
      rintro e w2 ⟨rfl, hb2⟩
      have hk2 := (hb2.only.block w.heap.size (by simp at hs1; omega) (by omega)).trans hk
      obtain ⟨hc0, hc1, hf0, hf1⟩ := band_facts hk2
      have HH : Hid (∀ x y, Moves b r.skip.skip.pos w ((w2.setCell ⟨w.heap.size, 0, none⟩ x).setCell ⟨w.heap.size, 1, none⟩ y)) := fun x y => band_store hbd.2.2 ((hO.trans hb1).trans hb2) x y
      clear hk hb1 hO hnew h0 hal h hk2 hb2 hs1
      go_wp2
      exact bodyPost_ret (v := .tuple #[.agg #[.int .i64 t, .int .i64 k], .bool true]) (by simp [results, Tryz.results250, go_sem, hc0, hc1]) rfl ⟨rfl, HH.out _ _⟩
end Go.Proofs.YtbbdkgfdeghdfaaGreat

/-
  The contract of package high's table.
-/
namespace Go.Proofs.YtbbdkgfdeghdfaaGreat
open Go.RowKit

theorem bandR_bd (least : Int) (r : Pl.RdM) (p : Int × Int) (r1 : Pl.RdM) (h : Pl.bandR least r = (some p, r1)) : least ≤ p.1 ∧ p.1 ≤ 1000000000 := by
  unfold Pl.bandR at h
  split at h
  · cases h
  · rename_i hn
    split at h
    · cases h
    · cases h; exact (Pl.num_some hn).2
theorem bandR_pos (least : Int) (r : Pl.RdM) : { r with pos := (Pl.bandR least r).2.pos } = (Pl.bandR least r).2 := by
  unfold Pl.bandR
  split
  · rfl
  · split
    · exact skip_eq r
    · show { r with pos := r.skip.skip.pos } = r.skip.skip
      rw [← skip_eq r.skip, ← skip_eq r]
theorem BandsOwn.grown {B : Nat} {w1 : World} {v' : Value} {l : List (Int × Int)} {p : Int × Int} (h : w1.ownsRow B 198 2 v' (l.length + 1) (spanCells l ++ [intV p.1, intV p.2])) : BandsOwn B w1 v' (l ++ [p]) := by
  unfold BandsOwn; rw [spanCells_snoc, List.length_append]; exact h
theorem Moves.alloc {b p : Nat} {w w' : World} (m : Moves b p w w') (hb : b < w.heap.size) (o : Obj) : Moves b p w (w'.alloc o) := by
  obtain ⟨o1, vi, vn, vo, vt, ve, q, T, e1, e2⟩ := m
  have hs := o1.size
  refine ⟨⟨o1.os, o1.tape, o1.output, by simp; omega, fun k hk hne => by rw [Below.heap_alloc _ _ _ (by omega)]; exact o1.block k hk hne⟩, _, _, _, _, _, _, _, e1, ?_⟩
  rw [Below.heap_alloc _ _ _ (by omega)]; exact e2
theorem Moves.grown {b p : Nat} {w w' w2 : World} {e : TypeId} {size n : Nat} {v : Value} {xs : List Value} (m : Moves b p w w') (hb : b < w.heap.size) (ho : w'.ownsRow w.heap.size e size v n xs) (hg : w'.grownBy w2 v.ownBlock) : Moves b p w w2 := by
  obtain ⟨o1, vi, vn, vo, vt, ve, q, T, e1, e2⟩ := m
  have hs := o1.size
  have hk : ∀ k : Nat, k < w.heap.size → w2.heap[k]? = w'.heap[k]? := fun k hk => hg.block k (by omega) (fun e => by have := (ho.lt k e.symm).1; omega)
  exact ⟨⟨hg.os.trans o1.os, hg.tape.trans o1.tape, hg.output.trans o1.output, Nat.le_trans hs hg.size, fun k h1 hne => (hk k h1).trans (o1.block k h1 hne)⟩, _, _, _, _, _, _, _, e1, (hk b hb).trans e2⟩
theorem Moves.keepBand {b p : Nat} {w w' : World} {B : Nat} {r : Pl.RdM} (m : Moves b p w w') (h : Rd B w b r) : KeepT 198 w w' := by
  obtain ⟨vi, vn, vo, vt, ve, bvs, h⟩ := h
  exact KeepT.only m.only h.blk (by decide)

section
variable {f : Pl.RdM → Option Int × Pl.RdM} {lo : Nat}

set_option maxRecDepth 100000 in
set_option maxHeartbeats 2000000 in
theorem table_any (E : ReadC 168 f lo) (hk : ∀ r, Pl.Keeps r (f r).2) {B : Nat} {w : World} {b : Nat} {r : Pl.RdM} {s : Nat} (h : Rd B w b r) (ok : Pl.Ok s r) (hp : r.peek ≠ []) (hl : lo ≤ r.pos + 1) :
    Calls Tryz.prog 212 #[.pointer (some ⟨b, 0, none⟩)] w fun e w' => e = .returned (optV (Pl.tableR f r.skip).1) ∧ Rd B w' b (Pl.tableR f r.skip).2 ∧ Below B w w' := by
  obtain ⟨i0, hi, hz0, hz1, hz2⟩ := info_parts Tryz.infoBand
  have ok1 := ok.step hp
  have hl1 : lo ≤ r.skip.pos := by rw [(Pl.skip_of hp).1]; exact hl
  have hpos := ok.pos
  generalize hT : Pl.tableR f r.skip = T
  cases hf1 : f r.skip with
  | mk o r1 =>
  cases o with
  | none =>
    rw [Pl.tableR, hf1] at hT
    subst hT
    go_enter Tryz.func212, Tryz.ntmps212
    go_wp2_with fail
    refine (Skip_any h hpos).mono ?_
    rintro e w1 ⟨rfl, hrw1, hbw1⟩
    go_wp2_with fail
    refine (E.no hrw1 ok1 hl1 hf1).mono ?_
    rintro e w2 ⟨rfl, hrw2, hbw2⟩
    have HH : Hid (Rd B w2 b r1 ∧ Below B w w2) := ⟨hrw2, (hbw1.trans hbw2)⟩
    clear hrw1 hbw1 hrw2 hbw2 h
    go_wp2
    go_ret2
    exact ⟨rfl, HH.out.1, HH.out.2⟩
  | some a =>
    have k1 := keeps_of hk hf1
    have ok2 := k1.ok _ ok1
    cases hn : r1.num 1 6 with
    | none =>
      simp only [Pl.tableR, hf1, hn] at hT
      subst hT
      go_enter Tryz.func212, Tryz.ntmps212
      go_wp2_with fail
      refine (Skip_any h hpos).mono ?_
      rintro e w1 ⟨rfl, hrw1, hbw1⟩
      go_wp2_with fail
      refine (E.yes hrw1 ok1 hl1 hf1).mono ?_
      rintro e w2 ⟨rfl, hrw2, hbw2⟩
      go_wp2_with fail
      refine (RNum_no hrw2 ok2.pos ok2.peek_len _ _ hn).mono ?_
      rintro e w3 ⟨rfl, hrw3, hbw3⟩
      have HH : Hid (Rd B w3 b r1 ∧ Below B w w3) := ⟨hrw3, ((hbw1.trans hbw2).trans hbw3)⟩
      clear hrw1 hbw1 hrw2 hbw2 hrw3 hbw3 h
      go_wp2
      go_ret2
      exact ⟨rfl, HH.out.1, HH.out.2⟩
    | some n =>
      have ok3 := ok2.skip
      obtain ⟨_, hn1, hn2⟩ := Pl.num_some hn
      obtain ⟨N, rfl⟩ := Int.eq_ofNat_of_zero_le (show 0 ≤ n by omega)
      simp only [Pl.tableR, hf1, hn, Int.toNat_natCast] at hT
      generalize hR : Pl.bandsR N (-1000000000) [] r1.skip = R at hT
      have HT : Hid (∀ o r2, R = (o, r2) → T = match o with | none => (none, r2) | some l => (some r2.nodes.length, r2.addNode ⟨12, a, 0, 0, 0, l⟩)) := by
        intro o r2 e
        rw [e] at hT
        cases o <;> exact hT.symm
      clear hT
      have hR' : Hid (Pl.bandsR N (-1000000000) [] r1.skip = R) := hR
      have Hn : Hid (r1.num 1 6 = some (N : Int)) := hn
      clear hR hn
      go_enter Tryz.func212, Tryz.ntmps212
      go_wp2_with fail
      refine (Skip_any h hpos).mono ?_
      rintro e w1 ⟨rfl, hrw1, hbw1⟩
      go_wp2_with fail
      refine (E.yes hrw1 ok1 hl1 hf1).mono ?_
      rintro e w2 ⟨rfl, hrw2, hbw2⟩
      go_wp2_with fail
      refine (RNum_yes hrw2 ok2.pos ok2.peek_len _ _ N Hn.out).mono ?_
      rintro e w3 ⟨rfl, hrw3, hbw3⟩
      have HB3 : Hid (Below B w w3) := (hbw1.trans hbw2).trans hbw3
      have HR3 : Hid (Rd B w3 b r1.skip) := hrw3
      have hbd := hrw3.bd
      clear hrw1 hbw1 hrw2 hbw2 hbw3 h hrw3
      go_wp2
      go_loopw [7, 8, 9] (fun v l i wr => ∃ (k : Nat) (least : Int) (acc : List (Int × Int)) (rk : Pl.RdM), k ≤ N ∧ acc.length = k ∧ i = .int .i64 k ∧ l = .int .i64 least ∧ -1000000000 ≤ least ∧ least ≤ 1000000001 ∧ BandsOwn w3.heap.size wr v acc ∧ Moves b rk.pos w3 wr ∧ Hid (rk = { r1.skip with pos := rk.pos } ∧ Pl.Ok (s + 1) rk ∧ Pl.bandsR (N - k) least acc rk = R)) (fun _ _ i _ => N - (intOf i).toNat)
      case atStart => exact ⟨0, -1000000000, [], r1.skip, by omega, rfl, rfl, rfl, by omega, by omega, World.ownsRow_nil _ _ _ _, HR3.out.stays (Below.refl _ _), rfl, ok3, hR'.out⟩
      case round =>
        obtain ⟨k, least, acc, rk, hk, hacc, rfl, rfl, hle1, hle2, hown, hmv, hkk⟩ := hrel
        have hRk : Rd B wr b rk := by have := HR3.out.moves hmv; rw [← hkk.out.1] at this; exact this
        by_cases hlt : k < N
        · have hob := oneBand_any hRk hkk.out.2.1 least
          have hstep : Hid (Pl.bandsR (N - k) least acc rk = R) := hkk.out.2.2
          have hpk := bandR_pos least rk
          have hok := (Pl.bandR_keeps least rk).ok _ hkk.out.2.1
          cases hbr : Pl.bandR least rk with
          | mk o r4 =>
          rw [hbr] at hob hpk hok
          cases o with
          | none =>
            simp only [Option.getD_none, Option.isSome_none] at hob
            have hres : Hid (T = (none, r4)) := by
              have := hstep.out; rw [show N - k = (N - k - 1) + 1 by omega, Pl.bandsR, hbr] at this; exact HT.out _ _ this.symm
            go_wp2_with fail
            refine hob.mono ?_
            rintro e w5 ⟨rfl, hm5⟩
            have HH : Hid (∀ x, Rd B (w5.alloc x) b r4 ∧ Below B w (w5.alloc x)) := fun x => by
              have h5 := hRk.moves hm5
              rw [hpk] at h5
              exact ⟨h5.below ((Below.refl _ _).alloc (Nat.le_refl _) x), HB3.out.trans ((hmv.trans hm5).alloc hbd.2.2 x |>.only.below hbd.1 hbd.2.1)⟩
            clear hob hm5 hmv hown hRk hkk hpk hok hbr
            go_wp2_with fail
            go_ret2
            rw [hres.out]
            exact ⟨rfl, (HH.out _).1, (HH.out _).2⟩
          | some p =>
            obtain ⟨hp1, hp2⟩ := bandR_bd least rk p r4 hbr
            simp only [Option.getD_some, Option.isSome_some] at hob
            have hres : Hid (Pl.bandsR (N - (k + 1)) (p.1 + 1) (acc ++ [p]) r4 = R) := by
              have := hstep.out; rw [show N - k = (N - (k + 1)) + 1 by omega, Pl.bandsR, hbr] at this; exact this
            go_wp2_with fail
            refine hob.mono ?_
            rintro e w5 ⟨rfl, hm5⟩
            have hm6 := (((hmv.trans hm5).alloc hbd.2.2 (.cells #[.int .i64 p.1, .int .i64 p.2] 198)).alloc hbd.2.2 (.cells #[.int .i64 p.1, .int .i64 p.2] 198))
            have hown5 : BandsOwn w3.heap.size ((w5.alloc (.cells #[.int .i64 p.1, .int .i64 p.2] 198)).alloc (.cells #[.int .i64 p.1, .int .i64 p.2] 198)) _ acc := own_keep (own_keep (own_keep hown (hm5.keepBand hRk)) (KeepT.alloc _ _ _)) (KeepT.alloc _ _ _)
            have hs5 := (hmv.trans hm5).only.size
            have hlt5 : ∀ g, u7.ownBlock = some g → g < w5.heap.size := fun g hg => ((own_keep hown (hm5.keepBand hRk)).lt g hg).2
            have HK : Hid (r4 = { r1.skip with pos := r4.pos } ∧ Pl.Ok (s + 1) r4) := by
              refine ⟨?_, hok⟩
              have h1 := hkk.out.1
              rw [← hpk]
              rw [h1]
            clear hob hmv hown hRk hkk hpk hok hbr hm5 hstep
            go_wp2_with (at_builtin; refine wpList_append_lies _ rfl _ _ 143 rfl w3.heap.size 198 i0 (.agg #[.int .i64 0, .int .i64 0]) 2 16 Tryz.underlying143 hi hz0 hz1 hz2 rfl (by decide) _ _ _ rfl hown5 ⟨_, 0, none⟩ 1 1 [intV p.1, intV p.2] rfl rfl ?c1 (two_cell _ _ rfl rfl) (by decide) ?c3 ?c4 ?c5 _ rfl ?_)
            case c1 => exact news_far _ #[intV p.1, intV p.2] 198 (by have := heap_alloc_new (w5.alloc (.cells #[.int .i64 p.1, .int .i64 p.2] 198)) (.cells #[.int .i64 p.1, .int .i64 p.2] 198); simpa [intV] using this) rfl
            case c3 => unfold maxLen; omega
            case c4 => omega
            case c5 => simp; omega
            · intro g cap w6 hown6 hgrow6 _ _
              have hA : Hid (BandsOwn w3.heap.size w6 (.slice (some ⟨g, 0, none⟩) (k + 1) cap) (acc ++ [p])) := by
                have := BandsOwn.grown (l := acc) (by rw [hacc]; exact hown6); exact this
              have hM : Hid (Moves b r4.pos w3 w6) := hm6.grown hbd.2.2 hown5 hgrow6
              have hblk : w6.heap[w5.heap.size]? = some (.cells #[.int .i64 p.1, .int .i64 p.2] 198 (0, 0)) := by
                have e0 := heap_alloc_new w5 (.cells #[.int .i64 p.1, .int .i64 p.2] 198)
                have e1 := Below.heap_alloc (w5.alloc (.cells #[.int .i64 p.1, .int .i64 p.2] 198)) (.cells #[.int .i64 p.1, .int .i64 p.2] 198) w5.heap.size (by simp)
                rw [hgrow6.block w5.heap.size (by simp; omega) (fun e => ?_), e1, e0]
                have := hlt5 _ e.symm
                omega
              have hcf : w6.cell? ⟨w5.heap.size, 0, none⟩ = some (.int .i64 p.1) := by rw [cellsOf hblk]; rfl
              clear hown6 hgrow6 hm6 hown5 hblk
              go_wp2
              go_roundw
              case rel => exact ⟨k + 1, p.1 + 1, acc ++ [p], r4, by omega, by simp [hacc], by go_num, by go_num, by omega, by omega, hA.out, hM.out, HK.out.1, HK.out.2, hres.out⟩
              case measure => simp [intOf]; omega
        · have hkN : k = N := by omega
          have hres : Hid (T = (some (rk.nodes.length : Int), rk.addNode ⟨12, a, 0, 0, 0, acc⟩)) := by have := hkk.out.2.2; rw [hkN, Nat.sub_self, Pl.bandsR] at this; exact HT.out _ _ this.symm
          obtain ⟨ad, cp, rfl⟩ := slice_shape hown
          have hap := Append_any hRk ⟨12, a, 0, 0, 0, acc⟩ _ (own_mono hown hbd.2.1) (nodes_le hkk.out.2.1)
          have HB : Hid (Below B w wr) := HB3.out.trans (hmv.only.below hbd.1 hbd.2.1)
          clear hmv hown hRk hkk hkN hacc
          go_wp2_with fail
          refine hap.mono ?_
          rintro e w7 ⟨rfl, hr7, hb7⟩
          have HH : Hid (Rd B w7 b (rk.addNode ⟨12, a, 0, 0, 0, acc⟩) ∧ Below B w w7) := ⟨hr7, HB.out.trans hb7⟩
          clear hap hr7 hb7
          go_wp2_with fail
          go_ret2
          rw [hres.out]
          exact ⟨rfl, HH.out.1, HH.out.2⟩
end
end Go.Proofs.YtbbdkgfdeghdfaaGreat
