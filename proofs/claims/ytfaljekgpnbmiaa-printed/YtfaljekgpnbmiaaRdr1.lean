/-
  Contracts of the reader's methods that move or look: AtEnd, Peek, Skip.
-/
import Derived.Test.YtfaljekgpnbmiaaMem
import Derived.Deep.QuietTactic
import Derived.BigQuiet
import Derived.WalkSmall
namespace Go.Proofs.Ytfaljekgpnbmiaa
open Go.RowKit

theorem strs_shape {B : Nat} {w : World} {v : Value} {l : List (List UInt8)} (h : StrsOwn B w v l) :
    ∃ ad cap, v = .slice ad l.length cap ∧ (∀ i, i < l.length → ∃ g, ad = some ⟨g, 0, none⟩ ∧ w.cell? ⟨g, i, none⟩ = some (strV (l.getD i []))) := by
  rcases h.2 with ⟨rfl, hn⟩ | ⟨g, cap, cur, rfl, hb, hgg, hle, hm, hcs, htk⟩
  · exact ⟨none, 0, by rw [hn], fun i hi => by omega⟩
  · refine ⟨some ⟨g, 0, none⟩, cap, rfl, fun i hi => ⟨g, rfl, ?_⟩⟩
    have := World.ownsRow.cellAt (show w.ownsRow B 9 1 (.slice (some ⟨g, 0, none⟩) l.length cap) l.length (l.map strV) from h) i (by omega)
    rw [this, List.getElem?_map, List.getElem?_eq_getElem hi, List.getD_eq_getElem?_getD, List.getElem?_eq_getElem hi]; rfl

set_option maxHeartbeats 400000 in
theorem Peek_any {B : Nat} {w : World} {b : Nat} {r : Pl.RdM} (h : Rd B w b r) (hp : r.pos ≤ 600) :
    Calls Try.prog 94 #[.pointer (some ⟨b, 0, none⟩)] w fun e w' => e = .returned (strV r.peek) ∧ ∃ n, w' = w.drewN n := by
  obtain ⟨vi, vn, vo, vt, ve, bvs, vx, vy, lx, ly, h, hnm⟩ := h
  have c3 : w.cell? ⟨b, 5, none⟩ = some vt := by rw [cellsOf h.blk]; rfl
  have c4 : w.cell? ⟨b, 6, none⟩ = some (.int .i64 r.pos) := by rw [cellsOf h.blk]; rfl
  obtain ⟨ad, cap, rfl, hcell⟩ := strs_shape h.toks
  clear h
  by_cases h1 : r.toks.length ≤ r.pos
  · have hx : Hid (r.peek = []) := by unfold Pl.RdM.peek; rw [if_pos (.inl h1)]; rfl
    have hd : decide ((r.toks.length : Int) ≤ r.pos) = true := by simp; omega
    go_enter Try.func94, Try.ntmps94
    go_wp2
    go_quiet (fail)
    go_wp2
    go_ret
    exact ⟨by rw [hx.out]; rfl, _, rfl⟩
  · have hd : decide ((r.toks.length : Int) ≤ r.pos) = false := by simp; omega
    by_cases h2 : 600 ≤ r.pos
    · have hx : Hid (r.peek = []) := by unfold Pl.RdM.peek; rw [if_pos (.inr h2)]; rfl
      have hd2 : decide ((600 : Int) ≤ r.pos) = true := by simp; omega
      clear hcell
      go_enter Try.func94, Try.ntmps94
      go_wp2
      go_quiet (fail)
      go_wp2
      go_ret
      exact ⟨by rw [hx.out]; rfl, _, rfl⟩
    · have hx : Hid (r.peek = r.toks.getD r.pos []) := by unfold Pl.RdM.peek; rw [if_neg (by omega)]; rfl
      have hd2 : decide ((600 : Int) ≤ r.pos) = false := by simp; omega
      obtain ⟨g, rfl, hc⟩ := hcell r.pos (by omega)
      generalize r.toks.getD r.pos [] = t at *
      unfold strV at hc
      clear hcell
      go_enter Try.func94, Try.ntmps94
      go_wp2
      go_quiet (fail)
      go_wp2
      go_quiet (fail)
      go_wp2
      go_ret
      exact ⟨by rw [hx.out]; rfl, _, World.drewN_drewN _ _ _⟩

set_option maxHeartbeats 400000 in
theorem AtEnd_any {B : Nat} {w : World} {b : Nat} {r : Pl.RdM} (h : Rd B w b r) :
    Calls Try.prog 69 #[.pointer (some ⟨b, 0, none⟩)] w fun e w' => e = .returned (.bool (decide (r.toks.length ≤ r.pos))) ∧ ∃ n, w' = w.drewN n := by
  obtain ⟨vi, vn, vo, vt, ve, bvs, vx, vy, lx, ly, h, hnm⟩ := h
  have c3 : w.cell? ⟨b, 5, none⟩ = some vt := by rw [cellsOf h.blk]; rfl
  have c4 : w.cell? ⟨b, 6, none⟩ = some (.int .i64 r.pos) := by rw [cellsOf h.blk]; rfl
  obtain ⟨ad, cap, rfl, hcell⟩ := strs_shape h.toks
  clear h hcell
  go_enter Try.func69, Try.ntmps69
  go_wp2
  go_quiet (fail)
  go_wp2
  go_ret
  exact ⟨rfl, _, rfl⟩

set_option maxHeartbeats 400000 in
theorem Skip_only {B : Nat} {w : World} {b : Nat} {r : Pl.RdM} (h : Rd B w b r) (hp : r.pos ≤ 600) :
    Calls Try.prog 95 #[.pointer (some ⟨b, 0, none⟩)] w fun e w' => e = .returned (.tuple #[]) ∧ Moves b r.skip.pos w w' := by
  have hpk := Peek_any h hp
  obtain ⟨vi, vn, vo, vt, ve, bvs, vx, vy, lx, ly, h, hnm⟩ := h
  by_cases hpe : r.peek = []
  · have hx : Hid (r.skip = r) := by unfold Pl.RdM.skip; rw [if_pos hpe]; rfl
    have hx2 : Hid (strV r.peek = .string ⟨#[]⟩) := by rw [hpe]; rfl
    clear hpe
    go_enter Try.func95, Try.ntmps95
    go_wp2_with fail
    refine hpk.mono ?_
    rintro e w' ⟨rfl, n, rfl⟩
    rw [hx2.out]
    go_wp2
    go_end0
    exact ⟨rfl, by rw [hx.out]; exact h.stays (below_drewN (Below.refl _ _) _)⟩
  · have hx : Hid (r.skip.pos = r.pos + 1) := by unfold Pl.RdM.skip; rw [if_neg hpe]; rfl
    have hne : (r.peek == []) = false := by simpa using hpe
    have c4 : w.cell? ⟨b, 6, none⟩ = some (.int .i64 r.pos) := by rw [cellsOf h.blk]; rfl
    have f4 : w.frozen? ⟨b, 6, none⟩ = false := freeOf h.blk 6
    have hs : Hid (∀ n, Moves b (r.pos + 1) w ((w.drewN n).setCell ⟨b, 6, none⟩ (.int .i64 (↑r.pos + 1)))) := fun n =>
      ⟨(Only.of_below (below_drewN (Below.refl w.heap.size w) n)).setCell 6 _, _, _, _, _, _, _, _, _, _, h.blk, by rw [heap_setCell_same (w.drewN n) b 6 _ _ _ h.blk]; rfl⟩
    clear h
    clear hpe
    generalize r.peek = t at *
    go_enter Try.func95, Try.ntmps95
    go_wp2_with fail
    refine hpk.mono ?_
    rintro e w' ⟨rfl, n, rfl⟩
    unfold strV
    go_wp2
    go_end0
    exact ⟨rfl, by rw [hx.out]; exact hs.out n⟩
theorem Skip_any {B : Nat} {w : World} {b : Nat} {r : Pl.RdM} (h : Rd B w b r) (hp : r.pos ≤ 600) :
    Calls Try.prog 95 #[.pointer (some ⟨b, 0, none⟩)] w fun e w' => e = .returned (.tuple #[]) ∧ Rd B w' b r.skip ∧ Below B w w' :=
  (Skip_only h hp).mono fun _ _ ⟨h1, h2⟩ => ⟨h1, h.skips h2, h2.only.below h.bd.1 h.bd.2.1⟩
end Go.Proofs.Ytfaljekgpnbmiaa
