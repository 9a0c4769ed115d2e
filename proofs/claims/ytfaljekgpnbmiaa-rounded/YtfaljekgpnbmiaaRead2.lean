/-
  Contracts of high.Read and low.Read: the error, the place, and the plan in lists of its own.
-/
import Derived.Test.YtfaljekgpnbmiaaRead
import Derived.Test.YtfaljekgpnbmiaaLow3
namespace Go.Proofs.Ytfaljekgpnbmiaa
open Go.RowKit

theorem lowR_ok (r : Pl.RdM) (h : Pl.Ok 0 r) : Pl.Ok 0 (Pl.lowR r).2 := by
  unfold Pl.lowR
  have h1 := inputsR_ok 4 false r h
  split
  · rename_i e; rw [e] at h1; exact h1
  · rename_i r1 e
    rw [e] at h1
    have h2 := Pl.stepsR_ok 80 r1 h1
    split
    · rename_i e; rw [e] at h2; exact h2
    · rename_i e; rw [e] at h2; exact Pl.outsLR_ok 4 false _ h2

set_option maxRecDepth 100000 in
set_option maxHeartbeats 2000000 in
theorem ReadHigh_any (l : List UInt8) (w : World) (hlm : l.length ≤ maxLen) (hbl : l.length ≤ 6000 → ∀ n ∈ (Pl.textR (Pl.startR l)).2.nodes, n.bands.length ≤ 1000) :
    Calls Try.prog 23 #[.string ⟨l.toArray⟩] w fun e w' => ∃ vi vn vo vx vy, e = .returned (.tuple #[.agg #[vi, vn, vo, vx, vy], .int .i64 (Pl.readHigh l).1, .int .i64 (Pl.readHigh l).2.1]) ∧ ReadAt w' (Pl.readHigh l).1 (Pl.readHigh l).2.2 vi vn vo vx vy ∧ Below w.heap.size w w' := by
  unfold maxLen at hlm
  have hal : Below w.heap.size w (w.alloc (.cells #[.slice none 0 0, .slice none 0 0, .slice none 0 0, .slice none 0 0, .slice none 0 0] 50)) := (Below.refl _ w).alloc (Nat.le_refl _) _
  have hnew := heap_alloc_new w (.cells #[.slice none 0 0, .slice none 0 0, .slice none 0 0, .slice none 0 0, .slice none 0 0] 50)
  by_cases hlong : 6000 < l.length
  · have hR : Hid (Pl.readHigh l = (1, 0, Pl.startR l)) := by unfold Pl.readHigh Pl.readWith Hid; rw [if_pos hlong]
    have HA := hide hal
    clear hal hnew hbl
    go_enter Try.func23, Try.ntmps23
    go_wp2_with fail
    rw [hR.out]
    exact bodyPost_ret (v := .tuple #[.agg #[.slice none 0 0, .slice none 0 0, .slice none 0 0, .slice none 0 0, .slice none 0 0], .int .i64 1, .int .i64 0]) (by simp [results, Try.results23, go_sem]) rfl ⟨_, _, _, _, _, rfl, ReadAt.none _ _ _ (by simp), unhide HA⟩
  · have hl : l.length ≤ 6000 := by omega
    have hN := New_any l (w.alloc (.cells #[.slice none 0 0, .slice none 0 0, .slice none 0 0, .slice none 0 0, .slice none 0 0] 50)) hl
    have hok := Pl.start_ok l hl
    have hbl' := hbl hl
    have hT := fun (B : Nat) (w1 : World) (b : Nat) (h : Rd B w1 b (Pl.startR l)) => text_any h hok rfl
    have hTok := textR_ok (Pl.startR l) hok
    have hR : Hid (Pl.readHigh l = ((Pl.resultR (Pl.textR (Pl.startR l)).1 (Pl.textR (Pl.startR l)).2).1, (Pl.resultR (Pl.textR (Pl.startR l)).1 (Pl.textR (Pl.startR l)).2).2, (Pl.textR (Pl.startR l)).2)) := by unfold Pl.readHigh Pl.readWith Hid; rw [if_neg hlong]
    generalize Pl.textR (Pl.startR l) = T at *
    obtain ⟨o, r⟩ := T
    have hS := fun (B : Nat) (w2 : World) (b : Nat) (h : Rd B w2 b r) => Result_any h hTok hbl' o
    simp only at hR hS hT
    generalize Pl.resultR o r = q at *
    obtain ⟨en, pl⟩ := q
    clear hbl
    have hsz : (w.alloc (.cells #[.slice none 0 0, .slice none 0 0, .slice none 0 0, .slice none 0 0, .slice none 0 0] 50)).heap.size = w.heap.size + 1 := by simp
    rw [hsz] at hN
    go_enter Try.func23, Try.ntmps23
    go_wp2_with fail
    refine hN.mono ?_
    rintro e w1 ⟨b, rfl, hr1, hb1⟩
    go_wp2_with fail
    refine (hT _ _ _ hr1).mono ?_
    rintro e w2 ⟨rfl, hr2, hb2⟩
    have hs2 := hr2.bd.2.1
    go_wp2_with fail
    refine (hS _ _ _ hr2).mono ?_
    rintro e w3 ⟨vi, vn, vo, vx, vy, rfl, hra, hb3⟩
    have hbb : Below (w.heap.size + 1) (w.alloc (.cells #[.slice none 0 0, .slice none 0 0, .slice none 0 0, .slice none 0 0, .slice none 0 0] 50)) w3 := (hb1.trans hb2).trans (hb3.mono hs2)
    have hk := (hbb.block w.heap.size (by omega)).trans hnew
    obtain ⟨c0, c1, c2, c3, c4, f0, f1, f2, f3, f4⟩ := plan_facts hk
    have HH : Hid (∀ x y z u v, Below w.heap.size w (((((w3.setCell ⟨w.heap.size, 0, none⟩ x).setCell ⟨w.heap.size, 1, none⟩ y).setCell ⟨w.heap.size, 2, none⟩ z).setCell ⟨w.heap.size, 3, none⟩ u).setCell ⟨w.heap.size, 4, none⟩ v)) := fun x y z u v =>
      (((((hal.trans (hbb.mono (by omega))).setCell (p := ⟨w.heap.size, 0, none⟩) (Nat.le_refl _) x).setCell (p := ⟨w.heap.size, 1, none⟩) (Nat.le_refl _) y).setCell (p := ⟨w.heap.size, 2, none⟩) (Nat.le_refl _) z).setCell (p := ⟨w.heap.size, 3, none⟩) (Nat.le_refl _) u).setCell (p := ⟨w.heap.size, 4, none⟩) (Nat.le_refl _) v
    have HP := hide (fun x y z u v => hra.keep (keep_store hk x y z u v))
    obtain ⟨ai, ni, ci, rfl⟩ := hra.si
    obtain ⟨an, nn, cn, rfl⟩ := hra.sn
    obtain ⟨ao, no, co, rfl⟩ := hra.so
    obtain ⟨ax, nx, cx, rfl⟩ := hra.sx
    obtain ⟨ay, ny, cy, rfl⟩ := hra.sy
    clear hbb hk hr1 hb1 hr2 hb2 hb3 hN hT hal hnew hsz hS hra
    go_wp2_with fail
    rw [hR.out]
    exact bodyPost_ret (v := .tuple #[.agg #[.slice ai ni ci, .slice an nn cn, .slice ao no co, .slice ax nx cx, .slice ay ny cy], .int .i64 en, .int .i64 pl]) (by simp [results, Try.results23, go_sem, c0, c1, c2, c3, c4]) rfl ⟨_, _, _, _, _, rfl, unhide HP _ _ _ _ _, HH.out _ _ _ _ _⟩

set_option maxRecDepth 100000 in
set_option maxHeartbeats 2000000 in
theorem ReadLow_any (l : List UInt8) (w : World) (hlm : l.length ≤ maxLen) (hbl : l.length ≤ 6000 → ∀ n ∈ (Pl.lowR (Pl.startR l)).2.nodes, n.bands.length ≤ 1000) :
    Calls Try.prog 25 #[.string ⟨l.toArray⟩] w fun e w' => ∃ vi vn vo vx vy, e = .returned (.tuple #[.agg #[vi, vn, vo, vx, vy], .int .i64 (Pl.readLow l).1, .int .i64 (Pl.readLow l).2.1]) ∧ ReadAt w' (Pl.readLow l).1 (Pl.readLow l).2.2 vi vn vo vx vy ∧ Below w.heap.size w w' := by
  unfold maxLen at hlm
  have hal : Below w.heap.size w (w.alloc (.cells #[.slice none 0 0, .slice none 0 0, .slice none 0 0, .slice none 0 0, .slice none 0 0] 50)) := (Below.refl _ w).alloc (Nat.le_refl _) _
  have hnew := heap_alloc_new w (.cells #[.slice none 0 0, .slice none 0 0, .slice none 0 0, .slice none 0 0, .slice none 0 0] 50)
  by_cases hlong : 6000 < l.length
  · have hR : Hid (Pl.readLow l = (1, 0, Pl.startR l)) := by unfold Pl.readLow Pl.readWith Hid; rw [if_pos hlong]
    have HA := hide hal
    clear hal hnew hbl
    go_enter Try.func25, Try.ntmps25
    go_wp2_with fail
    rw [hR.out]
    exact bodyPost_ret (v := .tuple #[.agg #[.slice none 0 0, .slice none 0 0, .slice none 0 0, .slice none 0 0, .slice none 0 0], .int .i64 1, .int .i64 0]) (by simp [results, Try.results25, go_sem]) rfl ⟨_, _, _, _, _, rfl, ReadAt.none _ _ _ (by simp), unhide HA⟩
  · have hl : l.length ≤ 6000 := by omega
    have hN := New_any l (w.alloc (.cells #[.slice none 0 0, .slice none 0 0, .slice none 0 0, .slice none 0 0, .slice none 0 0] 50)) hl
    have hok := Pl.start_ok l hl
    have hbl' := hbl hl
    have hT := fun (B : Nat) (w1 : World) (b : Nat) (h : Rd B w1 b (Pl.startR l)) => lowText_any h hok rfl
    have hTok := lowR_ok (Pl.startR l) hok
    have hR : Hid (Pl.readLow l = ((Pl.resultR (Pl.lowR (Pl.startR l)).1 (Pl.lowR (Pl.startR l)).2).1, (Pl.resultR (Pl.lowR (Pl.startR l)).1 (Pl.lowR (Pl.startR l)).2).2, (Pl.lowR (Pl.startR l)).2)) := by unfold Pl.readLow Pl.readWith Hid; rw [if_neg hlong]
    generalize Pl.lowR (Pl.startR l) = T at *
    obtain ⟨o, r⟩ := T
    have hS := fun (B : Nat) (w2 : World) (b : Nat) (h : Rd B w2 b r) => Result_any h hTok hbl' o
    simp only at hR hS hT
    generalize Pl.resultR o r = q at *
    obtain ⟨en, pl⟩ := q
    clear hbl
    have hsz : (w.alloc (.cells #[.slice none 0 0, .slice none 0 0, .slice none 0 0, .slice none 0 0, .slice none 0 0] 50)).heap.size = w.heap.size + 1 := by simp
    rw [hsz] at hN
    go_enter Try.func25, Try.ntmps25
    go_wp2_with fail
    refine hN.mono ?_
    rintro e w1 ⟨b, rfl, hr1, hb1⟩
    go_wp2_with fail
    refine (hT _ _ _ hr1).mono ?_
    rintro e w2 ⟨rfl, hr2, hb2⟩
    have hs2 := hr2.bd.2.1
    go_wp2_with fail
    refine (hS _ _ _ hr2).mono ?_
    rintro e w3 ⟨vi, vn, vo, vx, vy, rfl, hra, hb3⟩
    have hbb : Below (w.heap.size + 1) (w.alloc (.cells #[.slice none 0 0, .slice none 0 0, .slice none 0 0, .slice none 0 0, .slice none 0 0] 50)) w3 := (hb1.trans hb2).trans (hb3.mono hs2)
    have hk := (hbb.block w.heap.size (by omega)).trans hnew
    obtain ⟨c0, c1, c2, c3, c4, f0, f1, f2, f3, f4⟩ := plan_facts hk
    have HH : Hid (∀ x y z u v, Below w.heap.size w (((((w3.setCell ⟨w.heap.size, 0, none⟩ x).setCell ⟨w.heap.size, 1, none⟩ y).setCell ⟨w.heap.size, 2, none⟩ z).setCell ⟨w.heap.size, 3, none⟩ u).setCell ⟨w.heap.size, 4, none⟩ v)) := fun x y z u v =>
      (((((hal.trans (hbb.mono (by omega))).setCell (p := ⟨w.heap.size, 0, none⟩) (Nat.le_refl _) x).setCell (p := ⟨w.heap.size, 1, none⟩) (Nat.le_refl _) y).setCell (p := ⟨w.heap.size, 2, none⟩) (Nat.le_refl _) z).setCell (p := ⟨w.heap.size, 3, none⟩) (Nat.le_refl _) u).setCell (p := ⟨w.heap.size, 4, none⟩) (Nat.le_refl _) v
    have HP := hide (fun x y z u v => hra.keep (keep_store hk x y z u v))
    obtain ⟨ai, ni, ci, rfl⟩ := hra.si
    obtain ⟨an, nn, cn, rfl⟩ := hra.sn
    obtain ⟨ao, no, co, rfl⟩ := hra.so
    obtain ⟨ax, nx, cx, rfl⟩ := hra.sx
    obtain ⟨ay, ny, cy, rfl⟩ := hra.sy
    clear hbb hk hr1 hb1 hr2 hb2 hb3 hN hT hal hnew hsz hS hra
    go_wp2_with fail
    rw [hR.out]
    exact bodyPost_ret (v := .tuple #[.agg #[.slice ai ni ci, .slice an nn cn, .slice ao no co, .slice ax nx cx, .slice ay ny cy], .int .i64 en, .int .i64 pl]) (by simp [results, Try.results25, go_sem, c0, c1, c2, c3, c4]) rfl ⟨_, _, _, _, _, rfl, unhide HP _ _ _ _ _, HH.out _ _ _ _ _⟩
end Go.Proofs.Ytfaljekgpnbmiaa
