/- Joined: Ref14e Ref14f. -/
import Derived.Test.YtfaljekgpnbmiaaGreatL28
/-
  Contracts of the reference's done, word by word.
-/
namespace Go.Proofs.YtfaljekgpnbmiaaGreat
open Go.RowKit

set_option maxRecDepth 100000 in
set_option maxHeartbeats 1000000 in
theorem done_kOr (toks : List (List UInt8)) (names : List Pl.DeclM) (known : List Int) (vt vn vk : Value) (i : Nat) (w : World) (h : TextAt w vt vn vk toks names known) (hi : i < toks.length) (ho : toks.getD i [] = Pl.kOr) (h1 : Pl.Told toks names known.length (i + 1)) (h2 : Pl.Told toks names known.length (i + 2)) (hl : toks.length ≤ 9000) (hnl : names.length ≤ 10000) (ht6 : ∀ t ∈ toks, t.length ≤ 6000) :
    Calls Tryz.prog 118 #[.agg #[vt, vn, vk], .int .i64 i] w fun e w' => e = .returned (.int .i64 (Pl.doneR toks names known i)) ∧ Below w.heap.size w w' := by
  have hR : Pl.doneR toks names known i = b2i (decide ((Pl.valueR toks names known (i + 1)) = 1) || decide ((Pl.valueR toks names known (i + 2)) = 1)) := by unfold Pl.doneR; rw [ho]; rfl
  rw [hR]
  clear hR
  have hV := hide (fun w1 (hb : Below w.heap.size w w1) (k : Nat) (j : Int) (hT : Pl.Told toks names known.length k) (hj : j = (k : Int)) => value_ref toks names known vt vn vk k j w1 (h.below hb) hT hj (by omega) hnl ht6)
  obtain ⟨a1, p1, a2, p2, a3, p3, rfl, rfl, rfl⟩ := text_shape h
  obtain ⟨gt, rfl, hct⟩ := h.toks.get i hi
  have HB := hide (fun a => (Below.refl _ w).alloc (Nat.le_refl _) a)
  have hct2 := fun a => cell_low (unhide HB a) (lt_of_cell hct) hct
  rw [ho] at hct2
  clear h hct ht6
  unfold Pl.kOr at hct2
  cases qa : decide ((Pl.valueR toks names known (i + 1)) = 1) <;> cases qb : decide ((Pl.valueR toks names known (i + 2)) = 1)
  · have t1 : ((Pl.valueR toks names known (i + 1)) == 1) = false := by simpa using qa
    have t2 : ((Pl.valueR toks names known (i + 2)) == 1) = false := by simpa using qb
    clear qa qb
    go_enter Tryz.func118, Tryz.ntmps118
    go_wp2_with fail
    refine (unhide hV _ (unhide HB _) (i + 1) _ h1 (by omega)).mono ?_
    rintro e w1 ⟨rfl, hb1⟩
    have hbb := (unhide HB (.cells #[.slice (some ⟨gt, 0, none⟩) toks.length p1, .slice a2 names.length p2, .slice a3 known.length p3] 124)).trans (hb1.mono (by simp))
    have hkb := (hb1.block w.heap.size (by simp)).trans (heap_alloc_new w (.cells #[.slice (some ⟨gt, 0, none⟩) toks.length p1, .slice a2 names.length p2, .slice a3 known.length p3] 124))
    have x0 : w1.cell? ⟨w.heap.size, 0, none⟩ = some (.slice (some ⟨gt, 0, none⟩) toks.length p1) := by rw [cellsOf hkb]; rfl
    have x1 : w1.cell? ⟨w.heap.size, 1, none⟩ = some (.slice a2 names.length p2) := by rw [cellsOf hkb]; rfl
    have x2 : w1.cell? ⟨w.heap.size, 2, none⟩ = some (.slice a3 known.length p3) := by rw [cellsOf hkb]; rfl
    go_wp2_with fail
    refine (unhide hV _ hbb (i + 2) _ h2 (by omega)).mono ?_
    rintro e w2 ⟨rfl, hb2⟩
    have HH := hide (hbb.trans (hb2.mono hbb.size))
    clear hb1 hV hbb hkb x0 x1 x2 hb2
    go_wp2_with fail
    refine (yes_ref false _).mono ?_
    rintro e w9 ⟨rfl, hw9⟩
    rw [hw9]
    clear hw9 w9
    go_wp2
    go_ret
    exact ⟨rfl, unhide HH⟩
  · have t1 : ((Pl.valueR toks names known (i + 1)) == 1) = false := by simpa using qa
    have t2 : ((Pl.valueR toks names known (i + 2)) == 1) = true := by simpa using qb
    clear qa qb
    go_enter Tryz.func118, Tryz.ntmps118
    go_wp2_with fail
    refine (unhide hV _ (unhide HB _) (i + 1) _ h1 (by omega)).mono ?_
    rintro e w1 ⟨rfl, hb1⟩
    have hbb := (unhide HB (.cells #[.slice (some ⟨gt, 0, none⟩) toks.length p1, .slice a2 names.length p2, .slice a3 known.length p3] 124)).trans (hb1.mono (by simp))
    have hkb := (hb1.block w.heap.size (by simp)).trans (heap_alloc_new w (.cells #[.slice (some ⟨gt, 0, none⟩) toks.length p1, .slice a2 names.length p2, .slice a3 known.length p3] 124))
    have x0 : w1.cell? ⟨w.heap.size, 0, none⟩ = some (.slice (some ⟨gt, 0, none⟩) toks.length p1) := by rw [cellsOf hkb]; rfl
    have x1 : w1.cell? ⟨w.heap.size, 1, none⟩ = some (.slice a2 names.length p2) := by rw [cellsOf hkb]; rfl
    have x2 : w1.cell? ⟨w.heap.size, 2, none⟩ = some (.slice a3 known.length p3) := by rw [cellsOf hkb]; rfl
    go_wp2_with fail
    refine (unhide hV _ hbb (i + 2) _ h2 (by omega)).mono ?_
    rintro e w2 ⟨rfl, hb2⟩
    have HH := hide (hbb.trans (hb2.mono hbb.size))
    clear hb1 hV hbb hkb x0 x1 x2 hb2
    go_wp2_with fail
    refine (yes_ref true _).mono ?_
    rintro e w9 ⟨rfl, hw9⟩
    rw [hw9]
    clear hw9 w9
    go_wp2
    go_ret
    exact ⟨rfl, unhide HH⟩
  · have t1 : ((Pl.valueR toks names known (i + 1)) == 1) = true := by simpa using qa
    have t2 : ((Pl.valueR toks names known (i + 2)) == 1) = false := by simpa using qb
    clear qa qb
    go_enter Tryz.func118, Tryz.ntmps118
    go_wp2_with fail
    refine (unhide hV _ (unhide HB _) (i + 1) _ h1 (by omega)).mono ?_
    rintro e w1 ⟨rfl, hb1⟩
    have hbb := (unhide HB (.cells #[.slice (some ⟨gt, 0, none⟩) toks.length p1, .slice a2 names.length p2, .slice a3 known.length p3] 124)).trans (hb1.mono (by simp))
    have hkb := (hb1.block w.heap.size (by simp)).trans (heap_alloc_new w (.cells #[.slice (some ⟨gt, 0, none⟩) toks.length p1, .slice a2 names.length p2, .slice a3 known.length p3] 124))
    have x0 : w1.cell? ⟨w.heap.size, 0, none⟩ = some (.slice (some ⟨gt, 0, none⟩) toks.length p1) := by rw [cellsOf hkb]; rfl
    have x1 : w1.cell? ⟨w.heap.size, 1, none⟩ = some (.slice a2 names.length p2) := by rw [cellsOf hkb]; rfl
    have x2 : w1.cell? ⟨w.heap.size, 2, none⟩ = some (.slice a3 known.length p3) := by rw [cellsOf hkb]; rfl
    go_wp2_with fail
    refine (unhide hV _ hbb (i + 2) _ h2 (by omega)).mono ?_
    rintro e w2 ⟨rfl, hb2⟩
    have HH := hide (hbb.trans (hb2.mono hbb.size))
    clear hb1 hV hbb hkb x0 x1 x2 hb2
    go_wp2_with fail
    refine (yes_ref true _).mono ?_
    rintro e w9 ⟨rfl, hw9⟩
    rw [hw9]
    clear hw9 w9
    go_wp2
    go_ret
    exact ⟨rfl, unhide HH⟩
  · have t1 : ((Pl.valueR toks names known (i + 1)) == 1) = true := by simpa using qa
    have t2 : ((Pl.valueR toks names known (i + 2)) == 1) = true := by simpa using qb
    clear qa qb
    go_enter Tryz.func118, Tryz.ntmps118
    go_wp2_with fail
    refine (unhide hV _ (unhide HB _) (i + 1) _ h1 (by omega)).mono ?_
    rintro e w1 ⟨rfl, hb1⟩
    have hbb := (unhide HB (.cells #[.slice (some ⟨gt, 0, none⟩) toks.length p1, .slice a2 names.length p2, .slice a3 known.length p3] 124)).trans (hb1.mono (by simp))
    have hkb := (hb1.block w.heap.size (by simp)).trans (heap_alloc_new w (.cells #[.slice (some ⟨gt, 0, none⟩) toks.length p1, .slice a2 names.length p2, .slice a3 known.length p3] 124))
    have x0 : w1.cell? ⟨w.heap.size, 0, none⟩ = some (.slice (some ⟨gt, 0, none⟩) toks.length p1) := by rw [cellsOf hkb]; rfl
    have x1 : w1.cell? ⟨w.heap.size, 1, none⟩ = some (.slice a2 names.length p2) := by rw [cellsOf hkb]; rfl
    have x2 : w1.cell? ⟨w.heap.size, 2, none⟩ = some (.slice a3 known.length p3) := by rw [cellsOf hkb]; rfl
    go_wp2_with fail
    refine (unhide hV _ hbb (i + 2) _ h2 (by omega)).mono ?_
    rintro e w2 ⟨rfl, hb2⟩
    have HH := hide (hbb.trans (hb2.mono hbb.size))
    clear hb1 hV hbb hkb x0 x1 x2 hb2
    go_wp2_with fail
    refine (yes_ref true _).mono ?_
    rintro e w9 ⟨rfl, hw9⟩
    rw [hw9]
    clear hw9 w9
    go_wp2
    go_ret
    exact ⟨rfl, unhide HH⟩
end Go.Proofs.YtfaljekgpnbmiaaGreat

/-
  Contracts of the reference's done, word by word.
-/
namespace Go.Proofs.YtfaljekgpnbmiaaGreat
open Go.RowKit

set_option maxRecDepth 100000 in
set_option maxHeartbeats 1000000 in
theorem done_kSel (toks : List (List UInt8)) (names : List Pl.DeclM) (known : List Int) (vt vn vk : Value) (i : Nat) (w : World) (h : TextAt w vt vn vk toks names known) (hi : i < toks.length) (ho : toks.getD i [] = Pl.kSel) (h1 : Pl.Told toks names known.length (i + 1)) (h2 : Pl.Told toks names known.length (i + 2)) (h3 : Pl.Told toks names known.length (i + 3)) (hl : toks.length ≤ 9000) (hnl : names.length ≤ 10000) (ht6 : ∀ t ∈ toks, t.length ≤ 6000) :
    Calls Tryz.prog 118 #[.agg #[vt, vn, vk], .int .i64 i] w fun e w' => e = .returned (.int .i64 (Pl.doneR toks names known i)) ∧ Below w.heap.size w w' := by
  have hR : Pl.doneR toks names known i = (if (Pl.valueR toks names known (i + 1)) = 1 then (Pl.valueR toks names known (i + 2)) else (Pl.valueR toks names known (i + 3))) := by unfold Pl.doneR; rw [ho]; rfl
  rw [hR]
  clear hR
  have hV := hide (fun w1 (hb : Below w.heap.size w w1) (k : Nat) (j : Int) (hT : Pl.Told toks names known.length k) (hj : j = (k : Int)) => value_ref toks names known vt vn vk k j w1 (h.below hb) hT hj (by omega) hnl ht6)
  obtain ⟨a1, p1, a2, p2, a3, p3, rfl, rfl, rfl⟩ := text_shape h
  obtain ⟨gt, rfl, hct⟩ := h.toks.get i hi
  have HB := hide (fun a => (Below.refl _ w).alloc (Nat.le_refl _) a)
  have hct2 := fun a => cell_low (unhide HB a) (lt_of_cell hct) hct
  rw [ho] at hct2
  clear h hct ht6
  unfold Pl.kSel at hct2
  by_cases ha : (Pl.valueR toks names known (i + 1)) = 1
  · rw [if_pos ha]
    have ta : ((Pl.valueR toks names known (i + 1)) == 1) = true := by simpa using ha
    clear ha
    go_enter Tryz.func118, Tryz.ntmps118
    go_wp2_with fail
    refine (unhide hV _ (unhide HB _) (i + 1) _ h1 (by omega)).mono ?_
    rintro e w1 ⟨rfl, hb1⟩
    have hbb := (unhide HB (.cells #[.slice (some ⟨gt, 0, none⟩) toks.length p1, .slice a2 names.length p2, .slice a3 known.length p3] 124)).trans (hb1.mono (by simp))
    have hkb := (hb1.block w.heap.size (by simp)).trans (heap_alloc_new w (.cells #[.slice (some ⟨gt, 0, none⟩) toks.length p1, .slice a2 names.length p2, .slice a3 known.length p3] 124))
    have x0 : w1.cell? ⟨w.heap.size, 0, none⟩ = some (.slice (some ⟨gt, 0, none⟩) toks.length p1) := by rw [cellsOf hkb]; rfl
    have x1 : w1.cell? ⟨w.heap.size, 1, none⟩ = some (.slice a2 names.length p2) := by rw [cellsOf hkb]; rfl
    have x2 : w1.cell? ⟨w.heap.size, 2, none⟩ = some (.slice a3 known.length p3) := by rw [cellsOf hkb]; rfl
    go_wp2_with fail
    refine (unhide hV _ hbb (i + 2) _ h2 (by omega)).mono ?_
    rintro e w2 ⟨rfl, hb2⟩
    have HH := hide (hbb.trans (hb2.mono hbb.size))
    clear hb1 hV hbb hkb x0 x1 x2 hb2
    go_wp2
    go_ret
    exact ⟨rfl, unhide HH⟩
  · rw [if_neg ha]
    have ta : ((Pl.valueR toks names known (i + 1)) == 1) = false := by simpa using ha
    clear ha
    go_enter Tryz.func118, Tryz.ntmps118
    go_wp2_with fail
    refine (unhide hV _ (unhide HB _) (i + 1) _ h1 (by omega)).mono ?_
    rintro e w1 ⟨rfl, hb1⟩
    have hbb := (unhide HB (.cells #[.slice (some ⟨gt, 0, none⟩) toks.length p1, .slice a2 names.length p2, .slice a3 known.length p3] 124)).trans (hb1.mono (by simp))
    have hkb := (hb1.block w.heap.size (by simp)).trans (heap_alloc_new w (.cells #[.slice (some ⟨gt, 0, none⟩) toks.length p1, .slice a2 names.length p2, .slice a3 known.length p3] 124))
    have x0 : w1.cell? ⟨w.heap.size, 0, none⟩ = some (.slice (some ⟨gt, 0, none⟩) toks.length p1) := by rw [cellsOf hkb]; rfl
    have x1 : w1.cell? ⟨w.heap.size, 1, none⟩ = some (.slice a2 names.length p2) := by rw [cellsOf hkb]; rfl
    have x2 : w1.cell? ⟨w.heap.size, 2, none⟩ = some (.slice a3 known.length p3) := by rw [cellsOf hkb]; rfl
    go_wp2_with fail
    refine (unhide hV _ hbb (i + 2) _ h2 (by omega)).mono ?_
    rintro e w2 ⟨rfl, hb2⟩
    have hbb2 := hbb.trans (hb2.mono hbb.size)
    have hkb2 := (hb2.block w.heap.size (Nat.lt_of_lt_of_le (by simp) hb1.size)).trans hkb
    have y0 : w2.cell? ⟨w.heap.size, 0, none⟩ = some (.slice (some ⟨gt, 0, none⟩) toks.length p1) := by rw [cellsOf hkb2]; rfl
    have y1 : w2.cell? ⟨w.heap.size, 1, none⟩ = some (.slice a2 names.length p2) := by rw [cellsOf hkb2]; rfl
    have y2 : w2.cell? ⟨w.heap.size, 2, none⟩ = some (.slice a3 known.length p3) := by rw [cellsOf hkb2]; rfl
    go_wp2_with fail
    refine (unhide hV _ hbb2 (i + 3) _ h3 (by omega)).mono ?_
    rintro e w3 ⟨rfl, hb3⟩
    have HH := hide (hbb2.trans (hb3.mono hbb2.size))
    clear hb1 hV hbb hkb x0 x1 x2 hb2 hbb2 hkb2 y0 y1 y2 hb3
    go_wp2
    go_ret
    exact ⟨rfl, unhide HH⟩
end Go.Proofs.YtfaljekgpnbmiaaGreat
