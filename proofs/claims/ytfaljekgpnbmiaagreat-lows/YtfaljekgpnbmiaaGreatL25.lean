/- Joined: Ref15. -/
import Derived.Test.YtfaljekgpnbmiaaGreatL24
/-
  Contracts of the reference's reach, word by word.
-/
namespace Go.Proofs.YtfaljekgpnbmiaaGreat
open Go.RowKit

/-- How great a step may become, by its word and its arguments' bounds. -/
def Pl.reachV (op : List UInt8) (a b c : Int) : Int :=
  if op = Pl.kAdd ∨ op = Pl.kSub then wrap64 (a + b) else if op = Pl.kMul then wrap64 (a * b) else if op = Pl.kFlr then a else if op = Pl.kSel then Pl.most b c else 0
def Pl.reachR (toks : List (List UInt8)) (names : List Pl.DeclM) (known : List Int) (i : Nat) : Int :=
  Pl.reachV (toks.getD i []) (Pl.boundR toks names known (i + 1)) (Pl.boundR toks names known (i + 2)) (Pl.boundR toks names known (i + 3))

set_option maxRecDepth 100000 in
set_option maxHeartbeats 1000000 in
theorem reach_kAdd (toks : List (List UInt8)) (names : List Pl.DeclM) (known : List Int) (vt vn vk : Value) (i : Nat) (w : World) (h : TextAt w vt vn vk toks names known) (hi : i < toks.length) (ho : toks.getD i [] = Pl.kAdd) (h1 : Pl.Told toks names known.length (i + 1)) (h2 : Pl.Told toks names known.length (i + 2)) (hl : toks.length ≤ 9000) (hnl : names.length ≤ 10000) (ht6 : ∀ t ∈ toks, t.length ≤ 6000) :
    Calls Tryz.prog 158 #[.agg #[vt, vn, vk], .int .i64 i] w fun e w' => e = .returned (.int .i64 (Pl.reachR toks names known i)) ∧ Below w.heap.size w w' := by
  have hR : Pl.reachR toks names known i = wrap64 ((Pl.boundR toks names known (i + 1)) + (Pl.boundR toks names known (i + 2))) := by unfold Pl.reachR; rw [ho]; rfl
  rw [hR]
  clear hR
  have hV := hide (fun w1 (hb : Below w.heap.size w w1) (k : Nat) (j : Int) (hT : Pl.Told toks names known.length k) (hj : j = (k : Int)) => bound_ref toks names known vt vn vk k j w1 (h.below hb) hT hj (by omega) hnl ht6)
  obtain ⟨a1, p1, a2, p2, a3, p3, rfl, rfl, rfl⟩ := text_shape h
  obtain ⟨gt, rfl, hct⟩ := h.toks.get i hi
  have HB := hide (fun a => (Below.refl _ w).alloc (Nat.le_refl _) a)
  have hct2 := fun a => cell_low (unhide HB a) (lt_of_cell hct) hct
  rw [ho] at hct2
  clear h hct ht6
  unfold Pl.kAdd at hct2
  go_enter Tryz.func158, Tryz.ntmps158
  go_wp2_with fail
  refine (unhide hV _ (unhide HB _) (i + 1) _ h1 (by omega)).mono ?_
  rintro e w1 ⟨rfl, hb1⟩
  have hbb := (unhide HB (.cells #[.slice (some ⟨gt, 0, none⟩) toks.length p1, .slice a2 names.length p2, .slice a3 known.length p3] 124)).trans (hb1.mono (by simp))
  have hkb := (hb1.block w.heap.size (by simp)).trans (heap_alloc_new w (.cells #[.slice (some ⟨gt, 0, none⟩) toks.length p1, .slice a2 names.length p2, .slice a3 known.length p3] 124))
  have x0 : w1.cell? ⟨w.heap.size, 0, none⟩ = some (.slice (some ⟨gt, 0, none⟩) toks.length p1) := by rw [cellsOf hkb]; rfl
  have x1 : w1.cell? ⟨w.heap.size, 1, none⟩ = some (.slice a2 names.length p2) := by rw [cellsOf hkb]; rfl
  have x2 : w1.cell? ⟨w.heap.size, 2, none⟩ = some (.slice a3 known.length p3) := by rw [cellsOf hkb]; rfl
  go_wp2_with fail
  refine (unhide hV _ hbb (i + 2) _ h2 (by omega)).mono ?_
  rintro e w2 ⟨rfl, hb2⟩
  have HH := hide (hbb.trans (hb2.mono hbb.size))
  clear hb1 hV hbb hkb x0 x1 x2 hb2
  go_wp2
  go_ret
  exact ⟨rfl, unhide HH⟩

set_option maxRecDepth 100000 in
set_option maxHeartbeats 1000000 in
theorem reach_kSub (toks : List (List UInt8)) (names : List Pl.DeclM) (known : List Int) (vt vn vk : Value) (i : Nat) (w : World) (h : TextAt w vt vn vk toks names known) (hi : i < toks.length) (ho : toks.getD i [] = Pl.kSub) (h1 : Pl.Told toks names known.length (i + 1)) (h2 : Pl.Told toks names known.length (i + 2)) (hl : toks.length ≤ 9000) (hnl : names.length ≤ 10000) (ht6 : ∀ t ∈ toks, t.length ≤ 6000) :
    Calls Tryz.prog 158 #[.agg #[vt, vn, vk], .int .i64 i] w fun e w' => e = .returned (.int .i64 (Pl.reachR toks names known i)) ∧ Below w.heap.size w w' := by
  have hR : Pl.reachR toks names known i = wrap64 ((Pl.boundR toks names known (i + 1)) + (Pl.boundR toks names known (i + 2))) := by unfold Pl.reachR; rw [ho]; rfl
  rw [hR]
  clear hR
  have hV := hide (fun w1 (hb : Below w.heap.size w w1) (k : Nat) (j : Int) (hT : Pl.Told toks names known.length k) (hj : j = (k : Int)) => bound_ref toks names known vt vn vk k j w1 (h.below hb) hT hj (by omega) hnl ht6)
  obtain ⟨a1, p1, a2, p2, a3, p3, rfl, rfl, rfl⟩ := text_shape h
  obtain ⟨gt, rfl, hct⟩ := h.toks.get i hi
  have HB := hide (fun a => (Below.refl _ w).alloc (Nat.le_refl _) a)
  have hct2 := fun a => cell_low (unhide HB a) (lt_of_cell hct) hct
  rw [ho] at hct2
  clear h hct ht6
  unfold Pl.kSub at hct2
  go_enter Tryz.func158, Tryz.ntmps158
  go_wp2_with fail
  refine (unhide hV _ (unhide HB _) (i + 1) _ h1 (by omega)).mono ?_
  rintro e w1 ⟨rfl, hb1⟩
  have hbb := (unhide HB (.cells #[.slice (some ⟨gt, 0, none⟩) toks.length p1, .slice a2 names.length p2, .slice a3 known.length p3] 124)).trans (hb1.mono (by simp))
  have hkb := (hb1.block w.heap.size (by simp)).trans (heap_alloc_new w (.cells #[.slice (some ⟨gt, 0, none⟩) toks.length p1, .slice a2 names.length p2, .slice a3 known.length p3] 124))
  have x0 : w1.cell? ⟨w.heap.size, 0, none⟩ = some (.slice (some ⟨gt, 0, none⟩) toks.length p1) := by rw [cellsOf hkb]; rfl
  have x1 : w1.cell? ⟨w.heap.size, 1, none⟩ = some (.slice a2 names.length p2) := by rw [cellsOf hkb]; rfl
  have x2 : w1.cell? ⟨w.heap.size, 2, none⟩ = some (.slice a3 known.length p3) := by rw [cellsOf hkb]; rfl
  go_wp2_with fail
  refine (unhide hV _ hbb (i + 2) _ h2 (by omega)).mono ?_
  rintro e w2 ⟨rfl, hb2⟩
  have HH := hide (hbb.trans (hb2.mono hbb.size))
  clear hb1 hV hbb hkb x0 x1 x2 hb2
  go_wp2
  go_ret
  exact ⟨rfl, unhide HH⟩

set_option maxRecDepth 100000 in
set_option maxHeartbeats 1000000 in
theorem reach_kMul (toks : List (List UInt8)) (names : List Pl.DeclM) (known : List Int) (vt vn vk : Value) (i : Nat) (w : World) (h : TextAt w vt vn vk toks names known) (hi : i < toks.length) (ho : toks.getD i [] = Pl.kMul) (h1 : Pl.Told toks names known.length (i + 1)) (h2 : Pl.Told toks names known.length (i + 2)) (hl : toks.length ≤ 9000) (hnl : names.length ≤ 10000) (ht6 : ∀ t ∈ toks, t.length ≤ 6000) :
    Calls Tryz.prog 158 #[.agg #[vt, vn, vk], .int .i64 i] w fun e w' => e = .returned (.int .i64 (Pl.reachR toks names known i)) ∧ Below w.heap.size w w' := by
  have hR : Pl.reachR toks names known i = wrap64 ((Pl.boundR toks names known (i + 1)) * (Pl.boundR toks names known (i + 2))) := by unfold Pl.reachR; rw [ho]; rfl
  rw [hR]
  clear hR
  have hV := hide (fun w1 (hb : Below w.heap.size w w1) (k : Nat) (j : Int) (hT : Pl.Told toks names known.length k) (hj : j = (k : Int)) => bound_ref toks names known vt vn vk k j w1 (h.below hb) hT hj (by omega) hnl ht6)
  obtain ⟨a1, p1, a2, p2, a3, p3, rfl, rfl, rfl⟩ := text_shape h
  obtain ⟨gt, rfl, hct⟩ := h.toks.get i hi
  have HB := hide (fun a => (Below.refl _ w).alloc (Nat.le_refl _) a)
  have hct2 := fun a => cell_low (unhide HB a) (lt_of_cell hct) hct
  rw [ho] at hct2
  clear h hct ht6
  unfold Pl.kMul at hct2
  go_enter Tryz.func158, Tryz.ntmps158
  go_wp2_with fail
  refine (unhide hV _ (unhide HB _) (i + 1) _ h1 (by omega)).mono ?_
  rintro e w1 ⟨rfl, hb1⟩
  have hbb := (unhide HB (.cells #[.slice (some ⟨gt, 0, none⟩) toks.length p1, .slice a2 names.length p2, .slice a3 known.length p3] 124)).trans (hb1.mono (by simp))
  have hkb := (hb1.block w.heap.size (by simp)).trans (heap_alloc_new w (.cells #[.slice (some ⟨gt, 0, none⟩) toks.length p1, .slice a2 names.length p2, .slice a3 known.length p3] 124))
  have x0 : w1.cell? ⟨w.heap.size, 0, none⟩ = some (.slice (some ⟨gt, 0, none⟩) toks.length p1) := by rw [cellsOf hkb]; rfl
  have x1 : w1.cell? ⟨w.heap.size, 1, none⟩ = some (.slice a2 names.length p2) := by rw [cellsOf hkb]; rfl
  have x2 : w1.cell? ⟨w.heap.size, 2, none⟩ = some (.slice a3 known.length p3) := by rw [cellsOf hkb]; rfl
  go_wp2_with fail
  refine (unhide hV _ hbb (i + 2) _ h2 (by omega)).mono ?_
  rintro e w2 ⟨rfl, hb2⟩
  have HH := hide (hbb.trans (hb2.mono hbb.size))
  clear hb1 hV hbb hkb x0 x1 x2 hb2
  go_wp2
  go_ret
  exact ⟨rfl, unhide HH⟩

set_option maxRecDepth 100000 in
set_option maxHeartbeats 1000000 in
theorem reach_kFlr (toks : List (List UInt8)) (names : List Pl.DeclM) (known : List Int) (vt vn vk : Value) (i : Nat) (w : World) (h : TextAt w vt vn vk toks names known) (hi : i < toks.length) (ho : toks.getD i [] = Pl.kFlr) (h1 : Pl.Told toks names known.length (i + 1)) (hl : toks.length ≤ 9000) (hnl : names.length ≤ 10000) (ht6 : ∀ t ∈ toks, t.length ≤ 6000) :
    Calls Tryz.prog 158 #[.agg #[vt, vn, vk], .int .i64 i] w fun e w' => e = .returned (.int .i64 (Pl.reachR toks names known i)) ∧ Below w.heap.size w w' := by
  have hR : Pl.reachR toks names known i = (Pl.boundR toks names known (i + 1)) := by unfold Pl.reachR; rw [ho]; rfl
  rw [hR]
  clear hR
  have hV := hide (fun w1 (hb : Below w.heap.size w w1) (k : Nat) (j : Int) (hT : Pl.Told toks names known.length k) (hj : j = (k : Int)) => bound_ref toks names known vt vn vk k j w1 (h.below hb) hT hj (by omega) hnl ht6)
  obtain ⟨a1, p1, a2, p2, a3, p3, rfl, rfl, rfl⟩ := text_shape h
  obtain ⟨gt, rfl, hct⟩ := h.toks.get i hi
  have HB := hide (fun a => (Below.refl _ w).alloc (Nat.le_refl _) a)
  have hct2 := fun a => cell_low (unhide HB a) (lt_of_cell hct) hct
  rw [ho] at hct2
  clear h hct ht6
  unfold Pl.kFlr at hct2
  go_enter Tryz.func158, Tryz.ntmps158
  go_wp2_with fail
  refine (unhide hV _ (unhide HB _) (i + 1) _ h1 (by omega)).mono ?_
  rintro e w1 ⟨rfl, hb1⟩
  have HH := hide ((unhide HB (.cells #[.slice (some ⟨gt, 0, none⟩) toks.length p1, .slice a2 names.length p2, .slice a3 known.length p3] 124)).trans (hb1.mono (by simp)))
  clear hb1 hV
  go_wp2
  go_ret
  exact ⟨rfl, unhide HH⟩

set_option maxRecDepth 100000 in
set_option maxHeartbeats 1000000 in
theorem reach_kSel (toks : List (List UInt8)) (names : List Pl.DeclM) (known : List Int) (vt vn vk : Value) (i : Nat) (w : World) (h : TextAt w vt vn vk toks names known) (hi : i < toks.length) (ho : toks.getD i [] = Pl.kSel) (h2 : Pl.Told toks names known.length (i + 2)) (h3 : Pl.Told toks names known.length (i + 3)) (hl : toks.length ≤ 9000) (hnl : names.length ≤ 10000) (ht6 : ∀ t ∈ toks, t.length ≤ 6000) :
    Calls Tryz.prog 158 #[.agg #[vt, vn, vk], .int .i64 i] w fun e w' => e = .returned (.int .i64 (Pl.reachR toks names known i)) ∧ Below w.heap.size w w' := by
  have hR : Pl.reachR toks names known i = Pl.most (Pl.boundR toks names known (i + 2)) (Pl.boundR toks names known (i + 3)) := by unfold Pl.reachR; rw [ho]; rfl
  rw [hR]
  clear hR
  have hV := hide (fun w1 (hb : Below w.heap.size w w1) (k : Nat) (j : Int) (hT : Pl.Told toks names known.length k) (hj : j = (k : Int)) => bound_ref toks names known vt vn vk k j w1 (h.below hb) hT hj (by omega) hnl ht6)
  obtain ⟨a1, p1, a2, p2, a3, p3, rfl, rfl, rfl⟩ := text_shape h
  obtain ⟨gt, rfl, hct⟩ := h.toks.get i hi
  have HB := hide (fun a => (Below.refl _ w).alloc (Nat.le_refl _) a)
  have hct2 := fun a => cell_low (unhide HB a) (lt_of_cell hct) hct
  rw [ho] at hct2
  clear h hct ht6
  unfold Pl.kSel at hct2
  have hmo := hide (fun w => most_any (Pl.boundR toks names known (i + 2)) (Pl.boundR toks names known (i + 3)) w)
  go_enter Tryz.func158, Tryz.ntmps158
  go_wp2_with fail
  refine (unhide hV _ (unhide HB _) (i + 2) _ h2 (by omega)).mono ?_
  rintro e w2 ⟨rfl, hb2⟩
  have hbb := (unhide HB (.cells #[.slice (some ⟨gt, 0, none⟩) toks.length p1, .slice a2 names.length p2, .slice a3 known.length p3] 124)).trans (hb2.mono (by simp))
  have hkb := (hb2.block w.heap.size (by simp)).trans (heap_alloc_new w (.cells #[.slice (some ⟨gt, 0, none⟩) toks.length p1, .slice a2 names.length p2, .slice a3 known.length p3] 124))
  have x0 : w2.cell? ⟨w.heap.size, 0, none⟩ = some (.slice (some ⟨gt, 0, none⟩) toks.length p1) := by rw [cellsOf hkb]; rfl
  have x1 : w2.cell? ⟨w.heap.size, 1, none⟩ = some (.slice a2 names.length p2) := by rw [cellsOf hkb]; rfl
  have x2 : w2.cell? ⟨w.heap.size, 2, none⟩ = some (.slice a3 known.length p3) := by rw [cellsOf hkb]; rfl
  go_wp2_with fail
  refine (unhide hV _ hbb (i + 3) _ h3 (by omega)).mono ?_
  rintro e w3 ⟨rfl, hb3⟩
  have HH := hide (hbb.trans (hb3.mono hbb.size))
  clear hb2 hV hbb hkb x0 x1 x2 hb3
  go_wp2_with fail
  refine (unhide hmo _).mono ?_
  rintro e w9 ⟨rfl, hw9⟩
  rw [hw9]
  clear hw9 w9
  go_wp2
  go_ret
  exact ⟨rfl, unhide HH⟩
end Go.Proofs.YtfaljekgpnbmiaaGreat
