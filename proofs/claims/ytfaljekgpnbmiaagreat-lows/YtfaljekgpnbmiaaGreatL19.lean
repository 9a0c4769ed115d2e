/- Joined: Ref8. -/
import Derived.Test.YtfaljekgpnbmiaaGreatL18
/-
  Contracts of the reference's set, out, long, declared.
-/
namespace Go.Proofs.YtfaljekgpnbmiaaGreat
open Go.RowKit

theorem decl_facts {w : World} {g : Nat} {x0 x1 x2 x3 x4 : Value} {T : TypeId} (h : w.heap[g]? = some (.cells #[x0, x1, x2, x3, x4] T (0, 0))) : w.cell? ⟨g, 0, none⟩ = some x0 ∧ w.cell? ⟨g, 1, none⟩ = some x1 ∧ w.cell? ⟨g, 2, none⟩ = some x2 ∧ w.cell? ⟨g, 3, none⟩ = some x3 ∧ w.cell? ⟨g, 4, none⟩ = some x4 ∧ w.frozen? ⟨g, 0, none⟩ = false ∧ w.frozen? ⟨g, 1, none⟩ = false ∧ w.frozen? ⟨g, 2, none⟩ = false ∧ w.frozen? ⟨g, 3, none⟩ = false ∧ w.frozen? ⟨g, 4, none⟩ = false :=
  ⟨by rw [cellsOf h]; rfl, by rw [cellsOf h]; rfl, by rw [cellsOf h]; rfl, by rw [cellsOf h]; rfl, by rw [cellsOf h]; rfl, freeOf h 0, freeOf h 1, freeOf h 2, freeOf h 3, freeOf h 4⟩
theorem bad_int (l : List (List UInt8)) (vl : Value) (names : List Pl.DeclM) (vn : Value) (i : Nat) (j : Int) (ws : List UInt8) (w : World) (h : StrsAt w vl l) (hn : DeclsAt w vn names) (hi : i ≤ 10000) (hl : l.length ≤ 10000) (hnl : names.length ≤ 10000) (ht : ∀ t ∈ l, t.length ≤ 6000) (hw : ws.length ≤ 10) (hc : ∀ c ∈ ws, c = 65 ∨ c = 70 ∨ c = 75 ∨ c = 68) (hj : j = (i : Int)) :
    Calls Tryz.prog 260 #[vl, vn, .int .i64 j, .string ⟨ws.toArray⟩] w fun e w' => e = .returned (.int .i64 (placeV (Pl.badR l names i ws))) ∧ ∃ n, w' = w.drewN n := by rw [hj]; exact bad_ref l vl names vn i ws w h hn hi hl hnl ht hw hc

set_option maxRecDepth 100000 in
set_option maxHeartbeats 1000000 in
theorem set_shape0 (l : List (List UInt8)) (vl : Value) (names : List Pl.DeclM) (vn : Value) (i : Nat) (w : World) (h : StrsAt w vl l) (hn : DeclsAt w vn names) (hi : i ≤ 9000) (hl : l.length ≤ 10000) (hnl : names.length ≤ 10000) (ht : ∀ t ∈ l, t.length ≤ 6000) (hfr : Pl.fresh names (Pl.atR l (i + 1)) = true) (hfo : Pl.formsR (Pl.atR l (i + 2)) = [65, 65, 118]) :
    Calls Tryz.prog 208 #[vl, vn, .int .i64 i] w fun e w' => ResV e (Pl.setD l names i) ∧ Below w.heap.size w w' := by
  have hA := hide (fun w1 (hb : Below w.heap.size w w1) (k : Nat) (j : Int) (hk : k ≤ 100000) (hj : j = (k : Int)) => at_int l vl k j w1 (h.below hb) hk hl hj)
  have hF := hide (fun w1 (hb : Below w.heap.size w w1) t => fresh_ref names vn t w1 (hn.below hb) hnl)
  have hQ := hide (fun w1 (hb : Below w.heap.size w w1) (k : Nat) (j : Int) (ws : List UInt8) (hk : k ≤ 10000) (hj : j = (k : Int)) (hw : ws.length ≤ 10) (hc : ∀ c ∈ ws, c = 65 ∨ c = 70 ∨ c = 75 ∨ c = 68) => bad_int l vl names vn k j ws w1 (h.below hb) (hn.below hb) hk hl hnl ht hw hc hj)
  obtain ⟨ad, cap, rfl⟩ := h.shape
  obtain ⟨adn, capn, rfl⟩ := hn.shape
  have HB := hide (fun a => (Below.refl _ w).alloc (Nat.le_refl _) a)
  clear h hn ht
  have hO := hide (fun w1 t => forms_ref t w1)
  have hx : (ByteArray.mk [65, 65, 118].toArray).extract 0 2 = ⟨[65, 65].toArray⟩ := rfl
  have hg : (ByteArray.mk [65, 65, 118].toArray)[2]'(by decide) = 118 := rfl
  cases hb : Pl.badR l names (i + 3) [65, 65] with
  | some p =>
    have hI : Hid (Pl.setD l names i = .inr p) := by unfold Pl.setD Hid; rw [if_neg (by simp [hfr]), hfo, if_neg (by simp), show ([65, 65, 118] : List UInt8).dropLast = [65, 65] from rfl, hb]
    rw [hI.out]
    clear hI
    go_enter Tryz.func208, Tryz.ntmps208
    go_wp2_with fail
    refine (unhide hA _ (unhide HB _) (i + 1) _ (by omega) (by omega)).mono ?_
    rintro e w1 ⟨rfl, hw1⟩
    rw [hw1]
    clear hw1 w1
    go_wp2_with fail
    refine (unhide hF _ (unhide HB _) (Pl.atR l (i + 1))).mono ?_
    rw [hfr]
    rintro e w1 ⟨rfl, hw1⟩
    rw [hw1]
    clear hw1 w1
    go_wp2_with fail
    refine (unhide hA _ (unhide HB _) (i + 2) _ (by omega) (by omega)).mono ?_
    rintro e w1 ⟨rfl, hw1⟩
    rw [hw1]
    clear hw1 w1
    go_wp2_with fail
    refine (unhide hO _ (Pl.atR l (i + 2))).mono ?_
    rw [hfo]
    rintro e w1 ⟨rfl, hw1⟩
    rw [hw1]
    clear hw1 w1
    go_wp2_with fail
    refine (unhide hQ _ (unhide HB _) (i + 3) _ [65, 65] (by omega) (by omega) (by decide) (by decide)).mono ?_
    rw [hb]
    rintro e w1 ⟨rfl, m, hw1⟩
    have hk : w1.heap[w.heap.size]? = some (.cells #[.string ⟨#[]⟩, .int .u8 0, .int .i64 0, .int .i64 0, .int .i64 0] 155 (0, 0)) := by rw [hw1]; exact heap_alloc_new w _
    have hbw : Below w.heap.size w w1 := by rw [hw1]; exact below_drewN (unhide HB _) m
    obtain ⟨c0, c1, c2, c3, c4, f0, f1, f2, f3, f4⟩ := decl_facts hk
    have HS := hide (fun x0 x1 x2 x3 x4 => ((((hbw.setCell (p := ⟨w.heap.size, 0, none⟩) (Nat.le_refl _) x0).setCell (p := ⟨w.heap.size, 1, none⟩) (Nat.le_refl _) x1).setCell (p := ⟨w.heap.size, 2, none⟩) (Nat.le_refl _) x2).setCell (p := ⟨w.heap.size, 3, none⟩) (Nat.le_refl _) x3).setCell (p := ⟨w.heap.size, 4, none⟩) (Nat.le_refl _) x4)
    clear hk hbw hw1 hA hF hQ HB
    simp only [placeV]
    go_wp2_with fail
    exact bodyPost_ret (v := .tuple #[declV ⟨Pl.atR l (i + 1), 118, 0, 0, (i : Int) + 2⟩, .int .i64 ((p : Int))]) (by simp [results, Tryz.results208, go_sem, declV, c0, c1, c2, c3, c4]) rfl ⟨⟨_, rfl⟩, unhide HS _ _ _ _ _⟩
  | none =>
    have hI : Hid (Pl.setD l names i = .inl ⟨Pl.atR l (i + 1), 118, 0, 0, (i : Int) + 2⟩) := by unfold Pl.setD Hid; rw [if_neg (by simp [hfr]), hfo, if_neg (by simp), show ([65, 65, 118] : List UInt8).dropLast = [65, 65] from rfl, hb]; rfl
    rw [hI.out]
    clear hI
    go_enter Tryz.func208, Tryz.ntmps208
    go_wp2_with fail
    refine (unhide hA _ (unhide HB _) (i + 1) _ (by omega) (by omega)).mono ?_
    rintro e w1 ⟨rfl, hw1⟩
    rw [hw1]
    clear hw1 w1
    go_wp2_with fail
    refine (unhide hF _ (unhide HB _) (Pl.atR l (i + 1))).mono ?_
    rw [hfr]
    rintro e w1 ⟨rfl, hw1⟩
    rw [hw1]
    clear hw1 w1
    go_wp2_with fail
    refine (unhide hA _ (unhide HB _) (i + 2) _ (by omega) (by omega)).mono ?_
    rintro e w1 ⟨rfl, hw1⟩
    rw [hw1]
    clear hw1 w1
    go_wp2_with fail
    refine (unhide hO _ (Pl.atR l (i + 2))).mono ?_
    rw [hfo]
    rintro e w1 ⟨rfl, hw1⟩
    rw [hw1]
    clear hw1 w1
    go_wp2_with fail
    refine (unhide hQ _ (unhide HB _) (i + 3) _ [65, 65] (by omega) (by omega) (by decide) (by decide)).mono ?_
    rw [hb]
    rintro e w1 ⟨rfl, m, hw1⟩
    have hk : w1.heap[w.heap.size]? = some (.cells #[.string ⟨#[]⟩, .int .u8 0, .int .i64 0, .int .i64 0, .int .i64 0] 155 (0, 0)) := by rw [hw1]; exact heap_alloc_new w _
    have hbw : Below w.heap.size w w1 := by rw [hw1]; exact below_drewN (unhide HB _) m
    obtain ⟨c0, c1, c2, c3, c4, f0, f1, f2, f3, f4⟩ := decl_facts hk
    have HS := hide (fun x0 x1 x2 x3 x4 => ((((hbw.setCell (p := ⟨w.heap.size, 0, none⟩) (Nat.le_refl _) x0).setCell (p := ⟨w.heap.size, 1, none⟩) (Nat.le_refl _) x1).setCell (p := ⟨w.heap.size, 2, none⟩) (Nat.le_refl _) x2).setCell (p := ⟨w.heap.size, 3, none⟩) (Nat.le_refl _) x3).setCell (p := ⟨w.heap.size, 4, none⟩) (Nat.le_refl _) x4)
    clear hk hbw hw1 hA hF hQ HB
    simp only [placeV]
    go_wp2_with fail
    exact bodyPost_ret (v := .tuple #[declV ⟨Pl.atR l (i + 1), 118, 0, 0, (i : Int) + 2⟩, .int .i64 (-1)]) (by simp [results, Tryz.results208, go_sem, declV, c0, c1, c2, c3, c4]) rfl ⟨rfl, unhide HS _ _ _ _ _⟩

set_option maxRecDepth 100000 in
set_option maxHeartbeats 1000000 in
theorem set_shape1 (l : List (List UInt8)) (vl : Value) (names : List Pl.DeclM) (vn : Value) (i : Nat) (w : World) (h : StrsAt w vl l) (hn : DeclsAt w vn names) (hi : i ≤ 9000) (hl : l.length ≤ 10000) (hnl : names.length ≤ 10000) (ht : ∀ t ∈ l, t.length ≤ 6000) (hfr : Pl.fresh names (Pl.atR l (i + 1)) = true) (hfo : Pl.formsR (Pl.atR l (i + 2)) = [75, 65, 118]) :
    Calls Tryz.prog 208 #[vl, vn, .int .i64 i] w fun e w' => ResV e (Pl.setD l names i) ∧ Below w.heap.size w w' := by
  have hA := hide (fun w1 (hb : Below w.heap.size w w1) (k : Nat) (j : Int) (hk : k ≤ 100000) (hj : j = (k : Int)) => at_int l vl k j w1 (h.below hb) hk hl hj)
  have hF := hide (fun w1 (hb : Below w.heap.size w w1) t => fresh_ref names vn t w1 (hn.below hb) hnl)
  have hQ := hide (fun w1 (hb : Below w.heap.size w w1) (k : Nat) (j : Int) (ws : List UInt8) (hk : k ≤ 10000) (hj : j = (k : Int)) (hw : ws.length ≤ 10) (hc : ∀ c ∈ ws, c = 65 ∨ c = 70 ∨ c = 75 ∨ c = 68) => bad_int l vl names vn k j ws w1 (h.below hb) (hn.below hb) hk hl hnl ht hw hc hj)
  obtain ⟨ad, cap, rfl⟩ := h.shape
  obtain ⟨adn, capn, rfl⟩ := hn.shape
  have HB := hide (fun a => (Below.refl _ w).alloc (Nat.le_refl _) a)
  clear h hn ht
  have hO := hide (fun w1 t => forms_ref t w1)
  have hx : (ByteArray.mk [75, 65, 118].toArray).extract 0 2 = ⟨[75, 65].toArray⟩ := rfl
  have hg : (ByteArray.mk [75, 65, 118].toArray)[2]'(by decide) = 118 := rfl
  cases hb : Pl.badR l names (i + 3) [75, 65] with
  | some p =>
    have hI : Hid (Pl.setD l names i = .inr p) := by unfold Pl.setD Hid; rw [if_neg (by simp [hfr]), hfo, if_neg (by simp), show ([75, 65, 118] : List UInt8).dropLast = [75, 65] from rfl, hb]
    rw [hI.out]
    clear hI
    go_enter Tryz.func208, Tryz.ntmps208
    go_wp2_with fail
    refine (unhide hA _ (unhide HB _) (i + 1) _ (by omega) (by omega)).mono ?_
    rintro e w1 ⟨rfl, hw1⟩
    rw [hw1]
    clear hw1 w1
    go_wp2_with fail
    refine (unhide hF _ (unhide HB _) (Pl.atR l (i + 1))).mono ?_
    rw [hfr]
    rintro e w1 ⟨rfl, hw1⟩
    rw [hw1]
    clear hw1 w1
    go_wp2_with fail
    refine (unhide hA _ (unhide HB _) (i + 2) _ (by omega) (by omega)).mono ?_
    rintro e w1 ⟨rfl, hw1⟩
    rw [hw1]
    clear hw1 w1
    go_wp2_with fail
    refine (unhide hO _ (Pl.atR l (i + 2))).mono ?_
    rw [hfo]
    rintro e w1 ⟨rfl, hw1⟩
    rw [hw1]
    clear hw1 w1
    go_wp2_with fail
    refine (unhide hQ _ (unhide HB _) (i + 3) _ [75, 65] (by omega) (by omega) (by decide) (by decide)).mono ?_
    rw [hb]
    rintro e w1 ⟨rfl, m, hw1⟩
    have hk : w1.heap[w.heap.size]? = some (.cells #[.string ⟨#[]⟩, .int .u8 0, .int .i64 0, .int .i64 0, .int .i64 0] 155 (0, 0)) := by rw [hw1]; exact heap_alloc_new w _
    have hbw : Below w.heap.size w w1 := by rw [hw1]; exact below_drewN (unhide HB _) m
    obtain ⟨c0, c1, c2, c3, c4, f0, f1, f2, f3, f4⟩ := decl_facts hk
    have HS := hide (fun x0 x1 x2 x3 x4 => ((((hbw.setCell (p := ⟨w.heap.size, 0, none⟩) (Nat.le_refl _) x0).setCell (p := ⟨w.heap.size, 1, none⟩) (Nat.le_refl _) x1).setCell (p := ⟨w.heap.size, 2, none⟩) (Nat.le_refl _) x2).setCell (p := ⟨w.heap.size, 3, none⟩) (Nat.le_refl _) x3).setCell (p := ⟨w.heap.size, 4, none⟩) (Nat.le_refl _) x4)
    clear hk hbw hw1 hA hF hQ HB
    simp only [placeV]
    go_wp2_with fail
    exact bodyPost_ret (v := .tuple #[declV ⟨Pl.atR l (i + 1), 118, 0, 0, (i : Int) + 2⟩, .int .i64 ((p : Int))]) (by simp [results, Tryz.results208, go_sem, declV, c0, c1, c2, c3, c4]) rfl ⟨⟨_, rfl⟩, unhide HS _ _ _ _ _⟩
  | none =>
    have hI : Hid (Pl.setD l names i = .inl ⟨Pl.atR l (i + 1), 118, 0, 0, (i : Int) + 2⟩) := by unfold Pl.setD Hid; rw [if_neg (by simp [hfr]), hfo, if_neg (by simp), show ([75, 65, 118] : List UInt8).dropLast = [75, 65] from rfl, hb]; rfl
    rw [hI.out]
    clear hI
    go_enter Tryz.func208, Tryz.ntmps208
    go_wp2_with fail
    refine (unhide hA _ (unhide HB _) (i + 1) _ (by omega) (by omega)).mono ?_
    rintro e w1 ⟨rfl, hw1⟩
    rw [hw1]
    clear hw1 w1
    go_wp2_with fail
    refine (unhide hF _ (unhide HB _) (Pl.atR l (i + 1))).mono ?_
    rw [hfr]
    rintro e w1 ⟨rfl, hw1⟩
    rw [hw1]
    clear hw1 w1
    go_wp2_with fail
    refine (unhide hA _ (unhide HB _) (i + 2) _ (by omega) (by omega)).mono ?_
    rintro e w1 ⟨rfl, hw1⟩
    rw [hw1]
    clear hw1 w1
    go_wp2_with fail
    refine (unhide hO _ (Pl.atR l (i + 2))).mono ?_
    rw [hfo]
    rintro e w1 ⟨rfl, hw1⟩
    rw [hw1]
    clear hw1 w1
    go_wp2_with fail
    refine (unhide hQ _ (unhide HB _) (i + 3) _ [75, 65] (by omega) (by omega) (by decide) (by decide)).mono ?_
    rw [hb]
    rintro e w1 ⟨rfl, m, hw1⟩
    have hk : w1.heap[w.heap.size]? = some (.cells #[.string ⟨#[]⟩, .int .u8 0, .int .i64 0, .int .i64 0, .int .i64 0] 155 (0, 0)) := by rw [hw1]; exact heap_alloc_new w _
    have hbw : Below w.heap.size w w1 := by rw [hw1]; exact below_drewN (unhide HB _) m
    obtain ⟨c0, c1, c2, c3, c4, f0, f1, f2, f3, f4⟩ := decl_facts hk
    have HS := hide (fun x0 x1 x2 x3 x4 => ((((hbw.setCell (p := ⟨w.heap.size, 0, none⟩) (Nat.le_refl _) x0).setCell (p := ⟨w.heap.size, 1, none⟩) (Nat.le_refl _) x1).setCell (p := ⟨w.heap.size, 2, none⟩) (Nat.le_refl _) x2).setCell (p := ⟨w.heap.size, 3, none⟩) (Nat.le_refl _) x3).setCell (p := ⟨w.heap.size, 4, none⟩) (Nat.le_refl _) x4)
    clear hk hbw hw1 hA hF hQ HB
    simp only [placeV]
    go_wp2_with fail
    exact bodyPost_ret (v := .tuple #[declV ⟨Pl.atR l (i + 1), 118, 0, 0, (i : Int) + 2⟩, .int .i64 (-1)]) (by simp [results, Tryz.results208, go_sem, declV, c0, c1, c2, c3, c4]) rfl ⟨rfl, unhide HS _ _ _ _ _⟩

set_option maxRecDepth 100000 in
set_option maxHeartbeats 1000000 in
theorem set_shape2 (l : List (List UInt8)) (vl : Value) (names : List Pl.DeclM) (vn : Value) (i : Nat) (w : World) (h : StrsAt w vl l) (hn : DeclsAt w vn names) (hi : i ≤ 9000) (hl : l.length ≤ 10000) (hnl : names.length ≤ 10000) (ht : ∀ t ∈ l, t.length ≤ 6000) (hfr : Pl.fresh names (Pl.atR l (i + 1)) = true) (hfo : Pl.formsR (Pl.atR l (i + 2)) = [65, 68, 118]) :
    Calls Tryz.prog 208 #[vl, vn, .int .i64 i] w fun e w' => ResV e (Pl.setD l names i) ∧ Below w.heap.size w w' := by
  have hA := hide (fun w1 (hb : Below w.heap.size w w1) (k : Nat) (j : Int) (hk : k ≤ 100000) (hj : j = (k : Int)) => at_int l vl k j w1 (h.below hb) hk hl hj)
  have hF := hide (fun w1 (hb : Below w.heap.size w w1) t => fresh_ref names vn t w1 (hn.below hb) hnl)
  have hQ := hide (fun w1 (hb : Below w.heap.size w w1) (k : Nat) (j : Int) (ws : List UInt8) (hk : k ≤ 10000) (hj : j = (k : Int)) (hw : ws.length ≤ 10) (hc : ∀ c ∈ ws, c = 65 ∨ c = 70 ∨ c = 75 ∨ c = 68) => bad_int l vl names vn k j ws w1 (h.below hb) (hn.below hb) hk hl hnl ht hw hc hj)
  obtain ⟨ad, cap, rfl⟩ := h.shape
  obtain ⟨adn, capn, rfl⟩ := hn.shape
  have HB := hide (fun a => (Below.refl _ w).alloc (Nat.le_refl _) a)
  clear h hn ht
  have hO := hide (fun w1 t => forms_ref t w1)
  have hx : (ByteArray.mk [65, 68, 118].toArray).extract 0 2 = ⟨[65, 68].toArray⟩ := rfl
  have hg : (ByteArray.mk [65, 68, 118].toArray)[2]'(by decide) = 118 := rfl
  cases hb : Pl.badR l names (i + 3) [65, 68] with
  | some p =>
    have hI : Hid (Pl.setD l names i = .inr p) := by unfold Pl.setD Hid; rw [if_neg (by simp [hfr]), hfo, if_neg (by simp), show ([65, 68, 118] : List UInt8).dropLast = [65, 68] from rfl, hb]
    rw [hI.out]
    clear hI
    go_enter Tryz.func208, Tryz.ntmps208
    go_wp2_with fail
    refine (unhide hA _ (unhide HB _) (i + 1) _ (by omega) (by omega)).mono ?_
    rintro e w1 ⟨rfl, hw1⟩
    rw [hw1]
    clear hw1 w1
    go_wp2_with fail
    refine (unhide hF _ (unhide HB _) (Pl.atR l (i + 1))).mono ?_
    rw [hfr]
    rintro e w1 ⟨rfl, hw1⟩
    rw [hw1]
    clear hw1 w1
    go_wp2_with fail
    refine (unhide hA _ (unhide HB _) (i + 2) _ (by omega) (by omega)).mono ?_
    rintro e w1 ⟨rfl, hw1⟩
    rw [hw1]
    clear hw1 w1
    go_wp2_with fail
    refine (unhide hO _ (Pl.atR l (i + 2))).mono ?_
    rw [hfo]
    rintro e w1 ⟨rfl, hw1⟩
    rw [hw1]
    clear hw1 w1
    go_wp2_with fail
    refine (unhide hQ _ (unhide HB _) (i + 3) _ [65, 68] (by omega) (by omega) (by decide) (by decide)).mono ?_
    rw [hb]
    rintro e w1 ⟨rfl, m, hw1⟩
    have hk : w1.heap[w.heap.size]? = some (.cells #[.string ⟨#[]⟩, .int .u8 0, .int .i64 0, .int .i64 0, .int .i64 0] 155 (0, 0)) := by rw [hw1]; exact heap_alloc_new w _
    have hbw : Below w.heap.size w w1 := by rw [hw1]; exact below_drewN (unhide HB _) m
    obtain ⟨c0, c1, c2, c3, c4, f0, f1, f2, f3, f4⟩ := decl_facts hk
    have HS := hide (fun x0 x1 x2 x3 x4 => ((((hbw.setCell (p := ⟨w.heap.size, 0, none⟩) (Nat.le_refl _) x0).setCell (p := ⟨w.heap.size, 1, none⟩) (Nat.le_refl _) x1).setCell (p := ⟨w.heap.size, 2, none⟩) (Nat.le_refl _) x2).setCell (p := ⟨w.heap.size, 3, none⟩) (Nat.le_refl _) x3).setCell (p := ⟨w.heap.size, 4, none⟩) (Nat.le_refl _) x4)
    clear hk hbw hw1 hA hF hQ HB
    simp only [placeV]
    go_wp2_with fail
    exact bodyPost_ret (v := .tuple #[declV ⟨Pl.atR l (i + 1), 118, 0, 0, (i : Int) + 2⟩, .int .i64 ((p : Int))]) (by simp [results, Tryz.results208, go_sem, declV, c0, c1, c2, c3, c4]) rfl ⟨⟨_, rfl⟩, unhide HS _ _ _ _ _⟩
  | none =>
    have hI : Hid (Pl.setD l names i = .inl ⟨Pl.atR l (i + 1), 118, 0, 0, (i : Int) + 2⟩) := by unfold Pl.setD Hid; rw [if_neg (by simp [hfr]), hfo, if_neg (by simp), show ([65, 68, 118] : List UInt8).dropLast = [65, 68] from rfl, hb]; rfl
    rw [hI.out]
    clear hI
    go_enter Tryz.func208, Tryz.ntmps208
    go_wp2_with fail
    refine (unhide hA _ (unhide HB _) (i + 1) _ (by omega) (by omega)).mono ?_
    rintro e w1 ⟨rfl, hw1⟩
    rw [hw1]
    clear hw1 w1
    go_wp2_with fail
    refine (unhide hF _ (unhide HB _) (Pl.atR l (i + 1))).mono ?_
    rw [hfr]
    rintro e w1 ⟨rfl, hw1⟩
    rw [hw1]
    clear hw1 w1
    go_wp2_with fail
    refine (unhide hA _ (unhide HB _) (i + 2) _ (by omega) (by omega)).mono ?_
    rintro e w1 ⟨rfl, hw1⟩
    rw [hw1]
    clear hw1 w1
    go_wp2_with fail
    refine (unhide hO _ (Pl.atR l (i + 2))).mono ?_
    rw [hfo]
    rintro e w1 ⟨rfl, hw1⟩
    rw [hw1]
    clear hw1 w1
    go_wp2_with fail
    refine (unhide hQ _ (unhide HB _) (i + 3) _ [65, 68] (by omega) (by omega) (by decide) (by decide)).mono ?_
    rw [hb]
    rintro e w1 ⟨rfl, m, hw1⟩
    have hk : w1.heap[w.heap.size]? = some (.cells #[.string ⟨#[]⟩, .int .u8 0, .int .i64 0, .int .i64 0, .int .i64 0] 155 (0, 0)) := by rw [hw1]; exact heap_alloc_new w _
    have hbw : Below w.heap.size w w1 := by rw [hw1]; exact below_drewN (unhide HB _) m
    obtain ⟨c0, c1, c2, c3, c4, f0, f1, f2, f3, f4⟩ := decl_facts hk
    have HS := hide (fun x0 x1 x2 x3 x4 => ((((hbw.setCell (p := ⟨w.heap.size, 0, none⟩) (Nat.le_refl _) x0).setCell (p := ⟨w.heap.size, 1, none⟩) (Nat.le_refl _) x1).setCell (p := ⟨w.heap.size, 2, none⟩) (Nat.le_refl _) x2).setCell (p := ⟨w.heap.size, 3, none⟩) (Nat.le_refl _) x3).setCell (p := ⟨w.heap.size, 4, none⟩) (Nat.le_refl _) x4)
    clear hk hbw hw1 hA hF hQ HB
    simp only [placeV]
    go_wp2_with fail
    exact bodyPost_ret (v := .tuple #[declV ⟨Pl.atR l (i + 1), 118, 0, 0, (i : Int) + 2⟩, .int .i64 (-1)]) (by simp [results, Tryz.results208, go_sem, declV, c0, c1, c2, c3, c4]) rfl ⟨rfl, unhide HS _ _ _ _ _⟩

set_option maxRecDepth 100000 in
set_option maxHeartbeats 1000000 in
theorem set_shape3 (l : List (List UInt8)) (vl : Value) (names : List Pl.DeclM) (vn : Value) (i : Nat) (w : World) (h : StrsAt w vl l) (hn : DeclsAt w vn names) (hi : i ≤ 9000) (hl : l.length ≤ 10000) (hnl : names.length ≤ 10000) (ht : ∀ t ∈ l, t.length ≤ 6000) (hfr : Pl.fresh names (Pl.atR l (i + 1)) = true) (hfo : Pl.formsR (Pl.atR l (i + 2)) = [70, 65, 65, 118]) :
    Calls Tryz.prog 208 #[vl, vn, .int .i64 i] w fun e w' => ResV e (Pl.setD l names i) ∧ Below w.heap.size w w' := by
  have hA := hide (fun w1 (hb : Below w.heap.size w w1) (k : Nat) (j : Int) (hk : k ≤ 100000) (hj : j = (k : Int)) => at_int l vl k j w1 (h.below hb) hk hl hj)
  have hF := hide (fun w1 (hb : Below w.heap.size w w1) t => fresh_ref names vn t w1 (hn.below hb) hnl)
  have hQ := hide (fun w1 (hb : Below w.heap.size w w1) (k : Nat) (j : Int) (ws : List UInt8) (hk : k ≤ 10000) (hj : j = (k : Int)) (hw : ws.length ≤ 10) (hc : ∀ c ∈ ws, c = 65 ∨ c = 70 ∨ c = 75 ∨ c = 68) => bad_int l vl names vn k j ws w1 (h.below hb) (hn.below hb) hk hl hnl ht hw hc hj)
  obtain ⟨ad, cap, rfl⟩ := h.shape
  obtain ⟨adn, capn, rfl⟩ := hn.shape
  have HB := hide (fun a => (Below.refl _ w).alloc (Nat.le_refl _) a)
  clear h hn ht
  have hO := hide (fun w1 t => forms_ref t w1)
  have hx : (ByteArray.mk [70, 65, 65, 118].toArray).extract 0 3 = ⟨[70, 65, 65].toArray⟩ := rfl
  have hg : (ByteArray.mk [70, 65, 65, 118].toArray)[3]'(by decide) = 118 := rfl
  cases hb : Pl.badR l names (i + 3) [70, 65, 65] with
  | some p =>
    have hI : Hid (Pl.setD l names i = .inr p) := by unfold Pl.setD Hid; rw [if_neg (by simp [hfr]), hfo, if_neg (by simp), show ([70, 65, 65, 118] : List UInt8).dropLast = [70, 65, 65] from rfl, hb]
    rw [hI.out]
    clear hI
    go_enter Tryz.func208, Tryz.ntmps208
    go_wp2_with fail
    refine (unhide hA _ (unhide HB _) (i + 1) _ (by omega) (by omega)).mono ?_
    rintro e w1 ⟨rfl, hw1⟩
    rw [hw1]
    clear hw1 w1
    go_wp2_with fail
    refine (unhide hF _ (unhide HB _) (Pl.atR l (i + 1))).mono ?_
    rw [hfr]
    rintro e w1 ⟨rfl, hw1⟩
    rw [hw1]
    clear hw1 w1
    go_wp2_with fail
    refine (unhide hA _ (unhide HB _) (i + 2) _ (by omega) (by omega)).mono ?_
    rintro e w1 ⟨rfl, hw1⟩
    rw [hw1]
    clear hw1 w1
    go_wp2_with fail
    refine (unhide hO _ (Pl.atR l (i + 2))).mono ?_
    rw [hfo]
    rintro e w1 ⟨rfl, hw1⟩
    rw [hw1]
    clear hw1 w1
    go_wp2_with fail
    refine (unhide hQ _ (unhide HB _) (i + 3) _ [70, 65, 65] (by omega) (by omega) (by decide) (by decide)).mono ?_
    rw [hb]
    rintro e w1 ⟨rfl, m, hw1⟩
    have hk : w1.heap[w.heap.size]? = some (.cells #[.string ⟨#[]⟩, .int .u8 0, .int .i64 0, .int .i64 0, .int .i64 0] 155 (0, 0)) := by rw [hw1]; exact heap_alloc_new w _
    have hbw : Below w.heap.size w w1 := by rw [hw1]; exact below_drewN (unhide HB _) m
    obtain ⟨c0, c1, c2, c3, c4, f0, f1, f2, f3, f4⟩ := decl_facts hk
    have HS := hide (fun x0 x1 x2 x3 x4 => ((((hbw.setCell (p := ⟨w.heap.size, 0, none⟩) (Nat.le_refl _) x0).setCell (p := ⟨w.heap.size, 1, none⟩) (Nat.le_refl _) x1).setCell (p := ⟨w.heap.size, 2, none⟩) (Nat.le_refl _) x2).setCell (p := ⟨w.heap.size, 3, none⟩) (Nat.le_refl _) x3).setCell (p := ⟨w.heap.size, 4, none⟩) (Nat.le_refl _) x4)
    clear hk hbw hw1 hA hF hQ HB
    simp only [placeV]
    go_wp2_with fail
    exact bodyPost_ret (v := .tuple #[declV ⟨Pl.atR l (i + 1), 118, 0, 0, (i : Int) + 2⟩, .int .i64 ((p : Int))]) (by simp [results, Tryz.results208, go_sem, declV, c0, c1, c2, c3, c4]) rfl ⟨⟨_, rfl⟩, unhide HS _ _ _ _ _⟩
  | none =>
    have hI : Hid (Pl.setD l names i = .inl ⟨Pl.atR l (i + 1), 118, 0, 0, (i : Int) + 2⟩) := by unfold Pl.setD Hid; rw [if_neg (by simp [hfr]), hfo, if_neg (by simp), show ([70, 65, 65, 118] : List UInt8).dropLast = [70, 65, 65] from rfl, hb]; rfl
    rw [hI.out]
    clear hI
    go_enter Tryz.func208, Tryz.ntmps208
    go_wp2_with fail
    refine (unhide hA _ (unhide HB _) (i + 1) _ (by omega) (by omega)).mono ?_
    rintro e w1 ⟨rfl, hw1⟩
    rw [hw1]
    clear hw1 w1
    go_wp2_with fail
    refine (unhide hF _ (unhide HB _) (Pl.atR l (i + 1))).mono ?_
    rw [hfr]
    rintro e w1 ⟨rfl, hw1⟩
    rw [hw1]
    clear hw1 w1
    go_wp2_with fail
    refine (unhide hA _ (unhide HB _) (i + 2) _ (by omega) (by omega)).mono ?_
    rintro e w1 ⟨rfl, hw1⟩
    rw [hw1]
    clear hw1 w1
    go_wp2_with fail
    refine (unhide hO _ (Pl.atR l (i + 2))).mono ?_
    rw [hfo]
    rintro e w1 ⟨rfl, hw1⟩
    rw [hw1]
    clear hw1 w1
    go_wp2_with fail
    refine (unhide hQ _ (unhide HB _) (i + 3) _ [70, 65, 65] (by omega) (by omega) (by decide) (by decide)).mono ?_
    rw [hb]
    rintro e w1 ⟨rfl, m, hw1⟩
    have hk : w1.heap[w.heap.size]? = some (.cells #[.string ⟨#[]⟩, .int .u8 0, .int .i64 0, .int .i64 0, .int .i64 0] 155 (0, 0)) := by rw [hw1]; exact heap_alloc_new w _
    have hbw : Below w.heap.size w w1 := by rw [hw1]; exact below_drewN (unhide HB _) m
    obtain ⟨c0, c1, c2, c3, c4, f0, f1, f2, f3, f4⟩ := decl_facts hk
    have HS := hide (fun x0 x1 x2 x3 x4 => ((((hbw.setCell (p := ⟨w.heap.size, 0, none⟩) (Nat.le_refl _) x0).setCell (p := ⟨w.heap.size, 1, none⟩) (Nat.le_refl _) x1).setCell (p := ⟨w.heap.size, 2, none⟩) (Nat.le_refl _) x2).setCell (p := ⟨w.heap.size, 3, none⟩) (Nat.le_refl _) x3).setCell (p := ⟨w.heap.size, 4, none⟩) (Nat.le_refl _) x4)
    clear hk hbw hw1 hA hF hQ HB
    simp only [placeV]
    go_wp2_with fail
    exact bodyPost_ret (v := .tuple #[declV ⟨Pl.atR l (i + 1), 118, 0, 0, (i : Int) + 2⟩, .int .i64 (-1)]) (by simp [results, Tryz.results208, go_sem, declV, c0, c1, c2, c3, c4]) rfl ⟨rfl, unhide HS _ _ _ _ _⟩

set_option maxRecDepth 100000 in
set_option maxHeartbeats 1000000 in
theorem set_shape4 (l : List (List UInt8)) (vl : Value) (names : List Pl.DeclM) (vn : Value) (i : Nat) (w : World) (h : StrsAt w vl l) (hn : DeclsAt w vn names) (hi : i ≤ 9000) (hl : l.length ≤ 10000) (hnl : names.length ≤ 10000) (ht : ∀ t ∈ l, t.length ≤ 6000) (hfr : Pl.fresh names (Pl.atR l (i + 1)) = true) (hfo : Pl.formsR (Pl.atR l (i + 2)) = [65, 65, 102]) :
    Calls Tryz.prog 208 #[vl, vn, .int .i64 i] w fun e w' => ResV e (Pl.setD l names i) ∧ Below w.heap.size w w' := by
  have hA := hide (fun w1 (hb : Below w.heap.size w w1) (k : Nat) (j : Int) (hk : k ≤ 100000) (hj : j = (k : Int)) => at_int l vl k j w1 (h.below hb) hk hl hj)
  have hF := hide (fun w1 (hb : Below w.heap.size w w1) t => fresh_ref names vn t w1 (hn.below hb) hnl)
  have hQ := hide (fun w1 (hb : Below w.heap.size w w1) (k : Nat) (j : Int) (ws : List UInt8) (hk : k ≤ 10000) (hj : j = (k : Int)) (hw : ws.length ≤ 10) (hc : ∀ c ∈ ws, c = 65 ∨ c = 70 ∨ c = 75 ∨ c = 68) => bad_int l vl names vn k j ws w1 (h.below hb) (hn.below hb) hk hl hnl ht hw hc hj)
  obtain ⟨ad, cap, rfl⟩ := h.shape
  obtain ⟨adn, capn, rfl⟩ := hn.shape
  have HB := hide (fun a => (Below.refl _ w).alloc (Nat.le_refl _) a)
  clear h hn ht
  have hO := hide (fun w1 t => forms_ref t w1)
  have hx : (ByteArray.mk [65, 65, 102].toArray).extract 0 2 = ⟨[65, 65].toArray⟩ := rfl
  have hg : (ByteArray.mk [65, 65, 102].toArray)[2]'(by decide) = 102 := rfl
  cases hb : Pl.badR l names (i + 3) [65, 65] with
  | some p =>
    have hI : Hid (Pl.setD l names i = .inr p) := by unfold Pl.setD Hid; rw [if_neg (by simp [hfr]), hfo, if_neg (by simp), show ([65, 65, 102] : List UInt8).dropLast = [65, 65] from rfl, hb]
    rw [hI.out]
    clear hI
    go_enter Tryz.func208, Tryz.ntmps208
    go_wp2_with fail
    refine (unhide hA _ (unhide HB _) (i + 1) _ (by omega) (by omega)).mono ?_
    rintro e w1 ⟨rfl, hw1⟩
    rw [hw1]
    clear hw1 w1
    go_wp2_with fail
    refine (unhide hF _ (unhide HB _) (Pl.atR l (i + 1))).mono ?_
    rw [hfr]
    rintro e w1 ⟨rfl, hw1⟩
    rw [hw1]
    clear hw1 w1
    go_wp2_with fail
    refine (unhide hA _ (unhide HB _) (i + 2) _ (by omega) (by omega)).mono ?_
    rintro e w1 ⟨rfl, hw1⟩
    rw [hw1]
    clear hw1 w1
    go_wp2_with fail
    refine (unhide hO _ (Pl.atR l (i + 2))).mono ?_
    rw [hfo]
    rintro e w1 ⟨rfl, hw1⟩
    rw [hw1]
    clear hw1 w1
    go_wp2_with fail
    refine (unhide hQ _ (unhide HB _) (i + 3) _ [65, 65] (by omega) (by omega) (by decide) (by decide)).mono ?_
    rw [hb]
    rintro e w1 ⟨rfl, m, hw1⟩
    have hk : w1.heap[w.heap.size]? = some (.cells #[.string ⟨#[]⟩, .int .u8 0, .int .i64 0, .int .i64 0, .int .i64 0] 155 (0, 0)) := by rw [hw1]; exact heap_alloc_new w _
    have hbw : Below w.heap.size w w1 := by rw [hw1]; exact below_drewN (unhide HB _) m
    obtain ⟨c0, c1, c2, c3, c4, f0, f1, f2, f3, f4⟩ := decl_facts hk
    have HS := hide (fun x0 x1 x2 x3 x4 => ((((hbw.setCell (p := ⟨w.heap.size, 0, none⟩) (Nat.le_refl _) x0).setCell (p := ⟨w.heap.size, 1, none⟩) (Nat.le_refl _) x1).setCell (p := ⟨w.heap.size, 2, none⟩) (Nat.le_refl _) x2).setCell (p := ⟨w.heap.size, 3, none⟩) (Nat.le_refl _) x3).setCell (p := ⟨w.heap.size, 4, none⟩) (Nat.le_refl _) x4)
    clear hk hbw hw1 hA hF hQ HB
    simp only [placeV]
    go_wp2_with fail
    exact bodyPost_ret (v := .tuple #[declV ⟨Pl.atR l (i + 1), 102, 0, 0, (i : Int) + 2⟩, .int .i64 ((p : Int))]) (by simp [results, Tryz.results208, go_sem, declV, c0, c1, c2, c3, c4]) rfl ⟨⟨_, rfl⟩, unhide HS _ _ _ _ _⟩
  | none =>
    have hI : Hid (Pl.setD l names i = .inl ⟨Pl.atR l (i + 1), 102, 0, 0, (i : Int) + 2⟩) := by unfold Pl.setD Hid; rw [if_neg (by simp [hfr]), hfo, if_neg (by simp), show ([65, 65, 102] : List UInt8).dropLast = [65, 65] from rfl, hb]; rfl
    rw [hI.out]
    clear hI
    go_enter Tryz.func208, Tryz.ntmps208
    go_wp2_with fail
    refine (unhide hA _ (unhide HB _) (i + 1) _ (by omega) (by omega)).mono ?_
    rintro e w1 ⟨rfl, hw1⟩
    rw [hw1]
    clear hw1 w1
    go_wp2_with fail
    refine (unhide hF _ (unhide HB _) (Pl.atR l (i + 1))).mono ?_
    rw [hfr]
    rintro e w1 ⟨rfl, hw1⟩
    rw [hw1]
    clear hw1 w1
    go_wp2_with fail
    refine (unhide hA _ (unhide HB _) (i + 2) _ (by omega) (by omega)).mono ?_
    rintro e w1 ⟨rfl, hw1⟩
    rw [hw1]
    clear hw1 w1
    go_wp2_with fail
    refine (unhide hO _ (Pl.atR l (i + 2))).mono ?_
    rw [hfo]
    rintro e w1 ⟨rfl, hw1⟩
    rw [hw1]
    clear hw1 w1
    go_wp2_with fail
    refine (unhide hQ _ (unhide HB _) (i + 3) _ [65, 65] (by omega) (by omega) (by decide) (by decide)).mono ?_
    rw [hb]
    rintro e w1 ⟨rfl, m, hw1⟩
    have hk : w1.heap[w.heap.size]? = some (.cells #[.string ⟨#[]⟩, .int .u8 0, .int .i64 0, .int .i64 0, .int .i64 0] 155 (0, 0)) := by rw [hw1]; exact heap_alloc_new w _
    have hbw : Below w.heap.size w w1 := by rw [hw1]; exact below_drewN (unhide HB _) m
    obtain ⟨c0, c1, c2, c3, c4, f0, f1, f2, f3, f4⟩ := decl_facts hk
    have HS := hide (fun x0 x1 x2 x3 x4 => ((((hbw.setCell (p := ⟨w.heap.size, 0, none⟩) (Nat.le_refl _) x0).setCell (p := ⟨w.heap.size, 1, none⟩) (Nat.le_refl _) x1).setCell (p := ⟨w.heap.size, 2, none⟩) (Nat.le_refl _) x2).setCell (p := ⟨w.heap.size, 3, none⟩) (Nat.le_refl _) x3).setCell (p := ⟨w.heap.size, 4, none⟩) (Nat.le_refl _) x4)
    clear hk hbw hw1 hA hF hQ HB
    simp only [placeV]
    go_wp2_with fail
    exact bodyPost_ret (v := .tuple #[declV ⟨Pl.atR l (i + 1), 102, 0, 0, (i : Int) + 2⟩, .int .i64 (-1)]) (by simp [results, Tryz.results208, go_sem, declV, c0, c1, c2, c3, c4]) rfl ⟨rfl, unhide HS _ _ _ _ _⟩

set_option maxRecDepth 100000 in
set_option maxHeartbeats 1000000 in
theorem set_shape5 (l : List (List UInt8)) (vl : Value) (names : List Pl.DeclM) (vn : Value) (i : Nat) (w : World) (h : StrsAt w vl l) (hn : DeclsAt w vn names) (hi : i ≤ 9000) (hl : l.length ≤ 10000) (hnl : names.length ≤ 10000) (ht : ∀ t ∈ l, t.length ≤ 6000) (hfr : Pl.fresh names (Pl.atR l (i + 1)) = true) (hfo : Pl.formsR (Pl.atR l (i + 2)) = [70, 70, 102]) :
    Calls Tryz.prog 208 #[vl, vn, .int .i64 i] w fun e w' => ResV e (Pl.setD l names i) ∧ Below w.heap.size w w' := by
  have hA := hide (fun w1 (hb : Below w.heap.size w w1) (k : Nat) (j : Int) (hk : k ≤ 100000) (hj : j = (k : Int)) => at_int l vl k j w1 (h.below hb) hk hl hj)
  have hF := hide (fun w1 (hb : Below w.heap.size w w1) t => fresh_ref names vn t w1 (hn.below hb) hnl)
  have hQ := hide (fun w1 (hb : Below w.heap.size w w1) (k : Nat) (j : Int) (ws : List UInt8) (hk : k ≤ 10000) (hj : j = (k : Int)) (hw : ws.length ≤ 10) (hc : ∀ c ∈ ws, c = 65 ∨ c = 70 ∨ c = 75 ∨ c = 68) => bad_int l vl names vn k j ws w1 (h.below hb) (hn.below hb) hk hl hnl ht hw hc hj)
  obtain ⟨ad, cap, rfl⟩ := h.shape
  obtain ⟨adn, capn, rfl⟩ := hn.shape
  have HB := hide (fun a => (Below.refl _ w).alloc (Nat.le_refl _) a)
  clear h hn ht
  have hO := hide (fun w1 t => forms_ref t w1)
  have hx : (ByteArray.mk [70, 70, 102].toArray).extract 0 2 = ⟨[70, 70].toArray⟩ := rfl
  have hg : (ByteArray.mk [70, 70, 102].toArray)[2]'(by decide) = 102 := rfl
  cases hb : Pl.badR l names (i + 3) [70, 70] with
  | some p =>
    have hI : Hid (Pl.setD l names i = .inr p) := by unfold Pl.setD Hid; rw [if_neg (by simp [hfr]), hfo, if_neg (by simp), show ([70, 70, 102] : List UInt8).dropLast = [70, 70] from rfl, hb]
    rw [hI.out]
    clear hI
    go_enter Tryz.func208, Tryz.ntmps208
    go_wp2_with fail
    refine (unhide hA _ (unhide HB _) (i + 1) _ (by omega) (by omega)).mono ?_
    rintro e w1 ⟨rfl, hw1⟩
    rw [hw1]
    clear hw1 w1
    go_wp2_with fail
    refine (unhide hF _ (unhide HB _) (Pl.atR l (i + 1))).mono ?_
    rw [hfr]
    rintro e w1 ⟨rfl, hw1⟩
    rw [hw1]
    clear hw1 w1
    go_wp2_with fail
    refine (unhide hA _ (unhide HB _) (i + 2) _ (by omega) (by omega)).mono ?_
    rintro e w1 ⟨rfl, hw1⟩
    rw [hw1]
    clear hw1 w1
    go_wp2_with fail
    refine (unhide hO _ (Pl.atR l (i + 2))).mono ?_
    rw [hfo]
    rintro e w1 ⟨rfl, hw1⟩
    rw [hw1]
    clear hw1 w1
    go_wp2_with fail
    refine (unhide hQ _ (unhide HB _) (i + 3) _ [70, 70] (by omega) (by omega) (by decide) (by decide)).mono ?_
    rw [hb]
    rintro e w1 ⟨rfl, m, hw1⟩
    have hk : w1.heap[w.heap.size]? = some (.cells #[.string ⟨#[]⟩, .int .u8 0, .int .i64 0, .int .i64 0, .int .i64 0] 155 (0, 0)) := by rw [hw1]; exact heap_alloc_new w _
    have hbw : Below w.heap.size w w1 := by rw [hw1]; exact below_drewN (unhide HB _) m
    obtain ⟨c0, c1, c2, c3, c4, f0, f1, f2, f3, f4⟩ := decl_facts hk
    have HS := hide (fun x0 x1 x2 x3 x4 => ((((hbw.setCell (p := ⟨w.heap.size, 0, none⟩) (Nat.le_refl _) x0).setCell (p := ⟨w.heap.size, 1, none⟩) (Nat.le_refl _) x1).setCell (p := ⟨w.heap.size, 2, none⟩) (Nat.le_refl _) x2).setCell (p := ⟨w.heap.size, 3, none⟩) (Nat.le_refl _) x3).setCell (p := ⟨w.heap.size, 4, none⟩) (Nat.le_refl _) x4)
    clear hk hbw hw1 hA hF hQ HB
    simp only [placeV]
    go_wp2_with fail
    exact bodyPost_ret (v := .tuple #[declV ⟨Pl.atR l (i + 1), 102, 0, 0, (i : Int) + 2⟩, .int .i64 ((p : Int))]) (by simp [results, Tryz.results208, go_sem, declV, c0, c1, c2, c3, c4]) rfl ⟨⟨_, rfl⟩, unhide HS _ _ _ _ _⟩
  | none =>
    have hI : Hid (Pl.setD l names i = .inl ⟨Pl.atR l (i + 1), 102, 0, 0, (i : Int) + 2⟩) := by unfold Pl.setD Hid; rw [if_neg (by simp [hfr]), hfo, if_neg (by simp), show ([70, 70, 102] : List UInt8).dropLast = [70, 70] from rfl, hb]; rfl
    rw [hI.out]
    clear hI
    go_enter Tryz.func208, Tryz.ntmps208
    go_wp2_with fail
    refine (unhide hA _ (unhide HB _) (i + 1) _ (by omega) (by omega)).mono ?_
    rintro e w1 ⟨rfl, hw1⟩
    rw [hw1]
    clear hw1 w1
    go_wp2_with fail
    refine (unhide hF _ (unhide HB _) (Pl.atR l (i + 1))).mono ?_
    rw [hfr]
    rintro e w1 ⟨rfl, hw1⟩
    rw [hw1]
    clear hw1 w1
    go_wp2_with fail
    refine (unhide hA _ (unhide HB _) (i + 2) _ (by omega) (by omega)).mono ?_
    rintro e w1 ⟨rfl, hw1⟩
    rw [hw1]
    clear hw1 w1
    go_wp2_with fail
    refine (unhide hO _ (Pl.atR l (i + 2))).mono ?_
    rw [hfo]
    rintro e w1 ⟨rfl, hw1⟩
    rw [hw1]
    clear hw1 w1
    go_wp2_with fail
    refine (unhide hQ _ (unhide HB _) (i + 3) _ [70, 70] (by omega) (by omega) (by decide) (by decide)).mono ?_
    rw [hb]
    rintro e w1 ⟨rfl, m, hw1⟩
    have hk : w1.heap[w.heap.size]? = some (.cells #[.string ⟨#[]⟩, .int .u8 0, .int .i64 0, .int .i64 0, .int .i64 0] 155 (0, 0)) := by rw [hw1]; exact heap_alloc_new w _
    have hbw : Below w.heap.size w w1 := by rw [hw1]; exact below_drewN (unhide HB _) m
    obtain ⟨c0, c1, c2, c3, c4, f0, f1, f2, f3, f4⟩ := decl_facts hk
    have HS := hide (fun x0 x1 x2 x3 x4 => ((((hbw.setCell (p := ⟨w.heap.size, 0, none⟩) (Nat.le_refl _) x0).setCell (p := ⟨w.heap.size, 1, none⟩) (Nat.le_refl _) x1).setCell (p := ⟨w.heap.size, 2, none⟩) (Nat.le_refl _) x2).setCell (p := ⟨w.heap.size, 3, none⟩) (Nat.le_refl _) x3).setCell (p := ⟨w.heap.size, 4, none⟩) (Nat.le_refl _) x4)
    clear hk hbw hw1 hA hF hQ HB
    simp only [placeV]
    go_wp2_with fail
    exact bodyPost_ret (v := .tuple #[declV ⟨Pl.atR l (i + 1), 102, 0, 0, (i : Int) + 2⟩, .int .i64 (-1)]) (by simp [results, Tryz.results208, go_sem, declV, c0, c1, c2, c3, c4]) rfl ⟨rfl, unhide HS _ _ _ _ _⟩

set_option maxRecDepth 100000 in
set_option maxHeartbeats 1000000 in
theorem set_shape6 (l : List (List UInt8)) (vl : Value) (names : List Pl.DeclM) (vn : Value) (i : Nat) (w : World) (h : StrsAt w vl l) (hn : DeclsAt w vn names) (hi : i ≤ 9000) (hl : l.length ≤ 10000) (hnl : names.length ≤ 10000) (ht : ∀ t ∈ l, t.length ≤ 6000) (hfr : Pl.fresh names (Pl.atR l (i + 1)) = true) (hfo : Pl.formsR (Pl.atR l (i + 2)) = [70, 102]) :
    Calls Tryz.prog 208 #[vl, vn, .int .i64 i] w fun e w' => ResV e (Pl.setD l names i) ∧ Below w.heap.size w w' := by
  have hA := hide (fun w1 (hb : Below w.heap.size w w1) (k : Nat) (j : Int) (hk : k ≤ 100000) (hj : j = (k : Int)) => at_int l vl k j w1 (h.below hb) hk hl hj)
  have hF := hide (fun w1 (hb : Below w.heap.size w w1) t => fresh_ref names vn t w1 (hn.below hb) hnl)
  have hQ := hide (fun w1 (hb : Below w.heap.size w w1) (k : Nat) (j : Int) (ws : List UInt8) (hk : k ≤ 10000) (hj : j = (k : Int)) (hw : ws.length ≤ 10) (hc : ∀ c ∈ ws, c = 65 ∨ c = 70 ∨ c = 75 ∨ c = 68) => bad_int l vl names vn k j ws w1 (h.below hb) (hn.below hb) hk hl hnl ht hw hc hj)
  obtain ⟨ad, cap, rfl⟩ := h.shape
  obtain ⟨adn, capn, rfl⟩ := hn.shape
  have HB := hide (fun a => (Below.refl _ w).alloc (Nat.le_refl _) a)
  clear h hn ht
  have hO := hide (fun w1 t => forms_ref t w1)
  have hx : (ByteArray.mk [70, 102].toArray).extract 0 1 = ⟨[70].toArray⟩ := rfl
  have hg : (ByteArray.mk [70, 102].toArray)[1]'(by decide) = 102 := rfl
  cases hb : Pl.badR l names (i + 3) [70] with
  | some p =>
    have hI : Hid (Pl.setD l names i = .inr p) := by unfold Pl.setD Hid; rw [if_neg (by simp [hfr]), hfo, if_neg (by simp), show ([70, 102] : List UInt8).dropLast = [70] from rfl, hb]
    rw [hI.out]
    clear hI
    go_enter Tryz.func208, Tryz.ntmps208
    go_wp2_with fail
    refine (unhide hA _ (unhide HB _) (i + 1) _ (by omega) (by omega)).mono ?_
    rintro e w1 ⟨rfl, hw1⟩
    rw [hw1]
    clear hw1 w1
    go_wp2_with fail
    refine (unhide hF _ (unhide HB _) (Pl.atR l (i + 1))).mono ?_
    rw [hfr]
    rintro e w1 ⟨rfl, hw1⟩
    rw [hw1]
    clear hw1 w1
    go_wp2_with fail
    refine (unhide hA _ (unhide HB _) (i + 2) _ (by omega) (by omega)).mono ?_
    rintro e w1 ⟨rfl, hw1⟩
    rw [hw1]
    clear hw1 w1
    go_wp2_with fail
    refine (unhide hO _ (Pl.atR l (i + 2))).mono ?_
    rw [hfo]
    rintro e w1 ⟨rfl, hw1⟩
    rw [hw1]
    clear hw1 w1
    go_wp2_with fail
    refine (unhide hQ _ (unhide HB _) (i + 3) _ [70] (by omega) (by omega) (by decide) (by decide)).mono ?_
    rw [hb]
    rintro e w1 ⟨rfl, m, hw1⟩
    have hk : w1.heap[w.heap.size]? = some (.cells #[.string ⟨#[]⟩, .int .u8 0, .int .i64 0, .int .i64 0, .int .i64 0] 155 (0, 0)) := by rw [hw1]; exact heap_alloc_new w _
    have hbw : Below w.heap.size w w1 := by rw [hw1]; exact below_drewN (unhide HB _) m
    obtain ⟨c0, c1, c2, c3, c4, f0, f1, f2, f3, f4⟩ := decl_facts hk
    have HS := hide (fun x0 x1 x2 x3 x4 => ((((hbw.setCell (p := ⟨w.heap.size, 0, none⟩) (Nat.le_refl _) x0).setCell (p := ⟨w.heap.size, 1, none⟩) (Nat.le_refl _) x1).setCell (p := ⟨w.heap.size, 2, none⟩) (Nat.le_refl _) x2).setCell (p := ⟨w.heap.size, 3, none⟩) (Nat.le_refl _) x3).setCell (p := ⟨w.heap.size, 4, none⟩) (Nat.le_refl _) x4)
    clear hk hbw hw1 hA hF hQ HB
    simp only [placeV]
    go_wp2_with fail
    exact bodyPost_ret (v := .tuple #[declV ⟨Pl.atR l (i + 1), 102, 0, 0, (i : Int) + 2⟩, .int .i64 ((p : Int))]) (by simp [results, Tryz.results208, go_sem, declV, c0, c1, c2, c3, c4]) rfl ⟨⟨_, rfl⟩, unhide HS _ _ _ _ _⟩
  | none =>
    have hI : Hid (Pl.setD l names i = .inl ⟨Pl.atR l (i + 1), 102, 0, 0, (i : Int) + 2⟩) := by unfold Pl.setD Hid; rw [if_neg (by simp [hfr]), hfo, if_neg (by simp), show ([70, 102] : List UInt8).dropLast = [70] from rfl, hb]; rfl
    rw [hI.out]
    clear hI
    go_enter Tryz.func208, Tryz.ntmps208
    go_wp2_with fail
    refine (unhide hA _ (unhide HB _) (i + 1) _ (by omega) (by omega)).mono ?_
    rintro e w1 ⟨rfl, hw1⟩
    rw [hw1]
    clear hw1 w1
    go_wp2_with fail
    refine (unhide hF _ (unhide HB _) (Pl.atR l (i + 1))).mono ?_
    rw [hfr]
    rintro e w1 ⟨rfl, hw1⟩
    rw [hw1]
    clear hw1 w1
    go_wp2_with fail
    refine (unhide hA _ (unhide HB _) (i + 2) _ (by omega) (by omega)).mono ?_
    rintro e w1 ⟨rfl, hw1⟩
    rw [hw1]
    clear hw1 w1
    go_wp2_with fail
    refine (unhide hO _ (Pl.atR l (i + 2))).mono ?_
    rw [hfo]
    rintro e w1 ⟨rfl, hw1⟩
    rw [hw1]
    clear hw1 w1
    go_wp2_with fail
    refine (unhide hQ _ (unhide HB _) (i + 3) _ [70] (by omega) (by omega) (by decide) (by decide)).mono ?_
    rw [hb]
    rintro e w1 ⟨rfl, m, hw1⟩
    have hk : w1.heap[w.heap.size]? = some (.cells #[.string ⟨#[]⟩, .int .u8 0, .int .i64 0, .int .i64 0, .int .i64 0] 155 (0, 0)) := by rw [hw1]; exact heap_alloc_new w _
    have hbw : Below w.heap.size w w1 := by rw [hw1]; exact below_drewN (unhide HB _) m
    obtain ⟨c0, c1, c2, c3, c4, f0, f1, f2, f3, f4⟩ := decl_facts hk
    have HS := hide (fun x0 x1 x2 x3 x4 => ((((hbw.setCell (p := ⟨w.heap.size, 0, none⟩) (Nat.le_refl _) x0).setCell (p := ⟨w.heap.size, 1, none⟩) (Nat.le_refl _) x1).setCell (p := ⟨w.heap.size, 2, none⟩) (Nat.le_refl _) x2).setCell (p := ⟨w.heap.size, 3, none⟩) (Nat.le_refl _) x3).setCell (p := ⟨w.heap.size, 4, none⟩) (Nat.le_refl _) x4)
    clear hk hbw hw1 hA hF hQ HB
    simp only [placeV]
    go_wp2_with fail
    exact bodyPost_ret (v := .tuple #[declV ⟨Pl.atR l (i + 1), 102, 0, 0, (i : Int) + 2⟩, .int .i64 (-1)]) (by simp [results, Tryz.results208, go_sem, declV, c0, c1, c2, c3, c4]) rfl ⟨rfl, unhide HS _ _ _ _ _⟩

set_option maxRecDepth 100000 in
set_option maxHeartbeats 1000000 in
theorem set_ref (l : List (List UInt8)) (vl : Value) (names : List Pl.DeclM) (vn : Value) (i : Nat) (w : World) (h : StrsAt w vl l) (hn : DeclsAt w vn names) (hi : i ≤ 9000) (hl : l.length ≤ 10000) (hnl : names.length ≤ 10000) (ht : ∀ t ∈ l, t.length ≤ 6000) :
    Calls Tryz.prog 208 #[vl, vn, .int .i64 i] w fun e w' => ResV e (Pl.setD l names i) ∧ Below w.heap.size w w' := by
  cases hfr : Pl.fresh names (Pl.atR l (i + 1)) with
  | false =>
    have hA := hide (fun w1 (hb : Below w.heap.size w w1) (k : Nat) (j : Int) (hk : k ≤ 100000) (hj : j = (k : Int)) => at_int l vl k j w1 (h.below hb) hk hl hj)
    have hF := hide (fun w1 (hb : Below w.heap.size w w1) t => fresh_ref names vn t w1 (hn.below hb) hnl)
    have hQ := hide (fun w1 (hb : Below w.heap.size w w1) (k : Nat) (j : Int) (ws : List UInt8) (hk : k ≤ 10000) (hj : j = (k : Int)) (hw : ws.length ≤ 10) (hc : ∀ c ∈ ws, c = 65 ∨ c = 70 ∨ c = 75 ∨ c = 68) => bad_int l vl names vn k j ws w1 (h.below hb) (hn.below hb) hk hl hnl ht hw hc hj)
    obtain ⟨ad, cap, rfl⟩ := h.shape
    obtain ⟨adn, capn, rfl⟩ := hn.shape
    have HB := hide (fun a => (Below.refl _ w).alloc (Nat.le_refl _) a)
    clear h hn ht
    have hI : Hid (Pl.setD l names i = .inr (i + 1)) := by unfold Pl.setD Hid; rw [if_pos hfr]
    rw [hI.out]
    clear hI hQ
    go_enter Tryz.func208, Tryz.ntmps208
    go_wp2_with fail
    refine (unhide hA _ (unhide HB _) (i + 1) _ (by omega) (by omega)).mono ?_
    rintro e w1 ⟨rfl, hw1⟩
    rw [hw1]
    clear hw1 w1
    go_wp2_with fail
    refine (unhide hF _ (unhide HB _) (Pl.atR l (i + 1))).mono ?_
    rw [hfr]
    rintro e w1 ⟨rfl, hw1⟩
    rw [hw1]
    clear hw1 w1
    go_wp2_with fail
    exact bodyPost_ret (v := .tuple #[declV ⟨[], 0, 0, 0, 0⟩, .int .i64 ((i : Int) + 1)]) (by simp [results, Tryz.results208, go_sem, declV]) rfl ⟨⟨_, by rw [show ((i + 1 : Nat) : Int) = (i : Int) + 1 by omega]⟩, unhide HB _⟩
  | true =>
    rcases Pl.formsR_cases (Pl.atR l (i + 2)) with ⟨hfo, _⟩ | ⟨hfo, _⟩ | ⟨hfo, _⟩ | ⟨hfo, _⟩ | ⟨hfo, _⟩ | ⟨hfo, _⟩ | ⟨hfo, _⟩ | hfo
    · exact set_shape0 l vl names vn i w h hn hi hl hnl ht hfr hfo
    · exact set_shape1 l vl names vn i w h hn hi hl hnl ht hfr hfo
    · exact set_shape2 l vl names vn i w h hn hi hl hnl ht hfr hfo
    · exact set_shape3 l vl names vn i w h hn hi hl hnl ht hfr hfo
    · exact set_shape4 l vl names vn i w h hn hi hl hnl ht hfr hfo
    · exact set_shape5 l vl names vn i w h hn hi hl hnl ht hfr hfo
    · exact set_shape6 l vl names vn i w h hn hi hl hnl ht hfr hfo
    · have hO := hide (fun w1 t => forms_ref t w1)
      have hA := hide (fun w1 (hb : Below w.heap.size w w1) (k : Nat) (j : Int) (hk : k ≤ 100000) (hj : j = (k : Int)) => at_int l vl k j w1 (h.below hb) hk hl hj)
      have hF := hide (fun w1 (hb : Below w.heap.size w w1) t => fresh_ref names vn t w1 (hn.below hb) hnl)
      have hQ := hide (fun w1 (hb : Below w.heap.size w w1) (k : Nat) (j : Int) (ws : List UInt8) (hk : k ≤ 10000) (hj : j = (k : Int)) (hw : ws.length ≤ 10) (hc : ∀ c ∈ ws, c = 65 ∨ c = 70 ∨ c = 75 ∨ c = 68) => bad_int l vl names vn k j ws w1 (h.below hb) (hn.below hb) hk hl hnl ht hw hc hj)
      obtain ⟨ad, cap, rfl⟩ := h.shape
      obtain ⟨adn, capn, rfl⟩ := hn.shape
      have HB := hide (fun a => (Below.refl _ w).alloc (Nat.le_refl _) a)
      clear h hn ht
      have hI : Hid (Pl.setD l names i = .inr (i + 2)) := by unfold Pl.setD Hid; rw [if_neg (by simp [hfr]), if_pos hfo]
      rw [hI.out]
      clear hI hQ
      go_enter Tryz.func208, Tryz.ntmps208
      go_wp2_with fail
      refine (unhide hA _ (unhide HB _) (i + 1) _ (by omega) (by omega)).mono ?_
      rintro e w1 ⟨rfl, hw1⟩
      rw [hw1]
      clear hw1 w1
      go_wp2_with fail
      refine (unhide hF _ (unhide HB _) (Pl.atR l (i + 1))).mono ?_
      rw [hfr]
      rintro e w1 ⟨rfl, hw1⟩
      rw [hw1]
      clear hw1 w1
      go_wp2_with fail
      refine (unhide hA _ (unhide HB _) (i + 2) _ (by omega) (by omega)).mono ?_
      rintro e w1 ⟨rfl, hw1⟩
      rw [hw1]
      clear hw1 w1
      go_wp2_with fail
      refine (unhide hO _ (Pl.atR l (i + 2))).mono ?_
      rw [hfo]
      rintro e w1 ⟨rfl, hw1⟩
      rw [hw1]
      clear hw1 w1
      go_wp2_with fail
      exact bodyPost_ret (v := .tuple #[declV ⟨[], 0, 0, 0, 0⟩, .int .i64 ((i : Int) + 2)]) (by simp [results, Tryz.results208, go_sem, declV]) rfl ⟨⟨_, by rw [show ((i + 2 : Nat) : Int) = (i : Int) + 2 by omega]⟩, unhide HB _⟩

set_option maxRecDepth 100000 in
set_option maxHeartbeats 1000000 in
theorem out_ref (l : List (List UInt8)) (vl : Value) (names : List Pl.DeclM) (vn : Value) (i : Nat) (w : World) (h : StrsAt w vl l) (hn : DeclsAt w vn names) (hi : i ≤ 9000) (hl : l.length ≤ 10000) (hnl : names.length ≤ 10000) (ht : ∀ t ∈ l, t.length ≤ 6000) :
    Calls Tryz.prog 209 #[vl, vn, .int .i64 i] w fun e w' => ResV e (Pl.outD l names i) ∧ Below w.heap.size w w' := by
  have hA := hide (fun w1 (hb : Below w.heap.size w w1) (k : Nat) (j : Int) (hk : k ≤ 100000) (hj : j = (k : Int)) => at_int l vl k j w1 (h.below hb) hk hl hj)
  have hF := hide (fun w1 (hb : Below w.heap.size w w1) t => fresh_ref names vn t w1 (hn.below hb) hnl)
  have hQ := hide (fun w1 (hb : Below w.heap.size w w1) (k : Nat) (j : Int) (ws : List UInt8) (hk : k ≤ 10000) (hj : j = (k : Int)) (hw : ws.length ≤ 10) (hc : ∀ c ∈ ws, c = 65 ∨ c = 70 ∨ c = 75 ∨ c = 68) => bad_int l vl names vn k j ws w1 (h.below hb) (hn.below hb) hk hl hnl ht hw hc hj)
  obtain ⟨ad, cap, rfl⟩ := h.shape
  obtain ⟨adn, capn, rfl⟩ := hn.shape
  have HB := hide (fun a => (Below.refl _ w).alloc (Nat.le_refl _) a)
  clear h hn ht
  cases hfr : Pl.fresh names (Pl.atR l (i + 1)) with
  | false =>
    have hI : Hid (Pl.outD l names i = .inr (i + 1)) := by unfold Pl.outD Hid; rw [if_pos hfr]
    rw [hI.out]
    clear hI hQ
    go_enter Tryz.func209, Tryz.ntmps209
    go_wp2_with fail
    refine (unhide hA _ (unhide HB _) (i + 1) _ (by omega) (by omega)).mono ?_
    rintro e w1 ⟨rfl, hw1⟩
    rw [hw1]
    clear hw1 w1
    go_wp2_with fail
    refine (unhide hF _ (unhide HB _) (Pl.atR l (i + 1))).mono ?_
    rw [hfr]
    rintro e w1 ⟨rfl, hw1⟩
    rw [hw1]
    clear hw1 w1
    go_wp2_with fail
    exact bodyPost_ret (v := .tuple #[declV ⟨[], 0, 0, 0, 0⟩, .int .i64 ((i : Int) + 1)]) (by simp [results, Tryz.results209, go_sem, declV]) rfl ⟨⟨_, by rw [show ((i + 1 : Nat) : Int) = (i : Int) + 1 by omega]⟩, unhide HB _⟩
  | true =>
    cases hb : Pl.badR l names (i + 2) [65] with
    | some p =>
      have hI : Hid (Pl.outD l names i = .inr p) := by unfold Pl.outD Hid; rw [if_neg (by simp [hfr]), hb]
      rw [hI.out]
      clear hI
      go_enter Tryz.func209, Tryz.ntmps209
      go_wp2_with fail
      refine (unhide hA _ (unhide HB _) (i + 1) _ (by omega) (by omega)).mono ?_
      rintro e w1 ⟨rfl, hw1⟩
      rw [hw1]
      clear hw1 w1
      go_wp2_with fail
      refine (unhide hF _ (unhide HB _) (Pl.atR l (i + 1))).mono ?_
      rw [hfr]
      rintro e w1 ⟨rfl, hw1⟩
      rw [hw1]
      clear hw1 w1
      go_wp2_with fail
      refine (unhide hQ _ (unhide HB _) (i + 2) _ [65] (by omega) (by omega) (by decide) (by decide)).mono ?_
      rw [hb]
      rintro e w1 ⟨rfl, m, hw1⟩
      have hk : w1.heap[w.heap.size]? = some (.cells #[.string ⟨#[]⟩, .int .u8 0, .int .i64 0, .int .i64 0, .int .i64 0] 155 (0, 0)) := by rw [hw1]; exact heap_alloc_new w _
      have hbw : Below w.heap.size w w1 := by rw [hw1]; exact below_drewN (unhide HB _) m
      obtain ⟨c0, c1, c2, c3, c4, f0, f1, f2, f3, f4⟩ := decl_facts hk
      have HS := hide (fun x0 x1 x2 x3 x4 => ((((hbw.setCell (p := ⟨w.heap.size, 0, none⟩) (Nat.le_refl _) x0).setCell (p := ⟨w.heap.size, 1, none⟩) (Nat.le_refl _) x1).setCell (p := ⟨w.heap.size, 2, none⟩) (Nat.le_refl _) x2).setCell (p := ⟨w.heap.size, 3, none⟩) (Nat.le_refl _) x3).setCell (p := ⟨w.heap.size, 4, none⟩) (Nat.le_refl _) x4)
      clear hk hbw hw1 hA hF hQ HB
      simp only [placeV]
      go_wp2_with fail
      exact bodyPost_ret (v := .tuple #[declV ⟨Pl.atR l (i + 1), 111, 0, 0, (i : Int) + 2⟩, .int .i64 ((p : Int))]) (by simp [results, Tryz.results209, go_sem, declV, c0, c1, c2, c3, c4]) rfl ⟨⟨_, rfl⟩, unhide HS _ _ _ _ _⟩
    | none =>
      have hI : Hid (Pl.outD l names i = .inl ⟨Pl.atR l (i + 1), 111, 0, 0, (i : Int) + 2⟩) := by unfold Pl.outD Hid; rw [if_neg (by simp [hfr]), hb]
      rw [hI.out]
      clear hI
      go_enter Tryz.func209, Tryz.ntmps209
      go_wp2_with fail
      refine (unhide hA _ (unhide HB _) (i + 1) _ (by omega) (by omega)).mono ?_
      rintro e w1 ⟨rfl, hw1⟩
      rw [hw1]
      clear hw1 w1
      go_wp2_with fail
      refine (unhide hF _ (unhide HB _) (Pl.atR l (i + 1))).mono ?_
      rw [hfr]
      rintro e w1 ⟨rfl, hw1⟩
      rw [hw1]
      clear hw1 w1
      go_wp2_with fail
      refine (unhide hQ _ (unhide HB _) (i + 2) _ [65] (by omega) (by omega) (by decide) (by decide)).mono ?_
      rw [hb]
      rintro e w1 ⟨rfl, m, hw1⟩
      have hk : w1.heap[w.heap.size]? = some (.cells #[.string ⟨#[]⟩, .int .u8 0, .int .i64 0, .int .i64 0, .int .i64 0] 155 (0, 0)) := by rw [hw1]; exact heap_alloc_new w _
      have hbw : Below w.heap.size w w1 := by rw [hw1]; exact below_drewN (unhide HB _) m
      obtain ⟨c0, c1, c2, c3, c4, f0, f1, f2, f3, f4⟩ := decl_facts hk
      have HS := hide (fun x0 x1 x2 x3 x4 => ((((hbw.setCell (p := ⟨w.heap.size, 0, none⟩) (Nat.le_refl _) x0).setCell (p := ⟨w.heap.size, 1, none⟩) (Nat.le_refl _) x1).setCell (p := ⟨w.heap.size, 2, none⟩) (Nat.le_refl _) x2).setCell (p := ⟨w.heap.size, 3, none⟩) (Nat.le_refl _) x3).setCell (p := ⟨w.heap.size, 4, none⟩) (Nat.le_refl _) x4)
      clear hk hbw hw1 hA hF hQ HB
      simp only [placeV]
      go_wp2_with fail
      exact bodyPost_ret (v := .tuple #[declV ⟨Pl.atR l (i + 1), 111, 0, 0, (i : Int) + 2⟩, .int .i64 (-1)]) (by simp [results, Tryz.results209, go_sem, declV, c0, c1, c2, c3, c4]) rfl ⟨rfl, unhide HS _ _ _ _ _⟩
end Go.Proofs.YtfaljekgpnbmiaaGreat
