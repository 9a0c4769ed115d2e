/- Joined: Ref9. -/
import Derived.Test.YtfaljekgpnbmiaaGreatL19
/-
  Contracts of the reference's long and declared.
-/
namespace Go.Proofs.YtfaljekgpnbmiaaGreat
open Go.RowKit

set_option maxRecDepth 100000 in
set_option maxHeartbeats 1000000 in
theorem long_ref (l : List (List UInt8)) (vl : Value) (d : Pl.DeclM) (w : World) (h : StrsAt w vl l) (hd : d.kind ≠ 105 → d.kind ≠ 111 → ∃ k : Nat, d.pos = (k : Int) ∧ k < l.length) (_ : l.length ≤ 10000) :
    Calls Tryz.prog 157 #[vl, declV d] w fun e w' => e = .returned (.int .i64 (Pl.longD l d)) ∧ Below w.heap.size w w' := by
  obtain ⟨ad, cap, rfl, hc⟩ := h
  obtain ⟨name, kind, lo, hi, pos⟩ := d
  unfold declV
  simp only at hd ⊢
  by_cases h1 : kind = 105
  · subst h1
    have hx : Hid (Pl.longD l ⟨name, 105, lo, hi, pos⟩ = 4) := rfl
    rw [hx.out]
    have HB := hide (fun a => (Below.refl _ w).alloc (Nat.le_refl _) a)
    clear hx hd hc
    go_enter Tryz.func157, Tryz.ntmps157
    go_wp2
    go_ret
    exact ⟨rfl, unhide HB _⟩
  · by_cases h2 : kind = 111
    · subst h2
      have hx : Hid (Pl.longD l ⟨name, 111, lo, hi, pos⟩ = 3) := rfl
      rw [hx.out]
      have HB := hide (fun a => (Below.refl _ w).alloc (Nat.le_refl _) a)
      clear hx hd hc
      go_enter Tryz.func157, Tryz.ntmps157
      go_wp2
      go_ret
      exact ⟨rfl, unhide HB _⟩
    · obtain ⟨k, rfl, hk⟩ := hd h1 h2
      obtain ⟨g, rfl, hcell⟩ := hc k hk
      have hx : Hid (Pl.longD l ⟨name, kind, lo, hi, k⟩ = 2 + (Pl.formsR (l.getD k [])).length) := by unfold Pl.longD Hid; rw [if_neg h1, if_neg h2, Int.toNat_natCast]
      rw [hx.out]
      have hO := hide (fun w1 => forms_ref (l.getD k []) w1)
      have hfl := Pl.formsR_len (l.getD k [])
      have HB := hide (fun a => (Below.refl _ w).alloc (Nat.le_refl _) a)
      have hlt := lt_of_cell hcell
      generalize l.getD k [] = t at *
      generalize Pl.formsR t = F at *
      have n1 : ((kind : Int) == 105) = false := by rw [beq_eq_false_iff_ne]; omega
      have n2 : ((kind : Int) == 111) = false := by rw [beq_eq_false_iff_ne]; omega
      have hcell2 : (w.alloc (.cells #[.string ⟨name.toArray⟩, .int .u8 kind, .int .i64 lo, .int .i64 hi, .int .i64 k] 155)).cell? ⟨g, k, none⟩ = some (.string ⟨t.toArray⟩) := cell_low (unhide HB _) hlt hcell
      clear hx hd hc h1 h2 hcell
      go_enter Tryz.func157, Tryz.ntmps157
      go_wp2_with fail
      refine (unhide hO _).mono ?_
      rintro e w1 ⟨rfl, hw1⟩
      rw [hw1]
      clear hw1 w1 hO
      go_wp2
      go_ret
      exact ⟨ret_int (by omega), unhide HB _⟩

set_option maxRecDepth 100000 in
set_option maxHeartbeats 2000000 in
theorem declared_no0 (l : List (List UInt8)) (vl : Value) (names : List Pl.DeclM) (vn : Value) (i : Nat) (w : World) (h : StrsAt w vl l) (hn : DeclsAt w vn names) (hi : i ≤ 9000) (hl : l.length ≤ 10000) (hnl : names.length ≤ 10000) (ht : Pl.atR l i = [105, 110]) (q1 : names.length ≠ Pl.countD names 105 + Pl.countD names 111) :
    Calls Tryz.prog 156 #[vl, vn, .int .i64 i] w fun e w' => ResV e (.inr i) ∧ Below w.heap.size w w' := by
  have hA := hide (fun w1 (hb : Below w.heap.size w w1) (k : Nat) (j : Int) (hk : k ≤ 100000) (hj : j = (k : Int)) => at_int l vl k j w1 (h.below hb) hk hl hj)
  have hC1 := hide (fun w1 (hb : Below w.heap.size w w1) => count_ref names vn 105 w1 (hn.below hb) hnl)
  have hC2 := hide (fun w1 (hb : Below w.heap.size w w1) => count_ref names vn 111 w1 (hn.below hb) hnl)
  have hc1 := Pl.countD_le names 105
  have hc2 := Pl.countD_le names 111
  obtain ⟨ad, cap, rfl⟩ := h.shape
  obtain ⟨adn, capn, rfl⟩ := hn.shape
  have HB := hide (fun a => (Below.refl _ w).alloc (Nat.le_refl _) a)
  clear h hn
  generalize Pl.countD names 105 = ni at *
  generalize Pl.countD names 111 = no at *
  go_enter Tryz.func156, Tryz.ntmps156
  go_wp2_with fail
  refine (unhide hC1 _ (unhide HB _)).mono ?_
  rintro e w1 ⟨rfl, hw1⟩
  rw [hw1]
  clear hw1 w1
  go_wp2_with fail
  refine (unhide hC2 _ (unhide HB _)).mono ?_
  rintro e w1 ⟨rfl, hw1⟩
  rw [hw1]
  clear hw1 w1
  go_wp2_with fail
  refine (unhide hA _ (unhide HB _) i _ (by omega) rfl).mono ?_
  rintro e w1 ⟨rfl, hw1⟩
  rw [hw1]
  clear hw1 w1 hA hC1 hC2
  rw [ht]
  go_wp2
  exact bodyPost_ret (v := .tuple #[declV ⟨[], 0, 0, 0, 0⟩, .int .i64 i]) (by simp [results, Tryz.results156, go_sem, declV]) rfl ⟨⟨_, rfl⟩, unhide HB _⟩
set_option maxRecDepth 100000 in
set_option maxHeartbeats 2000000 in
theorem declared_no1 (l : List (List UInt8)) (vl : Value) (names : List Pl.DeclM) (vn : Value) (i : Nat) (w : World) (h : StrsAt w vl l) (hn : DeclsAt w vn names) (hi : i ≤ 9000) (hl : l.length ≤ 10000) (hnl : names.length ≤ 10000) (ht : Pl.atR l i = [105, 110]) (q1 : names.length ≤ Pl.countD names 105 + Pl.countD names 111 ∧ Pl.countD names 105 + Pl.countD names 111 ≤ names.length) (q2 : Pl.countD names 111 ≠ 0) :
    Calls Tryz.prog 156 #[vl, vn, .int .i64 i] w fun e w' => ResV e (.inr i) ∧ Below w.heap.size w w' := by
  have hA := hide (fun w1 (hb : Below w.heap.size w w1) (k : Nat) (j : Int) (hk : k ≤ 100000) (hj : j = (k : Int)) => at_int l vl k j w1 (h.below hb) hk hl hj)
  have hC1 := hide (fun w1 (hb : Below w.heap.size w w1) => count_ref names vn 105 w1 (hn.below hb) hnl)
  have hC2 := hide (fun w1 (hb : Below w.heap.size w w1) => count_ref names vn 111 w1 (hn.below hb) hnl)
  have hc1 := Pl.countD_le names 105
  have hc2 := Pl.countD_le names 111
  obtain ⟨ad, cap, rfl⟩ := h.shape
  obtain ⟨adn, capn, rfl⟩ := hn.shape
  have HB := hide (fun a => (Below.refl _ w).alloc (Nat.le_refl _) a)
  clear h hn
  generalize Pl.countD names 105 = ni at *
  generalize Pl.countD names 111 = no at *
  go_enter Tryz.func156, Tryz.ntmps156
  go_wp2_with fail
  refine (unhide hC1 _ (unhide HB _)).mono ?_
  rintro e w1 ⟨rfl, hw1⟩
  rw [hw1]
  clear hw1 w1
  go_wp2_with fail
  refine (unhide hC2 _ (unhide HB _)).mono ?_
  rintro e w1 ⟨rfl, hw1⟩
  rw [hw1]
  clear hw1 w1
  go_wp2_with fail
  refine (unhide hA _ (unhide HB _) i _ (by omega) rfl).mono ?_
  rintro e w1 ⟨rfl, hw1⟩
  rw [hw1]
  clear hw1 w1 hA hC1 hC2
  rw [ht]
  go_wp2
  exact bodyPost_ret (v := .tuple #[declV ⟨[], 0, 0, 0, 0⟩, .int .i64 i]) (by simp [results, Tryz.results156, go_sem, declV]) rfl ⟨⟨_, rfl⟩, unhide HB _⟩
set_option maxRecDepth 100000 in
set_option maxHeartbeats 2000000 in
theorem declared_no2 (l : List (List UInt8)) (vl : Value) (names : List Pl.DeclM) (vn : Value) (i : Nat) (w : World) (h : StrsAt w vl l) (hn : DeclsAt w vn names) (hi : i ≤ 9000) (hl : l.length ≤ 10000) (hnl : names.length ≤ 10000) (ht : Pl.atR l i = [105, 110]) (q1 : names.length ≤ Pl.countD names 105 + Pl.countD names 111 ∧ Pl.countD names 105 + Pl.countD names 111 ≤ names.length ∧ Pl.countD names 111 = 0) (q2 : ¬ Pl.countD names 105 < 4) :
    Calls Tryz.prog 156 #[vl, vn, .int .i64 i] w fun e w' => ResV e (.inr i) ∧ Below w.heap.size w w' := by
  have hA := hide (fun w1 (hb : Below w.heap.size w w1) (k : Nat) (j : Int) (hk : k ≤ 100000) (hj : j = (k : Int)) => at_int l vl k j w1 (h.below hb) hk hl hj)
  have hC1 := hide (fun w1 (hb : Below w.heap.size w w1) => count_ref names vn 105 w1 (hn.below hb) hnl)
  have hC2 := hide (fun w1 (hb : Below w.heap.size w w1) => count_ref names vn 111 w1 (hn.below hb) hnl)
  have hc1 := Pl.countD_le names 105
  have hc2 := Pl.countD_le names 111
  obtain ⟨ad, cap, rfl⟩ := h.shape
  obtain ⟨adn, capn, rfl⟩ := hn.shape
  have HB := hide (fun a => (Below.refl _ w).alloc (Nat.le_refl _) a)
  clear h hn
  generalize Pl.countD names 105 = ni at *
  generalize Pl.countD names 111 = no at *
  go_enter Tryz.func156, Tryz.ntmps156
  go_wp2_with fail
  refine (unhide hC1 _ (unhide HB _)).mono ?_
  rintro e w1 ⟨rfl, hw1⟩
  rw [hw1]
  clear hw1 w1
  go_wp2_with fail
  refine (unhide hC2 _ (unhide HB _)).mono ?_
  rintro e w1 ⟨rfl, hw1⟩
  rw [hw1]
  clear hw1 w1
  go_wp2_with fail
  refine (unhide hA _ (unhide HB _) i _ (by omega) rfl).mono ?_
  rintro e w1 ⟨rfl, hw1⟩
  rw [hw1]
  clear hw1 w1 hA hC1 hC2
  rw [ht]
  go_wp2
  exact bodyPost_ret (v := .tuple #[declV ⟨[], 0, 0, 0, 0⟩, .int .i64 i]) (by simp [results, Tryz.results156, go_sem, declV]) rfl ⟨⟨_, rfl⟩, unhide HB _⟩
set_option maxRecDepth 100000 in
set_option maxHeartbeats 2000000 in
theorem declared_no3 (l : List (List UInt8)) (vl : Value) (names : List Pl.DeclM) (vn : Value) (i : Nat) (w : World) (h : StrsAt w vl l) (hn : DeclsAt w vn names) (hi : i ≤ 9000) (hl : l.length ≤ 10000) (hnl : names.length ≤ 10000) (ht : Pl.atR l i = [115, 101, 116]) (q1 : Pl.countD names 105 = 0) :
    Calls Tryz.prog 156 #[vl, vn, .int .i64 i] w fun e w' => ResV e (.inr i) ∧ Below w.heap.size w w' := by
  have hA := hide (fun w1 (hb : Below w.heap.size w w1) (k : Nat) (j : Int) (hk : k ≤ 100000) (hj : j = (k : Int)) => at_int l vl k j w1 (h.below hb) hk hl hj)
  have hC1 := hide (fun w1 (hb : Below w.heap.size w w1) => count_ref names vn 105 w1 (hn.below hb) hnl)
  have hC2 := hide (fun w1 (hb : Below w.heap.size w w1) => count_ref names vn 111 w1 (hn.below hb) hnl)
  have hc1 := Pl.countD_le names 105
  have hc2 := Pl.countD_le names 111
  obtain ⟨ad, cap, rfl⟩ := h.shape
  obtain ⟨adn, capn, rfl⟩ := hn.shape
  have HB := hide (fun a => (Below.refl _ w).alloc (Nat.le_refl _) a)
  clear h hn
  generalize Pl.countD names 105 = ni at *
  generalize Pl.countD names 111 = no at *
  go_enter Tryz.func156, Tryz.ntmps156
  go_wp2_with fail
  refine (unhide hC1 _ (unhide HB _)).mono ?_
  rintro e w1 ⟨rfl, hw1⟩
  rw [hw1]
  clear hw1 w1
  go_wp2_with fail
  refine (unhide hC2 _ (unhide HB _)).mono ?_
  rintro e w1 ⟨rfl, hw1⟩
  rw [hw1]
  clear hw1 w1
  go_wp2_with fail
  refine (unhide hA _ (unhide HB _) i _ (by omega) rfl).mono ?_
  rintro e w1 ⟨rfl, hw1⟩
  rw [hw1]
  clear hw1 w1 hA hC1 hC2
  rw [ht]
  go_wp2
  exact bodyPost_ret (v := .tuple #[declV ⟨[], 0, 0, 0, 0⟩, .int .i64 i]) (by simp [results, Tryz.results156, go_sem, declV]) rfl ⟨⟨_, rfl⟩, unhide HB _⟩
set_option maxRecDepth 100000 in
set_option maxHeartbeats 2000000 in
theorem declared_no4 (l : List (List UInt8)) (vl : Value) (names : List Pl.DeclM) (vn : Value) (i : Nat) (w : World) (h : StrsAt w vl l) (hn : DeclsAt w vn names) (hi : i ≤ 9000) (hl : l.length ≤ 10000) (hnl : names.length ≤ 10000) (ht : Pl.atR l i = [115, 101, 116]) (q1 : 0 < Pl.countD names 105) (q2 : Pl.countD names 111 ≠ 0) :
    Calls Tryz.prog 156 #[vl, vn, .int .i64 i] w fun e w' => ResV e (.inr i) ∧ Below w.heap.size w w' := by
  have hA := hide (fun w1 (hb : Below w.heap.size w w1) (k : Nat) (j : Int) (hk : k ≤ 100000) (hj : j = (k : Int)) => at_int l vl k j w1 (h.below hb) hk hl hj)
  have hC1 := hide (fun w1 (hb : Below w.heap.size w w1) => count_ref names vn 105 w1 (hn.below hb) hnl)
  have hC2 := hide (fun w1 (hb : Below w.heap.size w w1) => count_ref names vn 111 w1 (hn.below hb) hnl)
  have hc1 := Pl.countD_le names 105
  have hc2 := Pl.countD_le names 111
  obtain ⟨ad, cap, rfl⟩ := h.shape
  obtain ⟨adn, capn, rfl⟩ := hn.shape
  have HB := hide (fun a => (Below.refl _ w).alloc (Nat.le_refl _) a)
  clear h hn
  generalize Pl.countD names 105 = ni at *
  generalize Pl.countD names 111 = no at *
  go_enter Tryz.func156, Tryz.ntmps156
  go_wp2_with fail
  refine (unhide hC1 _ (unhide HB _)).mono ?_
  rintro e w1 ⟨rfl, hw1⟩
  rw [hw1]
  clear hw1 w1
  go_wp2_with fail
  refine (unhide hC2 _ (unhide HB _)).mono ?_
  rintro e w1 ⟨rfl, hw1⟩
  rw [hw1]
  clear hw1 w1
  go_wp2_with fail
  refine (unhide hA _ (unhide HB _) i _ (by omega) rfl).mono ?_
  rintro e w1 ⟨rfl, hw1⟩
  rw [hw1]
  clear hw1 w1 hA hC1 hC2
  rw [ht]
  go_wp2
  exact bodyPost_ret (v := .tuple #[declV ⟨[], 0, 0, 0, 0⟩, .int .i64 i]) (by simp [results, Tryz.results156, go_sem, declV]) rfl ⟨⟨_, rfl⟩, unhide HB _⟩
set_option maxRecDepth 100000 in
set_option maxHeartbeats 2000000 in
theorem declared_no5 (l : List (List UInt8)) (vl : Value) (names : List Pl.DeclM) (vn : Value) (i : Nat) (w : World) (h : StrsAt w vl l) (hn : DeclsAt w vn names) (hi : i ≤ 9000) (hl : l.length ≤ 10000) (hnl : names.length ≤ 10000) (ht : Pl.atR l i = [115, 101, 116]) (q1 : 0 < Pl.countD names 105 ∧ Pl.countD names 111 = 0) (q2 : ¬ names.length < Pl.countD names 105 + Pl.countD names 111 + 80) :
    Calls Tryz.prog 156 #[vl, vn, .int .i64 i] w fun e w' => ResV e (.inr i) ∧ Below w.heap.size w w' := by
  have hA := hide (fun w1 (hb : Below w.heap.size w w1) (k : Nat) (j : Int) (hk : k ≤ 100000) (hj : j = (k : Int)) => at_int l vl k j w1 (h.below hb) hk hl hj)
  have hC1 := hide (fun w1 (hb : Below w.heap.size w w1) => count_ref names vn 105 w1 (hn.below hb) hnl)
  have hC2 := hide (fun w1 (hb : Below w.heap.size w w1) => count_ref names vn 111 w1 (hn.below hb) hnl)
  have hc1 := Pl.countD_le names 105
  have hc2 := Pl.countD_le names 111
  obtain ⟨ad, cap, rfl⟩ := h.shape
  obtain ⟨adn, capn, rfl⟩ := hn.shape
  have HB := hide (fun a => (Below.refl _ w).alloc (Nat.le_refl _) a)
  clear h hn
  generalize Pl.countD names 105 = ni at *
  generalize Pl.countD names 111 = no at *
  go_enter Tryz.func156, Tryz.ntmps156
  go_wp2_with fail
  refine (unhide hC1 _ (unhide HB _)).mono ?_
  rintro e w1 ⟨rfl, hw1⟩
  rw [hw1]
  clear hw1 w1
  go_wp2_with fail
  refine (unhide hC2 _ (unhide HB _)).mono ?_
  rintro e w1 ⟨rfl, hw1⟩
  rw [hw1]
  clear hw1 w1
  go_wp2_with fail
  refine (unhide hA _ (unhide HB _) i _ (by omega) rfl).mono ?_
  rintro e w1 ⟨rfl, hw1⟩
  rw [hw1]
  clear hw1 w1 hA hC1 hC2
  rw [ht]
  go_wp2
  exact bodyPost_ret (v := .tuple #[declV ⟨[], 0, 0, 0, 0⟩, .int .i64 i]) (by simp [results, Tryz.results156, go_sem, declV]) rfl ⟨⟨_, rfl⟩, unhide HB _⟩
set_option maxRecDepth 100000 in
set_option maxHeartbeats 2000000 in
theorem declared_no6 (l : List (List UInt8)) (vl : Value) (names : List Pl.DeclM) (vn : Value) (i : Nat) (w : World) (h : StrsAt w vl l) (hn : DeclsAt w vn names) (hi : i ≤ 9000) (hl : l.length ≤ 10000) (hnl : names.length ≤ 10000) (ht : Pl.atR l i = [111, 117, 116]) (q1 : Pl.countD names 105 = 0) :
    Calls Tryz.prog 156 #[vl, vn, .int .i64 i] w fun e w' => ResV e (.inr i) ∧ Below w.heap.size w w' := by
  have hA := hide (fun w1 (hb : Below w.heap.size w w1) (k : Nat) (j : Int) (hk : k ≤ 100000) (hj : j = (k : Int)) => at_int l vl k j w1 (h.below hb) hk hl hj)
  have hC1 := hide (fun w1 (hb : Below w.heap.size w w1) => count_ref names vn 105 w1 (hn.below hb) hnl)
  have hC2 := hide (fun w1 (hb : Below w.heap.size w w1) => count_ref names vn 111 w1 (hn.below hb) hnl)
  have hc1 := Pl.countD_le names 105
  have hc2 := Pl.countD_le names 111
  obtain ⟨ad, cap, rfl⟩ := h.shape
  obtain ⟨adn, capn, rfl⟩ := hn.shape
  have HB := hide (fun a => (Below.refl _ w).alloc (Nat.le_refl _) a)
  clear h hn
  generalize Pl.countD names 105 = ni at *
  generalize Pl.countD names 111 = no at *
  go_enter Tryz.func156, Tryz.ntmps156
  go_wp2_with fail
  refine (unhide hC1 _ (unhide HB _)).mono ?_
  rintro e w1 ⟨rfl, hw1⟩
  rw [hw1]
  clear hw1 w1
  go_wp2_with fail
  refine (unhide hC2 _ (unhide HB _)).mono ?_
  rintro e w1 ⟨rfl, hw1⟩
  rw [hw1]
  clear hw1 w1
  go_wp2_with fail
  refine (unhide hA _ (unhide HB _) i _ (by omega) rfl).mono ?_
  rintro e w1 ⟨rfl, hw1⟩
  rw [hw1]
  clear hw1 w1 hA hC1 hC2
  rw [ht]
  go_wp2
  exact bodyPost_ret (v := .tuple #[declV ⟨[], 0, 0, 0, 0⟩, .int .i64 i]) (by simp [results, Tryz.results156, go_sem, declV]) rfl ⟨⟨_, rfl⟩, unhide HB _⟩
set_option maxRecDepth 100000 in
set_option maxHeartbeats 2000000 in
theorem declared_no7 (l : List (List UInt8)) (vl : Value) (names : List Pl.DeclM) (vn : Value) (i : Nat) (w : World) (h : StrsAt w vl l) (hn : DeclsAt w vn names) (hi : i ≤ 9000) (hl : l.length ≤ 10000) (hnl : names.length ≤ 10000) (ht : Pl.atR l i = [111, 117, 116]) (q1 : 0 < Pl.countD names 105) (q2 : ¬ Pl.countD names 111 < 4) :
    Calls Tryz.prog 156 #[vl, vn, .int .i64 i] w fun e w' => ResV e (.inr i) ∧ Below w.heap.size w w' := by
  have hA := hide (fun w1 (hb : Below w.heap.size w w1) (k : Nat) (j : Int) (hk : k ≤ 100000) (hj : j = (k : Int)) => at_int l vl k j w1 (h.below hb) hk hl hj)
  have hC1 := hide (fun w1 (hb : Below w.heap.size w w1) => count_ref names vn 105 w1 (hn.below hb) hnl)
  have hC2 := hide (fun w1 (hb : Below w.heap.size w w1) => count_ref names vn 111 w1 (hn.below hb) hnl)
  have hc1 := Pl.countD_le names 105
  have hc2 := Pl.countD_le names 111
  obtain ⟨ad, cap, rfl⟩ := h.shape
  obtain ⟨adn, capn, rfl⟩ := hn.shape
  have HB := hide (fun a => (Below.refl _ w).alloc (Nat.le_refl _) a)
  clear h hn
  generalize Pl.countD names 105 = ni at *
  generalize Pl.countD names 111 = no at *
  go_enter Tryz.func156, Tryz.ntmps156
  go_wp2_with fail
  refine (unhide hC1 _ (unhide HB _)).mono ?_
  rintro e w1 ⟨rfl, hw1⟩
  rw [hw1]
  clear hw1 w1
  go_wp2_with fail
  refine (unhide hC2 _ (unhide HB _)).mono ?_
  rintro e w1 ⟨rfl, hw1⟩
  rw [hw1]
  clear hw1 w1
  go_wp2_with fail
  refine (unhide hA _ (unhide HB _) i _ (by omega) rfl).mono ?_
  rintro e w1 ⟨rfl, hw1⟩
  rw [hw1]
  clear hw1 w1 hA hC1 hC2
  rw [ht]
  go_wp2
  exact bodyPost_ret (v := .tuple #[declV ⟨[], 0, 0, 0, 0⟩, .int .i64 i]) (by simp [results, Tryz.results156, go_sem, declV]) rfl ⟨⟨_, rfl⟩, unhide HB _⟩
set_option maxRecDepth 100000 in
set_option maxHeartbeats 2000000 in
theorem declared_no8 (l : List (List UInt8)) (vl : Value) (names : List Pl.DeclM) (vn : Value) (i : Nat) (w : World) (h : StrsAt w vl l) (hn : DeclsAt w vn names) (hi : i ≤ 9000) (hl : l.length ≤ 10000) (hnl : names.length ≤ 10000) (ht1 : (Pl.atR l i == [105, 110]) = false) (ht2 : (Pl.atR l i == [115, 101, 116]) = false) (ht3 : (Pl.atR l i == [111, 117, 116]) = false) :
    Calls Tryz.prog 156 #[vl, vn, .int .i64 i] w fun e w' => ResV e (.inr i) ∧ Below w.heap.size w w' := by
  have hA := hide (fun w1 (hb : Below w.heap.size w w1) (k : Nat) (j : Int) (hk : k ≤ 100000) (hj : j = (k : Int)) => at_int l vl k j w1 (h.below hb) hk hl hj)
  have hC1 := hide (fun w1 (hb : Below w.heap.size w w1) => count_ref names vn 105 w1 (hn.below hb) hnl)
  have hC2 := hide (fun w1 (hb : Below w.heap.size w w1) => count_ref names vn 111 w1 (hn.below hb) hnl)
  have hc1 := Pl.countD_le names 105
  have hc2 := Pl.countD_le names 111
  obtain ⟨ad, cap, rfl⟩ := h.shape
  obtain ⟨adn, capn, rfl⟩ := hn.shape
  have HB := hide (fun a => (Below.refl _ w).alloc (Nat.le_refl _) a)
  clear h hn
  generalize Pl.countD names 105 = ni at *
  generalize Pl.countD names 111 = no at *
  go_enter Tryz.func156, Tryz.ntmps156
  go_wp2_with fail
  refine (unhide hC1 _ (unhide HB _)).mono ?_
  rintro e w1 ⟨rfl, hw1⟩
  rw [hw1]
  clear hw1 w1
  go_wp2_with fail
  refine (unhide hC2 _ (unhide HB _)).mono ?_
  rintro e w1 ⟨rfl, hw1⟩
  rw [hw1]
  clear hw1 w1
  go_wp2_with fail
  refine (unhide hA _ (unhide HB _) i _ (by omega) rfl).mono ?_
  rintro e w1 ⟨rfl, hw1⟩
  rw [hw1]
  clear hw1 w1 hA hC1 hC2
  go_wp2
  exact bodyPost_ret (v := .tuple #[declV ⟨[], 0, 0, 0, 0⟩, .int .i64 i]) (by simp [results, Tryz.results156, go_sem, declV]) rfl ⟨⟨_, rfl⟩, unhide HB _⟩
end Go.Proofs.YtfaljekgpnbmiaaGreat
