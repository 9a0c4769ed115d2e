/- Joined: High4 High5. -/
import Derived.Test.YtfaljekgpnbmiaaGreatH17
/-
  The contracts of package high's expression and condition, by induction on what is left of the text.
-/
namespace Go.Proofs.YtfaljekgpnbmiaaGreat
open Go.RowKit

section
variable {f g : Pl.RdM → Option Int × Pl.RdM} {lo : Nat}

set_option maxRecDepth 100000 in
set_option maxHeartbeats 1000000 in
theorem exprR_kAdd (E : ReadC 249 f lo) (hk : ∀ r, Pl.Keeps r (f r).2) {B : Nat} {w : World} {b : Nat} {r : Pl.RdM} {s : Nat} (h : Rd B w b r) (ok : Pl.Ok s r) (hl : lo ≤ r.pos + 1) (he : r.peek = Pl.kAdd) :
    Calls Tryz.prog 249 #[.pointer (some ⟨b, 0, none⟩)] w fun e w' => e = .returned (optV (Pl.exprR g f r).1) ∧ Rd B w' b (Pl.exprR g f r).2 ∧ Below B w w' := by
  have hp : r.peek ≠ [] := by rw [he]; decide
  have hR : Pl.pairR f 2 r.skip = Pl.exprR g f r := by rw [Pl.exprR, he]; rfl
  have hpc := Peek_any h ok.pos
  rw [he] at hpc
  have h1 : Hid (∀ n, Below B w (w.drewN n)) := fun n => below_drewN (Below.refl B w) n
  have hc := fun n => pair_any hk E (h.drewN n) ok hp hl 2
  rw [hR] at hc
  generalize Pl.exprR g f r = T at *
  unfold optV at hc ⊢
  have hc' := fun n => hide (hc n)
  clear hc hR he h E hp
  go_enter Tryz.func249, Tryz.ntmps249
  go_wp2_with fail
  refine hpc.mono ?_
  rintro e w1 ⟨rfl, n, rfl⟩
  simp only [strV, Pl.kAdd]
  clear hpc
  go_wp2_with fail
  refine (unhide (hc' n)).mono ?_
  rintro e w2 ⟨rfl, hr2, hb2⟩
  have HH : Hid (Rd B w2 b T.2 ∧ Below B w w2) := ⟨hr2, (h1.out n).trans hb2⟩
  clear hr2 hb2 hc' h1
  go_wp2_with fail
  go_ret2
  exact ⟨rfl, HH.out.1, HH.out.2⟩

set_option maxRecDepth 100000 in
set_option maxHeartbeats 1000000 in
theorem exprR_kSub (E : ReadC 249 f lo) (hk : ∀ r, Pl.Keeps r (f r).2) {B : Nat} {w : World} {b : Nat} {r : Pl.RdM} {s : Nat} (h : Rd B w b r) (ok : Pl.Ok s r) (hl : lo ≤ r.pos + 1) (he : r.peek = Pl.kSub) :
    Calls Tryz.prog 249 #[.pointer (some ⟨b, 0, none⟩)] w fun e w' => e = .returned (optV (Pl.exprR g f r).1) ∧ Rd B w' b (Pl.exprR g f r).2 ∧ Below B w w' := by
  have hp : r.peek ≠ [] := by rw [he]; decide
  have hR : Pl.pairR f 3 r.skip = Pl.exprR g f r := by rw [Pl.exprR, he]; rfl
  have hpc := Peek_any h ok.pos
  rw [he] at hpc
  have h1 : Hid (∀ n, Below B w (w.drewN n)) := fun n => below_drewN (Below.refl B w) n
  have hc := fun n => pair_any hk E (h.drewN n) ok hp hl 3
  rw [hR] at hc
  generalize Pl.exprR g f r = T at *
  unfold optV at hc ⊢
  have hc' := fun n => hide (hc n)
  clear hc hR he h E hp
  go_enter Tryz.func249, Tryz.ntmps249
  go_wp2_with fail
  refine hpc.mono ?_
  rintro e w1 ⟨rfl, n, rfl⟩
  simp only [strV, Pl.kSub]
  clear hpc
  go_wp2_with fail
  refine (unhide (hc' n)).mono ?_
  rintro e w2 ⟨rfl, hr2, hb2⟩
  have HH : Hid (Rd B w2 b T.2 ∧ Below B w w2) := ⟨hr2, (h1.out n).trans hb2⟩
  clear hr2 hb2 hc' h1
  go_wp2_with fail
  go_ret2
  exact ⟨rfl, HH.out.1, HH.out.2⟩

set_option maxRecDepth 100000 in
set_option maxHeartbeats 1000000 in
theorem exprR_kMin (E : ReadC 249 f lo) (hk : ∀ r, Pl.Keeps r (f r).2) {B : Nat} {w : World} {b : Nat} {r : Pl.RdM} {s : Nat} (h : Rd B w b r) (ok : Pl.Ok s r) (hl : lo ≤ r.pos + 1) (he : r.peek = Pl.kMin) :
    Calls Tryz.prog 249 #[.pointer (some ⟨b, 0, none⟩)] w fun e w' => e = .returned (optV (Pl.exprR g f r).1) ∧ Rd B w' b (Pl.exprR g f r).2 ∧ Below B w w' := by
  have hp : r.peek ≠ [] := by rw [he]; decide
  have hR : Pl.pairR f 5 r.skip = Pl.exprR g f r := by rw [Pl.exprR, he]; rfl
  have hpc := Peek_any h ok.pos
  rw [he] at hpc
  have h1 : Hid (∀ n, Below B w (w.drewN n)) := fun n => below_drewN (Below.refl B w) n
  have hc := fun n => pair_any hk E (h.drewN n) ok hp hl 5
  rw [hR] at hc
  generalize Pl.exprR g f r = T at *
  unfold optV at hc ⊢
  have hc' := fun n => hide (hc n)
  clear hc hR he h E hp
  go_enter Tryz.func249, Tryz.ntmps249
  go_wp2_with fail
  refine hpc.mono ?_
  rintro e w1 ⟨rfl, n, rfl⟩
  simp only [strV, Pl.kMin]
  clear hpc
  go_wp2_with fail
  refine (unhide (hc' n)).mono ?_
  rintro e w2 ⟨rfl, hr2, hb2⟩
  have HH : Hid (Rd B w2 b T.2 ∧ Below B w w2) := ⟨hr2, (h1.out n).trans hb2⟩
  clear hr2 hb2 hc' h1
  go_wp2_with fail
  go_ret2
  exact ⟨rfl, HH.out.1, HH.out.2⟩

set_option maxRecDepth 100000 in
set_option maxHeartbeats 1000000 in
theorem exprR_kMax (E : ReadC 249 f lo) (hk : ∀ r, Pl.Keeps r (f r).2) {B : Nat} {w : World} {b : Nat} {r : Pl.RdM} {s : Nat} (h : Rd B w b r) (ok : Pl.Ok s r) (hl : lo ≤ r.pos + 1) (he : r.peek = Pl.kMax) :
    Calls Tryz.prog 249 #[.pointer (some ⟨b, 0, none⟩)] w fun e w' => e = .returned (optV (Pl.exprR g f r).1) ∧ Rd B w' b (Pl.exprR g f r).2 ∧ Below B w w' := by
  have hp : r.peek ≠ [] := by rw [he]; decide
  have hR : Pl.pairR f 6 r.skip = Pl.exprR g f r := by rw [Pl.exprR, he]; rfl
  have hpc := Peek_any h ok.pos
  rw [he] at hpc
  have h1 : Hid (∀ n, Below B w (w.drewN n)) := fun n => below_drewN (Below.refl B w) n
  have hc := fun n => pair_any hk E (h.drewN n) ok hp hl 6
  rw [hR] at hc
  generalize Pl.exprR g f r = T at *
  unfold optV at hc ⊢
  have hc' := fun n => hide (hc n)
  clear hc hR he h E hp
  go_enter Tryz.func249, Tryz.ntmps249
  go_wp2_with fail
  refine hpc.mono ?_
  rintro e w1 ⟨rfl, n, rfl⟩
  simp only [strV, Pl.kMax]
  clear hpc
  go_wp2_with fail
  refine (unhide (hc' n)).mono ?_
  rintro e w2 ⟨rfl, hr2, hb2⟩
  have HH : Hid (Rd B w2 b T.2 ∧ Below B w w2) := ⟨hr2, (h1.out n).trans hb2⟩
  clear hr2 hb2 hc' h1
  go_wp2_with fail
  go_ret2
  exact ⟨rfl, HH.out.1, HH.out.2⟩

set_option maxRecDepth 100000 in
set_option maxHeartbeats 1000000 in
theorem exprR_kMul (E : ReadC 249 f lo) (hk : ∀ r, Pl.Keeps r (f r).2) {B : Nat} {w : World} {b : Nat} {r : Pl.RdM} {s : Nat} (h : Rd B w b r) (ok : Pl.Ok s r) (hl : lo ≤ r.pos + 1) (he : r.peek = Pl.kMul) :
    Calls Tryz.prog 249 #[.pointer (some ⟨b, 0, none⟩)] w fun e w' => e = .returned (optV (Pl.exprR g f r).1) ∧ Rd B w' b (Pl.exprR g f r).2 ∧ Below B w w' := by
  have hp : r.peek ≠ [] := by rw [he]; decide
  have hR : Pl.productR f r.skip = Pl.exprR g f r := by rw [Pl.exprR, he]; rfl
  have hpc := Peek_any h ok.pos
  rw [he] at hpc
  have h1 : Hid (∀ n, Below B w (w.drewN n)) := fun n => below_drewN (Below.refl B w) n
  have hc := fun n => product_any E hk (h.drewN n) ok hp hl
  rw [hR] at hc
  generalize Pl.exprR g f r = T at *
  unfold optV at hc ⊢
  have hc' := fun n => hide (hc n)
  clear hc hR he h E hp
  go_enter Tryz.func249, Tryz.ntmps249
  go_wp2_with fail
  refine hpc.mono ?_
  rintro e w1 ⟨rfl, n, rfl⟩
  simp only [strV, Pl.kMul]
  clear hpc
  go_wp2_with fail
  refine (unhide (hc' n)).mono ?_
  rintro e w2 ⟨rfl, hr2, hb2⟩
  have HH : Hid (Rd B w2 b T.2 ∧ Below B w w2) := ⟨hr2, (h1.out n).trans hb2⟩
  clear hr2 hb2 hc' h1
  go_wp2_with fail
  go_ret2
  exact ⟨rfl, HH.out.1, HH.out.2⟩

set_option maxRecDepth 100000 in
set_option maxHeartbeats 1000000 in
theorem exprR_kIf (G : ReadC 394 g lo) (hkg : ∀ r, Pl.Keeps r (g r).2) (E : ReadC 249 f lo) (hk : ∀ r, Pl.Keeps r (f r).2) {B : Nat} {w : World} {b : Nat} {r : Pl.RdM} {s : Nat} (h : Rd B w b r) (ok : Pl.Ok s r) (hl : lo ≤ r.pos + 1) (he : r.peek = Pl.kIf) :
    Calls Tryz.prog 249 #[.pointer (some ⟨b, 0, none⟩)] w fun e w' => e = .returned (optV (Pl.exprR g f r).1) ∧ Rd B w' b (Pl.exprR g f r).2 ∧ Below B w w' := by
  have hp : r.peek ≠ [] := by rw [he]; decide
  have hR : Pl.choiceR g f r.skip = Pl.exprR g f r := by rw [Pl.exprR, he]; rfl
  have hpc := Peek_any h ok.pos
  rw [he] at hpc
  have h1 : Hid (∀ n, Below B w (w.drewN n)) := fun n => below_drewN (Below.refl B w) n
  have hc := fun n => choice_any G hkg E hk (h.drewN n) ok hp hl
  rw [hR] at hc
  generalize Pl.exprR g f r = T at *
  unfold optV at hc ⊢
  have hc' := fun n => hide (hc n)
  clear hc hR he h G E hp
  go_enter Tryz.func249, Tryz.ntmps249
  go_wp2_with fail
  refine hpc.mono ?_
  rintro e w1 ⟨rfl, n, rfl⟩
  simp only [strV, Pl.kIf]
  clear hpc
  go_wp2_with fail
  refine (unhide (hc' n)).mono ?_
  rintro e w2 ⟨rfl, hr2, hb2⟩
  have HH : Hid (Rd B w2 b T.2 ∧ Below B w w2) := ⟨hr2, (h1.out n).trans hb2⟩
  clear hr2 hb2 hc' h1
  go_wp2_with fail
  go_ret2
  exact ⟨rfl, HH.out.1, HH.out.2⟩

set_option maxRecDepth 100000 in
set_option maxHeartbeats 1000000 in
theorem exprR_kDiv (E : ReadC 249 f lo) (hk : ∀ r, Pl.Keeps r (f r).2) {B : Nat} {w : World} {b : Nat} {r : Pl.RdM} {s : Nat} (h : Rd B w b r) (ok : Pl.Ok s r) (hl : lo ≤ r.pos + 1) (he : r.peek = Pl.kDiv) :
    Calls Tryz.prog 249 #[.pointer (some ⟨b, 0, none⟩)] w fun e w' => e = .returned (optV (Pl.exprR g f r).1) ∧ Rd B w' b (Pl.exprR g f r).2 ∧ Below B w w' := by
  have hp : r.peek ≠ [] := by rw [he]; decide
  have hR : Pl.quotientR f r.skip = Pl.exprR g f r := by rw [Pl.exprR, he]; rfl
  have hpc := Peek_any h ok.pos
  rw [he] at hpc
  have h1 : Hid (∀ n, Below B w (w.drewN n)) := fun n => below_drewN (Below.refl B w) n
  have hc := fun n => quotient_any E hk (h.drewN n) ok hp hl
  rw [hR] at hc
  generalize Pl.exprR g f r = T at *
  unfold optV at hc ⊢
  have hc' := fun n => hide (hc n)
  clear hc hR he h E hp
  go_enter Tryz.func249, Tryz.ntmps249
  go_wp2_with fail
  refine hpc.mono ?_
  rintro e w1 ⟨rfl, n, rfl⟩
  simp only [strV, Pl.kDiv]
  clear hpc
  go_wp2_with fail
  refine (unhide (hc' n)).mono ?_
  rintro e w2 ⟨rfl, hr2, hb2⟩
  have HH : Hid (Rd B w2 b T.2 ∧ Below B w w2) := ⟨hr2, (h1.out n).trans hb2⟩
  clear hr2 hb2 hc' h1
  go_wp2_with fail
  go_ret2
  exact ⟨rfl, HH.out.1, HH.out.2⟩

set_option maxRecDepth 100000 in
set_option maxHeartbeats 1000000 in
theorem exprR_kTab (E : ReadC 249 f lo) (hk : ∀ r, Pl.Keeps r (f r).2) {B : Nat} {w : World} {b : Nat} {r : Pl.RdM} {s : Nat} (h : Rd B w b r) (ok : Pl.Ok s r) (hl : lo ≤ r.pos + 1) (he : r.peek = Pl.kTab) :
    Calls Tryz.prog 249 #[.pointer (some ⟨b, 0, none⟩)] w fun e w' => e = .returned (optV (Pl.exprR g f r).1) ∧ Rd B w' b (Pl.exprR g f r).2 ∧ Below B w w' := by
  have hp : r.peek ≠ [] := by rw [he]; decide
  have hR : Pl.tableR f r.skip = Pl.exprR g f r := by rw [Pl.exprR, he]; rfl
  have hpc := Peek_any h ok.pos
  rw [he] at hpc
  have h1 : Hid (∀ n, Below B w (w.drewN n)) := fun n => below_drewN (Below.refl B w) n
  have hc := fun n => table_any E hk (h.drewN n) ok hp hl
  rw [hR] at hc
  generalize Pl.exprR g f r = T at *
  unfold optV at hc ⊢
  have hc' := fun n => hide (hc n)
  clear hc hR he h E hp
  go_enter Tryz.func249, Tryz.ntmps249
  go_wp2_with fail
  refine hpc.mono ?_
  rintro e w1 ⟨rfl, n, rfl⟩
  simp only [strV, Pl.kTab]
  clear hpc
  go_wp2_with fail
  refine (unhide (hc' n)).mono ?_
  rintro e w2 ⟨rfl, hr2, hb2⟩
  have HH : Hid (Rd B w2 b T.2 ∧ Below B w w2) := ⟨hr2, (h1.out n).trans hb2⟩
  clear hr2 hb2 hc' h1
  go_wp2_with fail
  go_ret2
  exact ⟨rfl, HH.out.1, HH.out.2⟩

set_option maxRecDepth 100000 in
set_option maxHeartbeats 1000000 in
theorem condR_kLt (E : ReadC 249 f lo) (hk : ∀ r, Pl.Keeps r (f r).2) {B : Nat} {w : World} {b : Nat} {r : Pl.RdM} {s : Nat} (h : Rd B w b r) (ok : Pl.Ok s r) (hl : lo ≤ r.pos + 1) (he : r.peek = Pl.kLt) :
    Calls Tryz.prog 394 #[.pointer (some ⟨b, 0, none⟩)] w fun e w' => e = .returned (optV (Pl.condR g f r).1) ∧ Rd B w' b (Pl.condR g f r).2 ∧ Below B w w' := by
  have hp : r.peek ≠ [] := by rw [he]; decide
  have hR : Pl.pairR f 13 r.skip = Pl.condR g f r := by rw [Pl.condR, he]; rfl
  have hpc := Peek_any h ok.pos
  rw [he] at hpc
  have h1 : Hid (∀ n, Below B w (w.drewN n)) := fun n => below_drewN (Below.refl B w) n
  have hc := fun n => pair_any hk E (h.drewN n) ok hp hl 13
  rw [hR] at hc
  generalize Pl.condR g f r = T at *
  unfold optV at hc ⊢
  have hc' := fun n => hide (hc n)
  clear hc hR he h E hp
  go_enter Tryz.func394, Tryz.ntmps394
  go_wp2_with fail
  refine hpc.mono ?_
  rintro e w1 ⟨rfl, n, rfl⟩
  simp only [strV, Pl.kLt]
  clear hpc
  go_wp2_with fail
  refine (unhide (hc' n)).mono ?_
  rintro e w2 ⟨rfl, hr2, hb2⟩
  have HH : Hid (Rd B w2 b T.2 ∧ Below B w w2) := ⟨hr2, (h1.out n).trans hb2⟩
  clear hr2 hb2 hc' h1
  go_wp2_with fail
  go_ret2
  exact ⟨rfl, HH.out.1, HH.out.2⟩

set_option maxRecDepth 100000 in
set_option maxHeartbeats 1000000 in
theorem condR_kLe (E : ReadC 249 f lo) (hk : ∀ r, Pl.Keeps r (f r).2) {B : Nat} {w : World} {b : Nat} {r : Pl.RdM} {s : Nat} (h : Rd B w b r) (ok : Pl.Ok s r) (hl : lo ≤ r.pos + 1) (he : r.peek = Pl.kLe) :
    Calls Tryz.prog 394 #[.pointer (some ⟨b, 0, none⟩)] w fun e w' => e = .returned (optV (Pl.condR g f r).1) ∧ Rd B w' b (Pl.condR g f r).2 ∧ Below B w w' := by
  have hp : r.peek ≠ [] := by rw [he]; decide
  have hR : Pl.pairR f 14 r.skip = Pl.condR g f r := by rw [Pl.condR, he]; rfl
  have hpc := Peek_any h ok.pos
  rw [he] at hpc
  have h1 : Hid (∀ n, Below B w (w.drewN n)) := fun n => below_drewN (Below.refl B w) n
  have hc := fun n => pair_any hk E (h.drewN n) ok hp hl 14
  rw [hR] at hc
  generalize Pl.condR g f r = T at *
  unfold optV at hc ⊢
  have hc' := fun n => hide (hc n)
  clear hc hR he h E hp
  go_enter Tryz.func394, Tryz.ntmps394
  go_wp2_with fail
  refine hpc.mono ?_
  rintro e w1 ⟨rfl, n, rfl⟩
  simp only [strV, Pl.kLe]
  clear hpc
  go_wp2_with fail
  refine (unhide (hc' n)).mono ?_
  rintro e w2 ⟨rfl, hr2, hb2⟩
  have HH : Hid (Rd B w2 b T.2 ∧ Below B w w2) := ⟨hr2, (h1.out n).trans hb2⟩
  clear hr2 hb2 hc' h1
  go_wp2_with fail
  go_ret2
  exact ⟨rfl, HH.out.1, HH.out.2⟩

set_option maxRecDepth 100000 in
set_option maxHeartbeats 1000000 in
theorem condR_kEq (E : ReadC 249 f lo) (hk : ∀ r, Pl.Keeps r (f r).2) {B : Nat} {w : World} {b : Nat} {r : Pl.RdM} {s : Nat} (h : Rd B w b r) (ok : Pl.Ok s r) (hl : lo ≤ r.pos + 1) (he : r.peek = Pl.kEq) :
    Calls Tryz.prog 394 #[.pointer (some ⟨b, 0, none⟩)] w fun e w' => e = .returned (optV (Pl.condR g f r).1) ∧ Rd B w' b (Pl.condR g f r).2 ∧ Below B w w' := by
  have hp : r.peek ≠ [] := by rw [he]; decide
  have hR : Pl.pairR f 15 r.skip = Pl.condR g f r := by rw [Pl.condR, he]; rfl
  have hpc := Peek_any h ok.pos
  rw [he] at hpc
  have h1 : Hid (∀ n, Below B w (w.drewN n)) := fun n => below_drewN (Below.refl B w) n
  have hc := fun n => pair_any hk E (h.drewN n) ok hp hl 15
  rw [hR] at hc
  generalize Pl.condR g f r = T at *
  unfold optV at hc ⊢
  have hc' := fun n => hide (hc n)
  clear hc hR he h E hp
  go_enter Tryz.func394, Tryz.ntmps394
  go_wp2_with fail
  refine hpc.mono ?_
  rintro e w1 ⟨rfl, n, rfl⟩
  simp only [strV, Pl.kEq]
  clear hpc
  go_wp2_with fail
  refine (unhide (hc' n)).mono ?_
  rintro e w2 ⟨rfl, hr2, hb2⟩
  have HH : Hid (Rd B w2 b T.2 ∧ Below B w w2) := ⟨hr2, (h1.out n).trans hb2⟩
  clear hr2 hb2 hc' h1
  go_wp2_with fail
  go_ret2
  exact ⟨rfl, HH.out.1, HH.out.2⟩

set_option maxRecDepth 100000 in
set_option maxHeartbeats 1000000 in
theorem condR_kAnd (G : ReadC 394 g lo) (hkg : ∀ r, Pl.Keeps r (g r).2) {B : Nat} {w : World} {b : Nat} {r : Pl.RdM} {s : Nat} (h : Rd B w b r) (ok : Pl.Ok s r) (hl : lo ≤ r.pos + 1) (he : r.peek = Pl.kAnd) :
    Calls Tryz.prog 394 #[.pointer (some ⟨b, 0, none⟩)] w fun e w' => e = .returned (optV (Pl.condR g f r).1) ∧ Rd B w' b (Pl.condR g f r).2 ∧ Below B w w' := by
  have hp : r.peek ≠ [] := by rw [he]; decide
  have hR : Pl.pairR g 16 r.skip = Pl.condR g f r := by rw [Pl.condR, he]; rfl
  have hpc := Peek_any h ok.pos
  rw [he] at hpc
  have h1 : Hid (∀ n, Below B w (w.drewN n)) := fun n => below_drewN (Below.refl B w) n
  have hc := fun n => joint_any hkg G (h.drewN n) ok hp hl 16
  rw [hR] at hc
  generalize Pl.condR g f r = T at *
  unfold optV at hc ⊢
  have hc' := fun n => hide (hc n)
  clear hc hR he h G hp
  go_enter Tryz.func394, Tryz.ntmps394
  go_wp2_with fail
  refine hpc.mono ?_
  rintro e w1 ⟨rfl, n, rfl⟩
  simp only [strV, Pl.kAnd]
  clear hpc
  go_wp2_with fail
  refine (unhide (hc' n)).mono ?_
  rintro e w2 ⟨rfl, hr2, hb2⟩
  have HH : Hid (Rd B w2 b T.2 ∧ Below B w w2) := ⟨hr2, (h1.out n).trans hb2⟩
  clear hr2 hb2 hc' h1
  go_wp2_with fail
  go_ret2
  exact ⟨rfl, HH.out.1, HH.out.2⟩

set_option maxRecDepth 100000 in
set_option maxHeartbeats 1000000 in
theorem condR_kOr (G : ReadC 394 g lo) (hkg : ∀ r, Pl.Keeps r (g r).2) {B : Nat} {w : World} {b : Nat} {r : Pl.RdM} {s : Nat} (h : Rd B w b r) (ok : Pl.Ok s r) (hl : lo ≤ r.pos + 1) (he : r.peek = Pl.kOr) :
    Calls Tryz.prog 394 #[.pointer (some ⟨b, 0, none⟩)] w fun e w' => e = .returned (optV (Pl.condR g f r).1) ∧ Rd B w' b (Pl.condR g f r).2 ∧ Below B w w' := by
  have hp : r.peek ≠ [] := by rw [he]; decide
  have hR : Pl.pairR g 17 r.skip = Pl.condR g f r := by rw [Pl.condR, he]; rfl
  have hpc := Peek_any h ok.pos
  rw [he] at hpc
  have h1 : Hid (∀ n, Below B w (w.drewN n)) := fun n => below_drewN (Below.refl B w) n
  have hc := fun n => joint_any hkg G (h.drewN n) ok hp hl 17
  rw [hR] at hc
  generalize Pl.condR g f r = T at *
  unfold optV at hc ⊢
  have hc' := fun n => hide (hc n)
  clear hc hR he h G hp
  go_enter Tryz.func394, Tryz.ntmps394
  go_wp2_with fail
  refine hpc.mono ?_
  rintro e w1 ⟨rfl, n, rfl⟩
  simp only [strV, Pl.kOr]
  clear hpc
  go_wp2_with fail
  refine (unhide (hc' n)).mono ?_
  rintro e w2 ⟨rfl, hr2, hb2⟩
  have HH : Hid (Rd B w2 b T.2 ∧ Below B w w2) := ⟨hr2, (h1.out n).trans hb2⟩
  clear hr2 hb2 hc' h1
  go_wp2_with fail
  go_ret2
  exact ⟨rfl, HH.out.1, HH.out.2⟩

set_option maxRecDepth 100000 in
set_option maxHeartbeats 1000000 in
theorem condR_kNot (G : ReadC 394 g lo) (hkg : ∀ r, Pl.Keeps r (g r).2) {B : Nat} {w : World} {b : Nat} {r : Pl.RdM} {s : Nat} (h : Rd B w b r) (ok : Pl.Ok s r) (hl : lo ≤ r.pos + 1) (he : r.peek = Pl.kNot) :
    Calls Tryz.prog 394 #[.pointer (some ⟨b, 0, none⟩)] w fun e w' => e = .returned (optV (Pl.condR g f r).1) ∧ Rd B w' b (Pl.condR g f r).2 ∧ Below B w w' := by
  have hp : r.peek ≠ [] := by rw [he]; decide
  have hR : Pl.oneR g (fun a => ⟨18, a, 0, 0, 0, []⟩) r.skip = Pl.condR g f r := by rw [Pl.condR, he]; rfl
  have hpc := Peek_any h ok.pos
  rw [he] at hpc
  have h1 : Hid (∀ n, Below B w (w.drewN n)) := fun n => below_drewN (Below.refl B w) n
  have hc := fun n => contrary_any G hkg (h.drewN n) ok hp hl
  rw [hR] at hc
  generalize Pl.condR g f r = T at *
  unfold optV at hc ⊢
  have hc' := fun n => hide (hc n)
  clear hc hR he h G hp
  go_enter Tryz.func394, Tryz.ntmps394
  go_wp2_with fail
  refine hpc.mono ?_
  rintro e w1 ⟨rfl, n, rfl⟩
  simp only [strV, Pl.kNot]
  clear hpc
  go_wp2_with fail
  refine (unhide (hc' n)).mono ?_
  rintro e w2 ⟨rfl, hr2, hb2⟩
  have HH : Hid (Rd B w2 b T.2 ∧ Below B w w2) := ⟨hr2, (h1.out n).trans hb2⟩
  clear hr2 hb2 hc' h1
  go_wp2_with fail
  go_ret2
  exact ⟨rfl, HH.out.1, HH.out.2⟩

end
end Go.Proofs.YtfaljekgpnbmiaaGreat

/-
  The contracts of package high's expression and condition: they read as the plain reader does.
-/
namespace Go.Proofs.YtfaljekgpnbmiaaGreat
open Go.RowKit

set_option maxRecDepth 100000 in
set_option maxHeartbeats 1000000 in
theorem expr_leaf {B : Nat} {w : World} {b : Nat} {r : Pl.RdM} {s : Nat} (h : Rd B w b r) (ok : Pl.Ok s r) (h1 : (r.peek == Pl.kAdd) = false) (h2 : (r.peek == Pl.kSub) = false) (h3 : (r.peek == Pl.kMin) = false) (h4 : (r.peek == Pl.kMax) = false) (h5 : (r.peek == Pl.kMul) = false) (h6 : (r.peek == Pl.kIf) = false) (h7 : (r.peek == Pl.kDiv) = false) (h8 : (r.peek == Pl.kTab) = false) :
    Calls Tryz.prog 249 #[.pointer (some ⟨b, 0, none⟩)] w fun e w' => e = .returned (optV r.leaf.1) ∧ Rd B w' b r.leaf.2 ∧ Below B w w' := by
  have hpc := Peek_any h ok.pos
  have hb1 : Hid (∀ n, Below B w (w.drewN n)) := fun n => below_drewN (Below.refl B w) n
  have hC := fun n => hide (Argument_any (h.drewN n) ok)
  generalize r.peek = t at *
  simp only [Pl.kAdd, Pl.kSub, Pl.kMul, Pl.kMin, Pl.kMax, Pl.kIf, Pl.kDiv, Pl.kTab] at h1 h2 h3 h4 h5 h6 h7 h8
  generalize r.leaf = T at *
  unfold optV at hC ⊢
  clear h
  go_enter Tryz.func249, Tryz.ntmps249
  go_wp2_with fail
  refine hpc.mono ?_
  rintro e w1 ⟨rfl, n, rfl⟩
  unfold strV
  clear hpc
  go_wp2_with fail
  refine (unhide (hC n)).mono ?_
  rintro e w2 ⟨rfl, hr2, hb2⟩
  have HH : Hid (Rd B w2 b T.2 ∧ Below B w w2) := ⟨hr2, (hb1.out n).trans hb2⟩
  clear hr2 hb2 hC hb1
  go_wp2_with fail
  go_ret2
  exact ⟨rfl, HH.out.1, HH.out.2⟩

set_option maxRecDepth 100000 in
set_option maxHeartbeats 1000000 in
theorem cond_none {B : Nat} {w : World} {b : Nat} {r : Pl.RdM} {s : Nat} (h : Rd B w b r) (ok : Pl.Ok s r) (h1 : (r.peek == Pl.kLt) = false) (h2 : (r.peek == Pl.kLe) = false) (h3 : (r.peek == Pl.kEq) = false) (h4 : (r.peek == Pl.kAnd) = false) (h5 : (r.peek == Pl.kOr) = false) (h6 : (r.peek == Pl.kNot) = false) :
    Calls Tryz.prog 394 #[.pointer (some ⟨b, 0, none⟩)] w fun e w' => e = .returned (optV none) ∧ Rd B w' b r ∧ Below B w w' := by
  have hpc := Peek_any h ok.pos
  have hb1 : Hid (∀ n, Rd B (w.drewN n) b r ∧ Below B w (w.drewN n)) := fun n => ⟨h.drewN n, below_drewN (Below.refl B w) n⟩
  generalize r.peek = t at *
  simp only [Pl.kLt, Pl.kLe, Pl.kEq, Pl.kAnd, Pl.kOr, Pl.kNot] at h1 h2 h3 h4 h5 h6
  clear h
  go_enter Tryz.func394, Tryz.ntmps394
  go_wp2_with fail
  refine hpc.mono ?_
  rintro e w1 ⟨rfl, n, rfl⟩
  unfold strV
  clear hpc
  go_wp2_with fail
  go_ret2
  exact ⟨rfl, (hb1.out n).1, (hb1.out n).2⟩

section
variable {f g : Pl.RdM → Option Int × Pl.RdM} {lo : Nat}
theorem bfalse {t u : List UInt8} (h : ¬ t = u) : (t == u) = false := by simpa using h

theorem expression_step (G : ReadC 394 g lo) (hkg : ∀ r, Pl.Keeps r (g r).2) (E : ReadC 249 f lo) (hk : ∀ r, Pl.Keeps r (f r).2) {B : Nat} {w : World} {b : Nat} {r : Pl.RdM} {s : Nat} (h : Rd B w b r) (ok : Pl.Ok s r) (hl : lo ≤ r.pos + 1) :
    Calls Tryz.prog 249 #[.pointer (some ⟨b, 0, none⟩)] w fun e w' => e = .returned (optV (Pl.exprR g f r).1) ∧ Rd B w' b (Pl.exprR g f r).2 ∧ Below B w w' := by
  by_cases h1 : r.peek = Pl.kAdd
  · exact exprR_kAdd E hk h ok hl h1
  by_cases h2 : r.peek = Pl.kSub
  · exact exprR_kSub E hk h ok hl h2
  by_cases h3 : r.peek = Pl.kMin
  · exact exprR_kMin E hk h ok hl h3
  by_cases h4 : r.peek = Pl.kMax
  · exact exprR_kMax E hk h ok hl h4
  by_cases h5 : r.peek = Pl.kMul
  · exact exprR_kMul E hk h ok hl h5
  by_cases h6 : r.peek = Pl.kIf
  · exact exprR_kIf G hkg E hk h ok hl h6
  by_cases h7 : r.peek = Pl.kDiv
  · exact exprR_kDiv E hk h ok hl h7
  by_cases h8 : r.peek = Pl.kTab
  · exact exprR_kTab E hk h ok hl h8
  have e : Pl.exprR g f r = r.leaf := by rw [Pl.exprR, if_neg h1, if_neg h2, if_neg h3, if_neg h4, if_neg h5, if_neg h6, if_neg h7, if_neg h8]
  rw [e]
  exact expr_leaf h ok (bfalse h1) (bfalse h2) (bfalse h3) (bfalse h4) (bfalse h5) (bfalse h6) (bfalse h7) (bfalse h8)

theorem condition_step (G : ReadC 394 g lo) (hkg : ∀ r, Pl.Keeps r (g r).2) (E : ReadC 249 f lo) (hk : ∀ r, Pl.Keeps r (f r).2) {B : Nat} {w : World} {b : Nat} {r : Pl.RdM} {s : Nat} (h : Rd B w b r) (ok : Pl.Ok s r) (hl : lo ≤ r.pos + 1) :
    Calls Tryz.prog 394 #[.pointer (some ⟨b, 0, none⟩)] w fun e w' => e = .returned (optV (Pl.condR g f r).1) ∧ Rd B w' b (Pl.condR g f r).2 ∧ Below B w w' := by
  by_cases h1 : r.peek = Pl.kLt
  · exact condR_kLt E hk h ok hl h1
  by_cases h2 : r.peek = Pl.kLe
  · exact condR_kLe E hk h ok hl h2
  by_cases h3 : r.peek = Pl.kEq
  · exact condR_kEq E hk h ok hl h3
  by_cases h4 : r.peek = Pl.kAnd
  · exact condR_kAnd G hkg h ok hl h4
  by_cases h5 : r.peek = Pl.kOr
  · exact condR_kOr G hkg h ok hl h5
  by_cases h6 : r.peek = Pl.kNot
  · exact condR_kNot G hkg h ok hl h6
  have e : Pl.condR g f r = (none, r) := by rw [Pl.condR, if_neg h1, if_neg h2, if_neg h3, if_neg h4, if_neg h5, if_neg h6]
  rw [e]
  exact cond_none h ok (bfalse h1) (bfalse h2) (bfalse h3) (bfalse h4) (bfalse h5) (bfalse h6)
end

theorem read_all (m : Nat) : ReadC 249 (Pl.read m false) (600 - m) ∧ ReadC 394 (Pl.read m true) (600 - m) := by
  induction m with
  | zero =>
    have hnil : ∀ {r : Pl.RdM}, 600 - 0 ≤ r.pos → r.peek = [] := fun {r} h => by unfold Pl.RdM.peek; rw [if_pos (by omega)]
    refine ⟨fun B w b r s h ok hl => ?_, fun B w b r s h ok hl => ?_⟩
    · have e := hnil hl
      exact expr_leaf h ok (by rw [e]; rfl) (by rw [e]; rfl) (by rw [e]; rfl) (by rw [e]; rfl) (by rw [e]; rfl) (by rw [e]; rfl) (by rw [e]; rfl) (by rw [e]; rfl)
    · have e := hnil hl
      have hc := cond_none h ok (by rw [e]; rfl) (by rw [e]; rfl) (by rw [e]; rfl) (by rw [e]; rfl) (by rw [e]; rfl) (by rw [e]; rfl)
      exact hc
  | succ m ih =>
    refine ⟨fun B w b r s h ok hl => ?_, fun B w b r s h ok hl => ?_⟩
    · exact expression_step ih.2 (Pl.read_keeps m true) ih.1 (Pl.read_keeps m false) h ok (by omega)
    · exact condition_step ih.2 (Pl.read_keeps m true) ih.1 (Pl.read_keeps m false) h ok (by omega)

/-- expression, of any reader. -/
theorem expression_any {B : Nat} {w : World} {b : Nat} {r : Pl.RdM} {s : Nat} (h : Rd B w b r) (ok : Pl.Ok s r) :
    Calls Tryz.prog 249 #[.pointer (some ⟨b, 0, none⟩)] w fun e w' => e = .returned (optV (Pl.read 600 false r).1) ∧ Rd B w' b (Pl.read 600 false r).2 ∧ Below B w w' :=
  (read_all 600).1 B w b r s h ok (by omega)
end Go.Proofs.YtfaljekgpnbmiaaGreat
