/-
  The contracts of package high's expression and condition, by induction on what is left of the text.
-/
import Derived.Test.YtfaljekgpnbmiaaHigh3
namespace Go.Proofs.Ytfaljekgpnbmiaa
open Go.RowKit

section
variable {f g : Pl.RdM → Option Int × Pl.RdM} {lo : Nat}

set_option maxRecDepth 100000 in
set_option maxHeartbeats 1000000 in
theorem exprR_kAdd (E : ReadC 99 f lo) (hk : ∀ r, Pl.Keeps r (f r).2) {B : Nat} {w : World} {b : Nat} {r : Pl.RdM} {s : Nat} (h : Rd B w b r) (ok : Pl.Ok s r) (hl : lo ≤ r.pos + 1) (he : r.peek = Pl.kAdd) :
    Calls Try.prog 99 #[.pointer (some ⟨b, 0, none⟩)] w fun e w' => e = .returned (optV (Pl.exprR g f r).1) ∧ Rd B w' b (Pl.exprR g f r).2 ∧ Below B w w' := by
  have hp : r.peek ≠ [] := by rw [he]; decide
  have hR : Pl.pairR f 2 r.skip = Pl.exprR g f r := by rw [Pl.exprR, he]; rfl
  have hpc := Peek_any h ok.pos
  rw [he] at hpc
  have h1 : Hid (∀ n, Below B w (w.drewN n)) := fun n => below_drewN (Below.refl B w) n
  have hc := fun n => pair_any hk E (h.drewN n) ok hp hl 2
  rw [hR] at hc
  generalize Pl.exprR g f r = T at *
  unfold optV at hc ⊢
  have hc' := fun n => hide (hc n)
  clear hc hR he h E hp
  go_enter Try.func99, Try.ntmps99
  go_wp2_with fail
  refine hpc.mono ?_
  rintro e w1 ⟨rfl, n, rfl⟩
  simp only [strV, Pl.kAdd]
  clear hpc
  go_wp2_with fail
  refine (unhide (hc' n)).mono ?_
  rintro e w2 ⟨rfl, hr2, hb2⟩
  have HH : Hid (Rd B w2 b T.2 ∧ Below B w w2) := ⟨hr2, (h1.out n).trans hb2⟩
  clear hr2 hb2 hc' h1
  go_wp2_with fail
  go_ret2
  exact ⟨rfl, HH.out.1, HH.out.2⟩

set_option maxRecDepth 100000 in
set_option maxHeartbeats 1000000 in
theorem exprR_kSub (E : ReadC 99 f lo) (hk : ∀ r, Pl.Keeps r (f r).2) {B : Nat} {w : World} {b : Nat} {r : Pl.RdM} {s : Nat} (h : Rd B w b r) (ok : Pl.Ok s r) (hl : lo ≤ r.pos + 1) (he : r.peek = Pl.kSub) :
    Calls Try.prog 99 #[.pointer (some ⟨b, 0, none⟩)] w fun e w' => e = .returned (optV (Pl.exprR g f r).1) ∧ Rd B w' b (Pl.exprR g f r).2 ∧ Below B w w' := by
  have hp : r.peek ≠ [] := by rw [he]; decide
  have hR : Pl.pairR f 3 r.skip = Pl.exprR g f r := by rw [Pl.exprR, he]; rfl
  have hpc := Peek_any h ok.pos
  rw [he] at hpc
  have h1 : Hid (∀ n, Below B w (w.drewN n)) := fun n => below_drewN (Below.refl B w) n
  have hc := fun n => pair_any hk E (h.drewN n) ok hp hl 3
  rw [hR] at hc
  generalize Pl.exprR g f r = T at *
  unfold optV at hc ⊢
  have hc' := fun n => hide (hc n)
  clear hc hR he h E hp
  go_enter Try.func99, Try.ntmps99
  go_wp2_with fail
  refine hpc.mono ?_
  rintro e w1 ⟨rfl, n, rfl⟩
  simp only [strV, Pl.kSub]
  clear hpc
  go_wp2_with fail
  refine (unhide (hc' n)).mono ?_
  rintro e w2 ⟨rfl, hr2, hb2⟩
  have HH : Hid (Rd B w2 b T.2 ∧ Below B w w2) := ⟨hr2, (h1.out n).trans hb2⟩
  clear hr2 hb2 hc' h1
  go_wp2_with fail
  go_ret2
  exact ⟨rfl, HH.out.1, HH.out.2⟩

set_option maxRecDepth 100000 in
set_option maxHeartbeats 1000000 in
theorem exprR_kMin (E : ReadC 99 f lo) (hk : ∀ r, Pl.Keeps r (f r).2) {B : Nat} {w : World} {b : Nat} {r : Pl.RdM} {s : Nat} (h : Rd B w b r) (ok : Pl.Ok s r) (hl : lo ≤ r.pos + 1) (he : r.peek = Pl.kMin) :
    Calls Try.prog 99 #[.pointer (some ⟨b, 0, none⟩)] w fun e w' => e = .returned (optV (Pl.exprR g f r).1) ∧ Rd B w' b (Pl.exprR g f r).2 ∧ Below B w w' := by
  have hp : r.peek ≠ [] := by rw [he]; decide
  have hR : Pl.pairR f 5 r.skip = Pl.exprR g f r := by rw [Pl.exprR, he]; rfl
  have hpc := Peek_any h ok.pos
  rw [he] at hpc
  have h1 : Hid (∀ n, Below B w (w.drewN n)) := fun n => below_drewN (Below.refl B w) n
  have hc := fun n => pair_any hk E (h.drewN n) ok hp hl 5
  rw [hR] at hc
  generalize Pl.exprR g f r = T at *
  unfold optV at hc ⊢
  have hc' := fun n => hide (hc n)
  clear hc hR he h E hp
  go_enter Try.func99, Try.ntmps99
  go_wp2_with fail
  refine hpc.mono ?_
  rintro e w1 ⟨rfl, n, rfl⟩
  simp only [strV, Pl.kMin]
  clear hpc
  go_wp2_with fail
  refine (unhide (hc' n)).mono ?_
  rintro e w2 ⟨rfl, hr2, hb2⟩
  have HH : Hid (Rd B w2 b T.2 ∧ Below B w w2) := ⟨hr2, (h1.out n).trans hb2⟩
  clear hr2 hb2 hc' h1
  go_wp2_with fail
  go_ret2
  exact ⟨rfl, HH.out.1, HH.out.2⟩

set_option maxRecDepth 100000 in
set_option maxHeartbeats 1000000 in
theorem exprR_kMax (E : ReadC 99 f lo) (hk : ∀ r, Pl.Keeps r (f r).2) {B : Nat} {w : World} {b : Nat} {r : Pl.RdM} {s : Nat} (h : Rd B w b r) (ok : Pl.Ok s r) (hl : lo ≤ r.pos + 1) (he : r.peek = Pl.kMax) :
    Calls Try.prog 99 #[.pointer (some ⟨b, 0, none⟩)] w fun e w' => e = .returned (optV (Pl.exprR g f r).1) ∧ Rd B w' b (Pl.exprR g f r).2 ∧ Below B w w' := by
  have hp : r.peek ≠ [] := by rw [he]; decide
  have hR : Pl.pairR f 6 r.skip = Pl.exprR g f r := by rw [Pl.exprR, he]; rfl
  have hpc := Peek_any h ok.pos
  rw [he] at hpc
  have h1 : Hid (∀ n, Below B w (w.drewN n)) := fun n => below_drewN (Below.refl B w) n
  have hc := fun n => pair_any hk E (h.drewN n) ok hp hl 6
  rw [hR] at hc
  generalize Pl.exprR g f r = T at *
  unfold optV at hc ⊢
  have hc' := fun n => hide (hc n)
  clear hc hR he h E hp
  go_enter Try.func99, Try.ntmps99
  go_wp2_with fail
  refine hpc.mono ?_
  rintro e w1 ⟨rfl, n, rfl⟩
  simp only [strV, Pl.kMax]
  clear hpc
  go_wp2_with fail
  refine (unhide (hc' n)).mono ?_
  rintro e w2 ⟨rfl, hr2, hb2⟩
  have HH : Hid (Rd B w2 b T.2 ∧ Below B w w2) := ⟨hr2, (h1.out n).trans hb2⟩
  clear hr2 hb2 hc' h1
  go_wp2_with fail
  go_ret2
  exact ⟨rfl, HH.out.1, HH.out.2⟩

set_option maxRecDepth 100000 in
set_option maxHeartbeats 1000000 in
theorem exprR_kMul (E : ReadC 99 f lo) (hk : ∀ r, Pl.Keeps r (f r).2) {B : Nat} {w : World} {b : Nat} {r : Pl.RdM} {s : Nat} (h : Rd B w b r) (ok : Pl.Ok s r) (hl : lo ≤ r.pos + 1) (he : r.peek = Pl.kMul) :
    Calls Try.prog 99 #[.pointer (some ⟨b, 0, none⟩)] w fun e w' => e = .returned (optV (Pl.exprR g f r).1) ∧ Rd B w' b (Pl.exprR g f r).2 ∧ Below B w w' := by
  have hp : r.peek ≠ [] := by rw [he]; decide
  have hR : Pl.productR f r.skip = Pl.exprR g f r := by rw [Pl.exprR, he]; rfl
  have hpc := Peek_any h ok.pos
  rw [he] at hpc
  have h1 : Hid (∀ n, Below B w (w.drewN n)) := fun n => below_drewN (Below.refl B w) n
  have hc := fun n => product_any E hk (h.drewN n) ok hp hl
  rw [hR] at hc
  generalize Pl.exprR g f r = T at *
  unfold optV at hc ⊢
  have hc' := fun n => hide (hc n)
  clear hc hR he h E hp
  go_enter Try.func99, Try.ntmps99
  go_wp2_with fail
  refine hpc.mono ?_
  rintro e w1 ⟨rfl, n, rfl⟩
  simp only [strV, Pl.kMul]
  clear hpc
  go_wp2_with fail
  refine (unhide (hc' n)).mono ?_
  rintro e w2 ⟨rfl, hr2, hb2⟩
  have HH : Hid (Rd B w2 b T.2 ∧ Below B w w2) := ⟨hr2, (h1.out n).trans hb2⟩
  clear hr2 hb2 hc' h1
  go_wp2_with fail
  go_ret2
  exact ⟨rfl, HH.out.1, HH.out.2⟩

set_option maxRecDepth 100000 in
set_option maxHeartbeats 1000000 in
theorem exprR_kIf (G : ReadC 175 g lo) (hkg : ∀ r, Pl.Keeps r (g r).2) (E : ReadC 99 f lo) (hk : ∀ r, Pl.Keeps r (f r).2) {B : Nat} {w : World} {b : Nat} {r : Pl.RdM} {s : Nat} (h : Rd B w b r) (ok : Pl.Ok s r) (hl : lo ≤ r.pos + 1) (he : r.peek = Pl.kIf) :
    Calls Try.prog 99 #[.pointer (some ⟨b, 0, none⟩)] w fun e w' => e = .returned (optV (Pl.exprR g f r).1) ∧ Rd B w' b (Pl.exprR g f r).2 ∧ Below B w w' := by
  have hp : r.peek ≠ [] := by rw [he]; decide
  have hR : Pl.choiceR g f r.skip = Pl.exprR g f r := by rw [Pl.exprR, he]; rfl
  have hpc := Peek_any h ok.pos
  rw [he] at hpc
  have h1 : Hid (∀ n, Below B w (w.drewN n)) := fun n => below_drewN (Below.refl B w) n
  have hc := fun n => choice_any G hkg E hk (h.drewN n) ok hp hl
  rw [hR] at hc
  generalize Pl.exprR g f r = T at *
  unfold optV at hc ⊢
  have hc' := fun n => hide (hc n)
  clear hc hR he h G E hp
  go_enter Try.func99, Try.ntmps99
  go_wp2_with fail
  refine hpc.mono ?_
  rintro e w1 ⟨rfl, n, rfl⟩
  simp only [strV, Pl.kIf]
  clear hpc
  go_wp2_with fail
  refine (unhide (hc' n)).mono ?_
  rintro e w2 ⟨rfl, hr2, hb2⟩
  have HH : Hid (Rd B w2 b T.2 ∧ Below B w w2) := ⟨hr2, (h1.out n).trans hb2⟩
  clear hr2 hb2 hc' h1
  go_wp2_with fail
  go_ret2
  exact ⟨rfl, HH.out.1, HH.out.2⟩

set_option maxRecDepth 100000 in
set_option maxHeartbeats 1000000 in
theorem exprR_kDiv (E : ReadC 99 f lo) (hk : ∀ r, Pl.Keeps r (f r).2) {B : Nat} {w : World} {b : Nat} {r : Pl.RdM} {s : Nat} (h : Rd B w b r) (ok : Pl.Ok s r) (hl : lo ≤ r.pos + 1) (he : r.peek = Pl.kDiv) :
    Calls Try.prog 99 #[.pointer (some ⟨b, 0, none⟩)] w fun e w' => e = .returned (optV (Pl.exprR g f r).1) ∧ Rd B w' b (Pl.exprR g f r).2 ∧ Below B w w' := by
  have hp : r.peek ≠ [] := by rw [he]; decide
  have hR : Pl.quotientR f r.skip = Pl.exprR g f r := by rw [Pl.exprR, he]; rfl
  have hpc := Peek_any h ok.pos
  rw [he] at hpc
  have h1 : Hid (∀ n, Below B w (w.drewN n)) := fun n => below_drewN (Below.refl B w) n
  have hc := fun n => quotient_any E hk (h.drewN n) ok hp hl
  rw [hR] at hc
  generalize Pl.exprR g f r = T at *
  unfold optV at hc ⊢
  have hc' := fun n => hide (hc n)
  clear hc hR he h E hp
  go_enter Try.func99, Try.ntmps99
  go_wp2_with fail
  refine hpc.mono ?_
  rintro e w1 ⟨rfl, n, rfl⟩
  simp only [strV, Pl.kDiv]
  clear hpc
  go_wp2_with fail
  refine (unhide (hc' n)).mono ?_
  rintro e w2 ⟨rfl, hr2, hb2⟩
  have HH : Hid (Rd B w2 b T.2 ∧ Below B w w2) := ⟨hr2, (h1.out n).trans hb2⟩
  clear hr2 hb2 hc' h1
  go_wp2_with fail
  go_ret2
  exact ⟨rfl, HH.out.1, HH.out.2⟩

set_option maxRecDepth 100000 in
set_option maxHeartbeats 1000000 in
theorem exprR_kTab (E : ReadC 99 f lo) (hk : ∀ r, Pl.Keeps r (f r).2) {B : Nat} {w : World} {b : Nat} {r : Pl.RdM} {s : Nat} (h : Rd B w b r) (ok : Pl.Ok s r) (hl : lo ≤ r.pos + 1) (he : r.peek = Pl.kTab) :
    Calls Try.prog 99 #[.pointer (some ⟨b, 0, none⟩)] w fun e w' => e = .returned (optV (Pl.exprR g f r).1) ∧ Rd B w' b (Pl.exprR g f r).2 ∧ Below B w w' := by
  have hp : r.peek ≠ [] := by rw [he]; decide
  have hR : Pl.tableR f r.skip = Pl.exprR g f r := by rw [Pl.exprR, he]; rfl
  have hpc := Peek_any h ok.pos
  rw [he] at hpc
  have h1 : Hid (∀ n, Below B w (w.drewN n)) := fun n => below_drewN (Below.refl B w) n
  have hc := fun n => table_any E hk (h.drewN n) ok hp hl
  rw [hR] at hc
  generalize Pl.exprR g f r = T at *
  unfold optV at hc ⊢
  have hc' := fun n => hide (hc n)
  clear hc hR he h E hp
  go_enter Try.func99, Try.ntmps99
  go_wp2_with fail
  refine hpc.mono ?_
  rintro e w1 ⟨rfl, n, rfl⟩
  simp only [strV, Pl.kTab]
  clear hpc
  go_wp2_with fail
  refine (unhide (hc' n)).mono ?_
  rintro e w2 ⟨rfl, hr2, hb2⟩
  have HH : Hid (Rd B w2 b T.2 ∧ Below B w w2) := ⟨hr2, (h1.out n).trans hb2⟩
  clear hr2 hb2 hc' h1
  go_wp2_with fail
  go_ret2
  exact ⟨rfl, HH.out.1, HH.out.2⟩

set_option maxRecDepth 100000 in
set_option maxHeartbeats 1000000 in
theorem condR_kLt (E : ReadC 99 f lo) (hk : ∀ r, Pl.Keeps r (f r).2) {B : Nat} {w : World} {b : Nat} {r : Pl.RdM} {s : Nat} (h : Rd B w b r) (ok : Pl.Ok s r) (hl : lo ≤ r.pos + 1) (he : r.peek = Pl.kLt) :
    Calls Try.prog 175 #[.pointer (some ⟨b, 0, none⟩)] w fun e w' => e = .returned (optV (Pl.condR g f r).1) ∧ Rd B w' b (Pl.condR g f r).2 ∧ Below B w w' := by
  have hp : r.peek ≠ [] := by rw [he]; decide
  have hR : Pl.pairR f 13 r.skip = Pl.condR g f r := by rw [Pl.condR, he]; rfl
  have hpc := Peek_any h ok.pos
  rw [he] at hpc
  have h1 : Hid (∀ n, Below B w (w.drewN n)) := fun n => below_drewN (Below.refl B w) n
  have hc := fun n => pair_any hk E (h.drewN n) ok hp hl 13
  rw [hR] at hc
  generalize Pl.condR g f r = T at *
  unfold optV at hc ⊢
  have hc' := fun n => hide (hc n)
  clear hc hR he h E hp
  go_enter Try.func175, Try.ntmps175
  go_wp2_with fail
  refine hpc.mono ?_
  rintro e w1 ⟨rfl, n, rfl⟩
  simp only [strV, Pl.kLt]
  clear hpc
  go_wp2_with fail
  refine (unhide (hc' n)).mono ?_
  rintro e w2 ⟨rfl, hr2, hb2⟩
  have HH : Hid (Rd B w2 b T.2 ∧ Below B w w2) := ⟨hr2, (h1.out n).trans hb2⟩
  clear hr2 hb2 hc' h1
  go_wp2_with fail
  go_ret2
  exact ⟨rfl, HH.out.1, HH.out.2⟩

set_option maxRecDepth 100000 in
set_option maxHeartbeats 1000000 in
theorem condR_kLe (E : ReadC 99 f lo) (hk : ∀ r, Pl.Keeps r (f r).2) {B : Nat} {w : World} {b : Nat} {r : Pl.RdM} {s : Nat} (h : Rd B w b r) (ok : Pl.Ok s r) (hl : lo ≤ r.pos + 1) (he : r.peek = Pl.kLe) :
    Calls Try.prog 175 #[.pointer (some ⟨b, 0, none⟩)] w fun e w' => e = .returned (optV (Pl.condR g f r).1) ∧ Rd B w' b (Pl.condR g f r).2 ∧ Below B w w' := by
  have hp : r.peek ≠ [] := by rw [he]; decide
  have hR : Pl.pairR f 14 r.skip = Pl.condR g f r := by rw [Pl.condR, he]; rfl
  have hpc := Peek_any h ok.pos
  rw [he] at hpc
  have h1 : Hid (∀ n, Below B w (w.drewN n)) := fun n => below_drewN (Below.refl B w) n
  have hc := fun n => pair_any hk E (h.drewN n) ok hp hl 14
  rw [hR] at hc
  generalize Pl.condR g f r = T at *
  unfold optV at hc ⊢
  have hc' := fun n => hide (hc n)
  clear hc hR he h E hp
  go_enter Try.func175, Try.ntmps175
  go_wp2_with fail
  refine hpc.mono ?_
  rintro e w1 ⟨rfl, n, rfl⟩
  simp only [strV, Pl.kLe]
  clear hpc
  go_wp2_with fail
  refine (unhide (hc' n)).mono ?_
  rintro e w2 ⟨rfl, hr2, hb2⟩
  have HH : Hid (Rd B w2 b T.2 ∧ Below B w w2) := ⟨hr2, (h1.out n).trans hb2⟩
  clear hr2 hb2 hc' h1
  go_wp2_with fail
  go_ret2
  exact ⟨rfl, HH.out.1, HH.out.2⟩

set_option maxRecDepth 100000 in
set_option maxHeartbeats 1000000 in
theorem condR_kEq (E : ReadC 99 f lo) (hk : ∀ r, Pl.Keeps r (f r).2) {B : Nat} {w : World} {b : Nat} {r : Pl.RdM} {s : Nat} (h : Rd B w b r) (ok : Pl.Ok s r) (hl : lo ≤ r.pos + 1) (he : r.peek = Pl.kEq) :
    Calls Try.prog 175 #[.pointer (some ⟨b, 0, none⟩)] w fun e w' => e = .returned (optV (Pl.condR g f r).1) ∧ Rd B w' b (Pl.condR g f r).2 ∧ Below B w w' := by
  have hp : r.peek ≠ [] := by rw [he]; decide
  have hR : Pl.pairR f 15 r.skip = Pl.condR g f r := by rw [Pl.condR, he]; rfl
  have hpc := Peek_any h ok.pos
  rw [he] at hpc
  have h1 : Hid (∀ n, Below B w (w.drewN n)) := fun n => below_drewN (Below.refl B w) n
  have hc := fun n => pair_any hk E (h.drewN n) ok hp hl 15
  rw [hR] at hc
  generalize Pl.condR g f r = T at *
  unfold optV at hc ⊢
  have hc' := fun n => hide (hc n)
  clear hc hR he h E hp
  go_enter Try.func175, Try.ntmps175
  go_wp2_with fail
  refine hpc.mono ?_
  rintro e w1 ⟨rfl, n, rfl⟩
  simp only [strV, Pl.kEq]
  clear hpc
  go_wp2_with fail
  refine (unhide (hc' n)).mono ?_
  rintro e w2 ⟨rfl, hr2, hb2⟩
  have HH : Hid (Rd B w2 b T.2 ∧ Below B w w2) := ⟨hr2, (h1.out n).trans hb2⟩
  clear hr2 hb2 hc' h1
  go_wp2_with fail
  go_ret2
  exact ⟨rfl, HH.out.1, HH.out.2⟩

set_option maxRecDepth 100000 in
set_option maxHeartbeats 1000000 in
theorem condR_kAnd (G : ReadC 175 g lo) (hkg : ∀ r, Pl.Keeps r (g r).2) {B : Nat} {w : World} {b : Nat} {r : Pl.RdM} {s : Nat} (h : Rd B w b r) (ok : Pl.Ok s r) (hl : lo ≤ r.pos + 1) (he : r.peek = Pl.kAnd) :
    Calls Try.prog 175 #[.pointer (some ⟨b, 0, none⟩)] w fun e w' => e = .returned (optV (Pl.condR g f r).1) ∧ Rd B w' b (Pl.condR g f r).2 ∧ Below B w w' := by
  have hp : r.peek ≠ [] := by rw [he]; decide
  have hR : Pl.pairR g 16 r.skip = Pl.condR g f r := by rw [Pl.condR, he]; rfl
  have hpc := Peek_any h ok.pos
  rw [he] at hpc
  have h1 : Hid (∀ n, Below B w (w.drewN n)) := fun n => below_drewN (Below.refl B w) n
  have hc := fun n => joint_any hkg G (h.drewN n) ok hp hl 16
  rw [hR] at hc
  generalize Pl.condR g f r = T at *
  unfold optV at hc ⊢
  have hc' := fun n => hide (hc n)
  clear hc hR he h G hp
  go_enter Try.func175, Try.ntmps175
  go_wp2_with fail
  refine hpc.mono ?_
  rintro e w1 ⟨rfl, n, rfl⟩
  simp only [strV, Pl.kAnd]
  clear hpc
  go_wp2_with fail
  refine (unhide (hc' n)).mono ?_
  rintro e w2 ⟨rfl, hr2, hb2⟩
  have HH : Hid (Rd B w2 b T.2 ∧ Below B w w2) := ⟨hr2, (h1.out n).trans hb2⟩
  clear hr2 hb2 hc' h1
  go_wp2_with fail
  go_ret2
  exact ⟨rfl, HH.out.1, HH.out.2⟩

set_option maxRecDepth 100000 in
set_option maxHeartbeats 1000000 in
theorem condR_kOr (G : ReadC 175 g lo) (hkg : ∀ r, Pl.Keeps r (g r).2) {B : Nat} {w : World} {b : Nat} {r : Pl.RdM} {s : Nat} (h : Rd B w b r) (ok : Pl.Ok s r) (hl : lo ≤ r.pos + 1) (he : r.peek = Pl.kOr) :
    Calls Try.prog 175 #[.pointer (some ⟨b, 0, none⟩)] w fun e w' => e = .returned (optV (Pl.condR g f r).1) ∧ Rd B w' b (Pl.condR g f r).2 ∧ Below B w w' := by
  have hp : r.peek ≠ [] := by rw [he]; decide
  have hR : Pl.pairR g 17 r.skip = Pl.condR g f r := by rw [Pl.condR, he]; rfl
  have hpc := Peek_any h ok.pos
  rw [he] at hpc
  have h1 : Hid (∀ n, Below B w (w.drewN n)) := fun n => below_drewN (Below.refl B w) n
  have hc := fun n => joint_any hkg G (h.drewN n) ok hp hl 17
  rw [hR] at hc
  generalize Pl.condR g f r = T at *
  unfold optV at hc ⊢
  have hc' := fun n => hide (hc n)
  clear hc hR he h G hp
  go_enter Try.func175, Try.ntmps175
  go_wp2_with fail
  refine hpc.mono ?_
  rintro e w1 ⟨rfl, n, rfl⟩
  simp only [strV, Pl.kOr]
  clear hpc
  go_wp2_with fail
  refine (unhide (hc' n)).mono ?_
  rintro e w2 ⟨rfl, hr2, hb2⟩
  have HH : Hid (Rd B w2 b T.2 ∧ Below B w w2) := ⟨hr2, (h1.out n).trans hb2⟩
  clear hr2 hb2 hc' h1
  go_wp2_with fail
  go_ret2
  exact ⟨rfl, HH.out.1, HH.out.2⟩

set_option maxRecDepth 100000 in
set_option maxHeartbeats 1000000 in
theorem condR_kNot (G : ReadC 175 g lo) (hkg : ∀ r, Pl.Keeps r (g r).2) {B : Nat} {w : World} {b : Nat} {r : Pl.RdM} {s : Nat} (h : Rd B w b r) (ok : Pl.Ok s r) (hl : lo ≤ r.pos + 1) (he : r.peek = Pl.kNot) :
    Calls Try.prog 175 #[.pointer (some ⟨b, 0, none⟩)] w fun e w' => e = .returned (optV (Pl.condR g f r).1) ∧ Rd B w' b (Pl.condR g f r).2 ∧ Below B w w' := by
  have hp : r.peek ≠ [] := by rw [he]; decide
  have hR : Pl.oneR g (fun a => ⟨18, a, 0, 0, 0, []⟩) r.skip = Pl.condR g f r := by rw [Pl.condR, he]; rfl
  have hpc := Peek_any h ok.pos
  rw [he] at hpc
  have h1 : Hid (∀ n, Below B w (w.drewN n)) := fun n => below_drewN (Below.refl B w) n
  have hc := fun n => contrary_any G hkg (h.drewN n) ok hp hl
  rw [hR] at hc
  generalize Pl.condR g f r = T at *
  unfold optV at hc ⊢
  have hc' := fun n => hide (hc n)
  clear hc hR he h G hp
  go_enter Try.func175, Try.ntmps175
  go_wp2_with fail
  refine hpc.mono ?_
  rintro e w1 ⟨rfl, n, rfl⟩
  simp only [strV, Pl.kNot]
  clear hpc
  go_wp2_with fail
  refine (unhide (hc' n)).mono ?_
  rintro e w2 ⟨rfl, hr2, hb2⟩
  have HH : Hid (Rd B w2 b T.2 ∧ Below B w w2) := ⟨hr2, (h1.out n).trans hb2⟩
  clear hr2 hb2 hc' h1
  go_wp2_with fail
  go_ret2
  exact ⟨rfl, HH.out.1, HH.out.2⟩

end
end Go.Proofs.Ytfaljekgpnbmiaa
