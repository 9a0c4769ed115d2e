/- Joined: Low2. -/
import Derived.Test.YtfaljekgpnbmiaaGreatL38
/-
  Contracts of plan.Op's IsFlag and of package low's operation and result.
-/
namespace Go.Proofs.YtfaljekgpnbmiaaGreat
open Go.RowKit

def Pl.IsOp (op : Int) : Prop := op = 2 ∨ op = 3 ∨ op = 4 ∨ op = 8 ∨ op = 7 ∨ op = 13 ∨ op = 14 ∨ op = 15 ∨ op = 16 ∨ op = 17 ∨ op = 18
theorem isOp_of {t : List UInt8} {op : Int} (h : Pl.opOf t = some op) : Pl.IsOp op := by
  unfold Pl.opOf at h
  unfold Pl.IsOp
  split at h
  · cases h; simp
  split at h
  · cases h; simp
  split at h
  · cases h; simp
  split at h
  · cases h; simp
  split at h
  · cases h; simp
  split at h
  · cases h; simp
  split at h
  · cases h; simp
  split at h
  · cases h; simp
  split at h
  · cases h; simp
  split at h
  · cases h; simp
  split at h
  · cases h; simp
  cases h

set_option maxHeartbeats 1000000 in
theorem IsFlag_any (op : Int) (w : World) (h : Pl.IsOp op) :
    Calls Tryz.prog 227 #[.int .i64 op] w fun e w' => e = .returned (.bool (Pl.isFlagB op)) ∧ w' = w := by
  rcases h with rfl | rfl | rfl | rfl | rfl | rfl | rfl | rfl | rfl | rfl | rfl
  all_goals
    go_enter Tryz.func227, Tryz.ntmps227
    go_wp2
    go_ret
    exact ⟨rfl, rfl⟩

set_option maxRecDepth 100000 in
set_option maxHeartbeats 1000000 in
theorem operation_kAdd {B : Nat} {w : World} {b : Nat} {r : Pl.RdM} {s : Nat} (h : Rd B w b r) (ok : Pl.Ok s r) (he : r.peek = Pl.kAdd) :
    Calls Tryz.prog 253 #[.pointer (some ⟨b, 0, none⟩)] w fun e w' => e = .returned (.tuple #[.int .i64 2, .bool true]) ∧ Rd B w' b r.skip ∧ Below B w w' := by
  have hpc := Peek_any h ok.pos
  rw [he] at hpc
  have hc := fun n => hide (Skip_any (h.drewN n) ok.pos)
  have h1 : Hid (∀ n, Below B w (w.drewN n)) := fun n => below_drewN (Below.refl B w) n
  clear he h
  unfold Pl.kAdd at hpc
  go_enter Tryz.func253, Tryz.ntmps253
  go_wp2_with fail
  refine hpc.mono ?_
  rintro e w1 ⟨rfl, n, rfl⟩
  unfold strV
  clear hpc
  go_wp2_with fail
  refine (unhide (hc n)).mono ?_
  rintro e w2 ⟨rfl, hr2, hb2⟩
  have HH : Hid (Rd B w2 b r.skip ∧ Below B w w2) := ⟨hr2, (h1.out n).trans hb2⟩
  clear hr2 hb2 hc h1
  go_wp2_with fail
  go_ret2
  exact ⟨rfl, HH.out.1, HH.out.2⟩

set_option maxRecDepth 100000 in
set_option maxHeartbeats 1000000 in
theorem operation_kSub {B : Nat} {w : World} {b : Nat} {r : Pl.RdM} {s : Nat} (h : Rd B w b r) (ok : Pl.Ok s r) (he : r.peek = Pl.kSub) :
    Calls Tryz.prog 253 #[.pointer (some ⟨b, 0, none⟩)] w fun e w' => e = .returned (.tuple #[.int .i64 3, .bool true]) ∧ Rd B w' b r.skip ∧ Below B w w' := by
  have hpc := Peek_any h ok.pos
  rw [he] at hpc
  have hc := fun n => hide (Skip_any (h.drewN n) ok.pos)
  have h1 : Hid (∀ n, Below B w (w.drewN n)) := fun n => below_drewN (Below.refl B w) n
  clear he h
  unfold Pl.kSub at hpc
  go_enter Tryz.func253, Tryz.ntmps253
  go_wp2_with fail
  refine hpc.mono ?_
  rintro e w1 ⟨rfl, n, rfl⟩
  unfold strV
  clear hpc
  go_wp2_with fail
  refine (unhide (hc n)).mono ?_
  rintro e w2 ⟨rfl, hr2, hb2⟩
  have HH : Hid (Rd B w2 b r.skip ∧ Below B w w2) := ⟨hr2, (h1.out n).trans hb2⟩
  clear hr2 hb2 hc h1
  go_wp2_with fail
  go_ret2
  exact ⟨rfl, HH.out.1, HH.out.2⟩

set_option maxRecDepth 100000 in
set_option maxHeartbeats 1000000 in
theorem operation_kMul {B : Nat} {w : World} {b : Nat} {r : Pl.RdM} {s : Nat} (h : Rd B w b r) (ok : Pl.Ok s r) (he : r.peek = Pl.kMul) :
    Calls Tryz.prog 253 #[.pointer (some ⟨b, 0, none⟩)] w fun e w' => e = .returned (.tuple #[.int .i64 4, .bool true]) ∧ Rd B w' b r.skip ∧ Below B w w' := by
  have hpc := Peek_any h ok.pos
  rw [he] at hpc
  have hc := fun n => hide (Skip_any (h.drewN n) ok.pos)
  have h1 : Hid (∀ n, Below B w (w.drewN n)) := fun n => below_drewN (Below.refl B w) n
  clear he h
  unfold Pl.kMul at hpc
  go_enter Tryz.func253, Tryz.ntmps253
  go_wp2_with fail
  refine hpc.mono ?_
  rintro e w1 ⟨rfl, n, rfl⟩
  unfold strV
  clear hpc
  go_wp2_with fail
  refine (unhide (hc n)).mono ?_
  rintro e w2 ⟨rfl, hr2, hb2⟩
  have HH : Hid (Rd B w2 b r.skip ∧ Below B w w2) := ⟨hr2, (h1.out n).trans hb2⟩
  clear hr2 hb2 hc h1
  go_wp2_with fail
  go_ret2
  exact ⟨rfl, HH.out.1, HH.out.2⟩

set_option maxRecDepth 100000 in
set_option maxHeartbeats 1000000 in
theorem operation_kFlr {B : Nat} {w : World} {b : Nat} {r : Pl.RdM} {s : Nat} (h : Rd B w b r) (ok : Pl.Ok s r) (he : r.peek = Pl.kFlr) :
    Calls Tryz.prog 253 #[.pointer (some ⟨b, 0, none⟩)] w fun e w' => e = .returned (.tuple #[.int .i64 8, .bool true]) ∧ Rd B w' b r.skip ∧ Below B w w' := by
  have hpc := Peek_any h ok.pos
  rw [he] at hpc
  have hc := fun n => hide (Skip_any (h.drewN n) ok.pos)
  have h1 : Hid (∀ n, Below B w (w.drewN n)) := fun n => below_drewN (Below.refl B w) n
  clear he h
  unfold Pl.kFlr at hpc
  go_enter Tryz.func253, Tryz.ntmps253
  go_wp2_with fail
  refine hpc.mono ?_
  rintro e w1 ⟨rfl, n, rfl⟩
  unfold strV
  clear hpc
  go_wp2_with fail
  refine (unhide (hc n)).mono ?_
  rintro e w2 ⟨rfl, hr2, hb2⟩
  have HH : Hid (Rd B w2 b r.skip ∧ Below B w w2) := ⟨hr2, (h1.out n).trans hb2⟩
  clear hr2 hb2 hc h1
  go_wp2_with fail
  go_ret2
  exact ⟨rfl, HH.out.1, HH.out.2⟩

set_option maxRecDepth 100000 in
set_option maxHeartbeats 1000000 in
theorem operation_kSel {B : Nat} {w : World} {b : Nat} {r : Pl.RdM} {s : Nat} (h : Rd B w b r) (ok : Pl.Ok s r) (he : r.peek = Pl.kSel) :
    Calls Tryz.prog 253 #[.pointer (some ⟨b, 0, none⟩)] w fun e w' => e = .returned (.tuple #[.int .i64 7, .bool true]) ∧ Rd B w' b r.skip ∧ Below B w w' := by
  have hpc := Peek_any h ok.pos
  rw [he] at hpc
  have hc := fun n => hide (Skip_any (h.drewN n) ok.pos)
  have h1 : Hid (∀ n, Below B w (w.drewN n)) := fun n => below_drewN (Below.refl B w) n
  clear he h
  unfold Pl.kSel at hpc
  go_enter Tryz.func253, Tryz.ntmps253
  go_wp2_with fail
  refine hpc.mono ?_
  rintro e w1 ⟨rfl, n, rfl⟩
  unfold strV
  clear hpc
  go_wp2_with fail
  refine (unhide (hc n)).mono ?_
  rintro e w2 ⟨rfl, hr2, hb2⟩
  have HH : Hid (Rd B w2 b r.skip ∧ Below B w w2) := ⟨hr2, (h1.out n).trans hb2⟩
  clear hr2 hb2 hc h1
  go_wp2_with fail
  go_ret2
  exact ⟨rfl, HH.out.1, HH.out.2⟩

set_option maxRecDepth 100000 in
set_option maxHeartbeats 1000000 in
theorem operation_kLt {B : Nat} {w : World} {b : Nat} {r : Pl.RdM} {s : Nat} (h : Rd B w b r) (ok : Pl.Ok s r) (he : r.peek = Pl.kLt) :
    Calls Tryz.prog 253 #[.pointer (some ⟨b, 0, none⟩)] w fun e w' => e = .returned (.tuple #[.int .i64 13, .bool true]) ∧ Rd B w' b r.skip ∧ Below B w w' := by
  have hpc := Peek_any h ok.pos
  rw [he] at hpc
  have hc := fun n => hide (Skip_any (h.drewN n) ok.pos)
  have h1 : Hid (∀ n, Below B w (w.drewN n)) := fun n => below_drewN (Below.refl B w) n
  clear he h
  unfold Pl.kLt at hpc
  go_enter Tryz.func253, Tryz.ntmps253
  go_wp2_with fail
  refine hpc.mono ?_
  rintro e w1 ⟨rfl, n, rfl⟩
  unfold strV
  clear hpc
  go_wp2_with fail
  refine (unhide (hc n)).mono ?_
  rintro e w2 ⟨rfl, hr2, hb2⟩
  have HH : Hid (Rd B w2 b r.skip ∧ Below B w w2) := ⟨hr2, (h1.out n).trans hb2⟩
  clear hr2 hb2 hc h1
  go_wp2_with fail
  go_ret2
  exact ⟨rfl, HH.out.1, HH.out.2⟩

set_option maxRecDepth 100000 in
set_option maxHeartbeats 1000000 in
theorem operation_kLe {B : Nat} {w : World} {b : Nat} {r : Pl.RdM} {s : Nat} (h : Rd B w b r) (ok : Pl.Ok s r) (he : r.peek = Pl.kLe) :
    Calls Tryz.prog 253 #[.pointer (some ⟨b, 0, none⟩)] w fun e w' => e = .returned (.tuple #[.int .i64 14, .bool true]) ∧ Rd B w' b r.skip ∧ Below B w w' := by
  have hpc := Peek_any h ok.pos
  rw [he] at hpc
  have hc := fun n => hide (Skip_any (h.drewN n) ok.pos)
  have h1 : Hid (∀ n, Below B w (w.drewN n)) := fun n => below_drewN (Below.refl B w) n
  clear he h
  unfold Pl.kLe at hpc
  go_enter Tryz.func253, Tryz.ntmps253
  go_wp2_with fail
  refine hpc.mono ?_
  rintro e w1 ⟨rfl, n, rfl⟩
  unfold strV
  clear hpc
  go_wp2_with fail
  refine (unhide (hc n)).mono ?_
  rintro e w2 ⟨rfl, hr2, hb2⟩
  have HH : Hid (Rd B w2 b r.skip ∧ Below B w w2) := ⟨hr2, (h1.out n).trans hb2⟩
  clear hr2 hb2 hc h1
  go_wp2_with fail
  go_ret2
  exact ⟨rfl, HH.out.1, HH.out.2⟩

set_option maxRecDepth 100000 in
set_option maxHeartbeats 1000000 in
theorem operation_kEq {B : Nat} {w : World} {b : Nat} {r : Pl.RdM} {s : Nat} (h : Rd B w b r) (ok : Pl.Ok s r) (he : r.peek = Pl.kEq) :
    Calls Tryz.prog 253 #[.pointer (some ⟨b, 0, none⟩)] w fun e w' => e = .returned (.tuple #[.int .i64 15, .bool true]) ∧ Rd B w' b r.skip ∧ Below B w w' := by
  have hpc := Peek_any h ok.pos
  rw [he] at hpc
  have hc := fun n => hide (Skip_any (h.drewN n) ok.pos)
  have h1 : Hid (∀ n, Below B w (w.drewN n)) := fun n => below_drewN (Below.refl B w) n
  clear he h
  unfold Pl.kEq at hpc
  go_enter Tryz.func253, Tryz.ntmps253
  go_wp2_with fail
  refine hpc.mono ?_
  rintro e w1 ⟨rfl, n, rfl⟩
  unfold strV
  clear hpc
  go_wp2_with fail
  refine (unhide (hc n)).mono ?_
  rintro e w2 ⟨rfl, hr2, hb2⟩
  have HH : Hid (Rd B w2 b r.skip ∧ Below B w w2) := ⟨hr2, (h1.out n).trans hb2⟩
  clear hr2 hb2 hc h1
  go_wp2_with fail
  go_ret2
  exact ⟨rfl, HH.out.1, HH.out.2⟩

set_option maxRecDepth 100000 in
set_option maxHeartbeats 1000000 in
theorem operation_kAnd {B : Nat} {w : World} {b : Nat} {r : Pl.RdM} {s : Nat} (h : Rd B w b r) (ok : Pl.Ok s r) (he : r.peek = Pl.kAnd) :
    Calls Tryz.prog 253 #[.pointer (some ⟨b, 0, none⟩)] w fun e w' => e = .returned (.tuple #[.int .i64 16, .bool true]) ∧ Rd B w' b r.skip ∧ Below B w w' := by
  have hpc := Peek_any h ok.pos
  rw [he] at hpc
  have hc := fun n => hide (Skip_any (h.drewN n) ok.pos)
  have h1 : Hid (∀ n, Below B w (w.drewN n)) := fun n => below_drewN (Below.refl B w) n
  clear he h
  unfold Pl.kAnd at hpc
  go_enter Tryz.func253, Tryz.ntmps253
  go_wp2_with fail
  refine hpc.mono ?_
  rintro e w1 ⟨rfl, n, rfl⟩
  unfold strV
  clear hpc
  go_wp2_with fail
  refine (unhide (hc n)).mono ?_
  rintro e w2 ⟨rfl, hr2, hb2⟩
  have HH : Hid (Rd B w2 b r.skip ∧ Below B w w2) := ⟨hr2, (h1.out n).trans hb2⟩
  clear hr2 hb2 hc h1
  go_wp2_with fail
  go_ret2
  exact ⟨rfl, HH.out.1, HH.out.2⟩

set_option maxRecDepth 100000 in
set_option maxHeartbeats 1000000 in
theorem operation_kOr {B : Nat} {w : World} {b : Nat} {r : Pl.RdM} {s : Nat} (h : Rd B w b r) (ok : Pl.Ok s r) (he : r.peek = Pl.kOr) :
    Calls Tryz.prog 253 #[.pointer (some ⟨b, 0, none⟩)] w fun e w' => e = .returned (.tuple #[.int .i64 17, .bool true]) ∧ Rd B w' b r.skip ∧ Below B w w' := by
  have hpc := Peek_any h ok.pos
  rw [he] at hpc
  have hc := fun n => hide (Skip_any (h.drewN n) ok.pos)
  have h1 : Hid (∀ n, Below B w (w.drewN n)) := fun n => below_drewN (Below.refl B w) n
  clear he h
  unfold Pl.kOr at hpc
  go_enter Tryz.func253, Tryz.ntmps253
  go_wp2_with fail
  refine hpc.mono ?_
  rintro e w1 ⟨rfl, n, rfl⟩
  unfold strV
  clear hpc
  go_wp2_with fail
  refine (unhide (hc n)).mono ?_
  rintro e w2 ⟨rfl, hr2, hb2⟩
  have HH : Hid (Rd B w2 b r.skip ∧ Below B w w2) := ⟨hr2, (h1.out n).trans hb2⟩
  clear hr2 hb2 hc h1
  go_wp2_with fail
  go_ret2
  exact ⟨rfl, HH.out.1, HH.out.2⟩

set_option maxRecDepth 100000 in
set_option maxHeartbeats 1000000 in
theorem operation_kNot {B : Nat} {w : World} {b : Nat} {r : Pl.RdM} {s : Nat} (h : Rd B w b r) (ok : Pl.Ok s r) (he : r.peek = Pl.kNot) :
    Calls Tryz.prog 253 #[.pointer (some ⟨b, 0, none⟩)] w fun e w' => e = .returned (.tuple #[.int .i64 18, .bool true]) ∧ Rd B w' b r.skip ∧ Below B w w' := by
  have hpc := Peek_any h ok.pos
  rw [he] at hpc
  have hc := fun n => hide (Skip_any (h.drewN n) ok.pos)
  have h1 : Hid (∀ n, Below B w (w.drewN n)) := fun n => below_drewN (Below.refl B w) n
  clear he h
  unfold Pl.kNot at hpc
  go_enter Tryz.func253, Tryz.ntmps253
  go_wp2_with fail
  refine hpc.mono ?_
  rintro e w1 ⟨rfl, n, rfl⟩
  unfold strV
  clear hpc
  go_wp2_with fail
  refine (unhide (hc n)).mono ?_
  rintro e w2 ⟨rfl, hr2, hb2⟩
  have HH : Hid (Rd B w2 b r.skip ∧ Below B w w2) := ⟨hr2, (h1.out n).trans hb2⟩
  clear hr2 hb2 hc h1
  go_wp2_with fail
  go_ret2
  exact ⟨rfl, HH.out.1, HH.out.2⟩

set_option maxRecDepth 100000 in
set_option maxHeartbeats 1000000 in
theorem operation_none {B : Nat} {w : World} {b : Nat} {r : Pl.RdM} {s : Nat} (h : Rd B w b r) (ok : Pl.Ok s r) (h1 : (r.peek == Pl.kAdd) = false) (h2 : (r.peek == Pl.kSub) = false) (h3 : (r.peek == Pl.kMul) = false) (h4 : (r.peek == Pl.kFlr) = false) (h5 : (r.peek == Pl.kSel) = false) (h6 : (r.peek == Pl.kLt) = false) (h7 : (r.peek == Pl.kLe) = false) (h8 : (r.peek == Pl.kEq) = false) (h9 : (r.peek == Pl.kAnd) = false) (h10 : (r.peek == Pl.kOr) = false) (h11 : (r.peek == Pl.kNot) = false) :
    Calls Tryz.prog 253 #[.pointer (some ⟨b, 0, none⟩)] w fun e w' => e = .returned (.tuple #[.int .i64 2, .bool false]) ∧ Rd B w' b r ∧ Below B w w' := by
  have hpc := Peek_any h ok.pos
  have hb1 : Hid (∀ n, Rd B (w.drewN n) b r ∧ Below B w (w.drewN n)) := fun n => ⟨h.drewN n, below_drewN (Below.refl B w) n⟩
  generalize r.peek = t at *
  simp only [Pl.kAdd, Pl.kSub, Pl.kMul, Pl.kFlr, Pl.kSel, Pl.kLt, Pl.kLe, Pl.kEq, Pl.kAnd, Pl.kOr, Pl.kNot] at h1 h2 h3 h4 h5 h6 h7 h8 h9 h10 h11
  clear h
  go_enter Tryz.func253, Tryz.ntmps253
  go_wp2_with fail
  refine hpc.mono ?_
  rintro e w1 ⟨rfl, n, rfl⟩
  unfold strV
  clear hpc
  go_wp2_with fail
  go_ret2
  exact ⟨rfl, (hb1.out n).1, (hb1.out n).2⟩

theorem lbfalse {t u : List UInt8} (h : ¬ t = u) : (t == u) = false := by simpa using h
theorem operation_any {B : Nat} {w : World} {b : Nat} {r : Pl.RdM} {s : Nat} (h : Rd B w b r) (ok : Pl.Ok s r) :
    Calls Tryz.prog 253 #[.pointer (some ⟨b, 0, none⟩)] w fun e w' => e = .returned (.tuple #[.int .i64 ((Pl.opOf r.peek).getD 2), .bool (Pl.opOf r.peek).isSome]) ∧ Rd B w' b (if (Pl.opOf r.peek).isSome = true then r.skip else r) ∧ Below B w w' := by
  by_cases h1 : r.peek = Pl.kAdd
  · have e : Pl.opOf r.peek = some 2 := by rw [h1]; decide
    rw [e]; exact operation_kAdd h ok h1
  by_cases h2 : r.peek = Pl.kSub
  · have e : Pl.opOf r.peek = some 3 := by rw [h2]; decide
    rw [e]; exact operation_kSub h ok h2
  by_cases h3 : r.peek = Pl.kMul
  · have e : Pl.opOf r.peek = some 4 := by rw [h3]; decide
    rw [e]; exact operation_kMul h ok h3
  by_cases h4 : r.peek = Pl.kFlr
  · have e : Pl.opOf r.peek = some 8 := by rw [h4]; decide
    rw [e]; exact operation_kFlr h ok h4
  by_cases h5 : r.peek = Pl.kSel
  · have e : Pl.opOf r.peek = some 7 := by rw [h5]; decide
    rw [e]; exact operation_kSel h ok h5
  by_cases h6 : r.peek = Pl.kLt
  · have e : Pl.opOf r.peek = some 13 := by rw [h6]; decide
    rw [e]; exact operation_kLt h ok h6
  by_cases h7 : r.peek = Pl.kLe
  · have e : Pl.opOf r.peek = some 14 := by rw [h7]; decide
    rw [e]; exact operation_kLe h ok h7
  by_cases h8 : r.peek = Pl.kEq
  · have e : Pl.opOf r.peek = some 15 := by rw [h8]; decide
    rw [e]; exact operation_kEq h ok h8
  by_cases h9 : r.peek = Pl.kAnd
  · have e : Pl.opOf r.peek = some 16 := by rw [h9]; decide
    rw [e]; exact operation_kAnd h ok h9
  by_cases h10 : r.peek = Pl.kOr
  · have e : Pl.opOf r.peek = some 17 := by rw [h10]; decide
    rw [e]; exact operation_kOr h ok h10
  by_cases h11 : r.peek = Pl.kNot
  · have e : Pl.opOf r.peek = some 18 := by rw [h11]; decide
    rw [e]; exact operation_kNot h ok h11
  have e : Pl.opOf r.peek = none := by unfold Pl.opOf; rw [if_neg h1, if_neg h2, if_neg h3, if_neg h4, if_neg h5, if_neg h6, if_neg h7, if_neg h8, if_neg h9, if_neg h10, if_neg h11]
  rw [e]; exact operation_none h ok (lbfalse h1) (lbfalse h2) (lbfalse h3) (lbfalse h4) (lbfalse h5) (lbfalse h6) (lbfalse h7) (lbfalse h8) (lbfalse h9) (lbfalse h10) (lbfalse h11)
theorem operation_no {B : Nat} {w : World} {b : Nat} {r : Pl.RdM} {s : Nat} (h : Rd B w b r) (ok : Pl.Ok s r) (e : Pl.opOf r.peek = none) :
    Calls Tryz.prog 253 #[.pointer (some ⟨b, 0, none⟩)] w fun e w' => e = .returned (.tuple #[.int .i64 2, .bool false]) ∧ Rd B w' b r ∧ Below B w w' := by
  have := operation_any h ok; rw [e] at this; exact this
theorem operation_yes {B : Nat} {w : World} {b : Nat} {r : Pl.RdM} {s : Nat} (h : Rd B w b r) (ok : Pl.Ok s r) (op : Int) (e : Pl.opOf r.peek = some op) :
    Calls Tryz.prog 253 #[.pointer (some ⟨b, 0, none⟩)] w fun e w' => e = .returned (.tuple #[.int .i64 op, .bool true]) ∧ Rd B w' b r.skip ∧ Below B w w' := by
  have := operation_any h ok; rw [e] at this; exact this

set_option maxRecDepth 100000 in
set_option maxHeartbeats 2000000 in
theorem lresult_any {B : Nat} {w : World} {b : Nat} {r : Pl.RdM} {s : Nat} (h : Rd B w b r) (ok : Pl.Ok s r) (op : Int) (hop : Pl.IsOp op) :
    Calls Tryz.prog 254 #[.pointer (some ⟨b, 0, none⟩), .int .i64 op] w fun e w' => e = .returned (optV (Pl.resultLR op r).1) ∧ Rd B w' b (Pl.resultLR op r).2 ∧ Below B w w' := by
  rcases hop with rfl | rfl | rfl | rfl | rfl | rfl | rfl | rfl | rfl | rfl | rfl
  · have hR : Pl.resultLR 2 r = Pl.pairR Pl.RdM.leaf 2 r := by unfold Pl.resultLR; simp
    rw [hR]
    have hc := lpair_any h ok 2
    generalize Pl.pairR Pl.RdM.leaf 2 r = T at *
    unfold optV at hc ⊢
    clear h hR
    go_enter Tryz.func254, Tryz.ntmps254
    go_wp2_with fail
    refine hc.mono ?_
    rintro e w1 ⟨rfl, hr1, hb1⟩
    have HH : Hid (Rd B w1 b T.2 ∧ Below B w w1) := ⟨hr1, hb1⟩
    clear hr1 hb1 hc
    go_wp2_with fail
    go_ret2
    exact ⟨rfl, HH.out.1, HH.out.2⟩
  · have hR : Pl.resultLR 3 r = Pl.pairR Pl.RdM.leaf 3 r := by unfold Pl.resultLR; simp
    rw [hR]
    have hc := lpair_any h ok 3
    generalize Pl.pairR Pl.RdM.leaf 3 r = T at *
    unfold optV at hc ⊢
    clear h hR
    go_enter Tryz.func254, Tryz.ntmps254
    go_wp2_with fail
    refine hc.mono ?_
    rintro e w1 ⟨rfl, hr1, hb1⟩
    have HH : Hid (Rd B w1 b T.2 ∧ Below B w w1) := ⟨hr1, hb1⟩
    clear hr1 hb1 hc
    go_wp2_with fail
    go_ret2
    exact ⟨rfl, HH.out.1, HH.out.2⟩
  · have hR : Pl.resultLR 4 r = Pl.productR Pl.RdM.leaf r := by unfold Pl.resultLR; simp
    rw [hR]
    have hc := lproduct_any h ok
    generalize Pl.productR Pl.RdM.leaf r = T at *
    unfold optV at hc ⊢
    clear h hR
    go_enter Tryz.func254, Tryz.ntmps254
    go_wp2_with fail
    refine hc.mono ?_
    rintro e w1 ⟨rfl, hr1, hb1⟩
    have HH : Hid (Rd B w1 b T.2 ∧ Below B w w1) := ⟨hr1, hb1⟩
    clear hr1 hb1 hc
    go_wp2_with fail
    go_ret2
    exact ⟨rfl, HH.out.1, HH.out.2⟩
  · have hR : Pl.resultLR 8 r = Pl.quotLR r := by unfold Pl.resultLR; simp
    rw [hR]
    have hc := lquotient_any h ok
    generalize Pl.quotLR r = T at *
    unfold optV at hc ⊢
    clear h hR
    go_enter Tryz.func254, Tryz.ntmps254
    go_wp2_with fail
    refine hc.mono ?_
    rintro e w1 ⟨rfl, hr1, hb1⟩
    have HH : Hid (Rd B w1 b T.2 ∧ Below B w w1) := ⟨hr1, hb1⟩
    clear hr1 hb1 hc
    go_wp2_with fail
    go_ret2
    exact ⟨rfl, HH.out.1, HH.out.2⟩
  · have hR : Pl.resultLR 7 r = Pl.choiceR Pl.RdM.flag Pl.RdM.leaf r := by unfold Pl.resultLR; simp
    rw [hR]
    have hc := lchoice_any h ok
    generalize Pl.choiceR Pl.RdM.flag Pl.RdM.leaf r = T at *
    unfold optV at hc ⊢
    clear h hR
    go_enter Tryz.func254, Tryz.ntmps254
    go_wp2_with fail
    refine hc.mono ?_
    rintro e w1 ⟨rfl, hr1, hb1⟩
    have HH : Hid (Rd B w1 b T.2 ∧ Below B w w1) := ⟨hr1, hb1⟩
    clear hr1 hb1 hc
    go_wp2_with fail
    go_ret2
    exact ⟨rfl, HH.out.1, HH.out.2⟩
  · have hR : Pl.resultLR 13 r = Pl.pairR Pl.RdM.leaf 13 r := by unfold Pl.resultLR; simp
    rw [hR]
    have hc := lpair_any h ok 13
    generalize Pl.pairR Pl.RdM.leaf 13 r = T at *
    unfold optV at hc ⊢
    clear h hR
    go_enter Tryz.func254, Tryz.ntmps254
    go_wp2_with fail
    refine hc.mono ?_
    rintro e w1 ⟨rfl, hr1, hb1⟩
    have HH : Hid (Rd B w1 b T.2 ∧ Below B w w1) := ⟨hr1, hb1⟩
    clear hr1 hb1 hc
    go_wp2_with fail
    go_ret2
    exact ⟨rfl, HH.out.1, HH.out.2⟩
  · have hR : Pl.resultLR 14 r = Pl.pairR Pl.RdM.leaf 14 r := by unfold Pl.resultLR; simp
    rw [hR]
    have hc := lpair_any h ok 14
    generalize Pl.pairR Pl.RdM.leaf 14 r = T at *
    unfold optV at hc ⊢
    clear h hR
    go_enter Tryz.func254, Tryz.ntmps254
    go_wp2_with fail
    refine hc.mono ?_
    rintro e w1 ⟨rfl, hr1, hb1⟩
    have HH : Hid (Rd B w1 b T.2 ∧ Below B w w1) := ⟨hr1, hb1⟩
    clear hr1 hb1 hc
    go_wp2_with fail
    go_ret2
    exact ⟨rfl, HH.out.1, HH.out.2⟩
  · have hR : Pl.resultLR 15 r = Pl.pairR Pl.RdM.leaf 15 r := by unfold Pl.resultLR; simp
    rw [hR]
    have hc := lpair_any h ok 15
    generalize Pl.pairR Pl.RdM.leaf 15 r = T at *
    unfold optV at hc ⊢
    clear h hR
    go_enter Tryz.func254, Tryz.ntmps254
    go_wp2_with fail
    refine hc.mono ?_
    rintro e w1 ⟨rfl, hr1, hb1⟩
    have HH : Hid (Rd B w1 b T.2 ∧ Below B w w1) := ⟨hr1, hb1⟩
    clear hr1 hb1 hc
    go_wp2_with fail
    go_ret2
    exact ⟨rfl, HH.out.1, HH.out.2⟩
  · have hR : Pl.resultLR 16 r = Pl.pairR Pl.RdM.flag 16 r := by unfold Pl.resultLR; simp
    rw [hR]
    have hc := ljoint_any h ok 16
    generalize Pl.pairR Pl.RdM.flag 16 r = T at *
    unfold optV at hc ⊢
    clear h hR
    go_enter Tryz.func254, Tryz.ntmps254
    go_wp2_with fail
    refine hc.mono ?_
    rintro e w1 ⟨rfl, hr1, hb1⟩
    have HH : Hid (Rd B w1 b T.2 ∧ Below B w w1) := ⟨hr1, hb1⟩
    clear hr1 hb1 hc
    go_wp2_with fail
    go_ret2
    exact ⟨rfl, HH.out.1, HH.out.2⟩
  · have hR : Pl.resultLR 17 r = Pl.pairR Pl.RdM.flag 17 r := by unfold Pl.resultLR; simp
    rw [hR]
    have hc := ljoint_any h ok 17
    generalize Pl.pairR Pl.RdM.flag 17 r = T at *
    unfold optV at hc ⊢
    clear h hR
    go_enter Tryz.func254, Tryz.ntmps254
    go_wp2_with fail
    refine hc.mono ?_
    rintro e w1 ⟨rfl, hr1, hb1⟩
    have HH : Hid (Rd B w1 b T.2 ∧ Below B w w1) := ⟨hr1, hb1⟩
    clear hr1 hb1 hc
    go_wp2_with fail
    go_ret2
    exact ⟨rfl, HH.out.1, HH.out.2⟩
  · have hR : Pl.resultLR 18 r = Pl.oneR Pl.RdM.flag (fun a => ⟨18, a, 0, 0, 0, []⟩) r := by unfold Pl.resultLR; simp
    rw [hR]
    have hc := lcontrary_any h ok
    generalize Pl.oneR Pl.RdM.flag (fun a => ⟨18, a, 0, 0, 0, []⟩) r = T at *
    unfold optV at hc ⊢
    clear h hR
    go_enter Tryz.func254, Tryz.ntmps254
    go_wp2_with fail
    refine hc.mono ?_
    rintro e w1 ⟨rfl, hr1, hb1⟩
    have HH : Hid (Rd B w1 b T.2 ∧ Below B w w1) := ⟨hr1, hb1⟩
    clear hr1 hb1 hc
    go_wp2_with fail
    go_ret2
    exact ⟨rfl, HH.out.1, HH.out.2⟩
theorem lresult_no {B : Nat} {w : World} {b : Nat} {r : Pl.RdM} {s : Nat} (h : Rd B w b r) (ok : Pl.Ok s r) (op : Int) (hop : Pl.IsOp op) {r1 : Pl.RdM} (e : Pl.resultLR op r = (none, r1)) :
    Calls Tryz.prog 254 #[.pointer (some ⟨b, 0, none⟩), .int .i64 op] w fun e w' => e = .returned (.tuple #[.int .i64 0, .bool false]) ∧ Rd B w' b r1 ∧ Below B w w' := by
  have := lresult_any h ok op hop; rw [e] at this; exact this
theorem lresult_yes {B : Nat} {w : World} {b : Nat} {r : Pl.RdM} {s : Nat} (h : Rd B w b r) (ok : Pl.Ok s r) (op : Int) (hop : Pl.IsOp op) {r1 : Pl.RdM} {n : Int} (e : Pl.resultLR op r = (some n, r1)) :
    Calls Tryz.prog 254 #[.pointer (some ⟨b, 0, none⟩), .int .i64 op] w fun e w' => e = .returned (.tuple #[.int .i64 n, .bool true]) ∧ Rd B w' b r1 ∧ Below B w w' := by
  have := lresult_any h ok op hop; rw [e] at this; exact this
end Go.Proofs.YtfaljekgpnbmiaaGreat
