/-
  Contracts of the reader's NewName and known.
-/
import Derived.Test.YtfaljekgpnbmiaaRdr4
namespace Go.Proofs.Ytfaljekgpnbmiaa
open Go.RowKit

theorem Rd.drewN {B : Nat} {w : World} {b : Nat} {r : Pl.RdM} (h : Rd B w b r) (n : Nat) : Rd B (w.drewN n) b r := h.below (below_drewN (Below.refl _ w) n)

set_option maxHeartbeats 400000 in
theorem NewName_bad {B : Nat} {w : World} {b : Nat} {r : Pl.RdM} (h : Rd B w b r) (hp : r.pos ≤ 600) (hno : Pl.isName r.peek = false) :
    Calls Try.prog 96 #[.pointer (some ⟨b, 0, none⟩)] w fun e w' => e = .returned (.tuple #[strV [], .bool false]) ∧ Rd B w' b r ∧ Below B w w' := by
  have hpc := Peek_any h hp
  have h1 : Hid (∀ n, Rd B (w.drewN n) b r) := h.drewN
  have hb1 : Hid (∀ n, Below B w (w.drewN n)) := fun n => below_drewN (Below.refl B w) n
  generalize r.peek = t at *
  clear h
  go_enter Try.func96, Try.ntmps96
  go_wp2_with fail
  refine hpc.mono ?_
  rintro e w' ⟨rfl, n, rfl⟩
  unfold strV
  go_wp2_with fail
  refine (IsName_any t _).mono ?_
  rintro e w' ⟨rfl, rfl⟩
  clear hpc
  go_wp2
  go_ret2
  exact ⟨rfl, h1.out n, hb1.out n⟩

set_option maxHeartbeats 400000 in
theorem NewName_good {B : Nat} {w : World} {b : Nat} {r : Pl.RdM} (h : Rd B w b r) (hp : r.pos ≤ 600) (hn : r.ents.length ≤ 1000) (hno : Pl.isName r.peek = true) (isnew : Bool) (hnew : decide (Pl.findEnt r.ents r.peek < r.ents.length) = !isnew) :
    Calls Try.prog 96 #[.pointer (some ⟨b, 0, none⟩)] w fun e w' => e = .returned (.tuple #[strV (if isnew then r.peek else []), .bool isnew]) ∧ Rd B w' b (if isnew then r.skip else r) ∧ Below B w w' := by
  have hpc := Peek_any h hp
  have h1 : Hid (∀ n, Rd B (w.drewN n) b r) := h.drewN
  have hb1 : Hid (∀ n, Below B w (w.drewN n)) := fun n => below_drewN (Below.refl B w) n
  obtain ⟨vi, vn, vo, vt, ve, bvs, vx, vy, lx, ly, h, hnm⟩ := h
  have c5 : w.cell? ⟨b, 7, none⟩ = some ve := by rw [cellsOf h.blk]; rfl
  obtain ⟨ad, cap, rfl, _⟩ := ents_shape h.ents
  generalize r.peek = t at *
  generalize hfe : Pl.findEnt r.ents t = k at *
  have hfe' : Hid (Pl.findEnt r.ents t = k) := hfe
  clear h hfe
  go_enter Try.func96, Try.ntmps96
  go_wp2_with fail
  refine hpc.mono ?_
  rintro e w' ⟨rfl, n, rfl⟩
  unfold strV
  go_wp2_with fail
  refine (IsName_any t _).mono ?_
  rintro e w' ⟨rfl, rfl⟩
  clear hpc
  go_wp2_with fail
  have hRW := h1.out n
  have hbW : Hid (Below B w (w.drewN n)) := hb1.out n
  have cW : (w.drewN n).cell? ⟨b, 7, none⟩ = some (.slice ad r.ents.length cap) := c5
  clear h1 hb1 c5
  generalize w.drewN n = W at *
  have hf' : Hid (∀ m : Nat, Calls Try.prog 133 #[.pointer (some ⟨b, 0, none⟩), .string ⟨t.toArray⟩] (W.drewN m) fun e w' => e = .returned (.int .i64 k) ∧ w' = W.drewN m) := fun m => by
    have := find_any (hRW.drewN m) t hn; rw [hfe'.out] at this; exact this
  have hR1 : Hid (∀ m, Rd B (W.drewN m) b r ∧ Below B w (W.drewN m)) := fun m => ⟨hRW.drewN m, below_drewN hbW.out m⟩
  clear hRW
  go_quiet ((go_at_call 133; exact Calls.quiet_of_same (hf'.out _)))
  clear hf'
  cases isnew
  · have hlt : k < r.ents.length := by simpa using hnew
    clear hnew
    go_wp2
    go_ret2
    exact ⟨rfl, (hR1.out _).1, (hR1.out _).2⟩
  · have hlt : ¬ k < r.ents.length := by simpa using hnew
    clear hnew
    go_wp2_with fail
    refine (Skip_any (hR1.out _).1 hp).mono ?_
    rintro e w' ⟨rfl, hr, hbb⟩
    have hr' : Hid (Rd B w' b r.skip ∧ Below B w w') := ⟨hr, (hR1.out _).2.trans hbb⟩
    clear hr hbb
    go_wp2
    go_ret2
    exact ⟨rfl, hr'.out.1, hr'.out.2⟩

theorem NewName_any {B : Nat} {w : World} {b : Nat} {r : Pl.RdM} (h : Rd B w b r) (hp : r.pos ≤ 600) (hn : r.ents.length ≤ 1000) :
    Calls Try.prog 96 #[.pointer (some ⟨b, 0, none⟩)] w fun e w' => e = .returned (.tuple #[strV (r.newName.getD []), .bool r.newName.isSome]) ∧ Rd B w' b (if r.newName.isSome then r.skip else r) ∧ Below B w w' := by
  cases hno : Pl.isName r.peek
  · have e : r.newName = none := by unfold Pl.RdM.newName; rw [if_neg (by simp [hno])]
    rw [e]; exact NewName_bad h hp hno
  · have hle := Pl.findEnt_le r.ents r.peek
    by_cases hk : Pl.findEnt r.ents r.peek < r.ents.length
    · have e : r.newName = none := by unfold Pl.RdM.newName; rw [if_neg (by omega)]
      rw [e]; exact NewName_good h hp hn hno false (by simpa using hk)
    · have e : r.newName = some r.peek := by unfold Pl.RdM.newName; rw [if_pos ⟨hno, by omega⟩]
      rw [e]; exact NewName_good h hp hn hno true (by simpa using hk)

set_option maxHeartbeats 400000 in
theorem known_none {B : Nat} {w : World} {b : Nat} {r : Pl.RdM} (h : Rd B w b r) (hp : r.pos ≤ 600) (hn : r.ents.length ≤ 1000) (kd : Int) (hk : r.known kd = none) :
    Calls Try.prog 147 #[.pointer (some ⟨b, 0, none⟩), .int .i64 kd] w fun e w' => e = .returned (.tuple #[.int .i64 0, .bool false]) ∧ Rd B w' b r ∧ Below B w w' := by
  have hpc := Peek_any h hp
  have hf := fun n t => find_any (h.drewN n) t hn
  have h1 : Hid (∀ n, Rd B (w.drewN n) b r) := h.drewN
  have hb1 : Hid (∀ n, Below B w (w.drewN n)) := fun n => below_drewN (Below.refl B w) n
  obtain ⟨vi, vn, vo, vt, ve, bvs, vx, vy, lx, ly, h, hnm⟩ := h
  have c5 : w.cell? ⟨b, 7, none⟩ = some ve := by rw [cellsOf h.blk]; rfl
  obtain ⟨ad, cap, rfl, hcell⟩ := ents_shape h.ents
  have hle := Pl.findEnt_le r.ents r.peek
  unfold Pl.RdM.known at hk
  generalize r.peek = t at *
  generalize hfe : Pl.findEnt r.ents t = k at *
  have hf' : Hid (∀ n : Nat, Calls Try.prog 133 #[.pointer (some ⟨b, 0, none⟩), .string ⟨t.toArray⟩] (w.drewN n) fun e w' => e = .returned (.int .i64 k) ∧ w' = w.drewN n) := fun n => by
    have := hf n t; rw [hfe] at this; exact this
  clear h hf hfe
  by_cases hlt : k < r.ents.length
  · obtain ⟨g, rfl, _, hc, _⟩ := hcell k hlt
    rw [List.getElem?_eq_getElem hlt] at hk
    have hm1 : r.ents[k].2.1 ≠ kd := by simp only at hk; split at hk <;> simp_all
    generalize r.ents[k].2.1 = kk at *
    have hne : (kk == kd) = false := by simpa using hm1
    have hne2 : (kk != kd) = true := by simpa using hm1
    have hd : decide ((r.ents.length : Int) ≤ k) = false := by simp; omega
    clear hcell hk hm1
    go_enter Try.func147, Try.ntmps147
    go_wp2_with fail
    refine hpc.mono ?_
    rintro e w' ⟨rfl, n, rfl⟩
    unfold strV
    go_wp2_with fail
    refine (hf'.out n).mono ?_
    rintro e w' ⟨rfl, rfl⟩
    clear hpc hf'
    go_wp2
    go_ret2
    exact ⟨rfl, h1.out n, hb1.out n⟩
  · have hd : decide ((r.ents.length : Int) ≤ k) = true := by simp; omega
    clear hcell hk
    go_enter Try.func147, Try.ntmps147
    go_wp2_with fail
    refine hpc.mono ?_
    rintro e w' ⟨rfl, n, rfl⟩
    unfold strV
    go_wp2_with fail
    refine (hf'.out n).mono ?_
    rintro e w' ⟨rfl, rfl⟩
    clear hpc hf'
    go_wp2
    go_ret2
    exact ⟨rfl, h1.out n, hb1.out n⟩
end Go.Proofs.Ytfaljekgpnbmiaa
