/-
  Contracts of the reader's find, Known, NewName, Number, Word, Constant.
-/
import Derived.Test.YtfaljekgpnbmiaaRdr3
namespace Go.Proofs.Ytfaljekgpnbmiaa
open Go.RowKit

set_option maxHeartbeats 400000 in
theorem find_any {B : Nat} {w : World} {b : Nat} {r : Pl.RdM} (h : Rd B w b r) (t : List UInt8) (hn : r.ents.length ≤ 1000) :
    Calls Try.prog 133 #[.pointer (some ⟨b, 0, none⟩), .string ⟨t.toArray⟩] w fun e w' => e = .returned (.int .i64 (Pl.findEnt r.ents t)) ∧ w' = w := by
  obtain ⟨vi, vn, vo, vt, ve, bvs, vx, vy, lx, ly, h, hnm⟩ := h
  have c5 : w.cell? ⟨b, 7, none⟩ = some ve := by rw [cellsOf h.blk]; rfl
  obtain ⟨ad, cap, rfl, hcell⟩ := ents_shape h.ents
  clear h
  go_enter Try.func133, Try.ntmps133
  go_wp2
  go_loop [5] (fun i => ∃ k : Nat, k ≤ r.ents.length ∧ i = .int .i64 k ∧ Hid (Pl.findEnt r.ents t = k + Pl.findEnt (r.ents.drop k) t)) (fun i => r.ents.length - (intOf i).toNat)
  case atStart => exact ⟨0, by omega, rfl, by simp [Hid]⟩
  case round =>
    obtain ⟨k, hk, rfl, hr⟩ := hrel
    by_cases hlt : k < r.ents.length
    · obtain ⟨g, rfl, hc, _⟩ := hcell k hlt
      clear hcell
      by_cases he : r.ents[k].1 = t
      · have hx : Hid (Pl.findEnt r.ents t = k) := by have := hr.out; rw [Pl.findEnt_hit _ _ _ hlt he] at this; simpa [Hid] using this
        rw [he] at hc
        unfold strV at hc
        clear hr he
        go_wp2
        go_ret
        exact ⟨ret_int (by rw [hx.out]), rfl⟩
      · have hx : Hid (Pl.findEnt r.ents t = ↑(k + 1) + Pl.findEnt (r.ents.drop (k + 1)) t) := by have := hr.out; rw [Pl.findEnt_miss _ _ _ hlt he] at this; simp only [Hid]; omega
        generalize r.ents[k].1 = u at *
        have hb : (u == t) = false := by simpa using he
        unfold strV at hc
        clear hr he
        go_wp2
        go_round
        case rel => exact ⟨k + 1, by omega, by go_num, hx.out⟩
        case measure => simp [intOf]; omega
    · have hx : Hid (Pl.findEnt r.ents t = k) := by have := hr.out; rw [Pl.findEnt_end _ _ _ (by omega)] at this; simpa [Hid] using this
      clear hcell hr
      go_wp2
      go_ret
      exact ⟨ret_int (by rw [hx.out]), rfl⟩

set_option maxHeartbeats 400000 in
theorem RNumO_no {B : Nat} {w : World} {b : Nat} {r : Pl.RdM} (h : Rd B w b r) (hp : r.pos ≤ 600) (hpk : r.peek.length ≤ 6000) (lo hi : Int) (hno : r.num lo hi = none) :
    Calls Try.prog 97 #[.pointer (some ⟨b, 0, none⟩), .int .i64 lo, .int .i64 hi] w fun e w' => e = .returned (.tuple #[.int .i64 0, .bool false]) ∧ Moves b r.pos w w' := by
  have hpc := Peek_any h hp
  have hb1 : Hid (∀ n, Moves b r.pos w (w.drewN n)) := fun n => h.stays (below_drewN (Below.refl _ w) n)
  have hno' : ¬ ((Pl.number r.peek).2 = true ∧ lo ≤ (Pl.number r.peek).1 ∧ (Pl.number r.peek).1 ≤ hi) := by intro hc; rw [Pl.RdM.num, if_pos hc] at hno; cases hno
  have hN := fun w => Number_any r.peek w (by unfold maxLen; omega)
  generalize r.peek = t at *
  generalize Pl.number t = p at *
  obtain ⟨m, ok⟩ := p
  simp only at hno' hN
  have hcs : ok = false ∨ ok = true ∧ decide (m < lo) = true ∨ ok = true ∧ decide (m < lo) = false ∧ decide (hi < m) = true := by
    cases ok <;> simp at hno' ⊢; omega
  clear hno hno' h
  rcases hcs with rfl | ⟨rfl, ht1⟩ | ⟨rfl, ht1, ht2⟩
  all_goals
    go_enter Try.func97, Try.ntmps97
    go_wp2_with fail
    refine hpc.mono ?_
    rintro e w' ⟨rfl, n, rfl⟩
    unfold strV
    go_wp2_with fail
    refine (hN _).mono ?_
    rintro e w' ⟨rfl, rfl⟩
    clear hpc hN
    go_wp2
    go_ret2
    exact ⟨rfl, hb1.out n⟩

set_option maxHeartbeats 400000 in
theorem RNumO_yes {B : Nat} {w : World} {b : Nat} {r : Pl.RdM} (h : Rd B w b r) (hp : r.pos ≤ 600) (hpk : r.peek.length ≤ 6000) (lo hi m : Int) (hno : r.num lo hi = some m) :
    Calls Try.prog 97 #[.pointer (some ⟨b, 0, none⟩), .int .i64 lo, .int .i64 hi] w fun e w' => e = .returned (.tuple #[.int .i64 m, .bool true]) ∧ Moves b r.skip.pos w w' := by
  have hpc := Peek_any h hp
  have h1 : Hid (∀ n, Rd B (w.drewN n) b r) := fun n => h.below (below_drewN (Below.refl _ w) n)
  have hb1 : Hid (∀ n, Moves b r.pos w (w.drewN n)) := fun n => h.stays (below_drewN (Below.refl _ w) n)
  have hno' : ((Pl.number r.peek).2 = true ∧ lo ≤ (Pl.number r.peek).1 ∧ (Pl.number r.peek).1 ≤ hi) ∧ (Pl.number r.peek).1 = m := by
    unfold Pl.RdM.num at hno
    split at hno
    · exact ⟨‹_›, by simpa using hno⟩
    · cases hno
  have hN := fun w => Number_any r.peek w (by unfold maxLen; omega)
  generalize r.peek = t at *
  generalize Pl.number t = p at *
  obtain ⟨m', ok⟩ := p
  simp only at hno' hN
  obtain ⟨⟨rfl, hl1, hl2⟩, rfl⟩ := hno'
  have ht1 : decide (m' < lo) = false := by simp; omega
  have ht2 : decide (hi < m') = false := by simp; omega
  clear hno h hl1 hl2
  go_enter Try.func97, Try.ntmps97
  go_wp2_with fail
  refine hpc.mono ?_
  rintro e w' ⟨rfl, n, rfl⟩
  unfold strV
  go_wp2_with fail
  refine (hN _).mono ?_
  rintro e w' ⟨rfl, rfl⟩
  clear hpc hN
  go_wp2_with fail
  refine (Skip_only (h1.out n) hp).mono ?_
  rintro e w' ⟨rfl, hbb⟩
  have hr' : Hid (Moves b r.skip.pos w w') := (hb1.out n).trans hbb
  clear hbb
  go_wp2
  go_ret2
  exact ⟨rfl, hr'.out⟩

theorem RNum_no {B : Nat} {w : World} {b : Nat} {r : Pl.RdM} (h : Rd B w b r) (hp : r.pos ≤ 600) (hpk : r.peek.length ≤ 6000) (lo hi : Int) (hno : r.num lo hi = none) :
    Calls Try.prog 97 #[.pointer (some ⟨b, 0, none⟩), .int .i64 lo, .int .i64 hi] w fun e w' => e = .returned (.tuple #[.int .i64 0, .bool false]) ∧ Rd B w' b r ∧ Below B w w' :=
  (RNumO_no h hp hpk lo hi hno).mono fun _ _ ⟨h1, h2⟩ => ⟨h1, h.still h2, h2.only.below h.bd.1 h.bd.2.1⟩
theorem RNum_yes {B : Nat} {w : World} {b : Nat} {r : Pl.RdM} (h : Rd B w b r) (hp : r.pos ≤ 600) (hpk : r.peek.length ≤ 6000) (lo hi m : Int) (hno : r.num lo hi = some m) :
    Calls Try.prog 97 #[.pointer (some ⟨b, 0, none⟩), .int .i64 lo, .int .i64 hi] w fun e w' => e = .returned (.tuple #[.int .i64 m, .bool true]) ∧ Rd B w' b r.skip ∧ Below B w w' :=
  (RNumO_yes h hp hpk lo hi m hno).mono fun _ _ ⟨h1, h2⟩ => ⟨h1, h.skips h2, h2.only.below h.bd.1 h.bd.2.1⟩

set_option maxHeartbeats 400000 in
theorem Word_any {B : Nat} {w : World} {b : Nat} {r : Pl.RdM} (h : Rd B w b r) (hp : r.pos ≤ 600) (t : List UInt8) :
    Calls Try.prog 65 #[.pointer (some ⟨b, 0, none⟩), .string ⟨t.toArray⟩] w fun e w' => e = .returned (.bool (r.peek == t)) ∧ Rd B w' b (if r.peek == t then r.skip else r) ∧ Below B w w' := by
  have hpc := Peek_any h hp
  have h1 : Hid (∀ n, Rd B (w.drewN n) b r) := fun n => h.below (below_drewN (Below.refl _ w) n)
  have hb1 : Hid (∀ n, Below B w (w.drewN n)) := fun n => below_drewN (Below.refl B w) n
  generalize r.peek = u at *
  clear h
  cases hut : (u == t)
  · go_enter Try.func65, Try.ntmps65
    go_wp2_with fail
    refine hpc.mono ?_
    rintro e w' ⟨rfl, n, rfl⟩
    unfold strV
    clear hpc
    go_wp2
    go_ret
    exact ⟨rfl, by simpa using h1.out n, hb1.out n⟩
  · go_enter Try.func65, Try.ntmps65
    go_wp2_with fail
    refine hpc.mono ?_
    rintro e w' ⟨rfl, n, rfl⟩
    unfold strV
    clear hpc
    go_wp2_with fail
    refine (Skip_any (h1.out n) hp).mono ?_
    rintro e w' ⟨rfl, hr, hbb⟩
    have hr' : Hid (Rd B w' b r.skip) := hr
    clear hr
    go_wp2
    go_ret
    exact ⟨rfl, by simpa using hr'.out, (hb1.out n).trans hbb⟩
end Go.Proofs.Ytfaljekgpnbmiaa
