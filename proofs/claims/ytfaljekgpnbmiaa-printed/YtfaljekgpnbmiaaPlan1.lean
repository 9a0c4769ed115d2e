/-
  Contracts of the plan's small functions, as Go reckons them.
-/
import Derived.Test.YtfaljekgpnbmiaaRdr6
import Derived.Test.YtfaljekgpnbmiaaPlainPlan
namespace Go.Proofs.Ytfaljekgpnbmiaa
open Go.RowKit

set_option maxHeartbeats 400000 in
theorem absoluteW_any (a : Int) (w : World) :
    Calls Try.prog 100 #[.int .i64 a] w fun e w' => e = .returned (.int .i64 (Pl.absW a)) ∧ w' = w := by
  go_enter Try.func100, Try.ntmps100
  go_wp2
  all_goals go_ret
  all_goals exact ⟨ret_int (by unfold Pl.absW; first | rw [if_pos ‹_›] | rw [if_neg (by omega)]), rfl⟩

set_option maxHeartbeats 400000 in
theorem floorW_any (a d : Int) (w : World) :
    Calls Try.prog 103 #[.int .i64 a, .int .i64 d] w fun e w' => e = .returned (.int .i64 (Pl.floorW a d)) ∧ w' = w := by
  go_enter Try.func103, Try.ntmps103
  go_wp2
  all_goals go_ret
  · exact ⟨ret_int (by rw [Pl.floorW, if_pos ‹_›]), rfl⟩
  · exact ⟨ret_int (by rw [Pl.floorW, if_neg (by omega), if_pos ‹_›]), rfl⟩
  · exact ⟨ret_int (by rw [Pl.floorW, if_neg (by omega), if_neg (by omega)]), rfl⟩

set_option maxHeartbeats 400000 in
theorem quotW_any (op a d : Int) (w : World) :
    Calls Try.prog 74 #[.int .i64 op, .int .i64 a, .int .i64 d] w fun e w' => e = .returned (.int .i64 (Pl.quotW op a d)) ∧ w' = w := by
  go_enter Try.func74, Try.ntmps74
  go_wp2_with (go_at_call 103; refine (floorW_any _ _ _).mono ?_; rintro e w' ⟨rfl, rfl⟩)
  all_goals go_ret
  all_goals refine ⟨ret_int ?_, rfl⟩
  · rw [Pl.quotW, if_pos (beq_iff_eq.1 ‹(op == 9) = true›)]
  · rw [Pl.quotW, if_neg (beq_eq_false_iff_ne.1 ‹(op == 9) = false›), if_pos (beq_iff_eq.1 ‹(op == 10) = true›), if_pos ‹_›]
  · rw [Pl.quotW, if_neg (beq_eq_false_iff_ne.1 ‹(op == 9) = false›), if_pos (beq_iff_eq.1 ‹(op == 10) = true›), if_neg (by omega)]
  · rw [Pl.quotW, if_neg (beq_eq_false_iff_ne.1 ‹(op == 9) = false›), if_neg (beq_eq_false_iff_ne.1 ‹(op == 10) = false›), if_pos (beq_iff_eq.1 ‹(op == 11) = true›)]
  · rw [Pl.quotW, if_neg (beq_eq_false_iff_ne.1 ‹(op == 9) = false›), if_neg (beq_eq_false_iff_ne.1 ‹(op == 10) = false›), if_neg (beq_eq_false_iff_ne.1 ‹(op == 11) = false›)]

set_option maxHeartbeats 400000 in
theorem holds_any (op a b : Int) (w : World) :
    Calls Try.prog 76 #[.int .i64 op, .int .i64 a, .int .i64 b] w fun e w' => e = .returned (.bool (Pl.holdsB op a b)) ∧ w' = w := by
  go_enter Try.func76, Try.ntmps76
  go_wp2
  all_goals go_ret
  all_goals refine ⟨ret_bool ?_, rfl⟩
  all_goals simp_all [Pl.holdsB]
  all_goals first | rfl | (rw [Bool.eq_iff_iff]; simp; intros; assumption)

/-- A slice of ints that reads as l. -/
def IntsAt (w : World) (v : Value) (l : List Int) : Prop :=
  ∃ ad cap, v = .slice ad l.length cap ∧ ∀ i, i < l.length → ∃ b off, ad = some ⟨b, off, none⟩ ∧ w.cell? ⟨b, off + i, none⟩ = some (.int .i64 (l.getD i 0))
theorem ints_own {B : Nat} {w : World} {v : Value} {l : List Int} (h : IntsOwn B w v l) : IntsAt w v l := by
  rcases h.2 with ⟨rfl, hn⟩ | ⟨g, cap, cur, rfl, hb, hgg, hle, hm, hcs, htk⟩
  · exact ⟨none, 0, by rw [hn], fun i hi => by omega⟩
  · refine ⟨some ⟨g, 0, none⟩, cap, rfl, fun i hi => ⟨g, 0, rfl, ?_⟩⟩
    have := World.ownsRow.cellAt (show w.ownsRow B 3 1 (.slice (some ⟨g, 0, none⟩) l.length cap) l.length (l.map intV) from h) i (by omega)
    rw [Nat.zero_add, this, List.getElem?_map, List.getElem?_eq_getElem hi, List.getD_eq_getElem?_getD, List.getElem?_eq_getElem hi]; rfl
theorem IntsAt.drewN {w : World} {v : Value} {l : List Int} (h : IntsAt w v l) (n : Nat) : IntsAt (w.drewN n) v l := h

set_option maxHeartbeats 400000 in
theorem pick_any (l : List Int) (i : Int) (v : Value) (w : World) (h : IntsAt w v l) :
    Calls Try.prog 50 #[v, .int .i64 i] w fun e w' => e = .returned (.int .i64 (Pl.pickL l i)) ∧ w' = w := by
  obtain ⟨ad, cap, rfl, hc⟩ := h
  by_cases h0 : i < 0
  · have hx : Hid (Pl.pickL l i = 0) := by rw [Pl.pickL, if_neg (by omega)]; rfl
    have hd : decide (i < 0) = true := by simpa using h0
    clear hc
    go_enter Try.func50, Try.ntmps50
    go_wp2
    go_ret
    exact ⟨ret_int hx.out.symm, rfl⟩
  · by_cases h1 : (l.length : Int) ≤ i
    · have hx : Hid (Pl.pickL l i = 0) := by rw [Pl.pickL, if_neg (by omega)]; rfl
      have hd : decide (i < 0) = false := by simpa using h0
      have hd2 : decide ((l.length : Int) ≤ i) = true := by simpa using h1
      clear hc
      go_enter Try.func50, Try.ntmps50
      go_wp2
      go_ret
      exact ⟨ret_int hx.out.symm, rfl⟩
    · obtain ⟨k, rfl⟩ := Int.eq_ofNat_of_zero_le (show 0 ≤ i by omega)
      have hk : k < l.length := by omega
      have hx : Hid (Pl.pickL l k = l.getD k 0) := by rw [Pl.pickL, if_pos (by omega)]; rfl
      obtain ⟨b, off, rfl, hcell⟩ := hc k hk
      generalize l.getD k 0 = x at *
      clear hc
      go_enter Try.func50, Try.ntmps50
      go_wp2
      go_ret
      exact ⟨ret_int hx.out.symm, rfl⟩
end Go.Proofs.Ytfaljekgpnbmiaa
