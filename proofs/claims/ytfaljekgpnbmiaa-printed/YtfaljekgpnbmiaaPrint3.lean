/-
  Contracts of the statement's own helpers: same, dressed, form, printed.
-/
import Derived.Test.YtfaljekgpnbmiaaPrint2
namespace Go.Proofs.Ytfaljekgpnbmiaa
open Go.RowKit

set_option maxHeartbeats 1000000 in
theorem same_eq (l : List Int) (va vb : Value) (w : World) (ha : IntsAt w va l) (hb : IntsAt w vb l) (hl : l.length ≤ maxLen) :
    Calls Try.prog 29 #[va, vb] w fun e w' => e = .returned (.bool true) ∧ ∃ n, w' = w.drewN n := by
  unfold maxLen at hl
  obtain ⟨ada, capa, rfl, ca⟩ := ha
  obtain ⟨adb, capb, rfl, cb⟩ := hb
  have HA := hide ca
  have HB := hide cb
  clear ca cb
  go_enter Try.func29, Try.ntmps29
  go_wp2
  go_loopw [5] (fun i wr => ∃ (k n : Nat), k ≤ l.length ∧ i = .int .i64 k ∧ wr = w.drewN n) (fun i _ => l.length - (intOf i).toNat)
  case atStart => exact ⟨0, 0, by omega, rfl, rfl⟩
  case round =>
    obtain ⟨k, n, hk, rfl, rfl⟩ := hrel
    by_cases hlt : k < l.length
    · obtain ⟨b1, o1, rfl, c1⟩ := unhide HA k hlt
      obtain ⟨b2, o2, rfl, c2⟩ := unhide HB k hlt
      go_wp2
      go_quiet (fail)
      go_wp2
      go_roundw
      case rel => exact ⟨k + 1, _, by omega, by go_num, rfl⟩
      case measure => simp [intOf]; omega
    · go_wp2
      go_ret
      exact ⟨rfl, _, rfl⟩

theorem take_bytes (l : List UInt8) (k : Nat) (h : k < l.length) : (ByteArray.mk l.toArray).extract k (k + 1) = ⟨[l[k]].toArray⟩ := by
  have := bext l k (k + 1)
  rw [this]
  congr 2
  rw [show k + 1 - k = 1 by omega, List.drop_eq_getElem_cons h]
  rfl
set_option maxRecDepth 100000 in
set_option maxHeartbeats 1000000 in
theorem dressed_any (p : List UInt8) (w : World) (hl : p.length ≤ 10000) :
    Calls Try.prog 16 #[.string ⟨p.toArray⟩] w fun e w' => e = .returned (strV (Pl.dressed p)) ∧ w' = w := by
  have happ := ByteArray.mk_append_mk
  go_enter Try.func16, Try.ntmps16
  go_wp2
  go_loop [3, 4] (fun t i => ∃ (k : Nat) (acc : List UInt8), k ≤ p.length ∧ i = .int .i64 k ∧ t = .string ⟨acc.toArray⟩ ∧ acc.length ≤ 8 + 7 * k ∧ Hid (acc ++ (p.drop k).flatMap Pl.dressB ++ Pl.dressTail = Pl.dressed p)) (fun _ i => p.length - (intOf i).toNat)
  case atStart => exact ⟨0, Pl.dressHead, by omega, rfl, rfl, by decide, by simp [Pl.dressed, Hid]⟩
  case round =>
    obtain ⟨k, acc, hk, rfl, rfl, hacc, hr⟩ := hrel
    by_cases hlt : k < p.length
    · have hb := bget p k hlt
      have hx := take_bytes p k hlt
      have hd := List.drop_eq_getElem_cons hlt
      by_cases h32 : p[k] = 32
      · have hr' : Hid ((acc ++ [35, 105, 110, 32, 120, 10, 32]) ++ (p.drop (k + 1)).flatMap Pl.dressB ++ Pl.dressTail = Pl.dressed p) := by
          have := hr.out; rw [hd, List.flatMap_cons, h32] at this; simpa [Pl.dressB, Hid] using this
        rw [h32] at hb
        clear hr hx hd h32
        go_wp2
        go_round
        case rel => exact ⟨k + 1, _, by omega, by go_num, rfl, by simp; omega, hr'⟩
        case measure => simp [intOf]; omega
      · by_cases h10 : p[k] = 10
        · have hr' : Hid ((acc ++ [32, 32]) ++ (p.drop (k + 1)).flatMap Pl.dressB ++ Pl.dressTail = Pl.dressed p) := by
            have := hr.out; rw [hd, List.flatMap_cons, h10] at this; simpa [Pl.dressB, Hid] using this
          rw [h10] at hb
          clear hr hx hd h32 h10
          go_wp2
          go_round
          case rel => exact ⟨k + 1, _, by omega, by go_num, rfl, by simp; omega, hr'⟩
          case measure => simp [intOf]; omega
        · have hr' : Hid ((acc ++ [p[k]]) ++ (p.drop (k + 1)).flatMap Pl.dressB ++ Pl.dressTail = Pl.dressed p) := by
            have := hr.out; rw [hd, List.flatMap_cons] at this; simpa [Pl.dressB, h32, h10, Hid] using this
          have n1 : ((p[k].toNat : Int) == 32) = false := by
            rw [beq_eq_false_iff_ne]; intro e; exact h32 (UInt8.toNat_inj.1 (by have e2 : (32 : UInt8).toNat = 32 := rfl; omega))
          have n2 : ((p[k].toNat : Int) == 10) = false := by
            rw [beq_eq_false_iff_ne]; intro e; exact h10 (UInt8.toNat_inj.1 (by have e2 : (10 : UInt8).toNat = 10 := rfl; omega))
          clear hr hd h32 h10
          generalize p[k] = c at *
          go_wp2
          go_round
          case rel => exact ⟨k + 1, _, by omega, by go_num, rfl, by simp; omega, hr'⟩
          case measure => simp [intOf]; omega
    · have hr' : Hid (acc ++ Pl.dressTail = Pl.dressed p) := by have := hr.out; rw [List.drop_eq_nil_of_le (by omega)] at this; simpa [Hid] using this
      clear hr
      go_wp2
      go_ret
      exact ⟨by rw [← hr'.out]; rfl, rfl⟩

/-- The three calls of a form, as one plain answer: what is printed, what is told, the three errors. -/
def Pl.readF (low : Bool) (l : List UInt8) : Int × Int × Pl.RdM := if low then Pl.readLow l else Pl.readHigh l
def Pl.printF (low : Bool) (l : List UInt8) : List UInt8 × Int := if low then Pl.printLow l else Pl.printHigh l
def Pl.runF (low : Bool) (l : List UInt8) (home : List Int) : Int × List Int := if low then Pl.runLow l home else Pl.runHigh l home

set_option maxRecDepth 100000 in
set_option maxHeartbeats 1000000 in
theorem form_Low (l : List UInt8) (home : List Int) (vh : Value) (w : World) (hlm : l.length ≤ maxLen) (hh : IntsAt w vh home) :
    Calls Try.prog 14 #[.bool true, .string ⟨l.toArray⟩, vh] w fun e w' => ∃ v, e = .returned (.tuple #[strV (Pl.printLow l).1, v, .int .i64 (Pl.readLow l).1, .int .i64 (Pl.printLow l).2, .int .i64 (Pl.runLow l home).1]) ∧ IntsOwn w.heap.size w' v (Pl.runLow l home).2 ∧ Below w.heap.size w w' := by
  have hC := hide (fun w => CheckLow_any l w hlm)
  have hP := hide (fun w => PrintLow_any l w hlm)
  have hR := hide (fun w1 (hb : Below w.heap.size w w1) => RunLow_all l home vh w1 hlm (hh.below hb))
  generalize Pl.printLow l = P at *
  generalize Pl.runLow l home = U at *
  generalize Pl.readLow l = Q at *
  obtain ⟨adh, nh, caph, hvh⟩ : ∃ ad n cap, vh = .slice ad n cap := by obtain ⟨x, y, e, _⟩ := hh; exact ⟨_, _, _, e⟩
  subst hvh
  clear hh
  unfold strV at hP ⊢
  go_enter Try.func14, Try.ntmps14
  go_wp2_with fail
  refine (unhide hC _).mono ?_
  rintro e w1 ⟨rfl, hb1⟩
  go_wp2_with fail
  refine (unhide hP _).mono ?_
  rintro e w2 ⟨rfl, hb2⟩
  have hb12 := hb1.trans (hb2.mono hb1.size)
  go_wp2_with fail
  refine (unhide hR _ hb12).mono ?_
  rintro e w3 ⟨v, rfl, hv, hb3⟩
  have HH : Hid (IntsOwn w.heap.size w3 v U.2 ∧ Below w.heap.size w w3) := ⟨own_mono hv hb12.size, hb12.trans (hb3.mono hb12.size)⟩
  obtain ⟨ad, cap, rfl⟩ := slice_shape hv
  clear hC hP hR hb1 hb2 hb12 hb3 hv
  go_wp2_with fail
  exact bodyPost_ret (v := .tuple #[.string ⟨P.1.toArray⟩, .slice ad U.2.length cap, .int .i64 Q.1, .int .i64 P.2, .int .i64 U.1]) (by simp [results, Try.results14, go_sem]) rfl ⟨_, rfl, HH.out.1, HH.out.2⟩

set_option maxRecDepth 100000 in
set_option maxHeartbeats 1000000 in
theorem form_High (l : List UInt8) (home : List Int) (vh : Value) (w : World) (hlm : l.length ≤ maxLen) (hh : IntsAt w vh home) :
    Calls Try.prog 14 #[.bool false, .string ⟨l.toArray⟩, vh] w fun e w' => ∃ v, e = .returned (.tuple #[strV (Pl.printHigh l).1, v, .int .i64 (Pl.readHigh l).1, .int .i64 (Pl.printHigh l).2, .int .i64 (Pl.runHigh l home).1]) ∧ IntsOwn w.heap.size w' v (Pl.runHigh l home).2 ∧ Below w.heap.size w w' := by
  have hC := hide (fun w => CheckHigh_any l w hlm)
  have hP := hide (fun w => PrintHigh_any l w hlm)
  have hR := hide (fun w1 (hb : Below w.heap.size w w1) => RunHigh_all l home vh w1 hlm (hh.below hb))
  generalize Pl.printHigh l = P at *
  generalize Pl.runHigh l home = U at *
  generalize Pl.readHigh l = Q at *
  obtain ⟨adh, nh, caph, hvh⟩ : ∃ ad n cap, vh = .slice ad n cap := by obtain ⟨x, y, e, _⟩ := hh; exact ⟨_, _, _, e⟩
  subst hvh
  clear hh
  unfold strV at hP ⊢
  go_enter Try.func14, Try.ntmps14
  go_wp2_with fail
  refine (unhide hC _).mono ?_
  rintro e w1 ⟨rfl, hb1⟩
  go_wp2_with fail
  refine (unhide hP _).mono ?_
  rintro e w2 ⟨rfl, hb2⟩
  have hb12 := hb1.trans (hb2.mono hb1.size)
  go_wp2_with fail
  refine (unhide hR _ hb12).mono ?_
  rintro e w3 ⟨v, rfl, hv, hb3⟩
  have HH : Hid (IntsOwn w.heap.size w3 v U.2 ∧ Below w.heap.size w w3) := ⟨own_mono hv hb12.size, hb12.trans (hb3.mono hb12.size)⟩
  obtain ⟨ad, cap, rfl⟩ := slice_shape hv
  clear hC hP hR hb1 hb2 hb12 hb3 hv
  go_wp2_with fail
  exact bodyPost_ret (v := .tuple #[.string ⟨P.1.toArray⟩, .slice ad U.2.length cap, .int .i64 Q.1, .int .i64 P.2, .int .i64 U.1]) (by simp [results, Try.results14, go_sem]) rfl ⟨_, rfl, HH.out.1, HH.out.2⟩

theorem form_any (low : Bool) (l : List UInt8) (home : List Int) (vh : Value) (w : World) (hlm : l.length ≤ maxLen) (hh : IntsAt w vh home) :
    Calls Try.prog 14 #[.bool low, .string ⟨l.toArray⟩, vh] w fun e w' => ∃ v, e = .returned (.tuple #[strV (Pl.printF low l).1, v, .int .i64 (Pl.readF low l).1, .int .i64 (Pl.printF low l).2, .int .i64 (Pl.runF low l home).1]) ∧ IntsOwn w.heap.size w' v (Pl.runF low l home).2 ∧ Below w.heap.size w w' := by
  cases low
  · exact form_High l home vh w hlm hh
  · exact form_Low l home vh w hlm hh
end Go.Proofs.Ytfaljekgpnbmiaa
