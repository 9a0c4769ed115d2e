/-
  Contracts of the statement's own small functions: pick, near, digits, decimal.
-/
import Derived.Test.YtfaljekgpnbmiaaLeaf
import Derived.Test.YtfaljekgpnbmiaaPlainKeep
import Derived.Laws.IdiomStrings
namespace Go.Proofs.Ytfaljekgpnbmiaa
open Go.RowKit

set_option maxHeartbeats 400000 in
theorem kpick_any (c n : Int) (w : World) (h1 : -9223372036854775808 ≤ c) (h2 : c ≤ 9223372036854775807) (hn : 1 ≤ n) (hn2 : n ≤ 1000000000) :
    Calls Try.prog 8 #[.int .i64 c, .int .i64 n] w fun e w' => e = .returned (.int .i64 (Pl.kpick c n)) ∧ w' = w := by
  by_cases hc : c < 0
  · have hx : Hid (Pl.kpick c n = (-(c + 1)) % n) := by unfold Pl.kpick Hid; rw [if_pos hc]
    go_enter Try.func8, Try.ntmps8
    go_wp2
    go_ret
    exact ⟨ret_int (by rw [hx.out, ← Int.neg_tmod, Int.tmod_eq_emod_of_nonneg (by omega)]), rfl⟩
  · have hx : Hid (Pl.kpick c n = c % n) := by unfold Pl.kpick Hid; rw [if_neg hc]
    go_enter Try.func8, Try.ntmps8
    go_wp2
    go_ret
    exact ⟨ret_int (by rw [hx.out]), rfl⟩

set_option maxHeartbeats 400000 in
theorem knear_any (c m : Int) (w : World) (hm : 0 ≤ m) (hm2 : m ≤ 1000000000000) :
    Calls Try.prog 7 #[.int .i64 c, .int .i64 m] w fun e w' => e = .returned (.int .i64 (Pl.knear c m)) ∧ w' = w := by
  go_enter Try.func7, Try.ntmps7
  go_wp2
  go_ret
  exact ⟨rfl, rfl⟩

theorem conv_one (w : World) (x : Int) (c : UInt8) (h : (c.toNat : Int) = x) :
    (convert 62 9 (.slice (some ⟨w.heap.size, 0, none⟩) 1 1)).run Try.prog (w.alloc (.cells #[.int .u8 x] 5)) = .ok (.string ⟨[c].toArray⟩) (w.alloc (.cells #[.int .u8 x] 5)) := by
  have := run_convert_bytes_back (P := Try.prog) (w.alloc (.cells #[.int .u8 x] 5)) 62 9 5 ⟨w.heap.size, 0, none⟩ 1 [c] Try.underlying62 Try.underlying5 Try.underlying9 (fun j hj => by
    match j, hj with
    | 0, _ => simp [Addr.add, h])
  exact this
theorem byte_of (m : Nat) (h : m ≤ 9) : ((UInt8.ofNat (48 + m)).toNat : Int) = 48 + (m : Int) := by
  have : (UInt8.ofNat (48 + m)).toNat = 48 + m := by rw [UInt8.toNat_ofNat']; omega
  omega
theorem digs_step (f k : Nat) (acc : List UInt8) (h : 9 < k) (hf : k ≤ f) : Pl.digs f k acc = Pl.digs (f - 1) (k / 10) (UInt8.ofNat (48 + k % 10) :: acc) := by
  obtain ⟨f', rfl⟩ : ∃ f', f = f' + 1 := ⟨f - 1, by omega⟩
  rw [Pl.digs, if_pos h]; rfl
theorem digs_last (f k : Nat) (acc : List UInt8) (h : ¬ 9 < k) : Pl.digs f k acc = UInt8.ofNat (48 + k) :: acc := by
  cases f with
  | zero => rfl
  | succ f => rw [Pl.digs, if_neg h]

set_option maxRecDepth 100000 in
set_option maxHeartbeats 1000000 in
theorem digits_any (m : Nat) (w : World) (hm : m ≤ 1000000000) :
    Calls Try.prog 22 #[.int .i64 m] w fun e w' => e = .returned (.string ⟨(Pl.digitsOf m).toArray⟩) ∧ Below w.heap.size w w' := by
  go_enter Try.func22, Try.ntmps22
  go_wp2
  go_loopw [0, 3] (fun n s wr => ∃ (k f j : Nat) (acc : List UInt8), k ≤ f ∧ j ≤ 9 ∧ k < 10 ^ (10 - j) ∧ acc.length = j ∧ n = .int .i64 k ∧ s = .string ⟨acc.toArray⟩ ∧ Hid (Below w.heap.size w wr ∧ Pl.digs f k acc = Pl.digitsOf m)) (fun n _ _ => (intOf n).toNat)
  case atStart => exact ⟨m, m, 0, [], Nat.le_refl _, by omega, by omega, rfl, rfl, rfl, Below.refl _ _, rfl⟩
  case round =>
    obtain ⟨k, f, j, acc, hkf, hj, hk, hacc, rfl, rfl, hh⟩ := hrel
    have hacc' : acc.length ≤ 9 := by omega
    have hkb : k ≤ 10000000000 := by
      have : 10 ^ (10 - j) ≤ 10 ^ 10 := Nat.pow_le_pow_right (by omega) (by omega)
      omega
    have HK : Hid (k < 10 ^ (10 - j) ∧ acc.length = j) := ⟨hk, hacc⟩
    clear hk hacc
    have hbs := hh.out.1.size
    by_cases h9 : 9 < k
    · have hcv := conv_one wr (48 + (k : Int) % 10) (UInt8.ofNat (48 + k % 10)) (by rw [byte_of _ (by omega)]; omega)
      have happ := ByteArray.mk_append_mk [UInt8.ofNat (48 + k % 10)] acc
      have HH : Hid (Below w.heap.size w (wr.alloc (.cells #[.int .u8 (48 + (k : Int) % 10)] 5)) ∧ Pl.digs (f - 1) (k / 10) (UInt8.ofNat (48 + k % 10) :: acc) = Pl.digitsOf m) :=
        ⟨hh.out.1.alloc hbs _, by rw [← digs_step f k acc h9 hkf]; exact hh.out.2⟩
      have HJ : Hid (j + 1 ≤ 9 ∧ k / 10 < 10 ^ (10 - (j + 1))) := by
        have h1 := HK.out.1
        have hj9 : j ≠ 9 := by rintro rfl; simp at h1; omega
        refine ⟨by omega, ?_⟩
        rw [show 10 - j = (10 - (j + 1)) + 1 by omega, Nat.pow_succ] at h1
        omega
      clear hh
      generalize UInt8.ofNat (48 + k % 10) = c at *
      go_wp2_with fail
      go_roundw
      case rel => exact ⟨k / 10, f - 1, j + 1, c :: acc, by omega, HJ.out.1, HJ.out.2, by rw [List.length_cons, HK.out.2], by go_num, rfl, HH⟩
      case measure => simp [intOf]; omega
    · have hcv := conv_one wr (48 + (k : Int)) (UInt8.ofNat (48 + k)) (byte_of _ (by omega))
      have happ := ByteArray.mk_append_mk [UInt8.ofNat (48 + k)] acc
      have HH : Hid (Below w.heap.size w (wr.alloc (.cells #[.int .u8 (48 + (k : Int))] 5)) ∧ UInt8.ofNat (48 + k) :: acc = Pl.digitsOf m) :=
        ⟨hh.out.1.alloc hbs _, by rw [← digs_last f k acc h9]; exact hh.out.2⟩
      clear hh
      generalize UInt8.ofNat (48 + k) = c at *
      go_wp2_with fail
      go_ret
      exact ⟨by rw [← HH.out.2]; rfl, HH.out.1⟩

set_option maxRecDepth 100000 in
set_option maxHeartbeats 1000000 in
theorem decimal_any (n : Int) (w : World) (hn : -1000000000 ≤ n) (hn2 : n ≤ 1000000000) :
    Calls Try.prog 9 #[.int .i64 n] w fun e w' => e = .returned (.string ⟨(Pl.decimalOf n).toArray⟩) ∧ Below w.heap.size w w' := by
  by_cases h : n < 0
  · have hx : Hid (Pl.decimalOf n = 45 :: Pl.digitsOf n.natAbs) := by unfold Pl.decimalOf Hid; rw [if_pos h]
    have hd := digits_any n.natAbs w (by omega)
    rw [show ((n.natAbs : Nat) : Int) = -n by omega] at hd
    have HL : Hid ((Pl.digitsOf n.natAbs).length ≤ 100) := Pl.digitsOf_len n.natAbs (by omega)
    generalize Pl.digitsOf n.natAbs = ds at *
    have happ := ByteArray.mk_append_mk [45] ds
    have hlen : ds.length ≤ 100 := HL.out
    have hd' := hide hd
    clear hd
    go_enter Try.func9, Try.ntmps9
    go_wp2_with fail
    refine (unhide hd').mono ?_
    rintro e w1 ⟨rfl, hb⟩
    clear hd'
    go_wp2_with fail
    go_ret
    exact ⟨by rw [hx.out]; rfl, hb⟩
  · obtain ⟨k, rfl⟩ := Int.eq_ofNat_of_zero_le (show 0 ≤ n by omega)
    have hx : Hid (Pl.decimalOf k = Pl.digitsOf k) := by unfold Pl.decimalOf Hid; rw [if_neg h, Int.toNat_natCast]
    have hd := hide (digits_any k w (by omega))
    go_enter Try.func9, Try.ntmps9
    go_wp2_with fail
    refine (unhide hd).mono ?_
    rintro e w1 ⟨rfl, hb⟩
    clear hd
    go_wp2_with fail
    go_ret
    exact ⟨by rw [hx.out]; rfl, hb⟩
end Go.Proofs.Ytfaljekgpnbmiaa
