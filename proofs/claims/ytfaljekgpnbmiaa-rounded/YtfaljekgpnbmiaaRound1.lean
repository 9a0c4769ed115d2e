/-
  The walk of the statement Rounded.
-/
import Derived.Test.YtfaljekgpnbmiaaRunHigh
import Derived.Test.YtfaljekgpnbmiaaPlainRound
import Derived.Test.YtfaljekgpnbmiaaKeep1
namespace Go.Proofs.Ytfaljekgpnbmiaa
open Go.RowKit

theorem cell_stays {w w' : World} {a : Addr} {v : Value} (hb : Below w.heap.size w w') (h : w.cell? a = some v) : w'.cell? a = some v := by
  have hlt : a.block < w.heap.size := by
    unfold World.cell? at h
    split at h
    · rename_i hx; exact lt_of_block hx
    · cases h
  rw [← h]
  unfold World.cell?
  rw [hb.block a.block hlt]
theorem ints_cells {B : Nat} {w : World} {v : Value} {l : List Int} (h : IntsOwn B w v l) (hne : 0 < l.length) : ∃ g c, v = .slice (some ⟨g, 0, none⟩) l.length c ∧ ∀ i, (hi : i < l.length) → w.cell? ⟨g, i, none⟩ = some (.int .i64 l[i]) := by
  obtain ⟨ad, cap, rfl⟩ := slice_shape h
  have hcell := fun i hi => ints_get (ints_own h) i hi
  rcases h.2 with ⟨_, hn⟩ | ⟨g', cap', cur, he, _⟩
  · omega
  · simp only [Value.slice.injEq] at he
    obtain ⟨rfl, _, rfl⟩ := he
    refine ⟨g', _, rfl, fun i hi => ?_⟩
    obtain ⟨b, off, e1, e2⟩ := hcell i hi
    simp only [Option.some.injEq, Addr.mk.injEq, and_true] at e1
    obtain ⟨rfl, rfl⟩ := e1
    simpa using e2
theorem one_int {W : World} {g : Nat} {y : Int} (hc : W.cell? ⟨g, 0, none⟩ = some (.int .i64 y)) : IntsAt W (.slice (some ⟨g, 0, none⟩) 1 1) [y] :=
  ⟨_, _, rfl, fun i hi => ⟨g, 0, rfl, by simp at hi; subst hi; exact hc⟩⟩

theorem round_call (k y : Int) (hk : 1 ≤ k) (hk' : k ≤ 1000000) (hy : -1000000000 ≤ y) (hy' : y ≤ 1000000000) (W : World) (g : Nat) (hc : W.cell? ⟨g, 0, none⟩ = some (.int .i64 y)) :
    Calls Try.prog 10 #[.string ⟨(Pl.unwords (Pl.roundWords (Pl.decimalOf k))).toArray⟩, .slice (some ⟨g, 0, none⟩) 1 1] W fun e w' => ∃ g' c', e = .returned (.tuple #[.slice (some ⟨g', 0, none⟩) 4 c', .int .i64 0]) ∧ w'.cell? ⟨g', 0, none⟩ = some (.int .i64 (Pl.quotW 8 y k)) ∧ w'.cell? ⟨g', 1, none⟩ = some (.int .i64 (Pl.quotW 9 y k)) ∧ w'.cell? ⟨g', 2, none⟩ = some (.int .i64 (Pl.quotW 10 y k)) ∧ w'.cell? ⟨g', 3, none⟩ = some (.int .i64 (Pl.quotW 11 y k)) ∧ Below W.heap.size W w' := by
  have hd := Pl.decimal_tok k (by omega) (by omega)
  have hT := Pl.read_round k (Pl.decimalOf k) (Pl.number_decimal k (by omega) (by omega)) ⟨hd.1, hd.2.1⟩ hk hk'
  have hlen := Pl.round_len (Pl.decimalOf k) hd.2.2
  have h := RunHigh_any (Pl.unwords (Pl.roundWords (Pl.decimalOf k))) [y] _ W (by unfold maxLen; omega) (one_int hc) (fun _ => by
    rw [hT]; intro nd hnd; simp only [List.mem_cons, List.not_mem_nil, or_false] at hnd
    rcases hnd with rfl | rfl | rfl | rfl | rfl <;> simp)
  rw [Pl.run_round k y hk hk' hy hy'] at h
  refine h.mono ?_
  rintro e w' ⟨v, rfl, hown, hb⟩
  obtain ⟨g', c', rfl, hcell⟩ := ints_cells hown (by simp)
  exact ⟨g', c', rfl, hcell 0 (by simp), hcell 1 (by simp), hcell 2 (by simp), hcell 3 (by simp), hb⟩
theorem flr_call (k y : Int) (hk : 1 ≤ k) (hk' : k ≤ 1000000) (hy : -1000000000 ≤ y) (hy' : y ≤ 1000000000) (W : World) (g : Nat) (hc : W.cell? ⟨g, 0, none⟩ = some (.int .i64 y)) :
    Calls Try.prog 11 #[.string ⟨(Pl.unwords (Pl.flrWords (Pl.decimalOf k))).toArray⟩, .slice (some ⟨g, 0, none⟩) 1 1] W fun e w' => ∃ g' c', e = .returned (.tuple #[.slice (some ⟨g', 0, none⟩) 1 c', .int .i64 0]) ∧ w'.cell? ⟨g', 0, none⟩ = some (.int .i64 (Pl.quotW 8 y k)) ∧ Below W.heap.size W w' := by
  have hd := Pl.decimal_tok k (by omega) (by omega)
  have hT := Pl.read_flr k (Pl.decimalOf k) (Pl.number_decimal k (by omega) (by omega)) ⟨hd.1, hd.2.1⟩ hk hk'
  have hlen := Pl.flr_len (Pl.decimalOf k) hd.2.2
  have h := RunLow_any (Pl.unwords (Pl.flrWords (Pl.decimalOf k))) [y] _ W (by unfold maxLen; omega) (one_int hc) (fun _ => by
    rw [hT]; intro nd hnd; simp only [List.mem_cons, List.not_mem_nil, or_false] at hnd
    rcases hnd with rfl | rfl <;> simp)
  rw [Pl.run_flr k y hk hk' hy hy'] at h
  refine h.mono ?_
  rintro e w' ⟨v, rfl, hown, hb⟩
  obtain ⟨g', c', rfl, hcell⟩ := ints_cells hown (by simp)
  exact ⟨g', c', rfl, hcell 0 (by simp), hb⟩

set_option maxRecDepth 100000 in
set_option maxHeartbeats 4000000 in
theorem Rounded_walk (n d : Int) (w : World) (hd1 : -9223372036854775808 ≤ d) (hd2 : d ≤ 9223372036854775807) :
    Calls Try.prog 3 #[.int .i64 n, .int .i64 d] w fun e w' => e = .returned (.bool true) ∧ Below w.heap.size w w' := by
  have hx := Pl.knear_bd n 1000000000 (by omega)
  have hp := Pl.kpick_bd d 1000000 (by omega)
  have hcx := hide (fun w => knear_any n 1000000000 w (by omega) (by omega))
  have hcp := hide (fun w => kpick_any d 1000000 w hd1 hd2 (by omega) (by omega))
  generalize Pl.knear n 1000000000 = x at *
  generalize Pl.kpick d 1000000 = k0 at *
  have hcd := hide (fun w => decimal_any (k0 + 1) w (by omega) (by omega))
  have hdl := (Pl.decimal_tok (k0 + 1) (by omega) (by omega)).2.2
  have hok := Pl.rounded_ok x (k0 + 1) (by omega) (by omega) hx.1 hx.2
  have hcr := hide (fun (S : List UInt8) (hS : S = Pl.unwords (Pl.roundWords (Pl.decimalOf (k0 + 1)))) W g hc => by
    have := round_call (k0 + 1) x (by omega) (by omega) hx.1 hx.2 W g hc
    rw [← hS] at this; exact this)
  have hcf := hide (fun (S : List UInt8) (hS : S = Pl.unwords (Pl.flrWords (Pl.decimalOf (k0 + 1)))) W g hc => by
    have := flr_call (k0 + 1) x (by omega) (by omega) hx.1 hx.2 W g hc
    rw [← hS] at this; exact this)
  generalize Pl.decimalOf (k0 + 1) = t at *
  generalize Pl.quotW 8 x (k0 + 1) = a at *
  generalize Pl.quotW 9 x (k0 + 1) = b at *
  generalize Pl.quotW 10 x (k0 + 1) = c at *
  generalize Pl.quotW 11 x (k0 + 1) = e at *
  have happ := ByteArray.mk_append_mk
  go_enter Try.func3, Try.ntmps3
  go_wp2_with fail
  refine (unhide hcx _).mono ?_
  rintro e w' ⟨rfl, hw'⟩
  rw [hw']
  clear hw' w'
  go_wp2_with fail
  refine (unhide hcp _).mono ?_
  rintro e w' ⟨rfl, hw'⟩
  rw [hw']
  clear hw' w'
  go_wp2_with fail
  refine (unhide hcd _).mono ?_
  rintro e w2 ⟨rfl, hb2⟩
  have HO := hide hok
  clear hok
  go_wp2_with fail
  refine (unhide hcr _ ?hs _ _ ?hc).mono ?_
  case hs => simp [Pl.unwords, Pl.roundWords, Pl.divWords, Pl.kIn, Pl.kOut, Pl.kDiv, Pl.kDown, Pl.kUp, Pl.kZero, Pl.kNear, Pl.gLo, Pl.gHi]
  case hc => simp
  rintro e w5 ⟨g5, c5, rfl, h50, h51, h52, h53, hb5⟩
  clear hcr hcx hcp hcd
  go_wp2_with fail
  refine (unhide hcf _ ?hs _ _ ?hc).mono ?_
  case hs => simp [Pl.unwords, Pl.flrWords, Pl.kIn, Pl.kOut, Pl.kSet, Pl.kFlr, Pl.gLo, Pl.gHi]
  case hc => simp
  rintro e w6 ⟨g6, c6, rfl, h60, hb6⟩
  have hb56 : Below w5.heap.size w5 w6 := ((Below.refl _ w5).alloc (Nat.le_refl _) (.cells #[.int .i64 x] 3)).trans (hb6.mono (by simp))
  have d0 := cell_stays hb56 h50
  have d1 := cell_stays hb56 h51
  have d2 := cell_stays hb56 h52
  have d3 := cell_stays hb56 h53
  have hb25 : Below w2.heap.size w2 w5 := ((Below.refl _ w2).alloc (Nat.le_refl _) (.cells #[.int .i64 x] 3)).trans (hb5.mono (by simp))
  have HF : Hid (Below w.heap.size w w6) := (hb2.trans (hb25.mono hb2.size)).trans (hb56.mono (Nat.le_trans hb2.size hb25.size))
  clear h50 h51 h52 h53 hb5 hb6 hb56 hb25 hb2 hcf
  obtain ⟨⟨o1, o2⟩, ⟨o3, o4⟩, o5, ⟨o6, o7⟩, o8⟩ := unhide HO
  clear HO
  rcases o5 with ⟨hx0, rfl⟩ | ⟨hx0, rfl⟩
  · have t1 : decide (0 ≤ x) = true := by simp; omega
    go_wp2_with fail
    go_quiet (fail)
    go_wp2_with fail
    go_quiet (fail)
    go_wp2_with fail
    go_ret
    exact ⟨ret_bool (by simp), below_drewN (below_drewN HF.out _) _⟩
  · have t1 : decide (0 ≤ x) = false := by simp; omega
    have t2 : decide (x < 0) = true := by simp; omega
    go_wp2_with fail
    go_quiet (fail)
    go_wp2_with fail
    go_quiet (fail)
    go_wp2_with fail
    go_ret
    exact ⟨ret_bool (by simp), below_drewN (below_drewN HF.out _) _⟩
end Go.Proofs.Ytfaljekgpnbmiaa
