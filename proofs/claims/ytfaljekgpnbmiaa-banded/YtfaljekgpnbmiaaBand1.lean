/-
  The statement Banded: for every list of raw numbers and every number it returns true, and leaves all that was there as it was.
-/
import Derived.Test.YtfaljekgpnbmiaaRunHigh
import Derived.Test.YtfaljekgpnbmiaaPlainThr
import Derived.Test.YtfaljekgpnbmiaaKeep1
namespace Go.Proofs.Ytfaljekgpnbmiaa
open Go.RowKit

def rawCells (zs : List Int) (k : Nat) : Array Value := ((Pl.rawOf zs k).map intV).toArray
theorem rawCells_get (zs : List Int) (k : Nat) (hk : k ≤ 13) (i : Nat) (hi : i < 13) : (rawCells zs k)[i]? = some (.int .i64 ((Pl.rawOf zs k).getD i 0)) := by
  have hl := Pl.rawOf_len zs k hk
  unfold rawCells
  rw [List.getElem?_toArray, List.getElem?_map, List.getD_eq_getElem?_getD, List.getElem?_eq_getElem (by omega)]; rfl
theorem rawCells_set (zs : List Int) (k : Nat) (hk : k < 13) (hz : k < zs.length) : (rawCells zs k).setIfInBounds k (.int .i64 zs[k]) = rawCells zs (k + 1) := by
  unfold rawCells
  have hlen : (zs.take k).length = k := by rw [List.length_take]; omega
  have h := padded_map_set (zs.take k) 13 (by omega) zs[k]
  rw [hlen] at h
  have e : zs.take k ++ [zs[k]] = zs.take (k + 1) := (List.take_succ_eq_append_getElem hz).symm
  rw [e] at h
  rw [List.setIfInBounds_toArray]
  exact congrArg List.toArray h
theorem rawOf_all (zs : List Int) (k : Nat) (h : k = 13 ∨ zs.length ≤ k) (hk : k ≤ 13) : Pl.rawOf zs k = Pl.rawOf zs 13 := by
  rcases h with rfl | h
  · rfl
  · unfold Pl.rawOf; rw [List.take_of_length_le h, List.take_of_length_le (by omega)]

/-- RunHigh for a household of one number. -/
theorem run_one (l : List UInt8) (y s : Int) (W : World) (g : Nat) (hlm : l.length ≤ maxLen) (hrun : Pl.runHigh l [y] = (0, [s])) (hbl : l.length ≤ 6000 → ∀ n ∈ (Pl.textR (Pl.startR l)).2.nodes, n.bands.length ≤ 1000) (hc : W.cell? ⟨g, 0, none⟩ = some (.int .i64 y)) :
    Calls Try.prog 10 #[.string ⟨l.toArray⟩, .slice (some ⟨g, 0, none⟩) 1 1] W fun e w' => ∃ g' c', e = .returned (.tuple #[.slice (some ⟨g', 0, none⟩) 1 c', .int .i64 0]) ∧ w'.cell? ⟨g', 0, none⟩ = some (.int .i64 s) ∧ Below W.heap.size W w' := by
  have h := RunHigh_any l [y] (.slice (some ⟨g, 0, none⟩) 1 1) W hlm ⟨_, _, rfl, fun i hi => ⟨g, 0, rfl, by simp at hi; subst hi; exact hc⟩⟩ hbl
  rw [hrun] at h
  refine h.mono ?_
  rintro e w' ⟨v, rfl, hown, hb⟩
  obtain ⟨ad, cap, rfl⟩ := slice_shape hown
  obtain ⟨b, off, rfl, hcell⟩ := ints_get (ints_own hown) 0 (by simp)
  rcases hown.2 with ⟨_, hn⟩ | ⟨g', cap', cur, he, _⟩
  · simp at hn
  · simp only [Value.slice.injEq, Option.some.injEq, Addr.mk.injEq, and_true] at he
    obtain ⟨⟨rfl, rfl⟩, _, rfl⟩ := he
    exact ⟨_, _, rfl, hcell, hb⟩

set_option maxRecDepth 100000 in
set_option maxHeartbeats 4000000 in
theorem Banded_walk (zs : List Int) (a0 : Option Addr) (cap0 : Nat) (n : Int) (w : World) (hl : IntsAt w (.slice a0 zs.length cap0) zs) (hz : ∀ z ∈ zs, -9223372036854775808 ≤ z ∧ z ≤ 9223372036854775807) (hlm : zs.length ≤ maxLen) :
    Calls Try.prog 4 #[.slice a0 zs.length cap0, .int .i64 n] w fun e w' => e = .returned (.bool true) ∧ Below w.heap.size w w' := by
  unfold maxLen at hlm
  have HZ := hide hz
  have HL := hide hl
  have H0 : Hid ((w.alloc (.cells (rawCells zs 0) 29)).heap[w.heap.size]? = some (.cells (rawCells zs 0) 29 (0, 0)) ∧ Below w.heap.size w (w.alloc (.cells (rawCells zs 0) 29))) := ⟨heap_alloc_new w _, (Below.refl _ _).alloc (Nat.le_refl _) _⟩
  clear hz hl
  go_enter Try.func4, Try.ntmps4
  go_wp2_with fail
  go_loopw [6] (fun i wr => ∃ k : Nat, k ≤ 13 ∧ k ≤ zs.length ∧ i = .int .i64 k ∧ Hid (wr.heap[w.heap.size]? = some (.cells (rawCells zs k) 29 (0, 0)) ∧ Below w.heap.size w wr)) (fun i _ => 13 - (intOf i).toNat)
  case atStart => exact ⟨0, by omega, by omega, rfl, H0⟩
  case round =>
    obtain ⟨k, hk, hkl, rfl, hh⟩ := hrel
    clear H0
    by_cases h13 : k < 13
    · by_cases hlt : k < zs.length
      · obtain ⟨b, off, rfl, hc⟩ := ints_get ((unhide HL).below hh.out.2) k hlt
        have hcell : wr.cell? ⟨w.heap.size, k, none⟩ = some (.int .i64 ((Pl.rawOf zs k).getD k 0)) := by rw [cellsOf hh.out.1]; exact rawCells_get zs k (by omega) k h13
        have hfr : wr.frozen? ⟨w.heap.size, k, none⟩ = false := freeOf hh.out.1 k
        have HH : Hid ((wr.setCell ⟨w.heap.size, k, none⟩ (.int .i64 zs[k])).heap[w.heap.size]? = some (.cells (rawCells zs (k + 1)) 29 (0, 0)) ∧ Below w.heap.size w (wr.setCell ⟨w.heap.size, k, none⟩ (.int .i64 zs[k]))) :=
          ⟨by rw [heap_setCell_same wr _ k _ _ _ hh.out.1, rawCells_set zs k h13 hlt], hh.out.2.setCell (p := ⟨w.heap.size, k, none⟩) (Nat.le_refl _) _⟩
        generalize zs[k] = z at *
        generalize (Pl.rawOf zs k).getD k 0 = y at *
        clear hh
        go_wp2_with fail
        go_roundw
        case rel => exact ⟨k + 1, by omega, by omega, by go_num, HH⟩
        case measure => simp [intOf]; omega
      · have hdone := rawOf_all zs k (.inr (by omega)) hk
        have hblk : wr.heap[w.heap.size]? = some (.cells (rawCells zs 13) 29 (0, 0)) := by have := hh.out.1; unfold rawCells at this ⊢; rw [hdone] at this; exact this
        obtain ⟨wv, hwv⟩ : ∃ wv : World, wv = wr := ⟨wr, rfl⟩
        subst hwv
        have HW : Hid (wv.heap[w.heap.size]? = some (.cells (rawCells zs 13) 29 (0, 0)) ∧ Below w.heap.size w wv) := ⟨hblk, hh.out.2⟩
        have r12 : wv.cell? ⟨w.heap.size, 12, none⟩ = some (.int .i64 ((Pl.rawOf zs 13).getD 12 0)) := by rw [cellsOf hblk]; exact rawCells_get zs 13 (by omega) 12 (by omega)
        have r0 : wv.cell? ⟨w.heap.size, 0, none⟩ = some (.int .i64 ((Pl.rawOf zs 13).getD 0 0)) := by rw [cellsOf hblk]; exact rawCells_get zs 13 (by omega) 0 (by omega)
        have hwf := Pl.rawOf_wf zs 13 (unhide HZ)
        have HF := hide hwf
        have hwf12 := hwf 12
        have hwf0 := hwf 0
        have hpk := Pl.kpick_bd ((Pl.rawOf zs 13).getD 12 0) 6 (by omega)
        obtain ⟨m, hm⟩ := Int.eq_ofNat_of_zero_le hpk.1
        have hm5 : m ≤ 5 := by omega
        have hx := Pl.knear_bd n 100000 (by omega)
        have ht0 : Pl.knear ((Pl.rawOf zs 13).getD 0 0) 50000 = Pl.thr (Pl.rawOf zs 13) 0 := rfl
        have hc12 := hide (fun w => kpick_any ((Pl.rawOf zs 13).getD 12 0) 6 w hwf12.1 hwf12.2 (by omega) (by omega))
        rw [hm] at hc12
        have hcx := hide (fun w => knear_any n 100000 w (by omega) (by omega))
        have hc0 := hide (fun w => knear_any ((Pl.rawOf zs 13).getD 0 0) 50000 w (by omega) (by omega))
        rw [ht0] at hc0
        have hcd := hide (decimal_any ((m : Int) + 1) wv (by omega) (by omega))
        have hdl := (Pl.decimal_tok ((m : Int) + 1) (by omega) (by omega)).2.2
        have happ0 : ByteArray.mk #[105, 110, 32, 120, 32, 45, 50, 48, 48, 48, 48, 48, 32, 50, 48, 48, 48, 48, 48, 32, 111, 117, 116, 32, 116, 32, 116, 97, 98, 32, 120, 32] ++ ByteArray.mk (Pl.decimalOf ((m : Int) + 1)).toArray = ByteArray.mk (Pl.unwords (Pl.preWords (m + 1) [])).toArray := by
          rw [Pl.preWords_nil]; exact ByteArray.mk_append_mk [105, 110, 32, 120, 32, 45, 50, 48, 48, 48, 48, 48, 32, 50, 48, 48, 48, 48, 48, 32, 111, 117, 116, 32, 116, 32, 116, 97, 98, 32, 120, 32] (Pl.decimalOf ((m : Int) + 1))
        have HC : Hid (∀ j, j < 13 → wv.cell? ⟨w.heap.size, j, none⟩ = some (.int .i64 ((Pl.rawOf zs 13).getD j 0))) := fun j hj => by rw [cellsOf hblk]; exact rawCells_get zs 13 (by omega) j hj
        generalize hxe : Pl.knear n 100000 = x at *
        generalize hRe : Pl.rawOf zs 13 = R at *
        clear hwf hwf12 hwf0 hpk hm ht0 hblk hdone hxe hRe hh
        go_wp2_with fail
        refine (unhide hc12 _).mono ?_
        rintro e w' ⟨rfl, hw'⟩
        rw [hw']
        clear hw' w'
        go_wp2_with fail
        refine (unhide hcx _).mono ?_
        rintro e w' ⟨rfl, hw'⟩
        rw [hw']
        clear hw' w'
        go_wp2_with fail
        refine (unhide hc0 _).mono ?_
        rintro e w' ⟨rfl, hw'⟩
        rw [hw']
        clear hw' w'
        go_wp2_with fail
        refine (unhide hcd).mono ?_
        rintro e w2 ⟨rfl, hb2⟩
        have HB2 := hide hb2
        clear hc12 hcx hc0 hcd hb2 r12 r0
        go_wp2_with fail
        go_loopw [9, 11, 12, 13] (fun t rate s i wr => ∃ k : Nat, k ≤ m + 1 ∧ i = .int .i64 k ∧ t = .int .i64 (Pl.thr R (min k m)) ∧ rate = .int .i64 (Pl.rateOf x (Pl.bandsN R k) 0) ∧ s = .string ⟨(Pl.unwords (Pl.preWords (m + 1) (Pl.bandsN R k))).toArray⟩ ∧ Hid (Below wv.heap.size wv wr)) (fun _ _ _ i _ => m + 1 - (intOf i).toNat)
        case atStart => exact ⟨0, by omega, rfl, by simp, rfl, rfl, unhide HB2⟩
        case round =>
          obtain ⟨k, hk, rfl, rfl, rfl, rfl, hb⟩ := hrel
          clear HB2
          by_cases hkm : k ≤ m
          · have hmin : min k m = k := by omega
            rw [hmin]
            clear hmin
            have ht := Pl.thr_bd R k
            have hrb := Pl.rt_bd R k
            have hcell := cell_kept hb.out (HC.out (2 * k + 1) (by omega))
            have hnr := hide (fun w => knear_any (R.getD (2 * k + 1) 0) 1000 w (by omega) (by omega))
            rw [show Pl.knear (R.getD (2 * k + 1) 0) 1000 = Pl.rt R k from rfl] at hnr
            have hdt := (Pl.decimal_tok (Pl.thr R k) (by omega) (by omega)).2.2
            have hdr := (Pl.decimal_tok (Pl.rt R k) (by omega) (by omega)).2.2
            have hSl := Pl.preWords_len (m + 1) (Pl.bandsN R k) (by omega) (by rw [Pl.bandsN_len]; omega) (Pl.bandsN_rising R k (by omega))
            have hcd1 := hide (fun w => decimal_any (Pl.thr R k) w (by omega) (by omega))
            have hcd2 := hide (fun w => decimal_any (Pl.rt R k) w (by omega) (by omega))
            have happ := ByteArray.mk_append_mk
            have HS : Hid (Pl.unwords (Pl.preWords (m + 1) (Pl.bandsN R (k + 1))) = Pl.unwords (Pl.preWords (m + 1) (Pl.bandsN R k)) ++ (32 :: Pl.decimalOf (Pl.thr R k)) ++ (32 :: Pl.decimalOf (Pl.rt R k))) := by rw [Pl.bandsN_succ]; exact Pl.preWords_snoc _ _ _
            have HR : Hid (Pl.rateOf x (Pl.bandsN R (k + 1)) 0 = if Pl.thr R k ≤ x then Pl.rt R k else Pl.rateOf x (Pl.bandsN R k) 0) := by rw [Pl.bandsN_succ]; exact Pl.rateOf_snoc _ _ _ _
            have hcell2 := cell_kept hb.out (HC.out (2 * k + 2) (by omega))
            have hf2 := HF.out (2 * k + 2)
            have hpk2 := hide (fun w => kpick_any (R.getD (2 * k + 2) 0) 20000 w hf2.1 hf2.2 (by omega) (by omega))
            have hpb := Pl.kpick_bd (R.getD (2 * k + 2) 0) 20000 (by omega)
            have HT : Hid (Pl.thr R (k + 1) = Pl.thr R k + 1 + Pl.kpick (R.getD (2 * k + 2) 0) 20000) := rfl
            clear hf2
            generalize Pl.decimalOf (Pl.thr R k) = d1 at *
            generalize Pl.decimalOf (Pl.rt R k) = d2 at *
            generalize Pl.unwords (Pl.preWords (m + 1) (Pl.bandsN R k)) = S at *
            generalize Pl.rateOf x (Pl.bandsN R k) 0 = rr at *
            generalize Pl.kpick (R.getD (2 * k + 2) 0) 20000 = pp at *
            generalize R.getD (2 * k + 2) 0 = z2 at *
            generalize R.getD (2 * k + 1) 0 = z1 at *
            generalize hth : Pl.thr R k = th at *
            generalize hrt : Pl.rt R k = rk at *
            have HE : Hid (Pl.thr R k = th) := hth
            clear hth hrt
            have hres : ∀ w', Below wr.heap.size wr w' → Hid (Below wv.heap.size wv w') := fun w' h => hb.out.trans (h.mono hb.out.size)
            have hres' := hide hres
            clear hres
            by_cases htx : th ≤ x
            · have HR' : Hid (Pl.rateOf x (Pl.bandsN R (k + 1)) 0 = rk) := by have := HR.out; rw [if_pos htx] at this; exact this
              by_cases hlm2 : k < m
              · go_wp2_with fail
                refine (unhide hnr _).mono ?_
                rintro e w' ⟨rfl, hw'⟩
                rw [hw']
                clear hw' w'
                go_wp2_with fail
                refine (unhide hcd1 _).mono ?_
                rintro e w3 ⟨rfl, hb3⟩
                go_wp2_with fail
                refine (unhide hcd2 _).mono ?_
                rintro e w4 ⟨rfl, hb4⟩
                have hb34 : Below wr.heap.size wr w4 := hb3.trans (hb4.mono hb3.size)
                have hcell4 := cell_kept hb34 hcell2
                have H4 := hide (unhide hres' w4 hb34)
                clear hb3 hb4 hb34 hcell hcell2 hres' hcd1 hcd2 hnr
                go_wp2_with fail
                refine (unhide hpk2 _).mono ?_
                rintro e w' ⟨rfl, hw'⟩
                rw [hw']
                clear hw' w'
                go_wp2_with fail
                go_roundw
                case rel => exact ⟨k + 1, by omega, by go_num, by rw [show min (k + 1) m = k + 1 by omega, HT.out], by rw [HR'.out], by rw [HS.out]; simp, unhide H4⟩
                case measure => simp [intOf]; omega
              · go_wp2_with fail
                refine (unhide hnr _).mono ?_
                rintro e w' ⟨rfl, hw'⟩
                rw [hw']
                clear hw' w'
                go_wp2_with fail
                refine (unhide hcd1 _).mono ?_
                rintro e w3 ⟨rfl, hb3⟩
                go_wp2_with fail
                refine (unhide hcd2 _).mono ?_
                rintro e w4 ⟨rfl, hb4⟩
                have hb34 : Below wr.heap.size wr w4 := hb3.trans (hb4.mono hb3.size)
                have H4 := hide (unhide hres' w4 hb34)
                clear hb3 hb4 hb34 hcell hcell2 hres' hcd1 hcd2 hnr hpk2
                go_wp2_with fail
                go_roundw
                case rel => exact ⟨k + 1, by omega, by go_num, by rw [show min (k + 1) m = k by omega, HE.out], by rw [HR'.out], by rw [HS.out]; simp, unhide H4⟩
                case measure => simp [intOf]; omega
            · have HR' : Hid (Pl.rateOf x (Pl.bandsN R (k + 1)) 0 = rr) := by have := HR.out; rw [if_neg htx] at this; exact this
              by_cases hlm2 : k < m
              · go_wp2_with fail
                refine (unhide hnr _).mono ?_
                rintro e w' ⟨rfl, hw'⟩
                rw [hw']
                clear hw' w'
                go_wp2_with fail
                refine (unhide hcd1 _).mono ?_
                rintro e w3 ⟨rfl, hb3⟩
                go_wp2_with fail
                refine (unhide hcd2 _).mono ?_
                rintro e w4 ⟨rfl, hb4⟩
                have hb34 : Below wr.heap.size wr w4 := hb3.trans (hb4.mono hb3.size)
                have hcell4 := cell_kept hb34 hcell2
                have H4 := hide (unhide hres' w4 hb34)
                clear hb3 hb4 hb34 hcell hcell2 hres' hcd1 hcd2 hnr
                go_wp2_with fail
                refine (unhide hpk2 _).mono ?_
                rintro e w' ⟨rfl, hw'⟩
                rw [hw']
                clear hw' w'
                go_wp2_with fail
                go_roundw
                case rel => exact ⟨k + 1, by omega, by go_num, by rw [show min (k + 1) m = k + 1 by omega, HT.out], by rw [HR'.out], by rw [HS.out]; simp, unhide H4⟩
                case measure => simp [intOf]; omega
              · go_wp2_with fail
                refine (unhide hnr _).mono ?_
                rintro e w' ⟨rfl, hw'⟩
                rw [hw']
                clear hw' w'
                go_wp2_with fail
                refine (unhide hcd1 _).mono ?_
                rintro e w3 ⟨rfl, hb3⟩
                go_wp2_with fail
                refine (unhide hcd2 _).mono ?_
                rintro e w4 ⟨rfl, hb4⟩
                have hb34 : Below wr.heap.size wr w4 := hb3.trans (hb4.mono hb3.size)
                have H4 := hide (unhide hres' w4 hb34)
                clear hb3 hb4 hb34 hcell hcell2 hres' hcd1 hcd2 hnr hpk2
                go_wp2_with fail
                go_roundw
                case rel => exact ⟨k + 1, by omega, by go_num, by rw [show min (k + 1) m = k by omega, HE.out], by rw [HR'.out], by rw [HS.out]; simp, unhide H4⟩
                case measure => simp [intOf]; omega
          · obtain rfl : k = m + 1 := by omega
            have hsm := Pl.bandsN_small R (m + 1) (by omega)
            have hri := Pl.bandsN_rising R (m + 1) (by omega)
            have hln := Pl.bandsN_len R (m + 1)
            have hbt := Pl.bandText_len (Pl.bandsN R (m + 1)) (by omega) hri
            have ht0 := Pl.thr_bd R 0
            have hrun := fun y (h1 : -200000 ≤ y) (h2 : y ≤ 200000) => Pl.run_band (Pl.bandsN R (m + 1)) (by omega) (by omega) hri hsm y h1 h2
            have hrb := Pl.read_band (Pl.bandsN R (m + 1)) (by omega) (by omega) hri
            have hnd : ∀ nd ∈ (Pl.textR (Pl.startR (Pl.bandText (Pl.bandsN R (m + 1))))).2.nodes, nd.bands.length ≤ 1000 := by
              rw [hrb]
              intro nd hnd
              simp only [List.mem_cons, List.not_mem_nil, or_false] at hnd
              rcases hnd with rfl | rfl
              · simp
              · simp only; omega
            have hcall := hide (fun (W : World) (y : Int) (g : Nat) (h1 : -200000 ≤ y) (h2 : y ≤ 200000) (hc : W.cell? ⟨g, 0, none⟩ = some (.int .i64 y)) => run_one (Pl.bandText (Pl.bandsN R (m + 1))) y (Pl.sumZ y (Pl.bandsN R (m + 1))) W g (by unfold maxLen; omega) (hrun y h1 h2) (fun _ => hnd) hc)
            have hst := Pl.sum_step x (Pl.bandsN R (m + 1)) _ hri
            have hfi := Pl.sumZ_first R (m + 1) (by omega)
            have hsb := Pl.sumZ_bd x (by omega) (by omega) (Pl.bandsN R (m + 1)) hsm
            have hrt := Pl.rateOf_bd x (Pl.bandsN R (m + 1)) 0 (by omega) (by omega) hsm
            rw [hln] at hsb
            rw [Pl.text_is]
            have HB : Hid (Below w.heap.size w wr) := HW.out.2.trans (hb.out.mono HW.out.2.size)
            have HX : Hid (Pl.sumZ (x + 1) (Pl.bandsN R (m + 1)) = Pl.sumZ x (Pl.bandsN R (m + 1)) + Pl.rateOf x (Pl.bandsN R (m + 1)) 0 ∧ Pl.sumZ (Pl.thr R 0) (Pl.bandsN R (m + 1)) = 0) := ⟨hst, hfi⟩
            generalize hte : Pl.bandText (Pl.bandsN R (m + 1)) = T at *
            clear hsm hri hln hbt hrun hrb hnd hst hfi hb hte HC HF HW HL HZ happ0 hdl
            generalize Pl.rateOf x (Pl.bandsN R (m + 1)) 0 = rr at *
            go_wp2_with fail
            refine (unhide hcall _ x _ (by omega) (by omega) (by simp)).mono ?_
            rintro e w5 ⟨g5, c5, rfl, hc5, hb5⟩
            go_wp2_with fail
            refine (unhide hcall _ (x + 1) _ (by omega) (by omega) (by simp)).mono ?_
            rintro e w6 ⟨g6, c6, rfl, hc6, hb6⟩
            go_wp2_with fail
            refine (unhide hcall _ (Pl.thr R 0) _ (by omega) (by omega) (by simp)).mono ?_
            rintro e w7 ⟨g7, c7, rfl, hc7, hb7⟩
            rw [HX.out.1] at hc6
            rw [HX.out.2] at hc7
            have hb56 : Below w5.heap.size w5 w6 := ((Below.refl _ w5).alloc (Nat.le_refl _) (.cells #[.int .i64 (x + 1)] 3)).trans (hb6.mono (by simp))
            have hb67 : Below w6.heap.size w6 w7 := ((Below.refl _ w6).alloc (Nat.le_refl _) (.cells #[.int .i64 (Pl.thr R 0)] 3)).trans (hb7.mono (by simp))
            have d6 := cell_kept hb67 hc6
            have d5 := cell_kept hb67 (cell_kept hb56 hc5)
            have hbr5 : Below wr.heap.size wr w5 := ((Below.refl _ wr).alloc (Nat.le_refl _) (.cells #[.int .i64 x] 3)).trans (hb5.mono (by simp))
            have HF : Hid (Below w.heap.size w w7) := (HB.out.trans (hbr5.mono HB.out.size)).trans ((hb56.mono (Nat.le_trans HB.out.size hbr5.size)).trans (hb67.mono (Nat.le_trans (Nat.le_trans HB.out.size hbr5.size) hb56.size)))
            generalize Pl.sumZ x (Pl.bandsN R (m + 1)) = sa at *
            clear hc5 hc6 hb5 hb6 hb7 hb56 hb67 hbr5 hcall HX HB
            go_wp2_with fail
            go_quiet (fail)
            go_wp2_with fail
            go_ret
            exact ⟨ret_bool (by simp), below_drewN HF.out _⟩
    · have hdone := rawOf_all zs k (.inl (by omega)) hk
      have hblk : wr.heap[w.heap.size]? = some (.cells (rawCells zs 13) 29 (0, 0)) := by have := hh.out.1; unfold rawCells at this ⊢; rw [hdone] at this; exact this
      obtain ⟨wv, hwv⟩ : ∃ wv : World, wv = wr := ⟨wr, rfl⟩
      subst hwv
      have HW : Hid (wv.heap[w.heap.size]? = some (.cells (rawCells zs 13) 29 (0, 0)) ∧ Below w.heap.size w wv) := ⟨hblk, hh.out.2⟩
      have r12 : wv.cell? ⟨w.heap.size, 12, none⟩ = some (.int .i64 ((Pl.rawOf zs 13).getD 12 0)) := by rw [cellsOf hblk]; exact rawCells_get zs 13 (by omega) 12 (by omega)
      have r0 : wv.cell? ⟨w.heap.size, 0, none⟩ = some (.int .i64 ((Pl.rawOf zs 13).getD 0 0)) := by rw [cellsOf hblk]; exact rawCells_get zs 13 (by omega) 0 (by omega)
      have hwf := Pl.rawOf_wf zs 13 (unhide HZ)
      have HF := hide hwf
      have hwf12 := hwf 12
      have hwf0 := hwf 0
      have hpk := Pl.kpick_bd ((Pl.rawOf zs 13).getD 12 0) 6 (by omega)
      obtain ⟨m, hm⟩ := Int.eq_ofNat_of_zero_le hpk.1
      have hm5 : m ≤ 5 := by omega
      have hx := Pl.knear_bd n 100000 (by omega)
      have ht0 : Pl.knear ((Pl.rawOf zs 13).getD 0 0) 50000 = Pl.thr (Pl.rawOf zs 13) 0 := rfl
      have hc12 := hide (fun w => kpick_any ((Pl.rawOf zs 13).getD 12 0) 6 w hwf12.1 hwf12.2 (by omega) (by omega))
      rw [hm] at hc12
      have hcx := hide (fun w => knear_any n 100000 w (by omega) (by omega))
      have hc0 := hide (fun w => knear_any ((Pl.rawOf zs 13).getD 0 0) 50000 w (by omega) (by omega))
      rw [ht0] at hc0
      have hcd := hide (decimal_any ((m : Int) + 1) wv (by omega) (by omega))
      have hdl := (Pl.decimal_tok ((m : Int) + 1) (by omega) (by omega)).2.2
      have happ0 : ByteArray.mk #[105, 110, 32, 120, 32, 45, 50, 48, 48, 48, 48, 48, 32, 50, 48, 48, 48, 48, 48, 32, 111, 117, 116, 32, 116, 32, 116, 97, 98, 32, 120, 32] ++ ByteArray.mk (Pl.decimalOf ((m : Int) + 1)).toArray = ByteArray.mk (Pl.unwords (Pl.preWords (m + 1) [])).toArray := by
        rw [Pl.preWords_nil]; exact ByteArray.mk_append_mk [105, 110, 32, 120, 32, 45, 50, 48, 48, 48, 48, 48, 32, 50, 48, 48, 48, 48, 48, 32, 111, 117, 116, 32, 116, 32, 116, 97, 98, 32, 120, 32] (Pl.decimalOf ((m : Int) + 1))
      have HC : Hid (∀ j, j < 13 → wv.cell? ⟨w.heap.size, j, none⟩ = some (.int .i64 ((Pl.rawOf zs 13).getD j 0))) := fun j hj => by rw [cellsOf hblk]; exact rawCells_get zs 13 (by omega) j hj
      generalize hxe : Pl.knear n 100000 = x at *
      generalize hRe : Pl.rawOf zs 13 = R at *
      clear hwf hwf12 hwf0 hpk hm ht0 hblk hdone hxe hRe hh
      go_wp2_with fail
      refine (unhide hc12 _).mono ?_
      rintro e w' ⟨rfl, hw'⟩
      rw [hw']
      clear hw' w'
      go_wp2_with fail
      refine (unhide hcx _).mono ?_
      rintro e w' ⟨rfl, hw'⟩
      rw [hw']
      clear hw' w'
      go_wp2_with fail
      refine (unhide hc0 _).mono ?_
      rintro e w' ⟨rfl, hw'⟩
      rw [hw']
      clear hw' w'
      go_wp2_with fail
      refine (unhide hcd).mono ?_
      rintro e w2 ⟨rfl, hb2⟩
      have HB2 := hide hb2
      clear hc12 hcx hc0 hcd hb2 r12 r0
      go_wp2_with fail
      go_loopw [9, 11, 12, 13] (fun t rate s i wr => ∃ k : Nat, k ≤ m + 1 ∧ i = .int .i64 k ∧ t = .int .i64 (Pl.thr R (min k m)) ∧ rate = .int .i64 (Pl.rateOf x (Pl.bandsN R k) 0) ∧ s = .string ⟨(Pl.unwords (Pl.preWords (m + 1) (Pl.bandsN R k))).toArray⟩ ∧ Hid (Below wv.heap.size wv wr)) (fun _ _ _ i _ => m + 1 - (intOf i).toNat)
      case atStart => exact ⟨0, by omega, rfl, by simp, rfl, rfl, unhide HB2⟩
      case round =>
        obtain ⟨k, hk, rfl, rfl, rfl, rfl, hb⟩ := hrel
        clear HB2
        by_cases hkm : k ≤ m
        · have hmin : min k m = k := by omega
          rw [hmin]
          clear hmin
          have ht := Pl.thr_bd R k
          have hrb := Pl.rt_bd R k
          have hcell := cell_kept hb.out (HC.out (2 * k + 1) (by omega))
          have hnr := hide (fun w => knear_any (R.getD (2 * k + 1) 0) 1000 w (by omega) (by omega))
          rw [show Pl.knear (R.getD (2 * k + 1) 0) 1000 = Pl.rt R k from rfl] at hnr
          have hdt := (Pl.decimal_tok (Pl.thr R k) (by omega) (by omega)).2.2
          have hdr := (Pl.decimal_tok (Pl.rt R k) (by omega) (by omega)).2.2
          have hSl := Pl.preWords_len (m + 1) (Pl.bandsN R k) (by omega) (by rw [Pl.bandsN_len]; omega) (Pl.bandsN_rising R k (by omega))
          have hcd1 := hide (fun w => decimal_any (Pl.thr R k) w (by omega) (by omega))
          have hcd2 := hide (fun w => decimal_any (Pl.rt R k) w (by omega) (by omega))
          have happ := ByteArray.mk_append_mk
          have HS : Hid (Pl.unwords (Pl.preWords (m + 1) (Pl.bandsN R (k + 1))) = Pl.unwords (Pl.preWords (m + 1) (Pl.bandsN R k)) ++ (32 :: Pl.decimalOf (Pl.thr R k)) ++ (32 :: Pl.decimalOf (Pl.rt R k))) := by rw [Pl.bandsN_succ]; exact Pl.preWords_snoc _ _ _
          have HR : Hid (Pl.rateOf x (Pl.bandsN R (k + 1)) 0 = if Pl.thr R k ≤ x then Pl.rt R k else Pl.rateOf x (Pl.bandsN R k) 0) := by rw [Pl.bandsN_succ]; exact Pl.rateOf_snoc _ _ _ _
          have hcell2 := cell_kept hb.out (HC.out (2 * k + 2) (by omega))
          have hf2 := HF.out (2 * k + 2)
          have hpk2 := hide (fun w => kpick_any (R.getD (2 * k + 2) 0) 20000 w hf2.1 hf2.2 (by omega) (by omega))
          have hpb := Pl.kpick_bd (R.getD (2 * k + 2) 0) 20000 (by omega)
          have HT : Hid (Pl.thr R (k + 1) = Pl.thr R k + 1 + Pl.kpick (R.getD (2 * k + 2) 0) 20000) := rfl
          clear hf2
          generalize Pl.decimalOf (Pl.thr R k) = d1 at *
          generalize Pl.decimalOf (Pl.rt R k) = d2 at *
          generalize Pl.unwords (Pl.preWords (m + 1) (Pl.bandsN R k)) = S at *
          generalize Pl.rateOf x (Pl.bandsN R k) 0 = rr at *
          generalize Pl.kpick (R.getD (2 * k + 2) 0) 20000 = pp at *
          generalize R.getD (2 * k + 2) 0 = z2 at *
          generalize R.getD (2 * k + 1) 0 = z1 at *
          generalize hth : Pl.thr R k = th at *
          generalize hrt : Pl.rt R k = rk at *
          have HE : Hid (Pl.thr R k = th) := hth
          clear hth hrt
          have hres : ∀ w', Below wr.heap.size wr w' → Hid (Below wv.heap.size wv w') := fun w' h => hb.out.trans (h.mono hb.out.size)
          have hres' := hide hres
          clear hres
          by_cases htx : th ≤ x
          · have HR' : Hid (Pl.rateOf x (Pl.bandsN R (k + 1)) 0 = rk) := by have := HR.out; rw [if_pos htx] at this; exact this
            by_cases hlm2 : k < m
            · go_wp2_with fail
              refine (unhide hnr _).mono ?_
              rintro e w' ⟨rfl, hw'⟩
              rw [hw']
              clear hw' w'
              go_wp2_with fail
              refine (unhide hcd1 _).mono ?_
              rintro e w3 ⟨rfl, hb3⟩
              go_wp2_with fail
              refine (unhide hcd2 _).mono ?_
              rintro e w4 ⟨rfl, hb4⟩
              have hb34 : Below wr.heap.size wr w4 := hb3.trans (hb4.mono hb3.size)
              have hcell4 := cell_kept hb34 hcell2
              have H4 := hide (unhide hres' w4 hb34)
              clear hb3 hb4 hb34 hcell hcell2 hres' hcd1 hcd2 hnr
              go_wp2_with fail
              refine (unhide hpk2 _).mono ?_
              rintro e w' ⟨rfl, hw'⟩
              rw [hw']
              clear hw' w'
              go_wp2_with fail
              go_roundw
              case rel => exact ⟨k + 1, by omega, by go_num, by rw [show min (k + 1) m = k + 1 by omega, HT.out], by rw [HR'.out], by rw [HS.out]; simp, unhide H4⟩
              case measure => simp [intOf]; omega
            · go_wp2_with fail
              refine (unhide hnr _).mono ?_
              rintro e w' ⟨rfl, hw'⟩
              rw [hw']
              clear hw' w'
              go_wp2_with fail
              refine (unhide hcd1 _).mono ?_
              rintro e w3 ⟨rfl, hb3⟩
              go_wp2_with fail
              refine (unhide hcd2 _).mono ?_
              rintro e w4 ⟨rfl, hb4⟩
              have hb34 : Below wr.heap.size wr w4 := hb3.trans (hb4.mono hb3.size)
              have H4 := hide (unhide hres' w4 hb34)
              clear hb3 hb4 hb34 hcell hcell2 hres' hcd1 hcd2 hnr hpk2
              go_wp2_with fail
              go_roundw
              case rel => exact ⟨k + 1, by omega, by go_num, by rw [show min (k + 1) m = k by omega, HE.out], by rw [HR'.out], by rw [HS.out]; simp, unhide H4⟩
              case measure => simp [intOf]; omega
          · have HR' : Hid (Pl.rateOf x (Pl.bandsN R (k + 1)) 0 = rr) := by have := HR.out; rw [if_neg htx] at this; exact this
            by_cases hlm2 : k < m
            · go_wp2_with fail
              refine (unhide hnr _).mono ?_
              rintro e w' ⟨rfl, hw'⟩
              rw [hw']
              clear hw' w'
              go_wp2_with fail
              refine (unhide hcd1 _).mono ?_
              rintro e w3 ⟨rfl, hb3⟩
              go_wp2_with fail
              refine (unhide hcd2 _).mono ?_
              rintro e w4 ⟨rfl, hb4⟩
              have hb34 : Below wr.heap.size wr w4 := hb3.trans (hb4.mono hb3.size)
              have hcell4 := cell_kept hb34 hcell2
              have H4 := hide (unhide hres' w4 hb34)
              clear hb3 hb4 hb34 hcell hcell2 hres' hcd1 hcd2 hnr
              go_wp2_with fail
              refine (unhide hpk2 _).mono ?_
              rintro e w' ⟨rfl, hw'⟩
              rw [hw']
              clear hw' w'
              go_wp2_with fail
              go_roundw
              case rel => exact ⟨k + 1, by omega, by go_num, by rw [show min (k + 1) m = k + 1 by omega, HT.out], by rw [HR'.out], by rw [HS.out]; simp, unhide H4⟩
              case measure => simp [intOf]; omega
            · go_wp2_with fail
              refine (unhide hnr _).mono ?_
              rintro e w' ⟨rfl, hw'⟩
              rw [hw']
              clear hw' w'
              go_wp2_with fail
              refine (unhide hcd1 _).mono ?_
              rintro e w3 ⟨rfl, hb3⟩
              go_wp2_with fail
              refine (unhide hcd2 _).mono ?_
              rintro e w4 ⟨rfl, hb4⟩
              have hb34 : Below wr.heap.size wr w4 := hb3.trans (hb4.mono hb3.size)
              have H4 := hide (unhide hres' w4 hb34)
              clear hb3 hb4 hb34 hcell hcell2 hres' hcd1 hcd2 hnr hpk2
              go_wp2_with fail
              go_roundw
              case rel => exact ⟨k + 1, by omega, by go_num, by rw [show min (k + 1) m = k by omega, HE.out], by rw [HR'.out], by rw [HS.out]; simp, unhide H4⟩
              case measure => simp [intOf]; omega
        · obtain rfl : k = m + 1 := by omega
          have hsm := Pl.bandsN_small R (m + 1) (by omega)
          have hri := Pl.bandsN_rising R (m + 1) (by omega)
          have hln := Pl.bandsN_len R (m + 1)
          have hbt := Pl.bandText_len (Pl.bandsN R (m + 1)) (by omega) hri
          have ht0 := Pl.thr_bd R 0
          have hrun := fun y (h1 : -200000 ≤ y) (h2 : y ≤ 200000) => Pl.run_band (Pl.bandsN R (m + 1)) (by omega) (by omega) hri hsm y h1 h2
          have hrb := Pl.read_band (Pl.bandsN R (m + 1)) (by omega) (by omega) hri
          have hnd : ∀ nd ∈ (Pl.textR (Pl.startR (Pl.bandText (Pl.bandsN R (m + 1))))).2.nodes, nd.bands.length ≤ 1000 := by
            rw [hrb]
            intro nd hnd
            simp only [List.mem_cons, List.not_mem_nil, or_false] at hnd
            rcases hnd with rfl | rfl
            · simp
            · simp only; omega
          have hcall := hide (fun (W : World) (y : Int) (g : Nat) (h1 : -200000 ≤ y) (h2 : y ≤ 200000) (hc : W.cell? ⟨g, 0, none⟩ = some (.int .i64 y)) => run_one (Pl.bandText (Pl.bandsN R (m + 1))) y (Pl.sumZ y (Pl.bandsN R (m + 1))) W g (by unfold maxLen; omega) (hrun y h1 h2) (fun _ => hnd) hc)
          have hst := Pl.sum_step x (Pl.bandsN R (m + 1)) _ hri
          have hfi := Pl.sumZ_first R (m + 1) (by omega)
          have hsb := Pl.sumZ_bd x (by omega) (by omega) (Pl.bandsN R (m + 1)) hsm
          have hrt := Pl.rateOf_bd x (Pl.bandsN R (m + 1)) 0 (by omega) (by omega) hsm
          rw [hln] at hsb
          rw [Pl.text_is]
          have HB : Hid (Below w.heap.size w wr) := HW.out.2.trans (hb.out.mono HW.out.2.size)
          have HX : Hid (Pl.sumZ (x + 1) (Pl.bandsN R (m + 1)) = Pl.sumZ x (Pl.bandsN R (m + 1)) + Pl.rateOf x (Pl.bandsN R (m + 1)) 0 ∧ Pl.sumZ (Pl.thr R 0) (Pl.bandsN R (m + 1)) = 0) := ⟨hst, hfi⟩
          generalize hte : Pl.bandText (Pl.bandsN R (m + 1)) = T at *
          clear hsm hri hln hbt hrun hrb hnd hst hfi hb hte HC HF HW HL HZ happ0 hdl
          generalize Pl.rateOf x (Pl.bandsN R (m + 1)) 0 = rr at *
          go_wp2_with fail
          refine (unhide hcall _ x _ (by omega) (by omega) (by simp)).mono ?_
          rintro e w5 ⟨g5, c5, rfl, hc5, hb5⟩
          go_wp2_with fail
          refine (unhide hcall _ (x + 1) _ (by omega) (by omega) (by simp)).mono ?_
          rintro e w6 ⟨g6, c6, rfl, hc6, hb6⟩
          go_wp2_with fail
          refine (unhide hcall _ (Pl.thr R 0) _ (by omega) (by omega) (by simp)).mono ?_
          rintro e w7 ⟨g7, c7, rfl, hc7, hb7⟩
          rw [HX.out.1] at hc6
          rw [HX.out.2] at hc7
          have hb56 : Below w5.heap.size w5 w6 := ((Below.refl _ w5).alloc (Nat.le_refl _) (.cells #[.int .i64 (x + 1)] 3)).trans (hb6.mono (by simp))
          have hb67 : Below w6.heap.size w6 w7 := ((Below.refl _ w6).alloc (Nat.le_refl _) (.cells #[.int .i64 (Pl.thr R 0)] 3)).trans (hb7.mono (by simp))
          have d6 := cell_kept hb67 hc6
          have d5 := cell_kept hb67 (cell_kept hb56 hc5)
          have hbr5 : Below wr.heap.size wr w5 := ((Below.refl _ wr).alloc (Nat.le_refl _) (.cells #[.int .i64 x] 3)).trans (hb5.mono (by simp))
          have HF : Hid (Below w.heap.size w w7) := (HB.out.trans (hbr5.mono HB.out.size)).trans ((hb56.mono (Nat.le_trans HB.out.size hbr5.size)).trans (hb67.mono (Nat.le_trans (Nat.le_trans HB.out.size hbr5.size) hb56.size)))
          generalize Pl.sumZ x (Pl.bandsN R (m + 1)) = sa at *
          clear hc5 hc6 hb5 hb6 hb7 hb56 hb67 hbr5 hcall HX HB
          go_wp2_with fail
          go_quiet (fail)
          go_wp2_with fail
          go_ret
          exact ⟨ret_bool (by simp), below_drewN HF.out _⟩
end Go.Proofs.Ytfaljekgpnbmiaa
