/- Joined: Low3 Read2. -/
import Derived.Test.YtfaljekgpnbmiaaGreatL39
/-
  Contracts of package low's step, steps, out, outs and text.
-/
namespace Go.Proofs.YtfaljekgpnbmiaaGreat
open Go.RowKit

set_option maxRecDepth 100000 in
set_option maxHeartbeats 1000000 in
theorem lstep_any {B : Nat} {w : World} {b : Nat} {r : Pl.RdM} {s : Nat} (h : Rd B w b r) (ok : Pl.Ok s r) :
    Calls Tryz.prog 190 #[.pointer (some ⟨b, 0, none⟩)] w fun e w' => e = .returned (.bool (Pl.stepR r).1) ∧ Rd B w' b (Pl.stepR r).2 ∧ Below B w w' := by
  unfold Pl.stepR
  cases hn : r.newName with
  | none =>
    go_enter Tryz.func190, Tryz.ntmps190
    go_wp2_with fail
    refine (NewName_no h ok hn).mono ?_
    rintro e w1 ⟨rfl, hrw1, hbw1⟩
    have HH : Hid (Rd B w1 b r ∧ Below B w w1) := ⟨hrw1, hbw1⟩
    clear hrw1 hbw1 h
    go_wp2
    go_ret
    exact ⟨rfl, HH.out.1, HH.out.2⟩
  | some name =>
    have ok1 := ok.step (Pl.newName_some hn).1
    simp only
    cases ho : Pl.opOf r.skip.peek with
    | none =>
      go_enter Tryz.func190, Tryz.ntmps190
      go_wp2_with fail
      refine (NewName_yes h ok name hn).mono ?_
      rintro e w1 ⟨rfl, hrw1, hbw1⟩
      go_wp2_with fail
      refine (operation_no hrw1 ok1 ho).mono ?_
      rintro e w2 ⟨rfl, hrw2, hbw2⟩
      have HH : Hid (Rd B w2 b r.skip ∧ Below B w w2) := ⟨hrw2, (hbw1.trans hbw2)⟩
      clear hrw1 hbw1 hrw2 hbw2 h
      go_wp2
      go_ret
      exact ⟨rfl, HH.out.1, HH.out.2⟩
    | some op =>
      have ok2 := ok1.step (Pl.opOf_some ho)
      have hop := isOp_of ho
      simp only
      cases hf : Pl.resultLR op r.skip.skip with
      | mk o r1 =>
      cases o with
      | none =>
        go_enter Tryz.func190, Tryz.ntmps190
        go_wp2_with fail
        refine (NewName_yes h ok name hn).mono ?_
        rintro e w1 ⟨rfl, hrw1, hbw1⟩
        go_wp2_with fail
        refine (operation_yes hrw1 ok1 op ho).mono ?_
        rintro e w2 ⟨rfl, hrw2, hbw2⟩
        go_wp2_with fail
        refine (lresult_no hrw2 ok2 op hop hf).mono ?_
        rintro e w3 ⟨rfl, hrw3, hbw3⟩
        have HH : Hid (Rd B w3 b r1 ∧ Below B w w3) := ⟨hrw3, ((hbw1.trans hbw2).trans hbw3)⟩
        clear hrw1 hbw1 hrw2 hbw2 hrw3 hbw3 h
        go_wp2
        go_ret
        exact ⟨rfl, HH.out.1, HH.out.2⟩
      | some n =>
        have hk := Pl.resultLR_keeps op r.skip.skip
        rw [hf] at hk
        have ok3 := hk.ok _ ok2
        have hF := fun w => IsFlag_any op w hop
        simp only
        cases hfl : Pl.isFlagB op with
        | false =>
          have hkd : Pl.kindOf op = 0 := by unfold Pl.kindOf; rw [hfl]; rfl
          rw [hkd]
          rw [hfl] at hF
          go_enter Tryz.func190, Tryz.ntmps190
          go_wp2_with fail
          refine (NewName_yes h ok name hn).mono ?_
          rintro e w1 ⟨rfl, hrw1, hbw1⟩
          go_wp2_with fail
          refine (operation_yes hrw1 ok1 op ho).mono ?_
          rintro e w2 ⟨rfl, hrw2, hbw2⟩
          go_wp2_with fail
          refine (lresult_yes hrw2 ok2 op hop hf).mono ?_
          rintro e w3 ⟨rfl, hrw3, hbw3⟩
          go_wp2_with fail
          refine (hF _).mono ?_
          rintro e w4 ⟨rfl, hw4⟩
          subst hw4
          go_wp2_with fail
          refine (LearnValue_any hrw3 name n (sizes ok3).2.1).mono ?_
          rintro e w5 ⟨rfl, hrw5, hbw5⟩
          have HH : Hid (Rd B w5 b (r1.addEnt name 0 n) ∧ Below B w w5) := ⟨hrw5, (((hbw1.trans hbw2).trans hbw3).trans hbw5)⟩
          clear hrw1 hbw1 hrw2 hbw2 hrw3 hbw3 hrw5 hbw5 h
          go_wp2
          go_ret
          exact ⟨rfl, HH.out.1, HH.out.2⟩
        | true =>
          have hkd : Pl.kindOf op = 1 := by unfold Pl.kindOf; rw [hfl]; rfl
          rw [hkd]
          rw [hfl] at hF
          go_enter Tryz.func190, Tryz.ntmps190
          go_wp2_with fail
          refine (NewName_yes h ok name hn).mono ?_
          rintro e w1 ⟨rfl, hrw1, hbw1⟩
          go_wp2_with fail
          refine (operation_yes hrw1 ok1 op ho).mono ?_
          rintro e w2 ⟨rfl, hrw2, hbw2⟩
          go_wp2_with fail
          refine (lresult_yes hrw2 ok2 op hop hf).mono ?_
          rintro e w3 ⟨rfl, hrw3, hbw3⟩
          go_wp2_with fail
          refine (hF _).mono ?_
          rintro e w4 ⟨rfl, hw4⟩
          subst hw4
          go_wp2_with fail
          refine (LearnFlag_any hrw3 name n (sizes ok3).2.1).mono ?_
          rintro e w5 ⟨rfl, hrw5, hbw5⟩
          have HH : Hid (Rd B w5 b (r1.addEnt name 1 n) ∧ Below B w w5) := ⟨hrw5, (((hbw1.trans hbw2).trans hbw3).trans hbw5)⟩
          clear hrw1 hbw1 hrw2 hbw2 hrw3 hbw3 hrw5 hbw5 h
          go_wp2
          go_ret
          exact ⟨rfl, HH.out.1, HH.out.2⟩

set_option maxRecDepth 100000 in
set_option maxHeartbeats 1000000 in
theorem lout_any {B : Nat} {w : World} {b : Nat} {r : Pl.RdM} {s : Nat} (h : Rd B w b r) (ok : Pl.Ok s r) :
    Calls Tryz.prog 191 #[.pointer (some ⟨b, 0, none⟩)] w fun e w' => e = .returned (.bool (Pl.outLR r).1) ∧ Rd B w' b (Pl.outLR r).2 ∧ Below B w w' := by
  unfold Pl.outLR
  cases hn : r.newName with
  | none =>
    go_enter Tryz.func191, Tryz.ntmps191
    go_wp2_with fail
    refine (NewName_no h ok hn).mono ?_
    rintro e w1 ⟨rfl, hrw1, hbw1⟩
    have HH : Hid (Rd B w1 b r ∧ Below B w w1) := ⟨hrw1, hbw1⟩
    clear hrw1 hbw1 h
    go_wp2
    go_ret
    exact ⟨rfl, HH.out.1, HH.out.2⟩
  | some name =>
    have ok1 := ok.step (Pl.newName_some hn).1
    simp only
    cases hf : r.skip.leaf with
    | mk o r1 =>
    cases o with
    | none =>
      go_enter Tryz.func191, Tryz.ntmps191
      go_wp2_with fail
      refine (NewName_yes h ok name hn).mono ?_
      rintro e w1 ⟨rfl, hrw1, hbw1⟩
      go_wp2_with fail
      refine (argC.no hrw1 ok1 (Nat.zero_le _) hf).mono ?_
      rintro e w2 ⟨rfl, hrw2, hbw2⟩
      have HH : Hid (Rd B w2 b r1 ∧ Below B w w2) := ⟨hrw2, (hbw1.trans hbw2)⟩
      clear hrw1 hbw1 hrw2 hbw2 h
      go_wp2
      go_ret
      exact ⟨rfl, HH.out.1, HH.out.2⟩
    | some n =>
      have ok2 := (keeps_of Pl.leaf_keeps hf).ok _ ok1
      go_enter Tryz.func191, Tryz.ntmps191
      go_wp2_with fail
      refine (NewName_yes h ok name hn).mono ?_
      rintro e w1 ⟨rfl, hrw1, hbw1⟩
      go_wp2_with fail
      refine (argC.yes hrw1 ok1 (Nat.zero_le _) hf).mono ?_
      rintro e w2 ⟨rfl, hrw2, hbw2⟩
      go_wp2_with fail
      refine (LearnOut_any hrw2 name n (sizes ok2).2.1 (sizes ok2).2.2.2).mono ?_
      rintro e w3 ⟨rfl, hrw3, hbw3⟩
      have HH : Hid (Rd B w3 b ((r1.addEnt name 2 n).addOut n) ∧ Below B w w3) := ⟨hrw3, ((hbw1.trans hbw2).trans hbw3)⟩
      clear hrw1 hbw1 hrw2 hbw2 hrw3 hbw3 h
      go_wp2
      go_ret
      exact ⟨rfl, HH.out.1, HH.out.2⟩

set_option maxRecDepth 100000 in
set_option maxHeartbeats 1000000 in
theorem lsteps_any {B : Nat} {w : World} {b : Nat} {r : Pl.RdM} (h : Rd B w b r) (ok : Pl.Ok 0 r) :
    Calls Tryz.prog 135 #[.pointer (some ⟨b, 0, none⟩)] w fun e w' => e = .returned (.bool (Pl.stepsR 80 r).1) ∧ Rd B w' b (Pl.stepsR 80 r).2 ∧ Below B w w' := by
  generalize hT : Pl.stepsR 80 r = T
  have hT' : Hid (Pl.stepsR 80 r = T) := hT
  have h' : Hid (Rd B w b r ∧ Pl.Ok 0 r) := ⟨h, ok⟩
  clear hT h ok
  go_enter Tryz.func135, Tryz.ntmps135
  go_wp2
  go_loopw [3] (fun i wr => ∃ (k : Nat) (rk : Pl.RdM), k ≤ 80 ∧ i = .int .i64 k ∧ Hid (Rd B wr b rk ∧ Pl.Ok 0 rk ∧ Below B w wr ∧ Pl.stepsR (80 - k) rk = T)) (fun i _ => 80 - (intOf i).toNat)
  case atStart => exact ⟨0, r, by omega, rfl, h'.out.1, h'.out.2, Below.refl _ _, hT'.out⟩
  case round =>
    obtain ⟨k, rk, hk, rfl, hh⟩ := hrel
    obtain ⟨hR, hok, hB, hs⟩ := hh.out
    have hs' : Hid (Pl.stepsR (80 - k) rk = T) := hs
    have hB' : Hid (Below B w wr) := hB
    clear hs hB hh hT' h'
    by_cases hlt : k < 80
    · by_cases hin : rk.peek = Pl.kSet
      · have hok1 := hok.step (by rw [hin]; decide)
        have hstep := hs'.out
        rw [show 80 - k = (79 - k) + 1 by omega, Pl.stepsR, if_pos hin] at hstep
        have hW := Word_yes hR hok.pos _ hin
        simp only [Pl.kSet] at hW
        cases hi : Pl.stepR rk.skip with
        | mk o r1 =>
        have hI := fun w1 (hr : Rd B w1 b rk.skip) => lstep_any hr hok1
        rw [hi] at hI hstep
        have hok2 := Pl.stepR_ok hok1
        rw [hi] at hok2
        cases o with
        | false =>
          have hTe : Hid (T = (false, r1)) := hstep.symm
          clear hstep hs' hin
          go_wp2_with fail
          refine hW.mono ?_
          rintro e w1 ⟨rfl, hr1, hb1⟩
          go_wp2_with fail
          refine (hI _ hr1).mono ?_
          rintro e w2 ⟨rfl, hr2, hb2⟩
          have HH : Hid (Rd B w2 b r1 ∧ Below B w w2) := ⟨hr2, (hB'.out.trans hb1).trans hb2⟩
          clear hr1 hb1 hr2 hb2 hR hW hI
          go_wp2_with fail
          go_ret
          rw [hTe.out]
          exact ⟨rfl, HH.out.1, HH.out.2⟩
        | true =>
          have hTe : Hid (Pl.stepsR (79 - k) r1 = T) := hstep
          clear hstep hs' hin
          go_wp2_with fail
          refine hW.mono ?_
          rintro e w1 ⟨rfl, hr1, hb1⟩
          go_wp2_with fail
          refine (hI _ hr1).mono ?_
          rintro e w2 ⟨rfl, hr2, hb2⟩
          have HH : Hid (Rd B w2 b r1 ∧ Pl.Ok 0 r1 ∧ Below B w w2 ∧ Pl.stepsR (80 - (k + 1)) r1 = T) := ⟨hr2, hok2.less (by omega), (hB'.out.trans hb1).trans hb2, by rw [show 80 - (k + 1) = 79 - k by omega]; exact hTe.out⟩
          clear hr1 hb1 hr2 hb2 hR hW hI
          go_wp2_with fail
          go_roundw
          case rel => exact ⟨k + 1, _, by omega, by go_num, HH⟩
          case measure => simp [intOf]; omega
      · have hTe : Hid (T = (true, rk)) := by
          have hstep := hs'.out
          rw [show 80 - k = (79 - k) + 1 by omega, Pl.stepsR, if_neg hin] at hstep; exact hstep.symm
        have hW := Word_no hR hok.pos _ hin
        simp only [Pl.kSet] at hW
        clear hs' hin
        go_wp2_with fail
        refine hW.mono ?_
        rintro e w1 ⟨rfl, hr1, hb1⟩
        have HH : Hid (Rd B w1 b rk ∧ Below B w w1) := ⟨hr1, hB'.out.trans hb1⟩
        clear hr1 hb1 hR hW
        go_wp2_with fail
        go_ret
        rw [hTe.out]
        exact ⟨rfl, HH.out.1, HH.out.2⟩
    · have hTe : Hid (T = (true, rk)) := by
        have hstep := hs'.out
        rw [show 80 - k = 0 by omega, Pl.stepsR] at hstep; exact hstep.symm
      have HH : Hid (Rd B wr b rk) := hR
      clear hs' hR
      go_wp2_with fail
      go_ret
      rw [hTe.out]
      exact ⟨rfl, HH.out, hB'.out⟩

set_option maxRecDepth 100000 in
set_option maxHeartbeats 2000000 in
theorem louts_any {B : Nat} {w : World} {b : Nat} {r : Pl.RdM} (h : Rd B w b r) (ok : Pl.Ok 0 r) :
    Calls Tryz.prog 136 #[.pointer (some ⟨b, 0, none⟩)] w fun e w' => e = .returned (.bool (Pl.outsLR 4 false r).1) ∧ Rd B w' b (Pl.outsLR 4 false r).2 ∧ Below B w w' := by
  generalize hT : Pl.outsLR 4 false r = T
  have hT' : Hid (Pl.outsLR 4 false r = T) := hT
  have h' : Hid (Rd B w b r ∧ Pl.Ok 0 r) := ⟨h, ok⟩
  clear hT h ok
  go_enter Tryz.func136, Tryz.ntmps136
  go_wp2
  go_loopw [3] (fun i wr => ∃ (k : Nat) (rk : Pl.RdM), k ≤ 4 ∧ i = .int .i64 k ∧ Hid (Rd B wr b rk ∧ Pl.Ok 0 rk ∧ Below B w wr ∧ Pl.outsLR (4 - k) (decide (0 < k)) rk = T)) (fun i _ => 4 - (intOf i).toNat)
  case atStart => exact ⟨0, r, by omega, rfl, h'.out.1, h'.out.2, Below.refl _ _, hT'.out⟩
  case round =>
    obtain ⟨k, rk, hk, rfl, hh⟩ := hrel
    obtain ⟨hR, hok, hB, hs⟩ := hh.out
    have hs' : Hid (Pl.outsLR (4 - k) (decide (0 < k)) rk = T) := hs
    have hB' : Hid (Below B w wr) := hB
    clear hs hB hh hT' h'
    by_cases hlt : k < 4
    · have hstep := hs'.out
      rw [show 4 - k = (3 - k) + 1 by omega, Pl.outsLR] at hstep
      have hrest : Hid (¬ (decide (0 < k) = true ∧ rk.toks.length ≤ rk.pos) → (if rk.peek = Pl.kOut then match Pl.outLR rk.skip with | (false, r1) => (false, r1) | (true, r1) => Pl.outsLR (3 - k) true r1 else (false, rk)) = T) := by
        intro hc; rw [if_neg hc] at hstep; exact hstep
      by_cases hend : 0 < k ∧ rk.toks.length ≤ rk.pos
      · have hTe : Hid (T = (true, rk)) := by rw [if_pos ⟨decide_eq_true hend.1, hend.2⟩] at hstep; exact hstep.symm
        have hA := AtEnd_at hR true (decide_eq_true hend.2)
        have h0 : 0 < k := hend.1
        clear hstep hs' hrest hend
        go_wp2_with fail
        refine hA.mono ?_
        rintro e w1 ⟨rfl, hr1, hb1⟩
        have HH : Hid (Rd B w1 b rk ∧ Below B w w1) := ⟨hr1, hB'.out.trans hb1⟩
        clear hr1 hb1 hR hA
        go_wp2_with fail
        go_ret
        rw [hTe.out]
        exact ⟨rfl, HH.out.1, HH.out.2⟩
      · have hnext := hrest.out (by intro hc; exact hend ⟨of_decide_eq_true hc.1, hc.2⟩)
        have hnext' : Hid ((if rk.peek = Pl.kOut then match Pl.outLR rk.skip with | (false, r1) => (false, r1) | (true, r1) => Pl.outsLR (3 - k) true r1 else (false, rk)) = T) := hnext
        clear hstep hs' hrest hnext
        have hcs : k = 0 ∨ 0 < k ∧ decide (rk.toks.length ≤ rk.pos) = false := by simp; omega
        clear hend
        rcases hcs with rfl | ⟨h0, hA0⟩
        · by_cases hin : rk.peek = Pl.kOut
          · have hok1 := hok.step (by rw [hin]; decide)
            have hW := fun w0 (hr : Rd B w0 b rk) => Word_yes hr hok.pos _ hin
            simp only [Pl.kOut] at hW
            cases hi : Pl.outLR rk.skip with
            | mk o r1 =>
            have hstep := hnext'.out
            have hI := fun w1 (hr : Rd B w1 b rk.skip) => lout_any hr hok1
            have hok2 := Pl.outLR_ok hok1
            rw [hi] at hI hok2
            rw [if_pos hin, hi] at hstep
            cases o with
            | false =>
              have hTe : Hid (T = (false, r1)) := hstep.symm
              clear hstep hnext' hin
              go_wp2_with fail
              refine (hW _ hR).mono ?_
              rintro e w1 ⟨rfl, hr1, hb1⟩
              go_wp2_with fail
              refine (hI _ hr1).mono ?_
              rintro e w2 ⟨rfl, hr2, hb2⟩
              have HH : Hid (Rd B w2 b r1 ∧ Below B w w2) := ⟨hr2, (hB'.out.trans hb1).trans hb2⟩
              clear hr1 hb1 hr2 hb2 hR hW hI
              go_wp2_with fail
              go_ret
              rw [hTe.out]
              exact ⟨rfl, HH.out.1, HH.out.2⟩
            | true =>
              have hTe : Hid (Pl.outsLR (3 - 0) true r1 = T) := hstep
              clear hstep hnext' hin
              go_wp2_with fail
              refine (hW _ hR).mono ?_
              rintro e w1 ⟨rfl, hr1, hb1⟩
              go_wp2_with fail
              refine (hI _ hr1).mono ?_
              rintro e w2 ⟨rfl, hr2, hb2⟩
              have HH : Hid (Rd B w2 b r1 ∧ Pl.Ok 0 r1 ∧ Below B w w2 ∧ Pl.outsLR (4 - (0 + 1)) (decide (0 < 0 + 1)) r1 = T) := ⟨hr2, hok2, (hB'.out.trans hb1).trans hb2, by rw [show 4 - (0 + 1) = 3 - 0 by omega, decide_eq_true (by omega : 0 < 0 + 1)]; exact hTe.out⟩
              clear hr1 hb1 hr2 hb2 hR hW hI
              go_wp2_with fail
              go_roundw
              case rel => exact ⟨0 + 1, _, by omega, by go_num, HH⟩
              case measure => simp [intOf]
          · have hTe : Hid (T = (false, rk)) := by have hstep := hnext'.out; rw [if_neg hin] at hstep; exact hstep.symm
            have hW := fun w0 (hr : Rd B w0 b rk) => Word_no hr hok.pos _ hin
            simp only [Pl.kOut] at hW
            clear hnext' hin
            go_wp2_with fail
            refine (hW _ hR).mono ?_
            rintro e w1 ⟨rfl, hr1, hb1⟩
            have HH : Hid (Rd B w1 b rk ∧ Below B w w1) := ⟨hr1, hB'.out.trans hb1⟩
            clear hr1 hb1 hR hW
            go_wp2_with fail
            go_ret
            rw [hTe.out]
            exact ⟨rfl, HH.out.1, HH.out.2⟩
        · have hA := AtEnd_at hR false hA0
          by_cases hin : rk.peek = Pl.kOut
          · have hok1 := hok.step (by rw [hin]; decide)
            have hW := fun w0 (hr : Rd B w0 b rk) => Word_yes hr hok.pos _ hin
            simp only [Pl.kOut] at hW
            cases hi : Pl.outLR rk.skip with
            | mk o r1 =>
            have hstep := hnext'.out
            have hI := fun w1 (hr : Rd B w1 b rk.skip) => lout_any hr hok1
            have hok2 := Pl.outLR_ok hok1
            rw [hi] at hI hok2
            rw [if_pos hin, hi] at hstep
            cases o with
            | false =>
              have hTe : Hid (T = (false, r1)) := hstep.symm
              clear hstep hnext' hin
              go_wp2_with fail
              refine hA.mono ?_
              rintro e w0 ⟨rfl, hr0, hb0⟩
              go_wp2_with fail
              refine (hW _ hr0).mono ?_
              rintro e w1 ⟨rfl, hr1, hb1⟩
              go_wp2_with fail
              refine (hI _ hr1).mono ?_
              rintro e w2 ⟨rfl, hr2, hb2⟩
              have HH : Hid (Rd B w2 b r1 ∧ Below B w w2) := ⟨hr2, ((hB'.out.trans hb0).trans hb1).trans hb2⟩
              clear hr1 hb1 hr2 hb2 hR hW hI hr0 hb0 hA
              go_wp2_with fail
              go_ret
              rw [hTe.out]
              exact ⟨rfl, HH.out.1, HH.out.2⟩
            | true =>
              have hTe : Hid (Pl.outsLR (3 - k) true r1 = T) := hstep
              clear hstep hnext' hin
              go_wp2_with fail
              refine hA.mono ?_
              rintro e w0 ⟨rfl, hr0, hb0⟩
              go_wp2_with fail
              refine (hW _ hr0).mono ?_
              rintro e w1 ⟨rfl, hr1, hb1⟩
              go_wp2_with fail
              refine (hI _ hr1).mono ?_
              rintro e w2 ⟨rfl, hr2, hb2⟩
              have HH : Hid (Rd B w2 b r1 ∧ Pl.Ok 0 r1 ∧ Below B w w2 ∧ Pl.outsLR (4 - (k + 1)) (decide (0 < k + 1)) r1 = T) := ⟨hr2, hok2, ((hB'.out.trans hb0).trans hb1).trans hb2, by rw [show 4 - (k + 1) = 3 - k by omega, decide_eq_true (by omega : 0 < k + 1)]; exact hTe.out⟩
              clear hr1 hb1 hr2 hb2 hR hW hI hr0 hb0 hA
              go_wp2_with fail
              go_roundw
              case rel => exact ⟨k + 1, _, by omega, by go_num, HH⟩
              case measure => simp [intOf]; omega
          · have hTe : Hid (T = (false, rk)) := by have hstep := hnext'.out; rw [if_neg hin] at hstep; exact hstep.symm
            have hW := fun w0 (hr : Rd B w0 b rk) => Word_no hr hok.pos _ hin
            simp only [Pl.kOut] at hW
            clear hnext' hin
            go_wp2_with fail
            refine hA.mono ?_
            rintro e w0 ⟨rfl, hr0, hb0⟩
            go_wp2_with fail
            refine (hW _ hr0).mono ?_
            rintro e w1 ⟨rfl, hr1, hb1⟩
            have HH : Hid (Rd B w1 b rk ∧ Below B w w1) := ⟨hr1, (hB'.out.trans hb0).trans hb1⟩
            clear hr1 hb1 hR hW hr0 hb0 hA
            go_wp2_with fail
            go_ret
            rw [hTe.out]
            exact ⟨rfl, HH.out.1, HH.out.2⟩
    · have hTe : Hid (T = (decide (rk.toks.length ≤ rk.pos), rk)) := by
        have hstep := hs'.out
        rw [show 4 - k = 0 by omega, Pl.outsLR] at hstep; exact hstep.symm
      have hA := AtEnd_at hR _ rfl
      clear hs' hR
      go_wp2_with fail
      refine hA.mono ?_
      rintro e w1 ⟨rfl, hr1, hb1⟩
      have HH : Hid (Rd B w1 b rk ∧ Below B w w1) := ⟨hr1, hB'.out.trans hb1⟩
      clear hr1 hb1 hA
      go_wp2_with fail
      go_ret
      rw [hTe.out]
      exact ⟨rfl, HH.out.1, HH.out.2⟩

set_option maxRecDepth 100000 in
set_option maxHeartbeats 1000000 in
theorem lowText_any {B : Nat} {w : World} {b : Nat} {r : Pl.RdM} (h : Rd B w b r) (ok : Pl.Ok 0 r) (hei : r.ents.length = r.ins.length) :
    Calls Tryz.prog 95 #[.pointer (some ⟨b, 0, none⟩)] w fun e w' => e = .returned (.bool (Pl.lowR r).1) ∧ Rd B w' b (Pl.lowR r).2 ∧ Below B w w' := by
  have hI := Inputs_any h ok hei
  have ok1 := inputsR_ok 4 false r ok
  unfold Pl.lowR
  cases h1 : Pl.inputsR 4 false r with
  | mk o1 r1 =>
  rw [h1] at hI ok1
  cases o1
  · go_enter Tryz.func95, Tryz.ntmps95
    go_wp2_with fail
    refine (hI).mono ?_
    rintro e w1 ⟨rfl, hrw1, hbw1⟩
    have HH : Hid (Rd B w1 b r1 ∧ Below B w w1) := ⟨hrw1, hbw1⟩
    clear hrw1 hbw1 h
    go_wp2
    go_ret
    exact ⟨rfl, HH.out.1, HH.out.2⟩
  · have hL := fun w1 (hr : Rd B w1 b r1) => lsteps_any hr ok1
    have ok2 := Pl.stepsR_ok 80 r1 ok1
    simp only
    cases h2 : Pl.stepsR 80 r1 with
    | mk o2 r2 =>
    rw [h2] at hL ok2
    cases o2
    · go_enter Tryz.func95, Tryz.ntmps95
      go_wp2_with fail
      refine (hI).mono ?_
      rintro e w1 ⟨rfl, hrw1, hbw1⟩
      go_wp2_with fail
      refine (hL _ hrw1).mono ?_
      rintro e w2 ⟨rfl, hrw2, hbw2⟩
      have HH : Hid (Rd B w2 b r2 ∧ Below B w w2) := ⟨hrw2, (hbw1.trans hbw2)⟩
      clear hrw1 hbw1 hrw2 hbw2 h
      go_wp2
      go_ret
      exact ⟨rfl, HH.out.1, HH.out.2⟩
    · have hO := fun w1 (hr : Rd B w1 b r2) => louts_any hr ok2
      simp only
      generalize Pl.outsLR 4 false r2 = T at *
      go_enter Tryz.func95, Tryz.ntmps95
      go_wp2_with fail
      refine (hI).mono ?_
      rintro e w1 ⟨rfl, hrw1, hbw1⟩
      go_wp2_with fail
      refine (hL _ hrw1).mono ?_
      rintro e w2 ⟨rfl, hrw2, hbw2⟩
      go_wp2_with fail
      refine (hO _ hrw2).mono ?_
      rintro e w3 ⟨rfl, hrw3, hbw3⟩
      have HH : Hid (Rd B w3 b T.2 ∧ Below B w w3) := ⟨hrw3, ((hbw1.trans hbw2).trans hbw3)⟩
      clear hrw1 hbw1 hrw2 hbw2 hrw3 hbw3 h
      go_wp2
      go_ret
      exact ⟨rfl, HH.out.1, HH.out.2⟩

end Go.Proofs.YtfaljekgpnbmiaaGreat

/-
  Contracts of high.Read and low.Read: the error, the place, and the plan in lists of its own.
-/
namespace Go.Proofs.YtfaljekgpnbmiaaGreat
open Go.RowKit

theorem lowR_ok (r : Pl.RdM) (h : Pl.Ok 0 r) : Pl.Ok 0 (Pl.lowR r).2 := by
  unfold Pl.lowR
  have h1 := inputsR_ok 4 false r h
  split
  · rename_i e; rw [e] at h1; exact h1
  · rename_i r1 e
    rw [e] at h1
    have h2 := Pl.stepsR_ok 80 r1 h1
    split
    · rename_i e; rw [e] at h2; exact h2
    · rename_i e; rw [e] at h2; exact Pl.outsLR_ok 4 false _ h2

set_option maxRecDepth 100000 in
set_option maxHeartbeats 2000000 in
theorem ReadLow_any (l : List UInt8) (w : World) (hlm : l.length ≤ maxLen) (hbl : l.length ≤ 6000 → ∀ n ∈ (Pl.lowR (Pl.startR l)).2.nodes, n.bands.length ≤ 1000) :
    Calls Tryz.prog 64 #[.string ⟨l.toArray⟩] w fun e w' => ∃ vi vn vo vx vy, e = .returned (.tuple #[.agg #[vi, vn, vo, vx, vy], .int .i64 (Pl.readLow l).1, .int .i64 (Pl.readLow l).2.1]) ∧ ReadAt w' (Pl.readLow l).1 (Pl.readLow l).2.2 vi vn vo vx vy ∧ Below w.heap.size w w' := by
  unfold maxLen at hlm
  have hal : Below w.heap.size w (w.alloc (.cells #[.slice none 0 0, .slice none 0 0, .slice none 0 0, .slice none 0 0, .slice none 0 0] 104)) := (Below.refl _ w).alloc (Nat.le_refl _) _
  have hnew := heap_alloc_new w (.cells #[.slice none 0 0, .slice none 0 0, .slice none 0 0, .slice none 0 0, .slice none 0 0] 104)
  by_cases hlong : 6000 < l.length
  · have hR : Hid (Pl.readLow l = (1, 0, Pl.startR l)) := by unfold Pl.readLow Pl.readWith Hid; rw [if_pos hlong]
    have HA := hide hal
    clear hal hnew hbl
    go_enter Tryz.func64, Tryz.ntmps64
    go_wp2_with fail
    rw [hR.out]
    exact bodyPost_ret (v := .tuple #[.agg #[.slice none 0 0, .slice none 0 0, .slice none 0 0, .slice none 0 0, .slice none 0 0], .int .i64 1, .int .i64 0]) (by simp [results, Tryz.results64, go_sem]) rfl ⟨_, _, _, _, _, rfl, ReadAt.none _ _ _ (by simp), unhide HA⟩
  · have hl : l.length ≤ 6000 := by omega
    have hN := New_any l (w.alloc (.cells #[.slice none 0 0, .slice none 0 0, .slice none 0 0, .slice none 0 0, .slice none 0 0] 104)) hl
    have hok := Pl.start_ok l hl
    have hbl' := hbl hl
    have hT := fun (B : Nat) (w1 : World) (b : Nat) (h : Rd B w1 b (Pl.startR l)) => lowText_any h hok rfl
    have hTok := lowR_ok (Pl.startR l) hok
    have hR : Hid (Pl.readLow l = ((Pl.resultR (Pl.lowR (Pl.startR l)).1 (Pl.lowR (Pl.startR l)).2).1, (Pl.resultR (Pl.lowR (Pl.startR l)).1 (Pl.lowR (Pl.startR l)).2).2, (Pl.lowR (Pl.startR l)).2)) := by unfold Pl.readLow Pl.readWith Hid; rw [if_neg hlong]
    generalize Pl.lowR (Pl.startR l) = T at *
    obtain ⟨o, r⟩ := T
    have hS := fun (B : Nat) (w2 : World) (b : Nat) (h : Rd B w2 b r) => Result_any h hTok hbl' o
    simp only at hR hS hT
    generalize Pl.resultR o r = q at *
    obtain ⟨en, pl⟩ := q
    clear hbl
    have hsz : (w.alloc (.cells #[.slice none 0 0, .slice none 0 0, .slice none 0 0, .slice none 0 0, .slice none 0 0] 104)).heap.size = w.heap.size + 1 := by simp
    rw [hsz] at hN
    go_enter Tryz.func64, Tryz.ntmps64
    go_wp2_with fail
    refine hN.mono ?_
    rintro e w1 ⟨b, rfl, hr1, hb1⟩
    go_wp2_with fail
    refine (hT _ _ _ hr1).mono ?_
    rintro e w2 ⟨rfl, hr2, hb2⟩
    have hs2 := hr2.bd.2.1
    go_wp2_with fail
    refine (hS _ _ _ hr2).mono ?_
    rintro e w3 ⟨vi, vn, vo, vx, vy, rfl, hra, hb3⟩
    have hbb : Below (w.heap.size + 1) (w.alloc (.cells #[.slice none 0 0, .slice none 0 0, .slice none 0 0, .slice none 0 0, .slice none 0 0] 104)) w3 := (hb1.trans hb2).trans (hb3.mono hs2)
    have hk := (hbb.block w.heap.size (by omega)).trans hnew
    obtain ⟨c0, c1, c2, c3, c4, f0, f1, f2, f3, f4⟩ := plan_facts hk
    have HH : Hid (∀ x y z u v, Below w.heap.size w (((((w3.setCell ⟨w.heap.size, 0, none⟩ x).setCell ⟨w.heap.size, 1, none⟩ y).setCell ⟨w.heap.size, 2, none⟩ z).setCell ⟨w.heap.size, 3, none⟩ u).setCell ⟨w.heap.size, 4, none⟩ v)) := fun x y z u v =>
      (((((hal.trans (hbb.mono (by omega))).setCell (p := ⟨w.heap.size, 0, none⟩) (Nat.le_refl _) x).setCell (p := ⟨w.heap.size, 1, none⟩) (Nat.le_refl _) y).setCell (p := ⟨w.heap.size, 2, none⟩) (Nat.le_refl _) z).setCell (p := ⟨w.heap.size, 3, none⟩) (Nat.le_refl _) u).setCell (p := ⟨w.heap.size, 4, none⟩) (Nat.le_refl _) v
    have HP := hide (fun x y z u v => hra.keep (keep_store hk x y z u v))
    obtain ⟨ai, ni, ci, rfl⟩ := hra.si
    obtain ⟨an, nn, cn, rfl⟩ := hra.sn
    obtain ⟨ao, no, co, rfl⟩ := hra.so
    obtain ⟨ax, nx, cx, rfl⟩ := hra.sx
    obtain ⟨ay, ny, cy, rfl⟩ := hra.sy
    clear hbb hk hr1 hb1 hr2 hb2 hb3 hN hT hal hnew hsz hS hra
    go_wp2_with fail
    rw [hR.out]
    exact bodyPost_ret (v := .tuple #[.agg #[.slice ai ni ci, .slice an nn cn, .slice ao no co, .slice ax nx cx, .slice ay ny cy], .int .i64 en, .int .i64 pl]) (by simp [results, Tryz.results64, go_sem, c0, c1, c2, c3, c4]) rfl ⟨_, _, _, _, _, rfl, unhide HP _ _ _ _ _, HH.out _ _ _ _ _⟩
end Go.Proofs.YtfaljekgpnbmiaaGreat
