/-
  Contracts of package high's lets, outs and text.
-/
import Derived.Test.YtfaljekgpnbmiaaText1
namespace Go.Proofs.Ytfaljekgpnbmiaa
open Go.RowKit

theorem named_no {B : Nat} {w : World} {b : Nat} {r r1 : Pl.RdM} {s : Nat} (h : Rd B w b r) (ok : Pl.Ok s r) (e : Pl.namedR r = (none, r1)) :
    Calls Try.prog 67 #[.pointer (some ⟨b, 0, none⟩)] w fun e w' => e = .returned (.tuple #[.string ⟨#[]⟩, .int .i64 0, .bool false]) ∧ Rd B w' b r1 ∧ Below B w w' := by
  have := named_any h ok; rw [e] at this; exact this
theorem named_yes {B : Nat} {w : World} {b : Nat} {r r1 : Pl.RdM} {s : Nat} (h : Rd B w b r) (ok : Pl.Ok s r) (p : List UInt8 × Int) (e : Pl.namedR r = (some p, r1)) :
    Calls Try.prog 67 #[.pointer (some ⟨b, 0, none⟩)] w fun e w' => e = .returned (.tuple #[.string ⟨p.1.toArray⟩, .int .i64 p.2, .bool true]) ∧ Rd B w' b r1 ∧ Below B w w' := by
  have := named_any h ok; rw [e] at this; exact this
theorem AtEnd_at {B : Nat} {w : World} {b : Nat} {r : Pl.RdM} (h : Rd B w b r) (x : Bool) (e : decide (r.toks.length ≤ r.pos) = x) :
    Calls Try.prog 69 #[.pointer (some ⟨b, 0, none⟩)] w fun e w' => e = .returned (.bool x) ∧ Rd B w' b r ∧ Below B w w' := by
  rw [← e]
  exact (AtEnd_any h).mono fun _ _ ⟨h1, n, h2⟩ => ⟨h1, by rw [h2]; exact h.drewN n, by rw [h2]; exact below_drewN (Below.refl B w) n⟩

set_option maxRecDepth 100000 in
set_option maxHeartbeats 1000000 in
theorem lets_any {B : Nat} {w : World} {b : Nat} {r : Pl.RdM} (h : Rd B w b r) (ok : Pl.Ok 0 r) :
    Calls Try.prog 46 #[.pointer (some ⟨b, 0, none⟩)] w fun e w' => e = .returned (.bool (Pl.letsR 16 r).1) ∧ Rd B w' b (Pl.letsR 16 r).2 ∧ Below B w w' := by
  generalize hT : Pl.letsR 16 r = T
  have hT' : Hid (Pl.letsR 16 r = T) := hT
  have h' : Hid (Rd B w b r ∧ Pl.Ok 0 r) := ⟨h, ok⟩
  clear hT h ok
  go_enter Try.func46, Try.ntmps46
  go_wp2
  go_loopw [3] (fun i wr => ∃ (k : Nat) (rk : Pl.RdM), k ≤ 16 ∧ i = .int .i64 k ∧ Hid (Rd B wr b rk ∧ Pl.Ok 0 rk ∧ Below B w wr ∧ Pl.letsR (16 - k) rk = T)) (fun i _ => 16 - (intOf i).toNat)
  case atStart => exact ⟨0, r, by omega, rfl, h'.out.1, h'.out.2, Below.refl _ _, hT'.out⟩
  case round =>
    obtain ⟨k, rk, hk, rfl, hh⟩ := hrel
    obtain ⟨hR, hok, hB, hs⟩ := hh.out
    have hs' : Hid (Pl.letsR (16 - k) rk = T) := hs
    have hB' : Hid (Below B w wr) := hB
    clear hs hB hh hT' h'
    by_cases hlt : k < 16
    · by_cases hin : rk.peek = Pl.kLet
      · have hok1 := hok.step (by rw [hin]; decide)
        have hstep := hs'.out
        rw [show 16 - k = (15 - k) + 1 by omega, Pl.letsR, if_pos hin] at hstep
        have hW := Word_yes hR hok.pos _ hin
        simp only [Pl.kLet] at hW
        cases hi : Pl.namedR rk.skip with
        | mk o r1 =>
        rw [hi] at hstep
        cases o with
        | none =>
          have hTe : Hid (T = (false, r1)) := hstep.symm
          have hI := fun w1 (hr : Rd B w1 b rk.skip) => named_no hr hok1 hi
          clear hstep hs' hin
          go_wp2_with fail
          refine hW.mono ?_
          rintro e w1 ⟨rfl, hr1, hb1⟩
          go_wp2_with fail
          refine (hI _ hr1).mono ?_
          rintro e w2 ⟨rfl, hr2, hb2⟩
          have HH : Hid (Rd B w2 b r1 ∧ Below B w w2) := ⟨hr2, (hB'.out.trans hb1).trans hb2⟩
          clear hr1 hb1 hr2 hb2 hR hW hI
          go_wp2_with fail
          go_ret
          rw [hTe.out]
          exact ⟨rfl, HH.out.1, HH.out.2⟩
        | some p =>
          have hTe : Hid (Pl.letsR (15 - k) (r1.addEnt p.1 0 p.2) = T) := hstep
          have hI := fun w1 (hr : Rd B w1 b rk.skip) => named_yes hr hok1 p hi
          have hok2 := Pl.namedR_more hok1 hi
          have hok3 := hok2.addEnt p.1 0 p.2
          clear hstep hs' hin
          go_wp2_with fail
          refine hW.mono ?_
          rintro e w1 ⟨rfl, hr1, hb1⟩
          go_wp2_with fail
          refine (hI _ hr1).mono ?_
          rintro e w2 ⟨rfl, hr2, hb2⟩
          go_wp2_with fail
          refine (LearnValue_any hr2 p.1 p.2 (sizes hok2).2.1).mono ?_
          rintro e w3 ⟨rfl, hr3, hb3⟩
          have HH : Hid (Rd B w3 b (r1.addEnt p.1 0 p.2) ∧ Pl.Ok 0 (r1.addEnt p.1 0 p.2) ∧ Below B w w3 ∧ Pl.letsR (16 - (k + 1)) (r1.addEnt p.1 0 p.2) = T) := ⟨hr3, hok3.less (by omega), ((hB'.out.trans hb1).trans hb2).trans hb3, by rw [show 16 - (k + 1) = 15 - k by omega]; exact hTe.out⟩
          clear hr1 hb1 hr2 hb2 hR hW hI hr3 hb3
          go_wp2_with fail
          go_roundw
          case rel => exact ⟨k + 1, _, by omega, by go_num, HH⟩
          case measure => simp [intOf]; omega
      · have hTe : Hid (T = (true, rk)) := by
          have hstep := hs'.out
          rw [show 16 - k = (15 - k) + 1 by omega, Pl.letsR, if_neg hin] at hstep; exact hstep.symm
        have hW := Word_no hR hok.pos _ hin
        simp only [Pl.kLet] at hW
        clear hs' hin
        go_wp2_with fail
        refine hW.mono ?_
        rintro e w1 ⟨rfl, hr1, hb1⟩
        have HH : Hid (Rd B w1 b rk ∧ Below B w w1) := ⟨hr1, hB'.out.trans hb1⟩
        clear hr1 hb1 hR hW
        go_wp2_with fail
        go_ret
        rw [hTe.out]
        exact ⟨rfl, HH.out.1, HH.out.2⟩
    · have hTe : Hid (T = (true, rk)) := by
        have hstep := hs'.out
        rw [show 16 - k = 0 by omega, Pl.letsR] at hstep; exact hstep.symm
      have HH : Hid (Rd B wr b rk) := hR
      clear hs' hR
      go_wp2_with fail
      go_ret
      rw [hTe.out]
      exact ⟨rfl, HH.out, hB'.out⟩

set_option maxRecDepth 100000 in
set_option maxHeartbeats 2000000 in
theorem outs_any {B : Nat} {w : World} {b : Nat} {r : Pl.RdM} (h : Rd B w b r) (ok : Pl.Ok 0 r) :
    Calls Try.prog 47 #[.pointer (some ⟨b, 0, none⟩)] w fun e w' => e = .returned (.bool (Pl.outsR 4 false r).1) ∧ Rd B w' b (Pl.outsR 4 false r).2 ∧ Below B w w' := by
  generalize hT : Pl.outsR 4 false r = T
  have hT' : Hid (Pl.outsR 4 false r = T) := hT
  have h' : Hid (Rd B w b r ∧ Pl.Ok 0 r) := ⟨h, ok⟩
  clear hT h ok
  go_enter Try.func47, Try.ntmps47
  go_wp2
  go_loopw [3] (fun i wr => ∃ (k : Nat) (rk : Pl.RdM), k ≤ 4 ∧ i = .int .i64 k ∧ Hid (Rd B wr b rk ∧ Pl.Ok 0 rk ∧ Below B w wr ∧ Pl.outsR (4 - k) (decide (0 < k)) rk = T)) (fun i _ => 4 - (intOf i).toNat)
  case atStart => exact ⟨0, r, by omega, rfl, h'.out.1, h'.out.2, Below.refl _ _, hT'.out⟩
  case round =>
    obtain ⟨k, rk, hk, rfl, hh⟩ := hrel
    obtain ⟨hR, hok, hB, hs⟩ := hh.out
    have hs' : Hid (Pl.outsR (4 - k) (decide (0 < k)) rk = T) := hs
    have hB' : Hid (Below B w wr) := hB
    clear hs hB hh hT' h'
    by_cases hlt : k < 4
    · have hstep := hs'.out
      rw [show 4 - k = (3 - k) + 1 by omega, Pl.outsR] at hstep
      -- the road from the second test on, behind a reader in whatever world
      have hrest : Hid (¬ (decide (0 < k) = true ∧ rk.toks.length ≤ rk.pos) → (if rk.peek = Pl.kOut then match Pl.namedR rk.skip with | (none, r1) => (false, r1) | (some p, r1) => Pl.outsR (3 - k) true ((r1.addEnt p.1 2 p.2).addOut p.2) else (false, rk)) = T) := fun hc => by rw [if_neg hc] at hstep; exact hstep
      by_cases hend : 0 < k ∧ rk.toks.length ≤ rk.pos
      · have hTe : Hid (T = (true, rk)) := by rw [if_pos ⟨decide_eq_true hend.1, hend.2⟩] at hstep; exact hstep.symm
        have hA := AtEnd_at hR true (decide_eq_true hend.2)
        have h0 : 0 < k := hend.1
        clear hstep hs' hrest hend
        go_wp2_with fail
        refine hA.mono ?_
        rintro e w1 ⟨rfl, hr1, hb1⟩
        have HH : Hid (Rd B w1 b rk ∧ Below B w w1) := ⟨hr1, hB'.out.trans hb1⟩
        clear hr1 hb1 hR hA
        go_wp2_with fail
        go_ret
        rw [hTe.out]
        exact ⟨rfl, HH.out.1, HH.out.2⟩
      · have hnext := hrest.out (by intro hc; exact hend ⟨of_decide_eq_true hc.1, hc.2⟩)
        have hnext' : Hid ((if rk.peek = Pl.kOut then match Pl.namedR rk.skip with | (none, r1) => (false, r1) | (some p, r1) => Pl.outsR (3 - k) true ((r1.addEnt p.1 2 p.2).addOut p.2) else (false, rk)) = T) := hnext
        clear hstep hs' hrest hnext
        have hcs : k = 0 ∨ 0 < k ∧ decide (rk.toks.length ≤ rk.pos) = false := by simp; omega
        clear hend
        rcases hcs with rfl | ⟨h0, hA0⟩
        
        · by_cases hin : rk.peek = Pl.kOut
          · have hok1 := hok.step (by rw [hin]; decide)
            have hW := fun w0 (hr : Rd B w0 b rk) => Word_yes hr hok.pos _ hin
            simp only [Pl.kOut] at hW
            cases hi : Pl.namedR rk.skip with
            | mk o r1 =>
            have hstep := hnext'.out
            rw [if_pos hin, hi] at hstep
            cases o with
            | none =>
              have hTe : Hid (T = (false, r1)) := hstep.symm
              have hI := fun w1 (hr : Rd B w1 b rk.skip) => named_no hr hok1 hi
              clear hstep hnext' hin
              go_wp2_with fail
              refine (hW _ hR).mono ?_
              rintro e w1 ⟨rfl, hr1, hb1⟩
              go_wp2_with fail
              refine (hI _ hr1).mono ?_
              rintro e w2 ⟨rfl, hr2, hb2⟩
              have HH : Hid (Rd B w2 b r1 ∧ Below B w w2) := ⟨hr2, (hB'.out.trans hb1).trans hb2⟩
              clear hr1 hb1 hr2 hb2 hR hW hI
              go_wp2_with fail
              go_ret
              rw [hTe.out]
              exact ⟨rfl, HH.out.1, HH.out.2⟩
            | some p =>
              have hTe : Hid (Pl.outsR (3 - 0) true ((r1.addEnt p.1 2 p.2).addOut p.2) = T) := hstep
              have hI := fun w1 (hr : Rd B w1 b rk.skip) => named_yes hr hok1 p hi
              have hok2 := Pl.namedR_more hok1 hi
              have hok3 := (hok2.addEnt p.1 2 p.2).addOut p.2
              clear hstep hnext' hin
              go_wp2_with fail
              refine (hW _ hR).mono ?_
              rintro e w1 ⟨rfl, hr1, hb1⟩
              go_wp2_with fail
              refine (hI _ hr1).mono ?_
              rintro e w2 ⟨rfl, hr2, hb2⟩
              go_wp2_with fail
              refine (LearnOut_any hr2 p.1 p.2 (sizes hok2).2.1 (sizes hok2).2.2.2).mono ?_
              rintro e w3 ⟨rfl, hr3, hb3⟩
              have HH : Hid (Rd B w3 b ((r1.addEnt p.1 2 p.2).addOut p.2) ∧ Pl.Ok 0 ((r1.addEnt p.1 2 p.2).addOut p.2) ∧ Below B w w3 ∧ Pl.outsR (4 - (0 + 1)) (decide (0 < 0 + 1)) ((r1.addEnt p.1 2 p.2).addOut p.2) = T) := ⟨hr3, hok3, ((hB'.out.trans hb1).trans hb2).trans hb3, by rw [show 4 - (0 + 1) = 3 - 0 by omega, decide_eq_true (by omega)]; exact hTe.out⟩
              clear hr1 hb1 hr2 hb2 hR hW hI hr3 hb3
              go_wp2_with fail
              go_roundw
              case rel => exact ⟨0 + 1, _, by omega, by go_num, HH⟩
              case measure => simp [intOf]
          · have hTe : Hid (T = (false, rk)) := by have hstep := hnext'.out; rw [if_neg hin] at hstep; exact hstep.symm
            have hW := fun w0 (hr : Rd B w0 b rk) => Word_no hr hok.pos _ hin
            simp only [Pl.kOut] at hW
            clear hnext' hin
            go_wp2_with fail
            refine (hW _ hR).mono ?_
            rintro e w1 ⟨rfl, hr1, hb1⟩
            have HH : Hid (Rd B w1 b rk ∧ Below B w w1) := ⟨hr1, hB'.out.trans hb1⟩
            clear hr1 hb1 hR hW
            go_wp2_with fail
            go_ret
            rw [hTe.out]
            exact ⟨rfl, HH.out.1, HH.out.2⟩
        · have hA := AtEnd_at hR false hA0
          by_cases hin : rk.peek = Pl.kOut
          · have hok1 := hok.step (by rw [hin]; decide)
            have hW := fun w0 (hr : Rd B w0 b rk) => Word_yes hr hok.pos _ hin
            simp only [Pl.kOut] at hW
            cases hi : Pl.namedR rk.skip with
            | mk o r1 =>
            have hstep := hnext'.out
            rw [if_pos hin, hi] at hstep
            cases o with
            | none =>
              have hTe : Hid (T = (false, r1)) := hstep.symm
              have hI := fun w1 (hr : Rd B w1 b rk.skip) => named_no hr hok1 hi
              clear hstep hnext' hin
              go_wp2_with fail
              refine hA.mono ?_
              rintro e w0 ⟨rfl, hr0, hb0⟩
              go_wp2_with fail
              refine (hW _ hr0).mono ?_
              rintro e w1 ⟨rfl, hr1, hb1⟩
              go_wp2_with fail
              refine (hI _ hr1).mono ?_
              rintro e w2 ⟨rfl, hr2, hb2⟩
              have HH : Hid (Rd B w2 b r1 ∧ Below B w w2) := ⟨hr2, ((hB'.out.trans hb0).trans hb1).trans hb2⟩
              clear hr1 hb1 hr2 hb2 hR hW hI hr0 hb0 hA
              go_wp2_with fail
              go_ret
              rw [hTe.out]
              exact ⟨rfl, HH.out.1, HH.out.2⟩
            | some p =>
              have hTe : Hid (Pl.outsR (3 - k) true ((r1.addEnt p.1 2 p.2).addOut p.2) = T) := hstep
              have hI := fun w1 (hr : Rd B w1 b rk.skip) => named_yes hr hok1 p hi
              have hok2 := Pl.namedR_more hok1 hi
              have hok3 := (hok2.addEnt p.1 2 p.2).addOut p.2
              clear hstep hnext' hin
              go_wp2_with fail
              refine hA.mono ?_
              rintro e w0 ⟨rfl, hr0, hb0⟩
              go_wp2_with fail
              refine (hW _ hr0).mono ?_
              rintro e w1 ⟨rfl, hr1, hb1⟩
              go_wp2_with fail
              refine (hI _ hr1).mono ?_
              rintro e w2 ⟨rfl, hr2, hb2⟩
              go_wp2_with fail
              refine (LearnOut_any hr2 p.1 p.2 (sizes hok2).2.1 (sizes hok2).2.2.2).mono ?_
              rintro e w3 ⟨rfl, hr3, hb3⟩
              have HH : Hid (Rd B w3 b ((r1.addEnt p.1 2 p.2).addOut p.2) ∧ Pl.Ok 0 ((r1.addEnt p.1 2 p.2).addOut p.2) ∧ Below B w w3 ∧ Pl.outsR (4 - (k + 1)) (decide (0 < k + 1)) ((r1.addEnt p.1 2 p.2).addOut p.2) = T) := ⟨hr3, hok3, (((hB'.out.trans hb0).trans hb1).trans hb2).trans hb3, by rw [show 4 - (k + 1) = 3 - k by omega, decide_eq_true (by omega)]; exact hTe.out⟩
              clear hr1 hb1 hr2 hb2 hR hW hI hr3 hb3 hr0 hb0 hA
              go_wp2_with fail
              go_roundw
              case rel => exact ⟨k + 1, _, by omega, by go_num, HH⟩
              case measure => simp [intOf]; omega
          · have hTe : Hid (T = (false, rk)) := by have hstep := hnext'.out; rw [if_neg hin] at hstep; exact hstep.symm
            have hW := fun w0 (hr : Rd B w0 b rk) => Word_no hr hok.pos _ hin
            simp only [Pl.kOut] at hW
            clear hnext' hin
            go_wp2_with fail
            refine hA.mono ?_
            rintro e w0 ⟨rfl, hr0, hb0⟩
            go_wp2_with fail
            refine (hW _ hr0).mono ?_
            rintro e w1 ⟨rfl, hr1, hb1⟩
            have HH : Hid (Rd B w1 b rk ∧ Below B w w1) := ⟨hr1, (hB'.out.trans hb0).trans hb1⟩
            clear hr1 hb1 hR hW hr0 hb0 hA
            go_wp2_with fail
            go_ret
            rw [hTe.out]
            exact ⟨rfl, HH.out.1, HH.out.2⟩
    · have hTe : Hid (T = (decide (rk.toks.length ≤ rk.pos), rk)) := by
        have hstep := hs'.out
        rw [show 4 - k = 0 by omega, Pl.outsR] at hstep; exact hstep.symm
      have hA := AtEnd_at hR _ rfl
      clear hs' hR
      go_wp2_with fail
      refine hA.mono ?_
      rintro e w1 ⟨rfl, hr1, hb1⟩
      have HH : Hid (Rd B w1 b rk ∧ Below B w w1) := ⟨hr1, hB'.out.trans hb1⟩
      clear hr1 hb1 hA
      go_wp2_with fail
      go_ret
      rw [hTe.out]
      exact ⟨rfl, HH.out.1, HH.out.2⟩

theorem inputsR_ok (n : Nat) : ∀ (any : Bool) (r : Pl.RdM), Pl.Ok 0 r → Pl.Ok 0 (Pl.inputsR n any r).2 := by
  induction n with
  | zero => intro _ r h; exact h
  | succ n ih =>
    intro any r h
    rw [Pl.inputsR]
    split
    · have := Pl.inputR_ok h.skip
      split
      · rename_i e; rw [e] at this; exact this
      · rename_i e; rw [e] at this; exact ih _ _ this
    · exact h
theorem letsR_ok (n : Nat) : ∀ (r : Pl.RdM), Pl.Ok 0 r → Pl.Ok 0 (Pl.letsR n r).2 := by
  induction n with
  | zero => intro r h; exact h
  | succ n ih =>
    intro r h
    rw [Pl.letsR]
    split
    · have hk := (Pl.namedR_keeps r.skip).ok _ h.skip
      split
      · rename_i e; rw [e] at hk; exact hk
      · rename_i e; exact ih _ ((Pl.namedR_more h.skip e).addEnt _ _ _)
    · exact h

set_option maxRecDepth 100000 in
set_option maxHeartbeats 1000000 in
theorem text_any {B : Nat} {w : World} {b : Nat} {r : Pl.RdM} (h : Rd B w b r) (ok : Pl.Ok 0 r) (hei : r.ents.length = r.ins.length) :
    Calls Try.prog 33 #[.pointer (some ⟨b, 0, none⟩)] w fun e w' => e = .returned (.bool (Pl.textR r).1) ∧ Rd B w' b (Pl.textR r).2 ∧ Below B w w' := by
  have hI := Inputs_any h ok hei
  have ok1 := inputsR_ok 4 false r ok
  unfold Pl.textR
  cases h1 : Pl.inputsR 4 false r with
  | mk o1 r1 =>
  rw [h1] at hI ok1
  cases o1
  · go_enter Try.func33, Try.ntmps33
    go_wp2_with fail
    refine (hI).mono ?_
    rintro e w1 ⟨rfl, hrw1, hbw1⟩
    have HH : Hid (Rd B w1 b r1 ∧ Below B w w1) := ⟨hrw1, hbw1⟩
    clear hrw1 hbw1 h
    go_wp2
    go_ret
    exact ⟨rfl, HH.out.1, HH.out.2⟩
  · have hL := fun w1 (hr : Rd B w1 b r1) => lets_any hr ok1
    have ok2 := letsR_ok 16 r1 ok1
    simp only
    cases h2 : Pl.letsR 16 r1 with
    | mk o2 r2 =>
    rw [h2] at hL ok2
    cases o2
    · go_enter Try.func33, Try.ntmps33
      go_wp2_with fail
      refine (hI).mono ?_
      rintro e w1 ⟨rfl, hrw1, hbw1⟩
      go_wp2_with fail
      refine (hL _ hrw1).mono ?_
      rintro e w2 ⟨rfl, hrw2, hbw2⟩
      have HH : Hid (Rd B w2 b r2 ∧ Below B w w2) := ⟨hrw2, (hbw1.trans hbw2)⟩
      clear hrw1 hbw1 hrw2 hbw2 h
      go_wp2
      go_ret
      exact ⟨rfl, HH.out.1, HH.out.2⟩
    · have hO := fun w1 (hr : Rd B w1 b r2) => outs_any hr ok2
      simp only
      generalize Pl.outsR 4 false r2 = T at *
      go_enter Try.func33, Try.ntmps33
      go_wp2_with fail
      refine (hI).mono ?_
      rintro e w1 ⟨rfl, hrw1, hbw1⟩
      go_wp2_with fail
      refine (hL _ hrw1).mono ?_
      rintro e w2 ⟨rfl, hrw2, hbw2⟩
      go_wp2_with fail
      refine (hO _ hrw2).mono ?_
      rintro e w3 ⟨rfl, hrw3, hbw3⟩
      have HH : Hid (Rd B w3 b T.2 ∧ Below B w w3) := ⟨hrw3, ((hbw1.trans hbw2).trans hbw3)⟩
      clear hrw1 hbw1 hrw2 hbw2 hrw3 hbw3 h
      go_wp2
      go_ret
      exact ⟨rfl, HH.out.1, HH.out.2⟩

end Go.Proofs.Ytfaljekgpnbmiaa
