/- Joined: Text2 Read. -/
import Derived.Test.YtfaljekgpnbmiaaGreatH19
/-
  Contracts of package high's lets, outs and text.
-/
namespace Go.Proofs.YtfaljekgpnbmiaaGreat
open Go.RowKit

theorem named_no {B : Nat} {w : World} {b : Nat} {r r1 : Pl.RdM} {s : Nat} (h : Rd B w b r) (ok : Pl.Ok s r) (e : Pl.namedR r = (none, r1)) :
    Calls Tryz.prog 185 #[.pointer (some ⟨b, 0, none⟩)] w fun e w' => e = .returned (.tuple #[.string ⟨#[]⟩, .int .i64 0, .bool false]) ∧ Rd B w' b r1 ∧ Below B w w' := by
  have := named_any h ok; rw [e] at this; exact this
theorem named_yes {B : Nat} {w : World} {b : Nat} {r r1 : Pl.RdM} {s : Nat} (h : Rd B w b r) (ok : Pl.Ok s r) (p : List UInt8 × Int) (e : Pl.namedR r = (some p, r1)) :
    Calls Tryz.prog 185 #[.pointer (some ⟨b, 0, none⟩)] w fun e w' => e = .returned (.tuple #[.string ⟨p.1.toArray⟩, .int .i64 p.2, .bool true]) ∧ Rd B w' b r1 ∧ Below B w w' := by
  have := named_any h ok; rw [e] at this; exact this
theorem AtEnd_at {B : Nat} {w : World} {b : Nat} {r : Pl.RdM} (h : Rd B w b r) (x : Bool) (e : decide (r.toks.length ≤ r.pos) = x) :
    Calls Tryz.prog 187 #[.pointer (some ⟨b, 0, none⟩)] w fun e w' => e = .returned (.bool x) ∧ Rd B w' b r ∧ Below B w w' := by
  rw [← e]
  exact (AtEnd_any h).mono fun _ _ ⟨h1, n, h2⟩ => ⟨h1, by rw [h2]; exact h.drewN n, by rw [h2]; exact below_drewN (Below.refl B w) n⟩

set_option maxRecDepth 100000 in
set_option maxHeartbeats 1000000 in
theorem lets_any {B : Nat} {w : World} {b : Nat} {r : Pl.RdM} (h : Rd B w b r) (ok : Pl.Ok 0 r) :
    Calls Tryz.prog 132 #[.pointer (some ⟨b, 0, none⟩)] w fun e w' => e = .returned (.bool (Pl.letsR 16 r).1) ∧ Rd B w' b (Pl.letsR 16 r).2 ∧ Below B w w' := by
  generalize hT : Pl.letsR 16 r = T
  have hT' : Hid (Pl.letsR 16 r = T) := hT
  have h' : Hid (Rd B w b r ∧ Pl.Ok 0 r) := ⟨h, ok⟩
  clear hT h ok
  go_enter Tryz.func132, Tryz.ntmps132
  go_wp2
  go_loopw [3] (fun i wr => ∃ (k : Nat) (rk : Pl.RdM), k ≤ 16 ∧ i = .int .i64 k ∧ Hid (Rd B wr b rk ∧ Pl.Ok 0 rk ∧ Below B w wr ∧ Pl.letsR (16 - k) rk = T)) (fun i _ => 16 - (intOf i).toNat)
  case atStart => exact ⟨0, r, by omega, rfl, h'.out.1, h'.out.2, Below.refl _ _, hT'.out⟩
  case round =>
    obtain ⟨k, rk, hk, rfl, hh⟩ := hrel
    obtain ⟨hR, hok, hB, hs⟩ := hh.out
    have hs' : Hid (Pl.letsR (16 - k) rk = T) := hs
    have hB' : Hid (Below B w wr) := hB
    clear hs hB hh hT' h'
    by_cases hlt : k < 16
    · by_cases hin : rk.peek = Pl.kLet
      · have hok1 := hok.step (by rw [hin]; decide)
        have hstep := hs'.out
        rw [show 16 - k = (15 - k) + 1 by omega, Pl.letsR, if_pos hin] at hstep
        have hW := Word_yes hR hok.pos _ hin
        simp only [Pl.kLet] at hW
        cases hi : Pl.namedR rk.skip with
        | mk o r1 =>
        rw [hi] at hstep
        cases o with
        | none =>
          have hTe : Hid (T = (false, r1)) := hstep.symm
          have hI := fun w1 (hr : Rd B w1 b rk.skip) => named_no hr hok1 hi
          clear hstep hs' hin
          go_wp2_with fail
          refine hW.mono ?_
          rintro e w1 ⟨rfl, hr1, hb1⟩
          go_wp2_with fail
          refine (hI _ hr1).mono ?_
          rintro e w2 ⟨rfl, hr2, hb2⟩
          have HH : Hid (Rd B w2 b r1 ∧ Below B w w2) := ⟨hr2, (hB'.out.trans hb1).trans hb2⟩
          clear hr1 hb1 hr2 hb2 hR hW hI
          go_wp2_with fail
          go_ret
          rw [hTe.out]
          exact ⟨rfl, HH.out.1, HH.out.2⟩
        | some p =>
          have hTe : Hid (Pl.letsR (15 - k) (r1.addEnt p.1 0 p.2) = T) := hstep
          have hI := fun w1 (hr : Rd B w1 b rk.skip) => named_yes hr hok1 p hi
          have hok2 := Pl.namedR_more hok1 hi
          have hok3 := hok2.addEnt p.1 0 p.2
          clear hstep hs' hin
          go_wp2_with fail
          refine hW.mono ?_
          rintro e w1 ⟨rfl, hr1, hb1⟩
          go_wp2_with fail
          refine (hI _ hr1).mono ?_
          rintro e w2 ⟨rfl, hr2, hb2⟩
          go_wp2_with fail
          refine (LearnValue_any hr2 p.1 p.2 (sizes hok2).2.1).mono ?_
          rintro e w3 ⟨rfl, hr3, hb3⟩
          have HH : Hid (Rd B w3 b (r1.addEnt p.1 0 p.2) ∧ Pl.Ok 0 (r1.addEnt p.1 0 p.2) ∧ Below B w w3 ∧ Pl.letsR (16 - (k + 1)) (r1.addEnt p.1 0 p.2) = T) := ⟨hr3, hok3.less (by omega), ((hB'.out.trans hb1).trans hb2).trans hb3, by rw [show 16 - (k + 1) = 15 - k by omega]; exact hTe.out⟩
          clear hr1 hb1 hr2 hb2 hR hW hI hr3 hb3
          go_wp2_with fail
          go_roundw
          case rel => exact ⟨k + 1, _, by omega, by go_num, HH⟩
          case measure => simp [intOf]; omega
      · have hTe : Hid (T = (true, rk)) := by
          have hstep := hs'.out
          rw [show 16 - k = (15 - k) + 1 by omega, Pl.letsR, if_neg hin] at hstep; exact hstep.symm
        have hW := Word_no hR hok.pos _ hin
        simp only [Pl.kLet] at hW
        clear hs' hin
        go_wp2_with fail
        refine hW.mono ?_
        rintro e w1 ⟨rfl, hr1, hb1⟩
        have HH : Hid (Rd B w1 b rk ∧ Below B w w1) := ⟨hr1, hB'.out.trans hb1⟩
        clear hr1 hb1 hR hW
        go_wp2_with fail
        go_ret
        rw [hTe.out]
        exact ⟨rfl, HH.out.1, HH.out.2⟩
    · have hTe : Hid (T = (true, rk)) := by
        have hstep := hs'.out
        rw [show 16 - k = 0 by omega, Pl.letsR] at hstep; exact hstep.symm
      have HH : Hid (Rd B wr b rk) := hR
      clear hs' hR
      go_wp2_with fail
      go_ret
      rw [hTe.out]
      exact ⟨rfl, HH.out, hB'.out⟩

set_option maxRecDepth 100000 in
set_option maxHeartbeats 2000000 in
theorem outs_any {B : Nat} {w : World} {b : Nat} {r : Pl.RdM} (h : Rd B w b r) (ok : Pl.Ok 0 r) :
    Calls Tryz.prog 133 #[.pointer (some ⟨b, 0, none⟩)] w fun e w' => e = .returned (.bool (Pl.outsR 4 false r).1) ∧ Rd B w' b (Pl.outsR 4 false r).2 ∧ Below B w w' := by
  generalize hT : Pl.outsR 4 false r = T
  have hT' : Hid (Pl.outsR 4 false r = T) := hT
  have h' : Hid (Rd B w b r ∧ Pl.Ok 0 r) := ⟨h, ok⟩
  clear hT h ok
  go_enter Tryz.func133, Tryz.ntmps133
  go_wp2
  go_loopw [3] (fun i wr => ∃ (k : Nat) (rk : Pl.RdM), k ≤ 4 ∧ i = .int .i64 k ∧ Hid (Rd B wr b rk ∧ Pl.Ok 0 rk ∧ Below B w wr ∧ Pl.outsR (4 - k) (decide (0 < k)) rk = T)) (fun i _ => 4 - (intOf i).toNat)
  case atStart => exact ⟨0, r, by omega, rfl, h'.out.1, h'.out.2, Below.refl _ _, hT'.out⟩
  case round =>
    obtain ⟨k, rk, hk, rfl, hh⟩ := hrel
    obtain ⟨hR, hok, hB, hs⟩ := hh.out
    have hs' : Hid (Pl.outsR (4 - k) (decide (0 < k)) rk = T) := hs
    have hB' : Hid (Below B w wr) := hB
    clear hs hB hh hT' h'
    by_cases hlt : k < 4
    · have hstep := hs'.out
      rw [show 4 - k = (3 - k) + 1 by omega, Pl.outsR] at hstep
      -- the road from the second test on, behind a reader in whatever world
      have hrest : Hid (¬ (decide (0 < k) = true ∧ rk.toks.length ≤ rk.pos) → (if rk.peek = Pl.kOut then match Pl.namedR rk.skip with | (none, r1) => (false, r1) | (some p, r1) => Pl.outsR (3 - k) true ((r1.addEnt p.1 2 p.2).addOut p.2) else (false, rk)) = T) := fun hc => by rw [if_neg hc] at hstep; exact hstep
      by_cases hend : 0 < k ∧ rk.toks.length ≤ rk.pos
      · have hTe : Hid (T = (true, rk)) := by rw [if_pos ⟨decide_eq_true hend.1, hend.2⟩] at hstep; exact hstep.symm
        have hA := AtEnd_at hR true (decide_eq_true hend.2)
        have h0 : 0 < k := hend.1
        clear hstep hs' hrest hend
        go_wp2_with fail
        refine hA.mono ?_
        rintro e w1 ⟨rfl, hr1, hb1⟩
        have HH : Hid (Rd B w1 b rk ∧ Below B w w1) := ⟨hr1, hB'.out.trans hb1⟩
        clear hr1 hb1 hR hA
        go_wp2_with fail
        go_ret
        rw [hTe.out]
        exact ⟨rfl, HH.out.1, HH.out.2⟩
      · have hnext := hrest.out (by intro hc; exact hend ⟨of_decide_eq_true hc.1, hc.2⟩)
        have hnext' : Hid ((if rk.peek = Pl.kOut then match Pl.namedR rk.skip with | (none, r1) => (false, r1) | (some p, r1) => Pl.outsR (3 - k) true ((r1.addEnt p.1 2 p.2).addOut p.2) else (false, rk)) = T) := hnext
        clear hstep hs' hrest hnext
        have hcs : k = 0 ∨ 0 < k ∧ decide (rk.toks.length ≤ rk.pos) = false := by simp; omega
        clear hend
        rcases hcs with rfl | ⟨h0, hA0⟩
        
        · by_cases hin : rk.peek = Pl.kOut
          · have hok1 := hok.step (by rw [hin]; decide)
            have hW := fun w0 (hr : Rd B w0 b rk) => Word_yes hr hok.pos _ hin
            simp only [Pl.kOut] at hW
            cases hi : Pl.namedR rk.skip with
            | mk o r1 =>
            have hstep := hnext'.out
            rw [if_pos hin, hi] at hstep
            cases o with
            | none =>
              have hTe : Hid (T = (false, r1)) := hstep.symm
              have hI := fun w1 (hr : Rd B w1 b rk.skip) => named_no hr hok1 hi
              clear hstep hnext' hin
              go_wp2_with fail
              refine (hW _ hR).mono ?_
              rintro e w1 ⟨rfl, hr1, hb1⟩
              go_wp2_with fail
              refine (hI _ hr1).mono ?_
              rintro e w2 ⟨rfl, hr2, hb2⟩
              have HH : Hid (Rd B w2 b r1 ∧ Below B w w2) := ⟨hr2, (hB'.out.trans hb1).trans hb2⟩
              clear hr1 hb1 hr2 hb2 hR hW hI
              go_wp2_with fail
              go_ret
              rw [hTe.out]
              exact ⟨rfl, HH.out.1, HH.out.2⟩
            | some p =>
              have hTe : Hid (Pl.outsR (3 - 0) true ((r1.addEnt p.1 2 p.2).addOut p.2) = T) := hstep
              have hI := fun w1 (hr : Rd B w1 b rk.skip) => named_yes hr hok1 p hi
              have hok2 := Pl.namedR_more hok1 hi
              have hok3 := (hok2.addEnt p.1 2 p.2).addOut p.2
              clear hstep hnext' hin
              go_wp2_with fail
              refine (hW _ hR).mono ?_
              rintro e w1 ⟨rfl, hr1, hb1⟩
              go_wp2_with fail
              refine (hI _ hr1).mono ?_
              rintro e w2 ⟨rfl, hr2, hb2⟩
              go_wp2_with fail
              refine (LearnOut_any hr2 p.1 p.2 (sizes hok2).2.1 (sizes hok2).2.2.2).mono ?_
              rintro e w3 ⟨rfl, hr3, hb3⟩
              have HH : Hid (Rd B w3 b ((r1.addEnt p.1 2 p.2).addOut p.2) ∧ Pl.Ok 0 ((r1.addEnt p.1 2 p.2).addOut p.2) ∧ Below B w w3 ∧ Pl.outsR (4 - (0 + 1)) (decide (0 < 0 + 1)) ((r1.addEnt p.1 2 p.2).addOut p.2) = T) := ⟨hr3, hok3, ((hB'.out.trans hb1).trans hb2).trans hb3, by rw [show 4 - (0 + 1) = 3 - 0 by omega, decide_eq_true (by omega)]; exact hTe.out⟩
              clear hr1 hb1 hr2 hb2 hR hW hI hr3 hb3
              go_wp2_with fail
              go_roundw
              case rel => exact ⟨0 + 1, _, by omega, by go_num, HH⟩
              case measure => simp [intOf]
          · have hTe : Hid (T = (false, rk)) := by have hstep := hnext'.out; rw [if_neg hin] at hstep; exact hstep.symm
            have hW := fun w0 (hr : Rd B w0 b rk) => Word_no hr hok.pos _ hin
            simp only [Pl.kOut] at hW
            clear hnext' hin
            go_wp2_with fail
            refine (hW _ hR).mono ?_
            rintro e w1 ⟨rfl, hr1, hb1⟩
            have HH : Hid (Rd B w1 b rk ∧ Below B w w1) := ⟨hr1, hB'.out.trans hb1⟩
            clear hr1 hb1 hR hW
            go_wp2_with fail
            go_ret
            rw [hTe.out]
            exact ⟨rfl, HH.out.1, HH.out.2⟩
        · have hA := AtEnd_at hR false hA0
          by_cases hin : rk.peek = Pl.kOut
          · have hok1 := hok.step (by rw [hin]; decide)
            have hW := fun w0 (hr : Rd B w0 b rk) => Word_yes hr hok.pos _ hin
            simp only [Pl.kOut] at hW
            cases hi : Pl.namedR rk.skip with
            | mk o r1 =>
            have hstep := hnext'.out
            rw [if_pos hin, hi] at hstep
            cases o with
            | none =>
              have hTe : Hid (T = (false, r1)) := hstep.symm
              have hI := fun w1 (hr : Rd B w1 b rk.skip) => named_no hr hok1 hi
              clear hstep hnext' hin
              go_wp2_with fail
              refine hA.mono ?_
              rintro e w0 ⟨rfl, hr0, hb0⟩
              go_wp2_with fail
              refine (hW _ hr0).mono ?_
              rintro e w1 ⟨rfl, hr1, hb1⟩
              go_wp2_with fail
              refine (hI _ hr1).mono ?_
              rintro e w2 ⟨rfl, hr2, hb2⟩
              have HH : Hid (Rd B w2 b r1 ∧ Below B w w2) := ⟨hr2, ((hB'.out.trans hb0).trans hb1).trans hb2⟩
              clear hr1 hb1 hr2 hb2 hR hW hI hr0 hb0 hA
              go_wp2_with fail
              go_ret
              rw [hTe.out]
              exact ⟨rfl, HH.out.1, HH.out.2⟩
            | some p =>
              have hTe : Hid (Pl.outsR (3 - k) true ((r1.addEnt p.1 2 p.2).addOut p.2) = T) := hstep
              have hI := fun w1 (hr : Rd B w1 b rk.skip) => named_yes hr hok1 p hi
              have hok2 := Pl.namedR_more hok1 hi
              have hok3 := (hok2.addEnt p.1 2 p.2).addOut p.2
              clear hstep hnext' hin
              go_wp2_with fail
              refine hA.mono ?_
              rintro e w0 ⟨rfl, hr0, hb0⟩
              go_wp2_with fail
              refine (hW _ hr0).mono ?_
              rintro e w1 ⟨rfl, hr1, hb1⟩
              go_wp2_with fail
              refine (hI _ hr1).mono ?_
              rintro e w2 ⟨rfl, hr2, hb2⟩
              go_wp2_with fail
              refine (LearnOut_any hr2 p.1 p.2 (sizes hok2).2.1 (sizes hok2).2.2.2).mono ?_
              rintro e w3 ⟨rfl, hr3, hb3⟩
              have HH : Hid (Rd B w3 b ((r1.addEnt p.1 2 p.2).addOut p.2) ∧ Pl.Ok 0 ((r1.addEnt p.1 2 p.2).addOut p.2) ∧ Below B w w3 ∧ Pl.outsR (4 - (k + 1)) (decide (0 < k + 1)) ((r1.addEnt p.1 2 p.2).addOut p.2) = T) := ⟨hr3, hok3, (((hB'.out.trans hb0).trans hb1).trans hb2).trans hb3, by rw [show 4 - (k + 1) = 3 - k by omega, decide_eq_true (by omega)]; exact hTe.out⟩
              clear hr1 hb1 hr2 hb2 hR hW hI hr3 hb3 hr0 hb0 hA
              go_wp2_with fail
              go_roundw
              case rel => exact ⟨k + 1, _, by omega, by go_num, HH⟩
              case measure => simp [intOf]; omega
          · have hTe : Hid (T = (false, rk)) := by have hstep := hnext'.out; rw [if_neg hin] at hstep; exact hstep.symm
            have hW := fun w0 (hr : Rd B w0 b rk) => Word_no hr hok.pos _ hin
            simp only [Pl.kOut] at hW
            clear hnext' hin
            go_wp2_with fail
            refine hA.mono ?_
            rintro e w0 ⟨rfl, hr0, hb0⟩
            go_wp2_with fail
            refine (hW _ hr0).mono ?_
            rintro e w1 ⟨rfl, hr1, hb1⟩
            have HH : Hid (Rd B w1 b rk ∧ Below B w w1) := ⟨hr1, (hB'.out.trans hb0).trans hb1⟩
            clear hr1 hb1 hR hW hr0 hb0 hA
            go_wp2_with fail
            go_ret
            rw [hTe.out]
            exact ⟨rfl, HH.out.1, HH.out.2⟩
    · have hTe : Hid (T = (decide (rk.toks.length ≤ rk.pos), rk)) := by
        have hstep := hs'.out
        rw [show 4 - k = 0 by omega, Pl.outsR] at hstep; exact hstep.symm
      have hA := AtEnd_at hR _ rfl
      clear hs' hR
      go_wp2_with fail
      refine hA.mono ?_
      rintro e w1 ⟨rfl, hr1, hb1⟩
      have HH : Hid (Rd B w1 b rk ∧ Below B w w1) := ⟨hr1, hB'.out.trans hb1⟩
      clear hr1 hb1 hA
      go_wp2_with fail
      go_ret
      rw [hTe.out]
      exact ⟨rfl, HH.out.1, HH.out.2⟩

theorem inputsR_ok (n : Nat) : ∀ (any : Bool) (r : Pl.RdM), Pl.Ok 0 r → Pl.Ok 0 (Pl.inputsR n any r).2 := by
  induction n with
  | zero => intro _ r h; exact h
  | succ n ih =>
    intro any r h
    rw [Pl.inputsR]
    split
    · have := Pl.inputR_ok h.skip
      split
      · rename_i e; rw [e] at this; exact this
      · rename_i e; rw [e] at this; exact ih _ _ this
    · exact h
theorem letsR_ok (n : Nat) : ∀ (r : Pl.RdM), Pl.Ok 0 r → Pl.Ok 0 (Pl.letsR n r).2 := by
  induction n with
  | zero => intro r h; exact h
  | succ n ih =>
    intro r h
    rw [Pl.letsR]
    split
    · have hk := (Pl.namedR_keeps r.skip).ok _ h.skip
      split
      · rename_i e; rw [e] at hk; exact hk
      · rename_i e; exact ih _ ((Pl.namedR_more h.skip e).addEnt _ _ _)
    · exact h

set_option maxRecDepth 100000 in
set_option maxHeartbeats 1000000 in
theorem text_any {B : Nat} {w : World} {b : Nat} {r : Pl.RdM} (h : Rd B w b r) (ok : Pl.Ok 0 r) (hei : r.ents.length = r.ins.length) :
    Calls Tryz.prog 93 #[.pointer (some ⟨b, 0, none⟩)] w fun e w' => e = .returned (.bool (Pl.textR r).1) ∧ Rd B w' b (Pl.textR r).2 ∧ Below B w w' := by
  have hI := Inputs_any h ok hei
  have ok1 := inputsR_ok 4 false r ok
  unfold Pl.textR
  cases h1 : Pl.inputsR 4 false r with
  | mk o1 r1 =>
  rw [h1] at hI ok1
  cases o1
  · go_enter Tryz.func93, Tryz.ntmps93
    go_wp2_with fail
    refine (hI).mono ?_
    rintro e w1 ⟨rfl, hrw1, hbw1⟩
    have HH : Hid (Rd B w1 b r1 ∧ Below B w w1) := ⟨hrw1, hbw1⟩
    clear hrw1 hbw1 h
    go_wp2
    go_ret
    exact ⟨rfl, HH.out.1, HH.out.2⟩
  · have hL := fun w1 (hr : Rd B w1 b r1) => lets_any hr ok1
    have ok2 := letsR_ok 16 r1 ok1
    simp only
    cases h2 : Pl.letsR 16 r1 with
    | mk o2 r2 =>
    rw [h2] at hL ok2
    cases o2
    · go_enter Tryz.func93, Tryz.ntmps93
      go_wp2_with fail
      refine (hI).mono ?_
      rintro e w1 ⟨rfl, hrw1, hbw1⟩
      go_wp2_with fail
      refine (hL _ hrw1).mono ?_
      rintro e w2 ⟨rfl, hrw2, hbw2⟩
      have HH : Hid (Rd B w2 b r2 ∧ Below B w w2) := ⟨hrw2, (hbw1.trans hbw2)⟩
      clear hrw1 hbw1 hrw2 hbw2 h
      go_wp2
      go_ret
      exact ⟨rfl, HH.out.1, HH.out.2⟩
    · have hO := fun w1 (hr : Rd B w1 b r2) => outs_any hr ok2
      simp only
      generalize Pl.outsR 4 false r2 = T at *
      go_enter Tryz.func93, Tryz.ntmps93
      go_wp2_with fail
      refine (hI).mono ?_
      rintro e w1 ⟨rfl, hrw1, hbw1⟩
      go_wp2_with fail
      refine (hL _ hrw1).mono ?_
      rintro e w2 ⟨rfl, hrw2, hbw2⟩
      go_wp2_with fail
      refine (hO _ hrw2).mono ?_
      rintro e w3 ⟨rfl, hrw3, hbw3⟩
      have HH : Hid (Rd B w3 b T.2 ∧ Below B w w3) := ⟨hrw3, ((hbw1.trans hbw2).trans hbw3)⟩
      clear hrw1 hbw1 hrw2 hbw2 hrw3 hbw3 h
      go_wp2
      go_ret
      exact ⟨rfl, HH.out.1, HH.out.2⟩

end Go.Proofs.YtfaljekgpnbmiaaGreat

/-
  Contracts of source.New and the reader's Result.
-/
namespace Go.Proofs.YtfaljekgpnbmiaaGreat
open Go.RowKit

set_option maxHeartbeats 400000 in
theorem New_any (l : List UInt8) (w : World) (hl : l.length ≤ 6000) :
    Calls Tryz.prog 92 #[.string ⟨l.toArray⟩] w fun e w' => ∃ b, e = .returned (.pointer (some ⟨b, 0, none⟩)) ∧ Rd w.heap.size w' b (Pl.startR l) ∧ Below w.heap.size w w' := by
  have hS := Split_any l w hl
  go_enter Tryz.func92, Tryz.ntmps92
  go_wp2_with fail
  refine hS.mono ?_
  rintro e w1 ⟨v, rfl, hown, hb⟩
  obtain ⟨ad, cap, rfl⟩ := slice_shape hown
  have hs := hb.size
  have HH : Hid (Rd w.heap.size (w1.alloc (.cells #[.slice none 0 0, .slice none 0 0, .slice none 0 0, .slice none 0 0, .slice none 0 0, .slice ad (Pl.tokens l).length cap, .int .i64 0, .slice none 0 0] 188)) w1.heap.size (Pl.startR l) ∧ Below w.heap.size w (w1.alloc (.cells #[.slice none 0 0, .slice none 0 0, .slice none 0 0, .slice none 0 0, .slice none 0 0, .slice ad (Pl.tokens l).length cap, .int .i64 0, .slice none 0 0] 188))) := by
    refine ⟨⟨_, _, _, _, _, [], _, _, [], [], ⟨hs, heap_alloc_new w1 _, World.ownsRow_nil _ _ _ _, ⟨rfl, World.ownsRow_nil _ _ _ _, fun i h => by simp [Pl.startR] at h⟩, World.ownsRow_nil _ _ _ _, own_keep hown (KeepT.alloc _ _ _), World.ownsRow_nil _ _ _ _, World.ownsRow_nil _ _ _ _, World.ownsRow_nil _ _ _ _, fun _ _ h => by simp [Value.ownBlock] at h, fun _ _ h => by simp [Value.ownBlock] at h, fun _ _ h => by simp [Value.ownBlock] at h⟩, ⟨rfl, Nat.le_refl _, rfl⟩⟩, hb.alloc hs _⟩
  clear hown hb hS
  go_wp2
  go_ret
  exact ⟨_, rfl, HH.out.1, HH.out.2⟩

theorem outsR_ok (n : Nat) : ∀ (any : Bool) (r : Pl.RdM), Pl.Ok 0 r → Pl.Ok 0 (Pl.outsR n any r).2 := by
  induction n with
  | zero => intro _ r h; exact h
  | succ n ih =>
    intro any r h
    rw [Pl.outsR]
    split
    · exact h
    · split
      · rename_i hp
        have hk := (Pl.namedR_keeps r.skip).ok _ h.skip
        split
        · rename_i e; rw [e] at hk; exact hk
        · rename_i e
          have h1 := h.step (by rw [hp]; decide)
          exact ih _ _ (((Pl.namedR_more h1 e).addEnt _ _ _).addOut _)
      · exact h
theorem textR_ok (r : Pl.RdM) (h : Pl.Ok 0 r) : Pl.Ok 0 (Pl.textR r).2 := by
  unfold Pl.textR
  have h1 := inputsR_ok 4 false r h
  split
  · rename_i e; rw [e] at h1; exact h1
  · rename_i r1 e
    rw [e] at h1
    have h2 := letsR_ok 16 r1 h1
    split
    · rename_i e; rw [e] at h2; exact h2
    · rename_i e; rw [e] at h2; exact outsR_ok 4 false _ h2

theorem plan_facts {w : World} {g : Nat} {x y z u v : Value} (h : w.heap[g]? = some (.cells #[x, y, z, u, v] 104 (0, 0))) : w.cell? ⟨g, 0, none⟩ = some x ∧ w.cell? ⟨g, 1, none⟩ = some y ∧ w.cell? ⟨g, 2, none⟩ = some z ∧ w.cell? ⟨g, 3, none⟩ = some u ∧ w.cell? ⟨g, 4, none⟩ = some v ∧ w.frozen? ⟨g, 0, none⟩ = false ∧ w.frozen? ⟨g, 1, none⟩ = false ∧ w.frozen? ⟨g, 2, none⟩ = false ∧ w.frozen? ⟨g, 3, none⟩ = false ∧ w.frozen? ⟨g, 4, none⟩ = false :=
  ⟨by rw [cellsOf h]; rfl, by rw [cellsOf h]; rfl, by rw [cellsOf h]; rfl, by rw [cellsOf h]; rfl, by rw [cellsOf h]; rfl, freeOf h 0, freeOf h 1, freeOf h 2, freeOf h 3, freeOf h 4⟩

/-- The plan's lists, in blocks of their own. -/
def PlanOwn (w : World) (r : Pl.RdM) (vi vn vo vx vy : Value) : Prop := ∃ (B : Nat) (bvs : List Value) (lx ly : List (List UInt8)), SpansOwn B w vi r.ins ∧ NodesOwn B w vn r.nodes bvs ∧ IntsOwn B w vo r.outs ∧ StrsOwn B w vx lx ∧ StrsOwn B w vy ly ∧ Pl.Named r lx ly
theorem PlanOwn.keep {w w' : World} {r : Pl.RdM} {vi vn vo vx vy : Value} (h : PlanOwn w r vi vn vo vx vy) (k : ∀ e : TypeId, 104 ≠ e → KeepT e w w') : PlanOwn w' r vi vn vo vx vy := by
  obtain ⟨B, bvs, lx, ly, h1, h2, h3, h4, h5, h6⟩ := h
  exact ⟨B, bvs, lx, ly, own_keep h1 (k _ (by decide)), h2.keep (k _ (by decide)) (k _ (by decide)), own_keep h3 (k _ (by decide)), own_keep h4 (k _ (by decide)), own_keep h5 (k _ (by decide)), h6⟩
theorem keep_store {w : World} {g : Nat} {cs : Array Value} (hk : w.heap[g]? = some (.cells cs 104 (0, 0))) (x y z u v : Value) : ∀ e : TypeId, 104 ≠ e → KeepT e w (((((w.setCell ⟨g, 0, none⟩ x).setCell ⟨g, 1, none⟩ y).setCell ⟨g, 2, none⟩ z).setCell ⟨g, 3, none⟩ u).setCell ⟨g, 4, none⟩ v) := by
  have h1 := heap_setCell_same w g 0 _ _ x hk
  have h2 := heap_setCell_same _ g 1 _ _ y h1
  have h3 := heap_setCell_same _ g 2 _ _ z h2
  have h4 := heap_setCell_same _ g 3 _ _ u h3
  exact fun e he => ((((KeepT.setCell hk he 0 x).trans (KeepT.setCell h1 he 1 y)).trans (KeepT.setCell h2 he 2 z)).trans (KeepT.setCell h3 he 3 u)).trans (KeepT.setCell h4 he 4 v)
theorem RdAt.planOwn {B : Nat} {w : World} {b : Nat} {r : Pl.RdM} {vi vn vo vt ve : Value} {bvs : List Value} {vx vy : Value} {lx ly : List (List UInt8)} (h : RdAt B w b r vi vn vo vt ve bvs vx vy lx ly) (hnm : Pl.Named r lx ly) : PlanOwn w r vi vn vo vx vy := ⟨B, bvs, lx, ly, h.ins, h.nodes, h.outs, h.inN, h.outN, hnm⟩

/-- What a reading leaves: lists that read as the plan if there is no error, and are nothing else. -/
structure ReadAt (w : World) (e : Int) (r : Pl.RdM) (vi vn vo vx vy : Value) : Prop where
  good : e = 0 → PlanOwn w r vi vn vo vx vy
  bad : e ≠ 0 → vi = .slice none 0 0 ∧ vn = .slice none 0 0 ∧ vo = .slice none 0 0
  si : ∃ ad n cap, vi = .slice ad n cap
  sn : ∃ ad n cap, vn = .slice ad n cap
  so : ∃ ad n cap, vo = .slice ad n cap
  sx : ∃ ad n cap, vx = .slice ad n cap
  sy : ∃ ad n cap, vy = .slice ad n cap
theorem ReadAt.none (w : World) (e : Int) (r : Pl.RdM) (h : e ≠ 0) : ReadAt w e r (.slice none 0 0) (.slice none 0 0) (.slice none 0 0) (.slice none 0 0) (.slice none 0 0) :=
  ⟨fun h' => absurd h' h, fun _ => ⟨rfl, rfl, rfl⟩, ⟨_, _, _, rfl⟩, ⟨_, _, _, rfl⟩, ⟨_, _, _, rfl⟩, ⟨_, _, _, rfl⟩, ⟨_, _, _, rfl⟩⟩

theorem ReadAt.keep {w w' : World} {e : Int} {r : Pl.RdM} {vi vn vo vx vy : Value} (h : ReadAt w e r vi vn vo vx vy) (k : ∀ e : TypeId, 104 ≠ e → KeepT e w w') : ReadAt w' e r vi vn vo vx vy :=
  ⟨fun h0 => (h.good h0).keep k, h.bad, h.si, h.sn, h.so, h.sx, h.sy⟩

set_option maxRecDepth 100000 in
set_option maxHeartbeats 2000000 in
theorem Result_any {B : Nat} {w : World} {b : Nat} {r : Pl.RdM} {s : Nat} (h : Rd B w b r) (ok : Pl.Ok s r) (hbl : ∀ n ∈ r.nodes, n.bands.length ≤ 1000) (right : Bool) :
    Calls Tryz.prog 94 #[.pointer (some ⟨b, 0, none⟩), .bool right] w fun e w' => ∃ vi vn vo vx vy, e = .returned (.tuple #[.agg #[vi, vn, vo, vx, vy], .int .i64 (Pl.resultR right r).1, .int .i64 (Pl.resultR right r).2]) ∧ ReadAt w' (Pl.resultR right r).1 r vi vn vo vx vy ∧ Below w.heap.size w w' := by
  have hal : Below w.heap.size w (w.alloc (.cells #[.slice none 0 0, .slice none 0 0, .slice none 0 0, .slice none 0 0, .slice none 0 0] 104)) := (Below.refl _ w).alloc (Nat.le_refl _) _
  have hnew := heap_alloc_new w (.cells #[.slice none 0 0, .slice none 0 0, .slice none 0 0, .slice none 0 0, .slice none 0 0] 104)
  have hr1 := h.below hal
  have hlt := h.bd.2.2
  cases right with
  | false =>
    have hR : Hid (Pl.resultR false r = (2, (r.pos : Int))) := by unfold Pl.resultR Hid; rw [if_neg (by simp)]
    obtain ⟨c0, c1, c2, c3, c4, f0, f1, f2, f3, f4⟩ := plan_facts hnew
    obtain ⟨vi, vn, vo, vt, ve, bvs, vx, vy, lx, ly, h3, hnm⟩ := hr1
    have d4 : (w.alloc (.cells #[.slice none 0 0, .slice none 0 0, .slice none 0 0, .slice none 0 0, .slice none 0 0] 104)).cell? ⟨b, 6, none⟩ = some (.int .i64 r.pos) := by rw [cellsOf h3.blk]; rfl
    have HH : Hid (Below w.heap.size w (w.alloc (.cells #[.slice none 0 0, .slice none 0 0, .slice none 0 0, .slice none 0 0, .slice none 0 0] 104)).drew) := below_drewN hal 1
    clear hal hnew h h3 hbl
    go_enter Tryz.func94, Tryz.ntmps94
    go_wp2
    go_region
    all_goals go_wp2
    rw [hR.out]
    exact bodyPost_ret (v := .tuple #[.agg #[.slice none 0 0, .slice none 0 0, .slice none 0 0, .slice none 0 0, .slice none 0 0], .int .i64 2, .int .i64 r.pos]) (by simp [results, Tryz.results94, go_sem, c0, c1, c2, c3, c4]) rfl ⟨_, _, _, _, _, rfl, ReadAt.none _ _ _ (by simp), HH.out⟩
  | true =>
    have hB := IsBig_any r.ins r.nodes r.outs b _ hr1.plan (sizes ok).1 hbl
    cases hbig : Pl.isBigW r.ins r.nodes with
    | true =>
      have hR : Hid (Pl.resultR true r = (3, 0)) := by unfold Pl.resultR Hid; rw [if_pos rfl, if_pos hbig]
      rw [hbig] at hB
      go_enter Tryz.func94, Tryz.ntmps94
      go_wp2_with fail
      refine hB.mono ?_
      rintro e w3 ⟨rfl, hb3⟩
      have hk := (hb3.block w.heap.size (by simp)).trans hnew
      obtain ⟨c0, c1, c2, c3, c4, f0, f1, f2, f3, f4⟩ := plan_facts hk
      have HH : Hid (∀ x y z u v, Below w.heap.size w (((((w3.setCell ⟨w.heap.size, 0, none⟩ x).setCell ⟨w.heap.size, 1, none⟩ y).setCell ⟨w.heap.size, 2, none⟩ z).setCell ⟨w.heap.size, 3, none⟩ u).setCell ⟨w.heap.size, 4, none⟩ v)) := fun x y z u v =>
        (((((hal.trans (hb3.mono (by simp))).setCell (p := ⟨w.heap.size, 0, none⟩) (Nat.le_refl _) x).setCell (p := ⟨w.heap.size, 1, none⟩) (Nat.le_refl _) y).setCell (p := ⟨w.heap.size, 2, none⟩) (Nat.le_refl _) z).setCell (p := ⟨w.heap.size, 3, none⟩) (Nat.le_refl _) u).setCell (p := ⟨w.heap.size, 4, none⟩) (Nat.le_refl _) v
      clear hal hnew h hbl hb3 hk hB hr1
      go_wp2_with fail
      rw [hR.out]
      exact bodyPost_ret (v := .tuple #[.agg #[.slice none 0 0, .slice none 0 0, .slice none 0 0, .slice none 0 0, .slice none 0 0], .int .i64 3, .int .i64 0]) (by simp [results, Tryz.results94, go_sem, c0, c1, c2, c3, c4]) rfl ⟨_, _, _, _, _, rfl, ReadAt.none _ _ _ (by simp), HH.out _ _ _ _ _⟩
    | false =>
      have hR : Hid (Pl.resultR true r = (0, 0)) := by unfold Pl.resultR Hid; rw [if_pos rfl, if_neg (by simp [hbig])]
      rw [hbig] at hB
      go_enter Tryz.func94, Tryz.ntmps94
      go_wp2_with fail
      refine hB.mono ?_
      rintro e w3 ⟨rfl, hb3⟩
      have hk := (hb3.block w.heap.size (by simp)).trans hnew
      obtain ⟨c0, c1, c2, c3, c4, f0, f1, f2, f3, f4⟩ := plan_facts hk
      obtain ⟨vi, vn, vo, vt, ve, bvs, vx, vy, lx, ly, h3, hnm⟩ := hr1.below hb3
      obtain ⟨ai, ci, rfl⟩ := slice_shape h3.ins
      obtain ⟨an, cn, rfl⟩ := slice_shape h3.nodes.own
      obtain ⟨ao, co, rfl⟩ := slice_shape h3.outs
      obtain ⟨ax, cx, rfl⟩ := slice_shape h3.inN
      obtain ⟨ay, cy, rfl⟩ := slice_shape h3.outN
      have d0 : w3.cell? ⟨b, 0, none⟩ = some (.slice ai r.ins.length ci) := by rw [cellsOf h3.blk]; rfl
      have d1 : w3.cell? ⟨b, 1, none⟩ = some (.slice an r.nodes.length cn) := by rw [cellsOf h3.blk]; rfl
      have d2 : w3.cell? ⟨b, 2, none⟩ = some (.slice ao r.outs.length co) := by rw [cellsOf h3.blk]; rfl
      have d3 : w3.cell? ⟨b, 3, none⟩ = some (.slice ax lx.length cx) := by rw [cellsOf h3.blk]; rfl
      have d4 : w3.cell? ⟨b, 4, none⟩ = some (.slice ay ly.length cy) := by rw [cellsOf h3.blk]; rfl
      have HH : Hid (∀ x y z u v, Below w.heap.size w (((((w3.setCell ⟨w.heap.size, 0, none⟩ x).setCell ⟨w.heap.size, 1, none⟩ y).setCell ⟨w.heap.size, 2, none⟩ z).setCell ⟨w.heap.size, 3, none⟩ u).setCell ⟨w.heap.size, 4, none⟩ v)) := fun x y z u v =>
        (((((hal.trans (hb3.mono (by simp))).setCell (p := ⟨w.heap.size, 0, none⟩) (Nat.le_refl _) x).setCell (p := ⟨w.heap.size, 1, none⟩) (Nat.le_refl _) y).setCell (p := ⟨w.heap.size, 2, none⟩) (Nat.le_refl _) z).setCell (p := ⟨w.heap.size, 3, none⟩) (Nat.le_refl _) u).setCell (p := ⟨w.heap.size, 4, none⟩) (Nat.le_refl _) v
      have HP := hide (fun x y z u v => (h3.planOwn hnm).keep (keep_store hk x y z u v))
      clear hal hnew h hbl hb3 hk hB hr1 h3
      go_wp2_with fail
      rw [hR.out]
      exact bodyPost_ret (v := .tuple #[.agg #[.slice ai r.ins.length ci, .slice an r.nodes.length cn, .slice ao r.outs.length co, .slice ax lx.length cx, .slice ay ly.length cy], .int .i64 0, .int .i64 0]) (by simp [results, Tryz.results94, go_sem, c0, c1, c2, c3, c4]) rfl ⟨_, _, _, _, _, rfl, ⟨fun _ => unhide HP _ _ _ _ _, fun h => absurd rfl h, ⟨_, _, _, rfl⟩, ⟨_, _, _, rfl⟩, ⟨_, _, _, rfl⟩, ⟨_, _, _, rfl⟩, ⟨_, _, _, rfl⟩⟩, HH.out _ _ _ _ _⟩
end Go.Proofs.YtfaljekgpnbmiaaGreat
