/- Joined: Text1. -/
import Derived.Test.YtfaljekgpnbmiaaGreatH18
/-
  Contracts of the reader's input and Inputs, and of package high's named, lets, outs, text.
-/
namespace Go.Proofs.YtfaljekgpnbmiaaGreat
open Go.RowKit

theorem NewName_no {B : Nat} {w : World} {b : Nat} {r : Pl.RdM} {s : Nat} (h : Rd B w b r) (ok : Pl.Ok s r) (hn : r.newName = none) :
    Calls Tryz.prog 246 #[.pointer (some ⟨b, 0, none⟩)] w fun e w' => e = .returned (.tuple #[.string ⟨#[]⟩, .bool false]) ∧ Rd B w' b r ∧ Below B w w' := by
  have h1 := ok.size
  have h2 := ok.pos
  have := NewName_any h h2 (by unfold Pl.RdM.sz at h1; omega)
  rw [hn] at this; exact this
theorem NewName_yes {B : Nat} {w : World} {b : Nat} {r : Pl.RdM} {s : Nat} (h : Rd B w b r) (ok : Pl.Ok s r) (t : List UInt8) (hn : r.newName = some t) :
    Calls Tryz.prog 246 #[.pointer (some ⟨b, 0, none⟩)] w fun e w' => e = .returned (.tuple #[.string ⟨t.toArray⟩, .bool true]) ∧ Rd B w' b r.skip ∧ Below B w w' := by
  have h1 := ok.size
  have h2 := ok.pos
  have := NewName_any h h2 (by unfold Pl.RdM.sz at h1; omega)
  rw [hn] at this; exact this
theorem Word_yes {B : Nat} {w : World} {b : Nat} {r : Pl.RdM} (h : Rd B w b r) (hp : r.pos ≤ 600) (t : List UInt8) (he : r.peek = t) :
    Calls Tryz.prog 183 #[.pointer (some ⟨b, 0, none⟩), .string ⟨t.toArray⟩] w fun e w' => e = .returned (.bool true) ∧ Rd B w' b r.skip ∧ Below B w w' := by
  have := Word_any h hp t
  rw [he, beq_self_eq_true] at this; exact this
theorem Word_no {B : Nat} {w : World} {b : Nat} {r : Pl.RdM} (h : Rd B w b r) (hp : r.pos ≤ 600) (t : List UInt8) (he : ¬ r.peek = t) :
    Calls Tryz.prog 183 #[.pointer (some ⟨b, 0, none⟩), .string ⟨t.toArray⟩] w fun e w' => e = .returned (.bool false) ∧ Rd B w' b r ∧ Below B w w' := by
  have := Word_any h hp t
  rw [bfalse he] at this; exact this
theorem sizes {s : Nat} {r : Pl.RdM} (ok : Pl.Ok s r) : r.nodes.length ≤ 1000 ∧ r.ents.length ≤ 1000 ∧ r.ins.length ≤ 1000 ∧ r.outs.length ≤ 1000 := by
  have h1 := ok.size
  have h2 := ok.pos
  unfold Pl.RdM.sz at h1; omega

set_option maxRecDepth 100000 in
set_option maxHeartbeats 1000000 in
theorem input_any {B : Nat} {w : World} {b : Nat} {r : Pl.RdM} {s : Nat} (h : Rd B w b r) (ok : Pl.Ok s r) (hei : r.ents.length = r.ins.length) :
    Calls Tryz.prog 184 #[.pointer (some ⟨b, 0, none⟩)] w fun e w' => e = .returned (.bool (Pl.inputR r).1) ∧ Rd B w' b (Pl.inputR r).2 ∧ Below B w w' := by
  unfold Pl.inputR
  cases hn : r.newName with
  | none =>
    go_enter Tryz.func184, Tryz.ntmps184
    go_wp2_with fail
    refine (NewName_no h ok hn).mono ?_
    rintro e w1 ⟨rfl, hrw1, hbw1⟩
    have HH : Hid (Rd B w1 b r ∧ Below B w w1) := ⟨hrw1, hbw1⟩
    clear hrw1 hbw1 h
    go_wp2
    go_ret
    exact ⟨rfl, HH.out.1, HH.out.2⟩
  | some name =>
    have ok1 := ok.step (Pl.newName_some hn).1
    simp only
    cases hlo : r.skip.num (-1000000000) 1000000000 with
    | none =>
      go_enter Tryz.func184, Tryz.ntmps184
      go_wp2_with fail
      refine (NewName_yes h ok name hn).mono ?_
      rintro e w1 ⟨rfl, hrw1, hbw1⟩
      go_wp2_with fail
      refine (RNum_no hrw1 ok1.pos ok1.peek_len _ _ hlo).mono ?_
      rintro e w2 ⟨rfl, hrw2, hbw2⟩
      have HH : Hid (Rd B w2 b r.skip ∧ Below B w w2) := ⟨hrw2, (hbw1.trans hbw2)⟩
      clear hrw1 hbw1 hrw2 hbw2 h
      go_wp2
      go_ret
      exact ⟨rfl, HH.out.1, HH.out.2⟩
    | some lo =>
      have ok2 := ok1.step (Pl.num_some hlo).1
      simp only
      cases hhi : r.skip.skip.num lo 1000000000 with
      | none =>
        go_enter Tryz.func184, Tryz.ntmps184
        go_wp2_with fail
        refine (NewName_yes h ok name hn).mono ?_
        rintro e w1 ⟨rfl, hrw1, hbw1⟩
        go_wp2_with fail
        refine (RNum_yes hrw1 ok1.pos ok1.peek_len _ _ lo hlo).mono ?_
        rintro e w2 ⟨rfl, hrw2, hbw2⟩
        go_wp2_with fail
        refine (RNum_no hrw2 ok2.pos ok2.peek_len _ _ hhi).mono ?_
        rintro e w3 ⟨rfl, hrw3, hbw3⟩
        have HH : Hid (Rd B w3 b r.skip.skip ∧ Below B w w3) := ⟨hrw3, ((hbw1.trans hbw2).trans hbw3)⟩
        clear hrw1 hbw1 hrw2 hbw2 hrw3 hbw3 h
        go_wp2
        go_ret
        exact ⟨rfl, HH.out.1, HH.out.2⟩
      | some hi =>
        have ok3 := ok2.step (Pl.num_some hhi).1
        obtain ⟨z1, z2, z3, z4⟩ := sizes ok3
        have ok5 := (ok3.addIn (lo, hi)).addNode ⟨1, 0, 0, 0, r.ins.length, []⟩
        obtain ⟨y1, y2, y3, y4⟩ := sizes ok5
        have e1 : r.skip.skip.skip.nodes = r.nodes := by rw [(Pl.skip_same _).1, (Pl.skip_same _).1, (Pl.skip_same _).1]
        have e2 : r.skip.skip.skip.ins = r.ins := by rw [(Pl.skip_same _).2.1, (Pl.skip_same _).2.1, (Pl.skip_same _).2.1]
        have ha := fun w3 lx ly (hr : RdX B w3 b r.skip.skip.skip lx ly) => AppendInput_x hr lo hi z1 z3
        rw [e1, e2] at ha
        have hei3 : Hid (r.skip.skip.skip.ents.length = r.skip.skip.skip.ins.length) := by
          unfold Hid
          rw [(Pl.skip_same _).2.2.1, (Pl.skip_same _).2.2.1, (Pl.skip_same _).2.2.1, e2]; exact hei
        obtain ⟨k0, hk, hx0, hx1, hx2⟩ := info_parts Tryz.infoStr
        have hbB := h.bd
        go_enter Tryz.func184, Tryz.ntmps184
        go_wp2_with fail
        refine (NewName_yes h ok name hn).mono ?_
        rintro e w1 ⟨rfl, hrw1, hbw1⟩
        go_wp2_with fail
        refine (RNum_yes hrw1 ok1.pos ok1.peek_len _ _ lo hlo).mono ?_
        rintro e w2 ⟨rfl, hrw2, hbw2⟩
        go_wp2_with fail
        refine (RNum_yes hrw2 ok2.pos ok2.peek_len _ _ hi hhi).mono ?_
        rintro e w3 ⟨rfl, hrw3, hbw3⟩
        obtain ⟨lx, ly, hx3, hnm3⟩ := hrw3.x
        have HN : Hid (Pl.Named r.skip.skip.skip lx ly) := hnm3
        have hlx : lx.length ≤ 1000 := by rw [hnm3.ins]; exact Nat.le_trans (Pl.inNames_len _ _) z2
        go_wp2_with fail
        refine (ha _ _ _ hx3).mono ?_
        rintro e w4 ⟨rfl, hrw4, hbw4⟩
        obtain ⟨vi, vn, vo, vt, ve, bvs, vx, vy, h4⟩ := hrw4
        have c3 : w4.cell? ⟨b, 3, none⟩ = some vx := by rw [cellsOf h4.blk]; rfl
        have hal := h4.below ((Below.refl _ w4).alloc (Nat.le_refl _) (.cells #[.string ⟨name.toArray⟩] 9))
        have hsz := lt_of_block h4.blk
        have HB4 : Hid (Below B w w4) := ((hbw1.trans hbw2).trans hbw3).trans hbw4
        clear hbw1 hbw2 hbw3 hbw4 hrw1 hrw2 hrw3 hx3 hnm3 h4 h ha
        go_wp2_with (at_builtin; refine wpList_append_lies _ rfl _ _ 102 rfl B 9 k0 (.string ⟨#[]⟩) 1 16 Tryz.underlying102 hk hx0 hx1 hx2 rfl (by decide) _ _ _ rfl hal.inN ⟨_, 0, none⟩ 1 1 [strV name] rfl rfl ?e1 (fun u hu => by simp at hu; subst hu; rfl) (by decide) ?e3 ?e4 ?e5 _ rfl ?_)
        case e1 => exact news_at #[strV name] _
        case e3 => unfold maxLen; omega
        case e4 => omega
        case e5 => simp; omega
        · intro g cap w5 hown hgrow hgb _
          have hA : Hid (RdAt B (w5.setCell ⟨b, 3, none⟩ (.slice (some ⟨g, 0, none⟩) (lx.length + 1) cap)) b ((r.skip.skip.skip.addIn (lo, hi)).addNode ⟨1, 0, 0, 0, r.ins.length, []⟩) vi vn vo vt ve bvs (.slice (some ⟨g, 0, none⟩) (lx.length + 1) cap) vy (lx ++ [name]) ly) := hal.addInN hgrow (by simpa using hgb) hown
          have hB1 : Hid (Below B w (w5.setCell ⟨b, 3, none⟩ (.slice (some ⟨g, 0, none⟩) (lx.length + 1) cap))) := (((HB4.out.alloc (by omega) (.cells #[.string ⟨name.toArray⟩] 9)).grown hgrow (by simp; omega) (own_base hal.inN)).setCell (p := ⟨b, 3, none⟩) hbB.1 _)
          have hbk := hal.blkKept hal.inN hgrow (by decide)
          have c3' : w5.cell? ⟨b, 3, none⟩ = some vx := by rw [cellsOf (hbk.trans hal.blk)]; rfl
          have f3' : w5.frozen? ⟨b, 3, none⟩ = false := freeOf (hbk.trans hal.blk) 3
          clear hown hgrow hbk hal c3 HB4 hgb
          go_wp2_with fail
          refine (LearnValue_x ⟨_, _, _, _, _, _, _, _, hA.out⟩ name r.nodes.length y2).mono ?_
          rintro e w6 ⟨rfl, hr6, hb6⟩
          have HH : Hid (Rd B w6 b (((r.skip.skip.skip.addIn (lo, hi)).addNode ⟨1, 0, 0, 0, r.ins.length, []⟩).addEnt name 0 r.nodes.length) ∧ Below B w w6) := ⟨hr6.rd (HN.out.addIn hei3.out name _ _ _), hB1.out.trans hb6⟩
          clear hr6 hb6 hA hB1 c3' f3'
          go_wp2
          go_ret
          exact ⟨rfl, HH.out.1, HH.out.2⟩

set_option maxRecDepth 100000 in
set_option maxHeartbeats 1000000 in
theorem Inputs_any {B : Nat} {w : World} {b : Nat} {r : Pl.RdM} (h : Rd B w b r) (ok : Pl.Ok 0 r) (hei : r.ents.length = r.ins.length) :
    Calls Tryz.prog 131 #[.pointer (some ⟨b, 0, none⟩)] w fun e w' => e = .returned (.bool (Pl.inputsR 4 false r).1) ∧ Rd B w' b (Pl.inputsR 4 false r).2 ∧ Below B w w' := by
  generalize hT : Pl.inputsR 4 false r = T
  have hT' : Hid (Pl.inputsR 4 false r = T) := hT
  have h' : Hid (Rd B w b r ∧ Pl.Ok 0 r) := ⟨h, ok⟩
  have hei' : Hid (r.ents.length = r.ins.length) := hei
  clear hT h ok hei
  go_enter Tryz.func131, Tryz.ntmps131
  go_wp2
  go_loopw [3] (fun i wr => ∃ (k : Nat) (rk : Pl.RdM), k ≤ 4 ∧ i = .int .i64 k ∧ Hid (Rd B wr b rk ∧ Pl.Ok 0 rk ∧ Below B w wr ∧ Pl.inputsR (4 - k) (decide (0 < k)) rk = T ∧ rk.ents.length = rk.ins.length)) (fun i _ => 4 - (intOf i).toNat)
  case atStart => exact ⟨0, r, by omega, rfl, h'.out.1, h'.out.2, Below.refl _ _, hT'.out, hei'.out⟩
  case round =>
    obtain ⟨k, rk, hk, rfl, hh⟩ := hrel
    obtain ⟨hR, hok, hB, hs, hev⟩ := hh.out
    have hev' : Hid (rk.ents.length = rk.ins.length) := hev
    clear hev
    have hs' : Hid (Pl.inputsR (4 - k) (decide (0 < k)) rk = T) := hs
    have hB' : Hid (Below B w wr) := hB
    clear hs hB hh hT' h' hei'
    by_cases hlt : k < 4
    · by_cases hin : rk.peek = Pl.kIn
      · have hok1 := hok.step (by rw [hin]; decide)
        have hstep := hs'.out
        rw [show 4 - k = (3 - k) + 1 by omega, Pl.inputsR, if_pos hin] at hstep
        have hW := Word_yes hR hok.pos _ hin
        simp only [Pl.kIn] at hW
        cases hi : Pl.inputR rk.skip with
        | mk o r1 =>
        have hes : rk.skip.ents.length = rk.skip.ins.length := by rw [(Pl.skip_same _).2.2.1, (Pl.skip_same _).2.1]; exact hev'.out
        have hI := fun w1 (hr : Rd B w1 b rk.skip) => input_any hr hok1 hes
        have he2 : Hid ((Pl.inputR rk.skip).2.ents.length = (Pl.inputR rk.skip).2.ins.length) := Pl.inputR_even hes
        clear hes
        rw [hi] at hI hstep he2
        have hok2 := Pl.inputR_ok hok1
        rw [hi] at hok2
        cases o
        · have hTe : Hid (T = (false, r1)) := hstep.symm
          clear hstep hs' hin
          go_wp2_with fail
          refine hW.mono ?_
          rintro e w1 ⟨rfl, hr1, hb1⟩
          go_wp2_with fail
          refine (hI _ hr1).mono ?_
          rintro e w2 ⟨rfl, hr2, hb2⟩
          have HH : Hid (Rd B w2 b r1 ∧ Below B w w2) := ⟨hr2, (hB'.out.trans hb1).trans hb2⟩
          clear hr1 hb1 hr2 hb2 hR hW hI
          go_wp2_with fail
          go_ret
          rw [hTe.out]
          exact ⟨rfl, HH.out.1, HH.out.2⟩
        · have hTe : Hid (Pl.inputsR (3 - k) true r1 = T) := hstep
          clear hstep hs' hin
          go_wp2_with fail
          refine hW.mono ?_
          rintro e w1 ⟨rfl, hr1, hb1⟩
          go_wp2_with fail
          refine (hI _ hr1).mono ?_
          rintro e w2 ⟨rfl, hr2, hb2⟩
          have HH : Hid (Rd B w2 b r1 ∧ Pl.Ok 0 r1 ∧ Below B w w2 ∧ Pl.inputsR (4 - (k + 1)) (decide (0 < k + 1)) r1 = T ∧ r1.ents.length = r1.ins.length) := ⟨hr2, hok2.less (by omega), (hB'.out.trans hb1).trans hb2, by rw [show 4 - (k + 1) = 3 - k by omega, decide_eq_true (by omega)]; exact hTe.out, he2.out⟩
          clear hr1 hb1 hr2 hb2 hR hW hI
          go_wp2_with fail
          go_roundw
          case rel => exact ⟨k + 1, r1, by omega, by go_num, HH⟩
          case measure => simp [intOf]; omega
      · have hTe : Hid (T = (decide (0 < k), rk)) := by
          have hstep := hs'.out
          rw [show 4 - k = (3 - k) + 1 by omega, Pl.inputsR, if_neg hin] at hstep; exact hstep.symm
        have hW := Word_no hR hok.pos _ hin
        simp only [Pl.kIn] at hW
        clear hs' hin
        go_wp2_with fail
        refine hW.mono ?_
        rintro e w1 ⟨rfl, hr1, hb1⟩
        have HH : Hid (Rd B w1 b rk ∧ Below B w w1) := ⟨hr1, hB'.out.trans hb1⟩
        clear hr1 hb1 hR hW
        go_wp2_with fail
        go_ret
        rw [hTe.out]
        exact ⟨ret_bool (by simp), HH.out.1, HH.out.2⟩
    · have hTe : Hid (T = (true, rk)) := by
        have hstep := hs'.out
        rw [show 4 - k = 0 by omega, Pl.inputsR] at hstep; exact hstep.symm
      have HH : Hid (Rd B wr b rk) := hR
      clear hs' hR
      go_wp2_with fail
      go_ret
      rw [hTe.out]
      exact ⟨rfl, HH.out, hB'.out⟩

set_option maxRecDepth 100000 in
set_option maxHeartbeats 1000000 in
theorem named_any {B : Nat} {w : World} {b : Nat} {r : Pl.RdM} {s : Nat} (h : Rd B w b r) (ok : Pl.Ok s r) :
    Calls Tryz.prog 185 #[.pointer (some ⟨b, 0, none⟩)] w fun e w' => e = .returned (.tuple #[strV ((Pl.namedR r).1.getD ([], 0)).1, .int .i64 ((Pl.namedR r).1.getD ([], 0)).2, .bool (Pl.namedR r).1.isSome]) ∧ Rd B w' b (Pl.namedR r).2 ∧ Below B w w' := by
  unfold Pl.namedR
  cases hn : r.newName with
  | none =>
    go_enter Tryz.func185, Tryz.ntmps185
    go_wp2_with fail
    refine (NewName_no h ok hn).mono ?_
    rintro e w1 ⟨rfl, hrw1, hbw1⟩
    have HH : Hid (Rd B w1 b r ∧ Below B w w1) := ⟨hrw1, hbw1⟩
    clear hrw1 hbw1 h
    go_wp2
    go_ret3
    exact ⟨rfl, HH.out.1, HH.out.2⟩
  | some name =>
    have ok1 := ok.step (Pl.newName_some hn).1
    have hE := fun w1 (hr : Rd B w1 b r.skip) => expression_any hr ok1
    simp only
    cases hf : Pl.read 600 false r.skip with
    | mk o r1 =>
    rw [hf] at hE
    cases o with
    | none =>
      simp only [optV, Option.getD_none, Option.isSome_none] at hE
      go_enter Tryz.func185, Tryz.ntmps185
      go_wp2_with fail
      refine (NewName_yes h ok name hn).mono ?_
      rintro e w1 ⟨rfl, hrw1, hbw1⟩
      go_wp2_with fail
      refine (hE _ hrw1).mono ?_
      rintro e w2 ⟨rfl, hrw2, hbw2⟩
      have HH : Hid (Rd B w2 b r1 ∧ Below B w w2) := ⟨hrw2, (hbw1.trans hbw2)⟩
      clear hrw1 hbw1 hrw2 hbw2 h
      go_wp2
      go_ret3
      exact ⟨rfl, HH.out.1, HH.out.2⟩
    | some n =>
      simp only [optV, Option.getD_some, Option.isSome_some] at hE
      go_enter Tryz.func185, Tryz.ntmps185
      go_wp2_with fail
      refine (NewName_yes h ok name hn).mono ?_
      rintro e w1 ⟨rfl, hrw1, hbw1⟩
      go_wp2_with fail
      refine (hE _ hrw1).mono ?_
      rintro e w2 ⟨rfl, hrw2, hbw2⟩
      have HH : Hid (Rd B w2 b r1 ∧ Below B w w2) := ⟨hrw2, (hbw1.trans hbw2)⟩
      clear hrw1 hbw1 hrw2 hbw2 h
      go_wp2
      go_ret3
      exact ⟨rfl, HH.out.1, HH.out.2⟩

end Go.Proofs.YtfaljekgpnbmiaaGreat
