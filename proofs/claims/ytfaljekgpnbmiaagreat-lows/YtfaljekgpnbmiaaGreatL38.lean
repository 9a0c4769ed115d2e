/- Joined: Low1. -/
import Derived.Test.YtfaljekgpnbmiaaGreatL37
/-
  Contracts of the reader's LearnFlag and Flag, of plan.Op's IsFlag, and of package low's readers of what an operation takes.
-/
namespace Go.Proofs.YtfaljekgpnbmiaaGreat
open Go.RowKit

set_option maxHeartbeats 400000 in
theorem LearnFlag_any {B : Nat} {w : World} {b : Nat} {r : Pl.RdM} (h : Rd B w b r) (t : List UInt8) (n : Int) (hn : r.ents.length ≤ 1000) :
    Calls Tryz.prog 255 #[.pointer (some ⟨b, 0, none⟩), .string ⟨t.toArray⟩, .int .i64 n] w fun e w' => e = .returned (.tuple #[]) ∧ Rd B w' b (r.addEnt t 1 n) ∧ Below B w w' := by
  obtain ⟨i0, hi, hz0, hz1, hz2⟩ := info_parts Tryz.infoEnt
  obtain ⟨vi, vn, vo, vt, ve, bvs, vx, vy, lx, ly, h, hnm⟩ := h
  have hB := h.base
  have hlt := lt_of_block h.blk
  have c5 : w.cell? ⟨b, 7, none⟩ = some ve := by rw [cellsOf h.blk]; rfl
  have f5 : w.frozen? ⟨b, 7, none⟩ = false := freeOf h.blk 7
  have hal := h.below ((Below.refl _ w).alloc (Nat.le_refl _) (.cells #[.string ⟨t.toArray⟩, .int .i64 1, .int .i64 n] 307))
  go_enter Tryz.func255, Tryz.ntmps255
  go_wp2_with (at_builtin; refine wpList_append_lies _ rfl _ _ 186 rfl B 307 i0 (.agg #[.string ⟨#[]⟩, .int .i64 0, .int .i64 0]) 3 32 Tryz.underlying186 hi hz0 hz1 hz2 rfl (by decide) _ _ _ rfl hal.ents ⟨_, 0, none⟩ 1 1 [strV t, intV 1, intV n] rfl rfl ?c1 (three_cell _ _ _ rfl rfl rfl) (by decide) ?c3 ?c4 ?c5 _ rfl ?_)
  case c1 => exact news_at #[strV t, intV 1, intV n] _
  case c3 => unfold maxLen; omega
  case c4 => omega
  case c5 => simp; omega
  · intro g cap w1 hown' hgrow _ _
    have hA : Hid (RdAt B (w1.setCell ⟨b, 7, none⟩ (.slice (some ⟨g, 0, none⟩) (r.ents.length + 1) cap)) b (r.addEnt t 1 n) vi vn vo vt (.slice (some ⟨g, 0, none⟩) (r.ents.length + 1) cap) bvs vx vy lx ly) := hal.addEnt hgrow hown'
    have hB1 : Hid (Below B w (w1.setCell ⟨b, 7, none⟩ (.slice (some ⟨g, 0, none⟩) (r.ents.length + 1) cap))) := (((Below.refl B w).alloc (by omega) (.cells #[.string ⟨t.toArray⟩, .int .i64 1, .int .i64 n] 307)).grown hgrow (by simp; omega) (own_base hal.ents)).setCell (p := ⟨b, 7, none⟩) hB _
    have hbk := hal.blkKept hal.ents hgrow (by decide)
    have c5' : w1.cell? ⟨b, 7, none⟩ = some ve := by rw [cellsOf (hbk.trans hal.blk)]; rfl
    have f5' : w1.frozen? ⟨b, 7, none⟩ = false := freeOf (hbk.trans hal.blk) 7
    clear hown' hgrow hbk hal h
    go_wp2
    go_end0
    exact ⟨rfl, ⟨_, _, _, _, _, _, _, _, _, _, hA.out, hnm.addEnt t 1 n (by decide)⟩, hB1.out⟩

set_option maxHeartbeats 400000 in
theorem Flag_any {B : Nat} {w : World} {b : Nat} {r : Pl.RdM} {s : Nat} (h : Rd B w b r) (ok : Pl.Ok s r) :
    Calls Tryz.prog 397 #[.pointer (some ⟨b, 0, none⟩)] w fun e w' => e = .returned (optV r.flag.1) ∧ Rd B w' b r.flag.2 ∧ Below B w w' := by
  have hK := known_any h ok 1
  unfold Pl.RdM.flag
  generalize r.knownStep 1 = T at *
  unfold optV at hK ⊢
  clear h
  go_enter Tryz.func397, Tryz.ntmps397
  go_wp2_with fail
  refine hK.mono ?_
  rintro e w1 ⟨rfl, hr1, hb1⟩
  have HH : Hid (Rd B w1 b T.2 ∧ Below B w w1) := ⟨hr1, hb1⟩
  clear hr1 hb1 hK
  go_wp2_with fail
  go_ret2
  exact ⟨rfl, HH.out.1, HH.out.2⟩
theorem argC : ReadC 256 Pl.RdM.leaf 0 := fun _ _ _ _ _ h ok _ => Argument_any h ok
theorem flagC : ReadC 397 Pl.RdM.flag 0 := fun _ _ _ _ _ h ok _ => Flag_any h ok


set_option maxHeartbeats 1000000 in
theorem lpair_any {B : Nat} {w : World} {b : Nat} {r : Pl.RdM} {s : Nat} (h : Rd B w b r) (ok : Pl.Ok s r) (op : Int) :
    Calls Tryz.prog 332 #[.pointer (some ⟨b, 0, none⟩), .int .i64 op] w fun e w' => e = .returned (optV (Pl.pairR Pl.RdM.leaf op r).1) ∧ Rd B w' b (Pl.pairR Pl.RdM.leaf op r).2 ∧ Below B w w' := by
  unfold Pl.pairR
  cases hf1 : Pl.RdM.leaf r with
  | mk o r1 =>
  cases o with
  | none =>
    go_enter Tryz.func332, Tryz.ntmps332
    go_wp2_with fail
    refine (argC.no h ok (Nat.zero_le _) hf1).mono ?_
    rintro e w1 ⟨rfl, hrw1, hbw1⟩
    have HH : Hid (Rd B w1 b r1 ∧ Below B w w1) := ⟨hrw1, hbw1⟩
    clear hrw1 hbw1 h
    go_wp2
    go_ret2
    exact ⟨rfl, HH.out.1, HH.out.2⟩
  | some a =>
    have ok2 := (keeps_of Pl.leaf_keeps hf1).ok _ ok
    simp only [Pl.oneR]
    cases hf2 : Pl.RdM.leaf r1 with
    | mk o r2 =>
    cases o with
    | none =>
      go_enter Tryz.func332, Tryz.ntmps332
      go_wp2_with fail
      refine (argC.yes h ok (Nat.zero_le _) hf1).mono ?_
      rintro e w1 ⟨rfl, hrw1, hbw1⟩
      go_wp2_with fail
      refine (argC.no hrw1 ok2 (Nat.zero_le _) hf2).mono ?_
      rintro e w2 ⟨rfl, hrw2, hbw2⟩
      have HH : Hid (Rd B w2 b r2 ∧ Below B w w2) := ⟨hrw2, (hbw1.trans hbw2)⟩
      clear hrw1 hbw1 hrw2 hbw2 h
      go_wp2
      go_ret2
      exact ⟨rfl, HH.out.1, HH.out.2⟩
    | some c =>
      have ok3 := (keeps_of Pl.leaf_keeps hf2).ok _ ok2
      go_enter Tryz.func332, Tryz.ntmps332
      go_wp2_with fail
      refine (argC.yes h ok (Nat.zero_le _) hf1).mono ?_
      rintro e w1 ⟨rfl, hrw1, hbw1⟩
      go_wp2_with fail
      refine (argC.yes hrw1 ok2 (Nat.zero_le _) hf2).mono ?_
      rintro e w2 ⟨rfl, hrw2, hbw2⟩
      go_wp2_with fail
      refine (Append_any hrw2 ⟨op, a, c, 0, 0, []⟩ (.slice none 0 0) (World.ownsRow_nil _ _ _ _) (nodes_le ok3)).mono ?_
      rintro e w3 ⟨rfl, hrw3, hbw3⟩
      have HH : Hid (Rd B w3 b (r2.addNode ⟨op, a, c, 0, 0, []⟩) ∧ Below B w w3) := ⟨hrw3, ((hbw1.trans hbw2).trans hbw3)⟩
      clear hrw1 hbw1 hrw2 hbw2 hrw3 hbw3 h
      go_wp2
      go_ret2
      exact ⟨rfl, HH.out.1, HH.out.2⟩

set_option maxHeartbeats 1000000 in
theorem ljoint_any {B : Nat} {w : World} {b : Nat} {r : Pl.RdM} {s : Nat} (h : Rd B w b r) (ok : Pl.Ok s r) (op : Int) :
    Calls Tryz.prog 330 #[.pointer (some ⟨b, 0, none⟩), .int .i64 op] w fun e w' => e = .returned (optV (Pl.pairR Pl.RdM.flag op r).1) ∧ Rd B w' b (Pl.pairR Pl.RdM.flag op r).2 ∧ Below B w w' := by
  unfold Pl.pairR
  cases hf1 : Pl.RdM.flag r with
  | mk o r1 =>
  cases o with
  | none =>
    go_enter Tryz.func330, Tryz.ntmps330
    go_wp2_with fail
    refine (flagC.no h ok (Nat.zero_le _) hf1).mono ?_
    rintro e w1 ⟨rfl, hrw1, hbw1⟩
    have HH : Hid (Rd B w1 b r1 ∧ Below B w w1) := ⟨hrw1, hbw1⟩
    clear hrw1 hbw1 h
    go_wp2
    go_ret2
    exact ⟨rfl, HH.out.1, HH.out.2⟩
  | some a =>
    have ok2 := (keeps_of Pl.flag_keeps hf1).ok _ ok
    simp only [Pl.oneR]
    cases hf2 : Pl.RdM.flag r1 with
    | mk o r2 =>
    cases o with
    | none =>
      go_enter Tryz.func330, Tryz.ntmps330
      go_wp2_with fail
      refine (flagC.yes h ok (Nat.zero_le _) hf1).mono ?_
      rintro e w1 ⟨rfl, hrw1, hbw1⟩
      go_wp2_with fail
      refine (flagC.no hrw1 ok2 (Nat.zero_le _) hf2).mono ?_
      rintro e w2 ⟨rfl, hrw2, hbw2⟩
      have HH : Hid (Rd B w2 b r2 ∧ Below B w w2) := ⟨hrw2, (hbw1.trans hbw2)⟩
      clear hrw1 hbw1 hrw2 hbw2 h
      go_wp2
      go_ret2
      exact ⟨rfl, HH.out.1, HH.out.2⟩
    | some c =>
      have ok3 := (keeps_of Pl.flag_keeps hf2).ok _ ok2
      go_enter Tryz.func330, Tryz.ntmps330
      go_wp2_with fail
      refine (flagC.yes h ok (Nat.zero_le _) hf1).mono ?_
      rintro e w1 ⟨rfl, hrw1, hbw1⟩
      go_wp2_with fail
      refine (flagC.yes hrw1 ok2 (Nat.zero_le _) hf2).mono ?_
      rintro e w2 ⟨rfl, hrw2, hbw2⟩
      go_wp2_with fail
      refine (Append_any hrw2 ⟨op, a, c, 0, 0, []⟩ (.slice none 0 0) (World.ownsRow_nil _ _ _ _) (nodes_le ok3)).mono ?_
      rintro e w3 ⟨rfl, hrw3, hbw3⟩
      have HH : Hid (Rd B w3 b (r2.addNode ⟨op, a, c, 0, 0, []⟩) ∧ Below B w w3) := ⟨hrw3, ((hbw1.trans hbw2).trans hbw3)⟩
      clear hrw1 hbw1 hrw2 hbw2 hrw3 hbw3 h
      go_wp2
      go_ret2
      exact ⟨rfl, HH.out.1, HH.out.2⟩

set_option maxHeartbeats 1000000 in
theorem lcontrary_any {B : Nat} {w : World} {b : Nat} {r : Pl.RdM} {s : Nat} (h : Rd B w b r) (ok : Pl.Ok s r) :
    Calls Tryz.prog 331 #[.pointer (some ⟨b, 0, none⟩)] w fun e w' => e = .returned (optV (Pl.oneR Pl.RdM.flag (fun a => ⟨18, a, 0, 0, 0, []⟩) r).1) ∧ Rd B w' b (Pl.oneR Pl.RdM.flag (fun a => ⟨18, a, 0, 0, 0, []⟩) r).2 ∧ Below B w w' := by
  unfold Pl.oneR
  cases hf1 : r.flag with
  | mk o r1 =>
  cases o with
  | none =>
    go_enter Tryz.func331, Tryz.ntmps331
    go_wp2_with fail
    refine (flagC.no h ok (Nat.zero_le _) hf1).mono ?_
    rintro e w1 ⟨rfl, hrw1, hbw1⟩
    have HH : Hid (Rd B w1 b r1 ∧ Below B w w1) := ⟨hrw1, hbw1⟩
    clear hrw1 hbw1 h
    go_wp2
    go_ret2
    exact ⟨rfl, HH.out.1, HH.out.2⟩
  | some a =>
    have ok2 := (keeps_of Pl.flag_keeps hf1).ok _ ok
    go_enter Tryz.func331, Tryz.ntmps331
    go_wp2_with fail
    refine (flagC.yes h ok (Nat.zero_le _) hf1).mono ?_
    rintro e w1 ⟨rfl, hrw1, hbw1⟩
    go_wp2_with fail
    refine (Append_any hrw1 ⟨18, a, 0, 0, 0, []⟩ (.slice none 0 0) (World.ownsRow_nil _ _ _ _) (nodes_le ok2)).mono ?_
    rintro e w2 ⟨rfl, hrw2, hbw2⟩
    have HH : Hid (Rd B w2 b (r1.addNode ⟨18, a, 0, 0, 0, []⟩) ∧ Below B w w2) := ⟨hrw2, (hbw1.trans hbw2)⟩
    clear hrw1 hbw1 hrw2 hbw2 h
    go_wp2
    go_ret2
    exact ⟨rfl, HH.out.1, HH.out.2⟩

set_option maxHeartbeats 1000000 in
theorem lproduct_any {B : Nat} {w : World} {b : Nat} {r : Pl.RdM} {s : Nat} (h : Rd B w b r) (ok : Pl.Ok s r) :
    Calls Tryz.prog 327 #[.pointer (some ⟨b, 0, none⟩)] w fun e w' => e = .returned (optV (Pl.productR Pl.RdM.leaf r).1) ∧ Rd B w' b (Pl.productR Pl.RdM.leaf r).2 ∧ Below B w w' := by
  unfold Pl.productR
  cases hn : r.num (-1000) 1000 with
  | none =>
    go_enter Tryz.func327, Tryz.ntmps327
    go_wp2_with fail
    refine (RNum_no h ok.pos ok.peek_len _ _ hn).mono ?_
    rintro e w1 ⟨rfl, hrw1, hbw1⟩
    have HH : Hid (Rd B w1 b r ∧ Below B w w1) := ⟨hrw1, hbw1⟩
    clear hrw1 hbw1 h
    go_wp2
    go_ret2
    exact ⟨rfl, HH.out.1, HH.out.2⟩
  | some k =>
    have ok2 := (Pl.Keeps.skip r).ok _ ok
    simp only [Pl.oneR]
    cases hf1 : r.skip.leaf with
    | mk o r1 =>
    cases o with
    | none =>
      go_enter Tryz.func327, Tryz.ntmps327
      go_wp2_with fail
      refine (RNum_yes h ok.pos ok.peek_len _ _ k hn).mono ?_
      rintro e w1 ⟨rfl, hrw1, hbw1⟩
      go_wp2_with fail
      refine (argC.no hrw1 ok2 (Nat.zero_le _) hf1).mono ?_
      rintro e w2 ⟨rfl, hrw2, hbw2⟩
      have HH : Hid (Rd B w2 b r1 ∧ Below B w w2) := ⟨hrw2, (hbw1.trans hbw2)⟩
      clear hrw1 hbw1 hrw2 hbw2 h
      go_wp2
      go_ret2
      exact ⟨rfl, HH.out.1, HH.out.2⟩
    | some a =>
      have ok3 := (keeps_of Pl.leaf_keeps hf1).ok _ ok2
      go_enter Tryz.func327, Tryz.ntmps327
      go_wp2_with fail
      refine (RNum_yes h ok.pos ok.peek_len _ _ k hn).mono ?_
      rintro e w1 ⟨rfl, hrw1, hbw1⟩
      go_wp2_with fail
      refine (argC.yes hrw1 ok2 (Nat.zero_le _) hf1).mono ?_
      rintro e w2 ⟨rfl, hrw2, hbw2⟩
      go_wp2_with fail
      refine (Append_any hrw2 ⟨4, a, 0, 0, k, []⟩ (.slice none 0 0) (World.ownsRow_nil _ _ _ _) (nodes_le ok3)).mono ?_
      rintro e w3 ⟨rfl, hrw3, hbw3⟩
      have HH : Hid (Rd B w3 b (r1.addNode ⟨4, a, 0, 0, k, []⟩) ∧ Below B w w3) := ⟨hrw3, ((hbw1.trans hbw2).trans hbw3)⟩
      clear hrw1 hbw1 hrw2 hbw2 hrw3 hbw3 h
      go_wp2
      go_ret2
      exact ⟨rfl, HH.out.1, HH.out.2⟩

set_option maxHeartbeats 1000000 in
theorem lquotient_any {B : Nat} {w : World} {b : Nat} {r : Pl.RdM} {s : Nat} (h : Rd B w b r) (ok : Pl.Ok s r) :
    Calls Tryz.prog 328 #[.pointer (some ⟨b, 0, none⟩)] w fun e w' => e = .returned (optV (Pl.quotLR r).1) ∧ Rd B w' b (Pl.quotLR r).2 ∧ Below B w w' := by
  unfold Pl.quotLR
  cases hf1 : r.leaf with
  | mk o r1 =>
  cases o with
  | none =>
    go_enter Tryz.func328, Tryz.ntmps328
    go_wp2_with fail
    refine (argC.no h ok (Nat.zero_le _) hf1).mono ?_
    rintro e w1 ⟨rfl, hrw1, hbw1⟩
    have HH : Hid (Rd B w1 b r1 ∧ Below B w w1) := ⟨hrw1, hbw1⟩
    clear hrw1 hbw1 h
    go_wp2
    go_ret2
    exact ⟨rfl, HH.out.1, HH.out.2⟩
  | some a =>
    have ok2 := (keeps_of Pl.leaf_keeps hf1).ok _ ok
    simp only
    cases hn : r1.num 1 1000000 with
    | none =>
      go_enter Tryz.func328, Tryz.ntmps328
      go_wp2_with fail
      refine (argC.yes h ok (Nat.zero_le _) hf1).mono ?_
      rintro e w1 ⟨rfl, hrw1, hbw1⟩
      go_wp2_with fail
      refine (RNum_no hrw1 ok2.pos ok2.peek_len _ _ hn).mono ?_
      rintro e w2 ⟨rfl, hrw2, hbw2⟩
      have HH : Hid (Rd B w2 b r1 ∧ Below B w w2) := ⟨hrw2, (hbw1.trans hbw2)⟩
      clear hrw1 hbw1 hrw2 hbw2 h
      go_wp2
      go_ret2
      exact ⟨rfl, HH.out.1, HH.out.2⟩
    | some d =>
      have ok3 := (Pl.Keeps.skip r1).ok _ ok2
      have e1 : r1.skip.nodes = r1.nodes := by unfold Pl.RdM.skip; split <;> rfl
      have ha := fun w2 (hr : Rd B w2 b r1.skip) => Append_any hr ⟨8, a, 0, 0, d, []⟩ (.slice none 0 0) (World.ownsRow_nil _ _ _ _) (nodes_le ok3)
      rw [e1] at ha
      go_enter Tryz.func328, Tryz.ntmps328
      go_wp2_with fail
      refine (argC.yes h ok (Nat.zero_le _) hf1).mono ?_
      rintro e w1 ⟨rfl, hrw1, hbw1⟩
      go_wp2_with fail
      refine (RNum_yes hrw1 ok2.pos ok2.peek_len _ _ d hn).mono ?_
      rintro e w2 ⟨rfl, hrw2, hbw2⟩
      go_wp2_with fail
      refine (ha _ hrw2).mono ?_
      rintro e w3 ⟨rfl, hrw3, hbw3⟩
      have HH : Hid (Rd B w3 b (r1.skip.addNode ⟨8, a, 0, 0, d, []⟩) ∧ Below B w w3) := ⟨hrw3, ((hbw1.trans hbw2).trans hbw3)⟩
      clear hrw1 hbw1 hrw2 hbw2 hrw3 hbw3 h
      go_wp2
      go_ret2
      exact ⟨rfl, HH.out.1, HH.out.2⟩

set_option maxHeartbeats 1000000 in
theorem lchoice_any {B : Nat} {w : World} {b : Nat} {r : Pl.RdM} {s : Nat} (h : Rd B w b r) (ok : Pl.Ok s r) :
    Calls Tryz.prog 329 #[.pointer (some ⟨b, 0, none⟩)] w fun e w' => e = .returned (optV (Pl.choiceR Pl.RdM.flag Pl.RdM.leaf r).1) ∧ Rd B w' b (Pl.choiceR Pl.RdM.flag Pl.RdM.leaf r).2 ∧ Below B w w' := by
  unfold Pl.choiceR
  cases hf1 : r.flag with
  | mk o r1 =>
  cases o with
  | none =>
    go_enter Tryz.func329, Tryz.ntmps329
    go_wp2_with fail
    refine (flagC.no h ok (Nat.zero_le _) hf1).mono ?_
    rintro e w1 ⟨rfl, hrw1, hbw1⟩
    have HH : Hid (Rd B w1 b r1 ∧ Below B w w1) := ⟨hrw1, hbw1⟩
    clear hrw1 hbw1 h
    go_wp2
    go_ret2
    exact ⟨rfl, HH.out.1, HH.out.2⟩
  | some a =>
    have ok2 := (keeps_of Pl.flag_keeps hf1).ok _ ok
    simp only
    cases hf2 : r1.leaf with
    | mk o r2 =>
    cases o with
    | none =>
      go_enter Tryz.func329, Tryz.ntmps329
      go_wp2_with fail
      refine (flagC.yes h ok (Nat.zero_le _) hf1).mono ?_
      rintro e w1 ⟨rfl, hrw1, hbw1⟩
      go_wp2_with fail
      refine (argC.no hrw1 ok2 (Nat.zero_le _) hf2).mono ?_
      rintro e w2 ⟨rfl, hrw2, hbw2⟩
      have HH : Hid (Rd B w2 b r2 ∧ Below B w w2) := ⟨hrw2, (hbw1.trans hbw2)⟩
      clear hrw1 hbw1 hrw2 hbw2 h
      go_wp2
      go_ret2
      exact ⟨rfl, HH.out.1, HH.out.2⟩
    | some c =>
      have ok3 := (keeps_of Pl.leaf_keeps hf2).ok _ ok2
      simp only [Pl.oneR]
      cases hf3 : r2.leaf with
      | mk o r3 =>
      cases o with
      | none =>
        go_enter Tryz.func329, Tryz.ntmps329
        go_wp2_with fail
        refine (flagC.yes h ok (Nat.zero_le _) hf1).mono ?_
        rintro e w1 ⟨rfl, hrw1, hbw1⟩
        go_wp2_with fail
        refine (argC.yes hrw1 ok2 (Nat.zero_le _) hf2).mono ?_
        rintro e w2 ⟨rfl, hrw2, hbw2⟩
        go_wp2_with fail
        refine (argC.no hrw2 ok3 (Nat.zero_le _) hf3).mono ?_
        rintro e w3 ⟨rfl, hrw3, hbw3⟩
        have HH : Hid (Rd B w3 b r3 ∧ Below B w w3) := ⟨hrw3, ((hbw1.trans hbw2).trans hbw3)⟩
        clear hrw1 hbw1 hrw2 hbw2 hrw3 hbw3 h
        go_wp2
        go_ret2
        exact ⟨rfl, HH.out.1, HH.out.2⟩
      | some d =>
        have ok4 := (keeps_of Pl.leaf_keeps hf3).ok _ ok3
        go_enter Tryz.func329, Tryz.ntmps329
        go_wp2_with fail
        refine (flagC.yes h ok (Nat.zero_le _) hf1).mono ?_
        rintro e w1 ⟨rfl, hrw1, hbw1⟩
        go_wp2_with fail
        refine (argC.yes hrw1 ok2 (Nat.zero_le _) hf2).mono ?_
        rintro e w2 ⟨rfl, hrw2, hbw2⟩
        go_wp2_with fail
        refine (argC.yes hrw2 ok3 (Nat.zero_le _) hf3).mono ?_
        rintro e w3 ⟨rfl, hrw3, hbw3⟩
        go_wp2_with fail
        refine (Append_any hrw3 ⟨7, a, c, d, 0, []⟩ (.slice none 0 0) (World.ownsRow_nil _ _ _ _) (nodes_le ok4)).mono ?_
        rintro e w4 ⟨rfl, hrw4, hbw4⟩
        have HH : Hid (Rd B w4 b (r3.addNode ⟨7, a, c, d, 0, []⟩) ∧ Below B w w4) := ⟨hrw4, (((hbw1.trans hbw2).trans hbw3).trans hbw4)⟩
        clear hrw1 hbw1 hrw2 hbw2 hrw3 hbw3 hrw4 hbw4 h
        go_wp2
        go_ret2
        exact ⟨rfl, HH.out.1, HH.out.2⟩
end Go.Proofs.YtfaljekgpnbmiaaGreat
