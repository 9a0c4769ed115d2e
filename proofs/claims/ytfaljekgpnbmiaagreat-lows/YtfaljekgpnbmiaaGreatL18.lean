/- Joined: Ref7. -/
import Derived.Test.YtfaljekgpnbmiaaGreatL17
/-
  Contracts of the reference's input, set, out, long, declared.
-/
namespace Go.Proofs.YtfaljekgpnbmiaaGreat
open Go.RowKit

def declV (d : Pl.DeclM) : Value := .agg #[.string ⟨d.name.toArray⟩, .int .u8 d.kind, .int .i64 d.lo, .int .i64 d.hi, .int .i64 d.pos]
/-- What a declaration's reading tells: the declaration and -1, or whatever and the place. -/
def ResV (e : Ending) : Pl.DeclM ⊕ Nat → Prop
  | .inl d => e = .returned (.tuple #[declV d, .int .i64 (-1)])
  | .inr p => ∃ d, e = .returned (.tuple #[declV d, .int .i64 p])

theorem DeclsAt.below {w w' : World} {v : Value} {l : List Pl.DeclM} (h : DeclsAt w v l) (hb : Below w.heap.size w w') : DeclsAt w' v l := by
  obtain ⟨ad, cap, e, hc⟩ := h
  refine ⟨ad, cap, e, fun i hi => ?_⟩
  obtain ⟨g, e1, c0, c1, c2, c3, c4⟩ := hc i hi
  exact ⟨g, e1, cell_low hb (lt_of_cell c0) c0, cell_low hb (lt_of_cell c1) c1, cell_low hb (lt_of_cell c2) c2, cell_low hb (lt_of_cell c3) c3, cell_low hb (lt_of_cell c4) c4⟩
theorem DeclsAt.shape {w : World} {v : Value} {l : List Pl.DeclM} (h : DeclsAt w v l) : ∃ ad cap, v = .slice ad l.length cap := by
  obtain ⟨x, y, e, _⟩ := h; exact ⟨_, _, e⟩
theorem at_int (l : List (List UInt8)) (v : Value) (i : Nat) (j : Int) (w : World) (h : StrsAt w v l) (hi : i ≤ 100000) (hl : l.length ≤ 10000) (hj : j = (i : Int)) :
    Calls Tryz.prog 206 #[v, .int .i64 j] w fun e w' => e = .returned (.string ⟨(Pl.atR l i).toArray⟩) ∧ w' = w := by rw [hj]; exact at_ref l v i w h hi hl

set_option maxRecDepth 100000 in
set_option maxHeartbeats 1000000 in
theorem input_ref (l : List (List UInt8)) (vl : Value) (names : List Pl.DeclM) (vn : Value) (i : Nat) (w : World) (h : StrsAt w vl l) (hn : DeclsAt w vn names) (hi : i ≤ 10000) (hl : l.length ≤ 10000) (hnl : names.length ≤ 10000) (ht : ∀ t ∈ l, t.length ≤ 6000) :
    Calls Tryz.prog 207 #[vl, vn, .int .i64 i] w fun e w' => ResV e (Pl.inputD l names i) ∧ Below w.heap.size w w' := by
  have hA := hide (fun w1 (hb : Below w.heap.size w w1) (k : Nat) (j : Int) (hk : k ≤ 100000) (hj : j = (k : Int)) => at_int l vl k j w1 (h.below hb) hk hl hj)
  have hF := hide (fun w1 (hb : Below w.heap.size w w1) t => fresh_ref names vn t w1 (hn.below hb) hnl)
  have hN := hide (fun w1 k => RNumber_any (Pl.atR l k) w1 (by have := atR_len l k ht; unfold maxLen; omega))
  obtain ⟨ad, cap, rfl⟩ := h.shape
  obtain ⟨adn, capn, rfl⟩ := hn.shape
  have HB := hide (fun a b => ((Below.refl _ w).alloc (Nat.le_refl _) a).alloc (by simp) b)
  clear h hn ht
  cases hfr : Pl.fresh names (Pl.atR l (i + 1)) with
  | false =>
    have hI : Hid (Pl.inputD l names i = .inr (i + 1)) := by unfold Pl.inputD Hid; rw [if_pos hfr]
    rw [hI.out]
    clear hI hN
    go_enter Tryz.func207, Tryz.ntmps207
    go_wp2_with fail
    refine (unhide hA _ (unhide HB _ _) (i + 1) _ (by omega) (by omega)).mono ?_
    rintro e w1 ⟨rfl, hw1⟩
    rw [hw1]
    clear hw1 w1
    go_wp2_with fail
    refine (unhide hF _ (unhide HB _ _) (Pl.atR l (i + 1))).mono ?_
    rw [hfr]
    rintro e w1 ⟨rfl, hw1⟩
    rw [hw1]
    clear hw1 w1
    go_wp2_with fail
    exact bodyPost_ret (v := .tuple #[declV ⟨Pl.atR l (i + 1), 0, 0, 0, 0⟩, .int .i64 ((i : Int) + 1)]) (by simp [results, Tryz.results207, go_sem, declV]) rfl ⟨⟨_, by rw [show ((i + 1 : Nat) : Int) = (i : Int) + 1 by omega]⟩, unhide HB _ _⟩
  | true =>
    cases hn2 : Pl.number (Pl.atR l (i + 2)) with
    | mk lo ok2 =>
    cases ok2 with
    | false =>
      have hI : Hid (Pl.inputD l names i = .inr (i + 2)) := by unfold Pl.inputD Hid; rw [if_neg (by simp [hfr]), hn2, if_pos rfl]
      rw [hI.out]
      clear hI
      go_enter Tryz.func207, Tryz.ntmps207
      go_wp2_with fail
      refine (unhide hA _ (unhide HB _ _) (i + 1) _ (by omega) (by omega)).mono ?_
      rintro e w1 ⟨rfl, hw1⟩
      rw [hw1]
      clear hw1 w1
      go_wp2_with fail
      refine (unhide hF _ (unhide HB _ _) (Pl.atR l (i + 1))).mono ?_
      rw [hfr]
      rintro e w1 ⟨rfl, hw1⟩
      rw [hw1]
      clear hw1 w1
      go_wp2_with fail
      refine (unhide hA _ (unhide HB _ _) (i + 2) _ (by omega) (by omega)).mono ?_
      rintro e w1 ⟨rfl, hw1⟩
      rw [hw1]
      clear hw1 w1
      go_wp2_with fail
      refine (unhide hN _ (i + 2)).mono ?_
      rw [hn2]
      rintro e w1 ⟨rfl, hw1⟩
      rw [hw1]
      clear hw1 w1
      go_wp2_with fail
      exact bodyPost_ret (v := .tuple #[declV ⟨Pl.atR l (i + 1), 0, 0, 0, 0⟩, .int .i64 ((i : Int) + 2)]) (by simp [results, Tryz.results207, go_sem, declV]) rfl ⟨⟨_, by rw [show ((i + 2 : Nat) : Int) = (i : Int) + 2 by omega]⟩, unhide HB _ _⟩
    | true =>
      cases hn3 : Pl.number (Pl.atR l (i + 3)) with
      | mk hi ok3 =>
      cases ok3 with
      | false =>
        have hI : Hid (Pl.inputD l names i = .inr (i + 3)) := by unfold Pl.inputD Hid; rw [if_neg (by simp [hfr]), hn2, if_neg (by simp), hn3, if_pos (.inl rfl)]
        rw [hI.out]
        clear hI
        go_enter Tryz.func207, Tryz.ntmps207
        go_wp2_with fail
        refine (unhide hA _ (unhide HB _ _) (i + 1) _ (by omega) (by omega)).mono ?_
        rintro e w1 ⟨rfl, hw1⟩
        rw [hw1]
        clear hw1 w1
        go_wp2_with fail
        refine (unhide hF _ (unhide HB _ _) (Pl.atR l (i + 1))).mono ?_
        rw [hfr]
        rintro e w1 ⟨rfl, hw1⟩
        rw [hw1]
        clear hw1 w1
        go_wp2_with fail
        refine (unhide hA _ (unhide HB _ _) (i + 2) _ (by omega) (by omega)).mono ?_
        rintro e w1 ⟨rfl, hw1⟩
        rw [hw1]
        clear hw1 w1
        go_wp2_with fail
        refine (unhide hN _ (i + 2)).mono ?_
        rw [hn2]
        rintro e w1 ⟨rfl, hw1⟩
        rw [hw1]
        clear hw1 w1
        go_wp2_with fail
        refine (unhide hA _ (unhide HB _ _) (i + 3) _ (by omega) (by omega)).mono ?_
        rintro e w1 ⟨rfl, hw1⟩
        rw [hw1]
        clear hw1 w1
        go_wp2_with fail
        refine (unhide hN _ (i + 3)).mono ?_
        rw [hn3]
        rintro e w1 ⟨rfl, hw1⟩
        rw [hw1]
        clear hw1 w1
        go_wp2_with fail
        exact bodyPost_ret (v := .tuple #[declV ⟨Pl.atR l (i + 1), 0, 0, 0, 0⟩, .int .i64 ((i : Int) + 3)]) (by simp [results, Tryz.results207, go_sem, declV]) rfl ⟨⟨_, by rw [show ((i + 3 : Nat) : Int) = (i : Int) + 3 by omega]⟩, unhide HB _ _⟩
      | true =>
        by_cases hlt : hi < lo
        · have hI : Hid (Pl.inputD l names i = .inr (i + 3)) := by unfold Pl.inputD Hid; rw [if_neg (by simp [hfr]), hn2, if_neg (by simp), hn3, if_pos (.inr hlt)]
          rw [hI.out]
          clear hI
          go_enter Tryz.func207, Tryz.ntmps207
          go_wp2_with fail
          refine (unhide hA _ (unhide HB _ _) (i + 1) _ (by omega) (by omega)).mono ?_
          rintro e w1 ⟨rfl, hw1⟩
          rw [hw1]
          clear hw1 w1
          go_wp2_with fail
          refine (unhide hF _ (unhide HB _ _) (Pl.atR l (i + 1))).mono ?_
          rw [hfr]
          rintro e w1 ⟨rfl, hw1⟩
          rw [hw1]
          clear hw1 w1
          go_wp2_with fail
          refine (unhide hA _ (unhide HB _ _) (i + 2) _ (by omega) (by omega)).mono ?_
          rintro e w1 ⟨rfl, hw1⟩
          rw [hw1]
          clear hw1 w1
          go_wp2_with fail
          refine (unhide hN _ (i + 2)).mono ?_
          rw [hn2]
          rintro e w1 ⟨rfl, hw1⟩
          rw [hw1]
          clear hw1 w1
          go_wp2_with fail
          refine (unhide hA _ (unhide HB _ _) (i + 3) _ (by omega) (by omega)).mono ?_
          rintro e w1 ⟨rfl, hw1⟩
          rw [hw1]
          clear hw1 w1
          go_wp2_with fail
          refine (unhide hN _ (i + 3)).mono ?_
          rw [hn3]
          rintro e w1 ⟨rfl, hw1⟩
          rw [hw1]
          clear hw1 w1
          go_wp2_with fail
          exact bodyPost_ret (v := .tuple #[declV ⟨Pl.atR l (i + 1), 0, 0, 0, 0⟩, .int .i64 ((i : Int) + 3)]) (by simp [results, Tryz.results207, go_sem, declV]) rfl ⟨⟨_, by rw [show ((i + 3 : Nat) : Int) = (i : Int) + 3 by omega]⟩, unhide HB _ _⟩
        · have hI : Hid (Pl.inputD l names i = .inl ⟨Pl.atR l (i + 1), 105, lo, hi, i⟩) := by unfold Pl.inputD Hid; rw [if_neg (by simp [hfr]), hn2, if_neg (by simp), hn3, if_neg (by simp; omega)]
          rw [hI.out]
          clear hI
          go_enter Tryz.func207, Tryz.ntmps207
          go_wp2_with fail
          refine (unhide hA _ (unhide HB _ _) (i + 1) _ (by omega) (by omega)).mono ?_
          rintro e w1 ⟨rfl, hw1⟩
          rw [hw1]
          clear hw1 w1
          go_wp2_with fail
          refine (unhide hF _ (unhide HB _ _) (Pl.atR l (i + 1))).mono ?_
          rw [hfr]
          rintro e w1 ⟨rfl, hw1⟩
          rw [hw1]
          clear hw1 w1
          go_wp2_with fail
          refine (unhide hA _ (unhide HB _ _) (i + 2) _ (by omega) (by omega)).mono ?_
          rintro e w1 ⟨rfl, hw1⟩
          rw [hw1]
          clear hw1 w1
          go_wp2_with fail
          refine (unhide hN _ (i + 2)).mono ?_
          rw [hn2]
          rintro e w1 ⟨rfl, hw1⟩
          rw [hw1]
          clear hw1 w1
          go_wp2_with fail
          refine (unhide hA _ (unhide HB _ _) (i + 3) _ (by omega) (by omega)).mono ?_
          rintro e w1 ⟨rfl, hw1⟩
          rw [hw1]
          clear hw1 w1
          go_wp2_with fail
          refine (unhide hN _ (i + 3)).mono ?_
          rw [hn3]
          rintro e w1 ⟨rfl, hw1⟩
          rw [hw1]
          clear hw1 w1
          go_wp2_with fail
          exact bodyPost_ret (v := .tuple #[declV ⟨Pl.atR l (i + 1), 105, lo, hi, i⟩, .int .i64 (-1)]) (by simp [results, Tryz.results207, go_sem, declV]) rfl ⟨rfl, unhide HB _ _⟩
end Go.Proofs.YtfaljekgpnbmiaaGreat
