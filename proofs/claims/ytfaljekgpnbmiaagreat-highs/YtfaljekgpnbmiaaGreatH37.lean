/- Joined: Ref28 Ref29 Ref31a. -/
import Derived.Test.YtfaljekgpnbmiaaGreatH36
/-
  Contracts of the reference's table and tables.
-/
namespace Go.Proofs.YtfaljekgpnbmiaaGreat
open Go.RowKit
set_option linter.unusedVariables false
set_option linter.unusedSimpArgs false

/-- The bands as the tokens behind p tell them. -/
def Pl.BandsG (toks : List (List UInt8)) (p : Nat) (l : List (Int × Int)) : Prop :=
  p + 1 + 2 * l.length ≤ toks.length ∧ Pl.number (toks.getD p []) = ((l.length : Int), true) ∧ l.length ≤ 6 ∧ ∀ j, (hj : j < l.length) → Pl.number (toks.getD (p + 1 + 2 * j) []) = (l[j].1, true) ∧ Pl.number (toks.getD (p + 2 + 2 * j) []) = (l[j].2, true) ∧ -1000000000 ≤ l[j].1 ∧ l[j].1 ≤ 1000000000 ∧ -1000 ≤ l[j].2 ∧ l[j].2 ≤ 1000
theorem Pl.BandsAt.get {toks : List (List UInt8)} : ∀ (l : List (Int × Int)) (p : Nat), Pl.BandsAt toks p l → ∀ j, (hj : j < l.length) → Pl.number (Pl.atR toks (p + 2 * j)) = (l[j].1, true) ∧ Pl.number (Pl.atR toks (p + 1 + 2 * j)) = (l[j].2, true) := by
  intro l
  induction l with
  | nil => intro p _ j hj; simp at hj
  | cons x l ih =>
    intro p h j hj
    obtain ⟨h1, h2, _, _, h5⟩ := h
    cases j with
    | zero => exact ⟨h1, h2⟩
    | succ j =>
      have := ih _ h5 j (by simpa using hj)
      rw [show p + 2 * (j + 1) = p + 2 + 2 * j by omega, show p + 1 + 2 * (j + 1) = p + 2 + 1 + 2 * j by omega]
      exact this
theorem Pl.number_at {toks : List (List UInt8)} {i : Nat} {n : Int} (h : Pl.number (Pl.atR toks i) = (n, true)) : i < toks.length ∧ i < 600 ∧ Pl.number (toks.getD i []) = (n, true) := by
  obtain ⟨h1, h2, h3⟩ := atR_some (Pl.number_ne (by rw [h]))
  exact ⟨h1, h2, by rw [← h3]; exact h⟩
theorem Pl.BandsAt.got {toks : List (List UInt8)} {l : List (Int × Int)} {p : Nat} (hb : Pl.BandsAt toks (p + 1) l) (hn : Pl.number (Pl.atR toks p) = ((l.length : Int), true)) (h1 : 1 ≤ l.length) (h6 : l.length ≤ 6) : Pl.BandsG toks p l := by
  have ho := Pl.BandsAt.ok l _ hb
  have hg := Pl.BandsAt.get l _ hb
  refine ⟨?_, (Pl.number_at hn).2.2, h6, fun j hj => ?_⟩
  · have := (Pl.number_at (hg (l.length - 1) (by omega)).2).1
    omega
  · have := hg j hj
    have hm := ho _ (List.getElem_mem hj)
    exact ⟨(Pl.number_at this.1).2.2, by have h2 := (Pl.number_at this.2).2.2; rw [show p + 2 + 2 * j = p + 1 + 1 + 2 * j by omega]; exact h2, hm⟩
/-- One band of a table, as the reference reckons it. -/
theorem Pl.band_step (a S : Int) (hS : -9223372036854775808 ≤ S ∧ S ≤ 9223372036854775807) (ha : Pl.Sm a) (l : List (Int × Int)) (k : Nat) (hk : k < l.length) (hb : -1000000000 ≤ l[k].1 ∧ l[k].1 ≤ 1000000000) (X : Int) (hX : X = if h : k + 1 < l.length then Pl.lesser a l[k + 1].1 - l[k].1 else a - l[k].1) (hu : ∀ h : k + 1 < l.length, -1000000000 ≤ l[k + 1].1 ∧ l[k + 1].1 ≤ 1000000000) :
    Pl.bandSumFrom a (l.drop k) S = Pl.bandSumFrom a (l.drop (k + 1)) (wrap64 (S + wrap64 (l[k].2 * Pl.most X 0))) := by
  obtain ⟨ha1, ha2⟩ := ha
  have hz : wrap64 (S + wrap64 (l[k].2 * 0)) = S := by
    rw [Int.mul_zero, Pl.wrap_id 0 (by omega) (by omega), Int.add_zero, Pl.wrap_id S (by omega) (by omega)]
  rw [List.drop_eq_getElem_cons hk]
  by_cases h2 : k + 1 < l.length
  · have hu2 := hu h2
    rw [dif_pos h2] at hX
    rw [List.drop_eq_getElem_cons h2, Pl.bandSumFrom]
    have hle : -1000000000000000 ≤ Pl.lesser a l[k + 1].1 ∧ Pl.lesser a l[k + 1].1 ≤ 1000000000000000 := by unfold Pl.lesser; split <;> omega
    by_cases hp : l[k].1 < Pl.lesser a l[k + 1].1
    · rw [if_pos hp]
      have e : Pl.most X 0 = wrap64 (Pl.lesser a l[k + 1].1 - l[k].1) := by rw [Pl.wrap_id _ (by omega) (by omega), hX]; unfold Pl.most; rw [if_pos (by omega)]
      rw [e]
    · rw [if_neg hp]
      have e : Pl.most X 0 = 0 := by rw [hX]; unfold Pl.most; split <;> omega
      rw [e, hz]
  · rw [dif_neg h2] at hX
    rw [List.drop_eq_nil_of_le (show l.length ≤ k + 1 by omega), Pl.bandSumFrom, Pl.bandSumFrom]
    by_cases hp : l[k].1 < a
    · rw [if_pos hp]
      have e : Pl.most X 0 = wrap64 (a - l[k].1) := by rw [Pl.wrap_id _ (by omega) (by omega), hX]; unfold Pl.most; rw [if_pos (by omega)]
      rw [e]
    · rw [if_neg hp]
      have e : Pl.most X 0 = 0 := by rw [hX]; unfold Pl.most; split <;> omega
      rw [e, hz]
theorem wrap64_bd (n : Int) : -9223372036854775808 ≤ wrap64 n ∧ wrap64 n ≤ 9223372036854775807 := by unfold wrap64; omega

set_option maxRecDepth 100000 in
set_option maxHeartbeats 2000000 in
theorem table_ref (toks : List (List UInt8)) (names : List Pl.DeclM) (known : List Int) (vt vn vk : Value) (a : Int) (p : Nat) (l : List (Int × Int)) (w : World) (h : TextAt w vt vn vk toks names known) (hg : Pl.BandsG toks p l) (hl : toks.length ≤ 9000) (ht6 : ∀ t ∈ toks, t.length ≤ 6000) (ha : Pl.Sm a) :
    Calls Tryz.prog 154 #[.agg #[vt, vn, vk], .int .i64 a, .int .i64 p] w fun e w' => e = .returned (.tuple #[.int .i64 (Pl.bandSumW a l), .int .i64 ((p + 1 + 2 * l.length : Nat) : Int)]) ∧ Below w.heap.size w w' := by
  have hlen : ∀ j, j < toks.length → (toks.getD j []).length ≤ 6000 := by
    intro j hj; rw [List.getD_eq_getElem?_getD, List.getElem?_eq_getElem hj]; exact ht6 _ (List.getElem_mem _)
  obtain ⟨hpl, hn0, h6, hbs⟩ := hg
  have HN := hide (fun (j : Nat) (hj : j < toks.length) (w1 : World) => RNumber_any (toks.getD j []) w1 (by have := hlen j hj; unfold maxLen; omega))
  obtain ⟨a1, p1, a2, p2, a3, p3, rfl, rfl, rfl⟩ := text_shape h
  obtain ⟨gt, rfl, _⟩ := h.toks.get p (by omega)
  have HT := hide (tok_at h.toks)
  have HB := hide (fun a => (Below.refl _ w).alloc (Nat.le_refl _) a)
  have HX := hide (bx_here (w := w) (.slice (some ⟨gt, 0, none⟩) toks.length p1) (.slice a2 names.length p2) (.slice a3 known.length p3))
  have HS := hide hbs
  have Ha := hide ha
  obtain ⟨ha1, ha2⟩ := ha
  clear h ht6 hlen hbs
  have hN0 := hide (unhide HN p (by omega))
  rw [hn0] at hN0
  have hc0 := unhide HT _ p (unhide HB (.cells #[.slice (some ⟨gt, 0, none⟩) toks.length p1, .slice a2 names.length p2, .slice a3 known.length p3] 124)) (by omega)
  clear hn0
  generalize toks.getD p [] = t0 at *
  go_enter Tryz.func154, Tryz.ntmps154
  go_wp2_with fail
  refine (unhide hN0 _).mono ?_
  rintro e w1 ⟨rfl, hw1⟩
  rw [hw1]
  clear hw1 w1 hN0 hc0
  go_wp2_with fail
  go_loop [10, 11] (fun s i => ∃ (k : Nat) (S : Int), k ≤ l.length ∧ i = .int .i64 k ∧ s = .int .i64 S ∧ Hid (-9223372036854775808 ≤ S ∧ S ≤ 9223372036854775807 ∧ Pl.bandSumFrom a (l.drop k) S = Pl.bandSumW a l)) (fun _ i => l.length - (intOf i).toNat)
  case atStart => exact ⟨0, 0, by omega, rfl, rfl, by omega, by omega, rfl⟩
  case round =>
    obtain ⟨k, S, hk, rfl, rfl, hr⟩ := hrel
    by_cases hlt : k < l.length
    · obtain ⟨n1, n2, b1, b2, b3, b4⟩ := unhide HS k hlt
      have hN1 := hide (unhide HN (p + 1 + 2 * k) (by omega))
      have hN2 := hide (unhide HN (p + 2 + 2 * k) (by omega))
      rw [n1] at hN1
      rw [n2] at hN2
      have hc1 := unhide HT _ (p + 1 + 2 * k) (unhide HB (.cells #[.slice (some ⟨gt, 0, none⟩) toks.length p1, .slice a2 names.length p2, .slice a3 known.length p3] 124)) (by omega)
      have hc2 := unhide HT _ (p + 2 + 2 * k) (unhide HB (.cells #[.slice (some ⟨gt, 0, none⟩) toks.length p1, .slice a2 names.length p2, .slice a3 known.length p3] 124)) (by omega)
      clear n1 n2
      by_cases hlt2 : k + 1 < l.length
      · obtain ⟨n3, _, d1, d2, _, _⟩ := unhide HS (k + 1) hlt2
        have hN3 := hide (unhide HN (p + 3 + 2 * k) (by omega))
        rw [show p + 1 + 2 * (k + 1) = p + 3 + 2 * k by omega] at n3
        rw [n3] at hN3
        have hc3 := unhide HT _ (p + 3 + 2 * k) (unhide HB (.cells #[.slice (some ⟨gt, 0, none⟩) toks.length p1, .slice a2 names.length p2, .slice a3 known.length p3] 124)) (by omega)
        clear n3
        have hst := Pl.band_step a S ⟨(unhide hr).1, (unhide hr).2.1⟩ (unhide Ha) l k hlt ⟨b1, b2⟩ (Pl.lesser a l[k + 1].1 - l[k].1) (by rw [dif_pos hlt2]) (fun _ => ⟨d1, d2⟩)
        have HE := hide (hst.symm.trans (unhide hr).2.2)
        clear hst hr
        have hM1 := hide (fun w1 => most_any (-a) (-l[k + 1].1) w1)
        have hme : Pl.most (-a) (-l[k + 1].1) = -Pl.lesser a l[k + 1].1 := by unfold Pl.most Pl.lesser; split <;> split <;> omega
        have hlb : -1000000000000000 ≤ Pl.lesser a l[k + 1].1 ∧ Pl.lesser a l[k + 1].1 ≤ 1000000000000000 := by unfold Pl.lesser; split <;> omega
        obtain ⟨hlb1, hlb2⟩ := hlb
        rw [hme] at hM1
        clear hme
        generalize Pl.lesser a l[k + 1].1 = LS at *
        generalize l[k + 1].1 = U at *
        generalize l[k].1 = TT at *
        generalize l[k].2 = R at *
        have hM2 := hide (fun w1 => most_any (LS - TT) 0 w1)
        generalize Pl.most (LS - TT) 0 = MM at *
        have hwp : wrap64 (R * MM) = wrap64 (R * MM) := rfl
        generalize toks.getD (p + 1 + 2 * k) [] = t1 at *
        generalize toks.getD (p + 2 + 2 * k) [] = t2 at *
        generalize toks.getD (p + 3 + 2 * k) [] = t3 at *
        clear hwp
        go_wp2_with fail
        refine (unhide hN1 _).mono ?_
        rintro e w1 ⟨rfl, hw1⟩
        rw [hw1]
        clear hw1 w1 hN1 hc1
        go_wp2_with fail
        refine (unhide hN2 _).mono ?_
        rintro e w1 ⟨rfl, hw1⟩
        rw [hw1]
        clear hw1 w1 hN2 hc2
        go_wp2_with fail
        refine (unhide hN3 _).mono ?_
        rintro e w1 ⟨rfl, hw1⟩
        rw [hw1]
        clear hw1 w1 hN3 hc3
        go_wp2_with fail
        refine (unhide hM1 _).mono ?_
        rintro e w1 ⟨rfl, hw1⟩
        rw [hw1]
        clear hw1 w1 hM1
        go_wp2_with fail
        refine (unhide hM2 _).mono ?_
        rintro e w1 ⟨rfl, hw1⟩
        rw [hw1]
        clear hw1 w1 hM2
        go_wp2
        go_round
        case rel => exact ⟨k + 1, wrap64 (S + wrap64 (R * MM)), by omega, by go_num, rfl, (wrap64_bd _).1, (wrap64_bd _).2, unhide HE⟩
        case measure => simp [intOf]; omega
      · have hst := Pl.band_step a S ⟨(unhide hr).1, (unhide hr).2.1⟩ (unhide Ha) l k hlt ⟨b1, b2⟩ (a - l[k].1) (by rw [dif_neg hlt2]) (fun h => absurd h hlt2)
        have HE := hide (hst.symm.trans (unhide hr).2.2)
        clear hst hr
        generalize l[k].1 = TT at *
        generalize l[k].2 = R at *
        have hM2 := hide (fun w1 => most_any (a - TT) 0 w1)
        generalize Pl.most (a - TT) 0 = MM at *
        generalize toks.getD (p + 1 + 2 * k) [] = t1 at *
        generalize toks.getD (p + 2 + 2 * k) [] = t2 at *
        go_wp2_with fail
        refine (unhide hN1 _).mono ?_
        rintro e w1 ⟨rfl, hw1⟩
        rw [hw1]
        clear hw1 w1 hN1 hc1
        go_wp2_with fail
        refine (unhide hN2 _).mono ?_
        rintro e w1 ⟨rfl, hw1⟩
        rw [hw1]
        clear hw1 w1 hN2 hc2
        go_wp2_with fail
        refine (unhide hM2 _).mono ?_
        rintro e w1 ⟨rfl, hw1⟩
        rw [hw1]
        clear hw1 w1 hM2
        go_wp2
        go_round
        case rel => exact ⟨k + 1, wrap64 (S + wrap64 (R * MM)), by omega, by go_num, rfl, (wrap64_bd _).1, (wrap64_bd _).2, unhide HE⟩
        case measure => simp [intOf]; omega
    · have HE := hide (unhide hr).2.2
      rw [List.drop_eq_nil_of_le (by omega), Pl.bandSumFrom] at HE
      have hkk : k = l.length := by omega
      subst hkk
      clear hr
      go_wp2
      go_ret2
      exact ⟨by rw [unhide HE]; congr 3 <;> omega, (unhide HX).1⟩
end Go.Proofs.YtfaljekgpnbmiaaGreat

/-
  The contract of the reference's tables.
-/
namespace Go.Proofs.YtfaljekgpnbmiaaGreat
open Go.RowKit
set_option linter.unusedVariables false
set_option linter.unusedSimpArgs false

theorem Pl.tabB_drop (a : Int) (l : List (Int × Int)) (k : Nat) (hk : k < l.length) (S : Int) : Pl.tabB a (l.drop k) S = Pl.tabB a (l.drop (k + 1)) (Pl.capB (S + Pl.absv l[k].2 * (a + Pl.absv l[k].1))) := by
  rw [List.drop_eq_getElem_cons hk, Pl.tabB]
theorem Pl.capped_eq (b : Int) : Pl.capped b = Pl.capB b := rfl
set_option maxRecDepth 100000 in
set_option maxHeartbeats 2000000 in
theorem tables_ref (toks : List (List UInt8)) (names : List Pl.DeclM) (known : List Int) (vt vn vk : Value) (a : Int) (p : Nat) (l : List (Int × Int)) (w : World) (h : TextAt w vt vn vk toks names known) (hg : Pl.BandsG toks p l) (hl : toks.length ≤ 9000) (ht6 : ∀ t ∈ toks, t.length ≤ 6000) (ha : 0 ≤ a ∧ a ≤ 1000000000000001) :
    Calls Tryz.prog 204 #[.agg #[vt, vn, vk], .int .i64 a, .int .i64 p] w fun e w' => e = .returned (.tuple #[.int .i64 (if a = 1000000000000001 then 1000000000000001 else Pl.tabB a l 0), .int .i64 ((p + 1 + 2 * l.length : Nat) : Int)]) ∧ Below w.heap.size w w' := by
  have hlen : ∀ j, j < toks.length → (toks.getD j []).length ≤ 6000 := by
    intro j hj; rw [List.getD_eq_getElem?_getD, List.getElem?_eq_getElem hj]; exact ht6 _ (List.getElem_mem _)
  obtain ⟨hpl, hn0, h6, hbs⟩ := hg
  have HN := hide (fun (j : Nat) (hj : j < toks.length) (w1 : World) => RNumber_any (toks.getD j []) w1 (by have := hlen j hj; unfold maxLen; omega))
  obtain ⟨a1, p1, a2, p2, a3, p3, rfl, rfl, rfl⟩ := text_shape h
  obtain ⟨gt, rfl, _⟩ := h.toks.get p (by omega)
  have HT := hide (tok_at h.toks)
  have HB := hide (fun a => (Below.refl _ w).alloc (Nat.le_refl _) a)
  have HX := hide (bx_here (w := w) (.slice (some ⟨gt, 0, none⟩) toks.length p1) (.slice a2 names.length p2) (.slice a3 known.length p3))
  have HS := hide hbs
  obtain ⟨ha1, ha2⟩ := ha
  obtain ⟨res, hres⟩ : ∃ res, res = (if a = 1000000000000001 then 1000000000000001 else Pl.tabB a l 0) := ⟨_, rfl⟩
  rw [← hres]
  have HR := hide hres
  clear h ht6 hlen hbs hres
  have hN0 := hide (unhide HN p (by omega))
  rw [hn0] at hN0
  have hc0 := unhide HT _ p (unhide HB (.cells #[.slice (some ⟨gt, 0, none⟩) toks.length p1, .slice a2 names.length p2, .slice a3 known.length p3] 124)) (by omega)
  clear hn0
  generalize toks.getD p [] = t0 at *
  go_enter Tryz.func204, Tryz.ntmps204
  go_wp2_with fail
  refine (unhide hN0 _).mono ?_
  rintro e w1 ⟨rfl, hw1⟩
  rw [hw1]
  clear hw1 w1 hN0 hc0
  go_wp2_with fail
  go_loop [10, 11] (fun s i => ∃ (k : Nat) (S : Int), k ≤ l.length ∧ i = .int .i64 k ∧ s = .int .i64 S ∧ 0 ≤ S ∧ S ≤ 1000000000000001 ∧ Hid (Pl.tabB a (l.drop k) S = Pl.tabB a l 0)) (fun _ i => l.length - (intOf i).toNat)
  case atStart => exact ⟨0, 0, by omega, rfl, rfl, by omega, by omega, rfl⟩
  case round =>
    obtain ⟨k, S, hk, rfl, rfl, hS1, hS2, hr⟩ := hrel
    by_cases hlt : k < l.length
    · obtain ⟨n1, n2, b1, b2, b3, b4⟩ := unhide HS k hlt
      have hN1 := hide (unhide HN (p + 1 + 2 * k) (by omega))
      have hN2 := hide (unhide HN (p + 2 + 2 * k) (by omega))
      rw [n1] at hN1
      rw [n2] at hN2
      have hc1 := unhide HT _ (p + 1 + 2 * k) (unhide HB (.cells #[.slice (some ⟨gt, 0, none⟩) toks.length p1, .slice a2 names.length p2, .slice a3 known.length p3] 124)) (by omega)
      have hc2 := unhide HT _ (p + 2 + 2 * k) (unhide HB (.cells #[.slice (some ⟨gt, 0, none⟩) toks.length p1, .slice a2 names.length p2, .slice a3 known.length p3] 124)) (by omega)
      clear n1 n2
      have hst := Pl.tabB_drop a l k hlt S
      have HE := hide (hst.symm.trans (unhide hr))
      clear hst hr
      have hA1 := hide (fun w1 => apart_any l[k].2 w1 (by omega) (by omega))
      have hA2 := hide (fun w1 => apart_any l[k].1 w1 (by omega) (by omega))
      have r1 : 0 ≤ Pl.absv l[k].2 ∧ Pl.absv l[k].2 ≤ 1000 := by unfold Pl.absv; split <;> omega
      have r2 : 0 ≤ Pl.absv l[k].1 ∧ Pl.absv l[k].1 ≤ 1000000000 := by unfold Pl.absv; split <;> omega
      obtain ⟨r1a, r1b⟩ := r1
      obtain ⟨r2a, r2b⟩ := r2
      generalize Pl.absv l[k].2 = R' at *
      generalize Pl.absv l[k].1 = T' at *
      generalize l[k].1 = TT at *
      generalize l[k].2 = R at *
      have m1 : 0 ≤ R' * (a + T') := Int.mul_nonneg r1a (by omega)
      have m2 : R' * (a + T') ≤ 1000 * (1000000000000001 + 1000000000) := Int.mul_le_mul r1b (by omega) (by omega) (by omega)
      have hwm : wrap64 (R' * (a + T')) = R' * (a + T') := Pl.wrap_id _ (by omega) (by omega)
      obtain ⟨M, hM⟩ : ∃ M, M = R' * (a + T') := ⟨_, rfl⟩
      rw [← hM] at m1 m2 HE
      have hwm2 : wrap64 (R' * (a + T')) = M := by rw [hwm, hM]
      clear hwm hM
      have hC := hide (fun w1 => capped_any (S + M) w1 (by omega) (by omega))
      rw [Pl.capped_eq] at hC
      have q1 : 0 ≤ Pl.capB (S + M) ∧ Pl.capB (S + M) ≤ 1000000000000001 := by unfold Pl.capB; split <;> omega
      generalize Pl.capB (S + M) = S2 at *
      generalize toks.getD (p + 1 + 2 * k) [] = t1 at *
      generalize toks.getD (p + 2 + 2 * k) [] = t2 at *
      go_wp2_with fail
      refine (unhide hN1 _).mono ?_
      rintro e w1 ⟨rfl, hw1⟩
      rw [hw1]
      clear hw1 w1 hN1 hc1
      go_wp2_with fail
      refine (unhide hN2 _).mono ?_
      rintro e w1 ⟨rfl, hw1⟩
      rw [hw1]
      clear hw1 w1 hN2 hc2
      go_wp2_with fail
      refine (unhide hA1 _).mono ?_
      rintro e w1 ⟨rfl, hw1⟩
      rw [hw1]
      clear hw1 w1 hA1
      go_wp2_with fail
      refine (unhide hA2 _).mono ?_
      rintro e w1 ⟨rfl, hw1⟩
      rw [hw1]
      clear hw1 w1 hA2
      go_wp2_with fail
      refine (unhide hC _).mono ?_
      rintro e w1 ⟨rfl, hw1⟩
      rw [hw1]
      clear hw1 w1 hC
      go_wp2
      go_round
      case rel => exact ⟨k + 1, S2, by omega, by go_num, rfl, q1.1, q1.2, unhide HE⟩
      case measure => simp [intOf]; omega
    · have HE := hide (unhide hr)
      rw [List.drop_eq_nil_of_le (by omega), Pl.tabB] at HE
      have hkk : k = l.length := by omega
      subst hkk
      clear hr
      by_cases hL : a = 1000000000000001
      · have HR2 := hide ((unhide HR).trans (if_pos hL))
        have hLt : (a == 1000000000000001) = true := by simp [hL]
        clear hL HE HR
        go_wp2
        go_ret2
        exact ⟨by rw [unhide HR2]; congr 3 <;> omega, (unhide HX).1⟩
      · have HR2 := hide (((unhide HR).trans (if_neg hL)).trans (unhide HE).symm)
        have hLt : (a == 1000000000000001) = false := by simpa using hL
        clear hL HE HR
        go_wp2
        go_ret2
        exact ⟨by rw [unhide HR2]; congr 3 <;> omega, (unhide HX).1⟩
end Go.Proofs.YtfaljekgpnbmiaaGreat

/-
  Contracts of the reference's Bound, of two parts.
-/
namespace Go.Proofs.YtfaljekgpnbmiaaGreat
open Go.RowKit
set_option linter.unusedVariables false
set_option linter.unusedSimpArgs false

set_option maxRecDepth 100000 in
set_option maxHeartbeats 2000000 in
theorem B_kAdd (toks : List (List UInt8)) (names : List Pl.DeclM) (known : List Int) (vt vn vk : Value) (i : Nat) (w : World) (h : TextAt w vt vn vk toks names known) (hi : i < toks.length) (hl : toks.length ≤ 9000) (ho : toks.getD i [] = Pl.kAdd) (p q : Nat) (A B : Int) (hA : CallT 146 vt vn vk w (i + 1) (.int .i64 A) p) (hB : CallT 146 vt vn vk w p (.int .i64 B) q) (hA0 : 0 ≤ A) (hA1 : A ≤ 1000000000000001) (hB0 : 0 ≤ B) (hB1 : B ≤ 1000000000000001) :
    Calls Tryz.prog 146 #[.agg #[vt, vn, vk], .int .i64 i] w fun e w' => e = .returned (.tuple #[.int .i64 (Pl.capB (A + B)), .int .i64 q]) ∧ Below w.heap.size w w' := by
  have HA := hide hA
  have HBB := hide hB
  clear hA hB
  have HC := hide (fun w1 => capped_any (A + B) w1 (by omega) (by omega))
  rw [Pl.capped_eq] at HC
  obtain ⟨a1, p1, a2, p2, a3, p3, rfl, rfl, rfl⟩ := text_shape h
  obtain ⟨gt, rfl, hct⟩ := h.toks.get i hi
  have HT := hide (tok_at h.toks)
  have HB := hide (fun a => (Below.refl _ w).alloc (Nat.le_refl _) a)
  have hct2 := fun a => cell_low (unhide HB a) (lt_of_cell hct) hct
  rw [ho] at hct2
  clear h hct ho
  unfold Pl.kAdd at hct2
  go_enter Tryz.func146, Tryz.ntmps146
  go_wp2_with fail
  refine (unhide HA _ _ (unhide HB _) (by omega)).mono ?_
  rintro e w1 ⟨rfl, hb1⟩
  have HX1 := hide (bx_start hb1)
  clear hb1 HA
  obtain ⟨x0, x1, x2⟩ := (unhide HX1).cells
  go_wp2_with fail
  refine (unhide HBB _ _ (unhide HX1).1 (by omega)).mono ?_
  rintro e w2 ⟨rfl, hb2⟩
  have HX2 := hide ((unhide HX1).next hb2)
  clear x0 x1 x2 HX1
  clear hb2 HBB
  obtain ⟨x0, x1, x2⟩ := (unhide HX2).cells
  go_wp2_with fail
  refine (unhide HC _).mono ?_
  rintro e w3 ⟨rfl, hw3⟩
  rw [hw3]
  clear hw3 w3
  go_wp2
  go_ret2
  exact ⟨rfl, (unhide HX2).1⟩
set_option maxRecDepth 100000 in
set_option maxHeartbeats 2000000 in
theorem B_kSub (toks : List (List UInt8)) (names : List Pl.DeclM) (known : List Int) (vt vn vk : Value) (i : Nat) (w : World) (h : TextAt w vt vn vk toks names known) (hi : i < toks.length) (hl : toks.length ≤ 9000) (ho : toks.getD i [] = Pl.kSub) (p q : Nat) (A B : Int) (hA : CallT 146 vt vn vk w (i + 1) (.int .i64 A) p) (hB : CallT 146 vt vn vk w p (.int .i64 B) q) (hA0 : 0 ≤ A) (hA1 : A ≤ 1000000000000001) (hB0 : 0 ≤ B) (hB1 : B ≤ 1000000000000001) :
    Calls Tryz.prog 146 #[.agg #[vt, vn, vk], .int .i64 i] w fun e w' => e = .returned (.tuple #[.int .i64 (Pl.capB (A + B)), .int .i64 q]) ∧ Below w.heap.size w w' := by
  have HA := hide hA
  have HBB := hide hB
  clear hA hB
  have HC := hide (fun w1 => capped_any (A + B) w1 (by omega) (by omega))
  rw [Pl.capped_eq] at HC
  obtain ⟨a1, p1, a2, p2, a3, p3, rfl, rfl, rfl⟩ := text_shape h
  obtain ⟨gt, rfl, hct⟩ := h.toks.get i hi
  have HT := hide (tok_at h.toks)
  have HB := hide (fun a => (Below.refl _ w).alloc (Nat.le_refl _) a)
  have hct2 := fun a => cell_low (unhide HB a) (lt_of_cell hct) hct
  rw [ho] at hct2
  clear h hct ho
  unfold Pl.kSub at hct2
  go_enter Tryz.func146, Tryz.ntmps146
  go_wp2_with fail
  refine (unhide HA _ _ (unhide HB _) (by omega)).mono ?_
  rintro e w1 ⟨rfl, hb1⟩
  have HX1 := hide (bx_start hb1)
  clear hb1 HA
  obtain ⟨x0, x1, x2⟩ := (unhide HX1).cells
  go_wp2_with fail
  refine (unhide HBB _ _ (unhide HX1).1 (by omega)).mono ?_
  rintro e w2 ⟨rfl, hb2⟩
  have HX2 := hide ((unhide HX1).next hb2)
  clear x0 x1 x2 HX1
  clear hb2 HBB
  obtain ⟨x0, x1, x2⟩ := (unhide HX2).cells
  go_wp2_with fail
  refine (unhide HC _).mono ?_
  rintro e w3 ⟨rfl, hw3⟩
  rw [hw3]
  clear hw3 w3
  go_wp2
  go_ret2
  exact ⟨rfl, (unhide HX2).1⟩
set_option maxRecDepth 100000 in
set_option maxHeartbeats 2000000 in
theorem B_kMin_a (toks : List (List UInt8)) (names : List Pl.DeclM) (known : List Int) (vt vn vk : Value) (i : Nat) (w : World) (h : TextAt w vt vn vk toks names known) (hi : i < toks.length) (hl : toks.length ≤ 9000) (ho : toks.getD i [] = Pl.kMin) (p q : Nat) (A B : Int) (hA : CallT 146 vt vn vk w (i + 1) (.int .i64 A) p) (hB : CallT 146 vt vn vk w p (.int .i64 B) q) (hA0 : 0 ≤ A) (hA1 : A ≤ 1000000000000001) (hB0 : 0 ≤ B) (hB1 : B ≤ 1000000000000001) (ea : (A == 1000000000000001) = true) :
    Calls Tryz.prog 146 #[.agg #[vt, vn, vk], .int .i64 i] w fun e w' => e = .returned (.tuple #[.int .i64 (Pl.capB (A + B)), .int .i64 q]) ∧ Below w.heap.size w w' := by
  have HA := hide hA
  have HBB := hide hB
  clear hA hB
  have HC := hide (fun w1 => capped_any (A + B) w1 (by omega) (by omega))
  rw [Pl.capped_eq] at HC
  obtain ⟨a1, p1, a2, p2, a3, p3, rfl, rfl, rfl⟩ := text_shape h
  obtain ⟨gt, rfl, hct⟩ := h.toks.get i hi
  have HT := hide (tok_at h.toks)
  have HB := hide (fun a => (Below.refl _ w).alloc (Nat.le_refl _) a)
  have hct2 := fun a => cell_low (unhide HB a) (lt_of_cell hct) hct
  rw [ho] at hct2
  clear h hct ho
  unfold Pl.kMin at hct2
  go_enter Tryz.func146, Tryz.ntmps146
  go_wp2_with fail
  refine (unhide HA _ _ (unhide HB _) (by omega)).mono ?_
  rintro e w1 ⟨rfl, hb1⟩
  have HX1 := hide (bx_start hb1)
  clear hb1 HA
  obtain ⟨x0, x1, x2⟩ := (unhide HX1).cells
  go_wp2_with fail
  refine (unhide HBB _ _ (unhide HX1).1 (by omega)).mono ?_
  rintro e w2 ⟨rfl, hb2⟩
  have HX2 := hide ((unhide HX1).next hb2)
  clear x0 x1 x2 HX1
  clear hb2 HBB
  obtain ⟨x0, x1, x2⟩ := (unhide HX2).cells
  go_wp2_with fail
  refine (unhide HC _).mono ?_
  rintro e w3 ⟨rfl, hw3⟩
  rw [hw3]
  clear hw3 w3
  go_wp2
  go_ret2
  exact ⟨rfl, (unhide HX2).1⟩
set_option maxRecDepth 100000 in
set_option maxHeartbeats 2000000 in
theorem B_kMin_b (toks : List (List UInt8)) (names : List Pl.DeclM) (known : List Int) (vt vn vk : Value) (i : Nat) (w : World) (h : TextAt w vt vn vk toks names known) (hi : i < toks.length) (hl : toks.length ≤ 9000) (ho : toks.getD i [] = Pl.kMin) (p q : Nat) (A B : Int) (hA : CallT 146 vt vn vk w (i + 1) (.int .i64 A) p) (hB : CallT 146 vt vn vk w p (.int .i64 B) q) (hA0 : 0 ≤ A) (hA1 : A ≤ 1000000000000001) (hB0 : 0 ≤ B) (hB1 : B ≤ 1000000000000001) (ea : (A == 1000000000000001) = false) (eb : (B == 1000000000000001) = true) :
    Calls Tryz.prog 146 #[.agg #[vt, vn, vk], .int .i64 i] w fun e w' => e = .returned (.tuple #[.int .i64 (Pl.capB (A + B)), .int .i64 q]) ∧ Below w.heap.size w w' := by
  have HA := hide hA
  have HBB := hide hB
  clear hA hB
  have HC := hide (fun w1 => capped_any (A + B) w1 (by omega) (by omega))
  rw [Pl.capped_eq] at HC
  obtain ⟨a1, p1, a2, p2, a3, p3, rfl, rfl, rfl⟩ := text_shape h
  obtain ⟨gt, rfl, hct⟩ := h.toks.get i hi
  have HT := hide (tok_at h.toks)
  have HB := hide (fun a => (Below.refl _ w).alloc (Nat.le_refl _) a)
  have hct2 := fun a => cell_low (unhide HB a) (lt_of_cell hct) hct
  rw [ho] at hct2
  clear h hct ho
  unfold Pl.kMin at hct2
  go_enter Tryz.func146, Tryz.ntmps146
  go_wp2_with fail
  refine (unhide HA _ _ (unhide HB _) (by omega)).mono ?_
  rintro e w1 ⟨rfl, hb1⟩
  have HX1 := hide (bx_start hb1)
  clear hb1 HA
  obtain ⟨x0, x1, x2⟩ := (unhide HX1).cells
  go_wp2_with fail
  refine (unhide HBB _ _ (unhide HX1).1 (by omega)).mono ?_
  rintro e w2 ⟨rfl, hb2⟩
  have HX2 := hide ((unhide HX1).next hb2)
  clear x0 x1 x2 HX1
  clear hb2 HBB
  obtain ⟨x0, x1, x2⟩ := (unhide HX2).cells
  go_wp2_with fail
  refine (unhide HC _).mono ?_
  rintro e w3 ⟨rfl, hw3⟩
  rw [hw3]
  clear hw3 w3
  go_wp2
  go_ret2
  exact ⟨rfl, (unhide HX2).1⟩
set_option maxRecDepth 100000 in
set_option maxHeartbeats 2000000 in
theorem B_kMin_n (toks : List (List UInt8)) (names : List Pl.DeclM) (known : List Int) (vt vn vk : Value) (i : Nat) (w : World) (h : TextAt w vt vn vk toks names known) (hi : i < toks.length) (hl : toks.length ≤ 9000) (ho : toks.getD i [] = Pl.kMin) (p q : Nat) (A B : Int) (hA : CallT 146 vt vn vk w (i + 1) (.int .i64 A) p) (hB : CallT 146 vt vn vk w p (.int .i64 B) q) (hA0 : 0 ≤ A) (hA1 : A ≤ 1000000000000001) (hB0 : 0 ≤ B) (hB1 : B ≤ 1000000000000001) (ea : (A == 1000000000000001) = false) (eb : (B == 1000000000000001) = false) :
    Calls Tryz.prog 146 #[.agg #[vt, vn, vk], .int .i64 i] w fun e w' => e = .returned (.tuple #[.int .i64 (Pl.most A B), .int .i64 q]) ∧ Below w.heap.size w w' := by
  have HA := hide hA
  have HBB := hide hB
  clear hA hB
  have HC := hide (fun w1 => most_any A B w1)
  obtain ⟨a1, p1, a2, p2, a3, p3, rfl, rfl, rfl⟩ := text_shape h
  obtain ⟨gt, rfl, hct⟩ := h.toks.get i hi
  have HT := hide (tok_at h.toks)
  have HB := hide (fun a => (Below.refl _ w).alloc (Nat.le_refl _) a)
  have hct2 := fun a => cell_low (unhide HB a) (lt_of_cell hct) hct
  rw [ho] at hct2
  clear h hct ho
  unfold Pl.kMin at hct2
  go_enter Tryz.func146, Tryz.ntmps146
  go_wp2_with fail
  refine (unhide HA _ _ (unhide HB _) (by omega)).mono ?_
  rintro e w1 ⟨rfl, hb1⟩
  have HX1 := hide (bx_start hb1)
  clear hb1 HA
  obtain ⟨x0, x1, x2⟩ := (unhide HX1).cells
  go_wp2_with fail
  refine (unhide HBB _ _ (unhide HX1).1 (by omega)).mono ?_
  rintro e w2 ⟨rfl, hb2⟩
  have HX2 := hide ((unhide HX1).next hb2)
  clear x0 x1 x2 HX1
  clear hb2 HBB
  obtain ⟨x0, x1, x2⟩ := (unhide HX2).cells
  go_wp2_with fail
  refine (unhide HC _).mono ?_
  rintro e w3 ⟨rfl, hw3⟩
  rw [hw3]
  clear hw3 w3
  go_wp2
  go_ret2
  exact ⟨rfl, (unhide HX2).1⟩
end Go.Proofs.YtfaljekgpnbmiaaGreat
