/- Joined: Eq11. -/
import Derived.Test.YtfaljekgpnbmiaaGreatL34
/-
  Values: a step.
-/
namespace Go.Proofs.YtfaljekgpnbmiaaGreat.Pl
open Go.RowKit

def SafeAt (toks : List (List UInt8)) (names : List DeclM) (home : List Int) (k : Nat) (d : DeclM) (known : List Int) : Prop :=
  (d.kind = 105 → k < home.length) ∧ (d.kind = 118 → toks.getD d.pos.toNat [] = kFlr → -4000000000000000000 ≤ valueR toks names known (d.pos.toNat + 1) ∧ valueR toks names known (d.pos.toNat + 1) ≤ 4000000000000000000 ∧ 1 ≤ valueR toks names known (d.pos.toNat + 2) ∧ valueR toks names known (d.pos.toNat + 2) ≤ 4000000000000000000)
theorem holds_b2i (b : Bool) : (if b = true then (1 : Int) else 0) = b2i b := by unfold b2i; rfl
theorem b2i_flag (b : Bool) : b2i b = 0 ∨ b2i b = 1 := by cases b <;> simp [b2i]
theorem step_value {toks : List (List UInt8)} {names : List DeclM} {es : List (List UInt8 × Int × Int)} {home KB vs K : List Int} {nodes more : List NodeM} {i : Nat} {op : Int} {ws : List UInt8} {k : UInt8} (name : List UInt8) (n : Nat) (E : Env names es KB vs K) (hvl : vs.length = nodes.length)
    (hw : WordOp (atR toks (i + 2)) op ws k) (hs : StepN es nodes toks (i + 3) op more) (hl : i + 3 + ws.length ≤ toks.length) (hl6 : i + 3 + ws.length ≤ 600) :
    (∃ t, valsF home more vs = vs ++ t ∧ 0 ≤ ((nodes ++ more).length : Int) - 1 ∧ ((nodes ++ more).length : Int) - 1 < (vs ++ t).length ∧ pickL (vs ++ t) (((nodes ++ more).length : Int) - 1) = tellOf toks names home n ⟨name, k.toNat, 0, 0, (i : Int) + 2⟩ K) ∧
    (kindOf op = 1 → tellOf toks names home n ⟨name, k.toNat, 0, 0, (i : Int) + 2⟩ K = 0 ∨ tellOf toks names home n ⟨name, k.toNat, 0, 0, (i : Int) + 2⟩ K = 1) ∧
    (kindOf op = 0 → -wideOf toks names ⟨name, k.toNat, 0, 0, (i : Int) + 2⟩ KB ≤ tellOf toks names home n ⟨name, k.toNat, 0, 0, (i : Int) + 2⟩ K ∧ tellOf toks names home n ⟨name, k.toNat, 0, 0, (i : Int) + 2⟩ K ≤ wideOf toks names ⟨name, k.toNat, 0, 0, (i : Int) + 2⟩ KB) ∧
    SafeAt toks names home n ⟨name, k.toNat, 0, 0, (i : Int) + 2⟩ K := by
  have hkw := kind_of_word hw
  have hp : i + 2 < toks.length ∧ i + 2 < 600 := by have := hkw.2.2.2; omega
  have hg := getD_atR hp.1 hp.2
  obtain ⟨ho, hfm, hcs⟩ := hw
  have hwd := opOf_word ho
  have ei : ((i : Int) + 2).toNat = i + 2 := by omega
  have hv : ∀ op' : List UInt8, atR toks (i + 2) = op' → wideOf toks names ⟨name, 118, 0, 0, (i : Int) + 2⟩ KB = reachV op' (boundR toks names KB (i + 3)) (boundR toks names KB (i + 3 + 1)) (boundR toks names KB (i + 3 + 2)) := by
    intro op' h
    unfold wideOf
    rw [if_neg (by simp), if_pos (by simp)]
    simp only [ei]
    unfold reachR
    rw [hg, h]
  have ht : ∀ op' : List UInt8, atR toks (i + 2) = op' → tellOf toks names home n ⟨name, k.toNat, 0, 0, (i : Int) + 2⟩ K = doneV op' (valueR toks names K (i + 3)) (valueR toks names K (i + 3 + 1)) (valueR toks names K (i + 3 + 2)) := by
    intro op' h
    unfold tellOf
    rw [if_neg hkw.2.1, if_neg hkw.2.2.1]
    simp only [ei]
    unfold doneR
    rw [hg, h]
  have sf : ∀ op' : List UInt8, atR toks (i + 2) = op' → op' ≠ kFlr → SafeAt toks names home n ⟨name, k.toNat, 0, 0, (i : Int) + 2⟩ K := by
    intro op' h hne
    refine ⟨fun hc => absurd hc hkw.2.1, fun _ hc => ?_⟩
    simp only [ei] at hc
    rw [hg, h] at hc
    exact absurd hc hne
  rcases hcs with ⟨hop, rfl, rfl⟩ | ⟨rfl, rfl, rfl⟩ | ⟨rfl, rfl, rfl⟩ | ⟨rfl, rfl, rfl⟩ | ⟨hop, rfl, rfl⟩ | ⟨hop, rfl, rfl⟩ | ⟨rfl, rfl, rfl⟩
  · rcases hs with ⟨_, a, m, b, m', h1, h2, rfl⟩ | ⟨h, _⟩ | ⟨h, _⟩ | ⟨h, _⟩ | ⟨h, _⟩ | ⟨h, _⟩ <;> try omega
    simp only [List.length_cons, List.length_nil] at hl hl6
    obtain ⟨t, e1, e2, e3, e4, b1, b2, b3, b4, b5, b6⟩ := args_value (home := home) E hvl (by omega) (by omega) h1 h2
    rw [show ((118 : UInt8).toNat) = 118 from rfl] at ht sf ⊢
    rcases hop with rfl | rfl
    · have hwo := hwd.1 rfl
      have e5 := ht _ hwo
      have e6 := hv _ hwo
      have e7 : doneV kAdd (valueR toks names K (i + 3)) (valueR toks names K (i + 3 + 1)) (valueR toks names K (i + 3 + 2)) = wrap64 (valueR toks names K (i + 3) + valueR toks names K (i + 3 + 1)) := rfl
      have e8 : reachV kAdd (boundR toks names KB (i + 3)) (boundR toks names KB (i + 3 + 1)) (boundR toks names KB (i + 3 + 2)) = wrap64 (boundR toks names KB (i + 3) + boundR toks names KB (i + 3 + 1)) := rfl
      rw [e5, e6, e7, e8]
      refine ⟨last_value e1 e2 hvl ?_, fun hc => absurd hc (by decide), fun _ => ?_, sf _ hwo (by decide)⟩
      · unfold nodeValueW
        simp only
        rw [if_neg (by omega), if_neg (by omega), if_pos trivial, e3, e4]
      · rw [wrap_id _ (by omega) (by omega), wrap_id _ (by omega) (by omega)]; omega
    · have hwo := hwd.2.1 rfl
      have e5 := ht _ hwo
      have e6 := hv _ hwo
      have e7 : doneV kSub (valueR toks names K (i + 3)) (valueR toks names K (i + 3 + 1)) (valueR toks names K (i + 3 + 2)) = wrap64 (valueR toks names K (i + 3) - valueR toks names K (i + 3 + 1)) := rfl
      have e8 : reachV kSub (boundR toks names KB (i + 3)) (boundR toks names KB (i + 3 + 1)) (boundR toks names KB (i + 3 + 2)) = wrap64 (boundR toks names KB (i + 3) + boundR toks names KB (i + 3 + 1)) := rfl
      rw [e5, e6, e7, e8]
      refine ⟨last_value e1 e2 hvl ?_, fun hc => absurd hc (by decide), fun _ => ?_, sf _ hwo (by decide)⟩
      · unfold nodeValueW
        simp only
        rw [if_neg (by omega), if_neg (by omega), if_neg (by omega), if_pos trivial, e3, e4]
      · rw [wrap_id _ (by omega) (by omega), wrap_id _ (by omega) (by omega)]; omega
  · rcases hs with ⟨h, _⟩ | ⟨_, hwi, a, m, h1, rfl⟩ | ⟨h, _⟩ | ⟨h, _⟩ | ⟨h, _⟩ | ⟨h, _⟩ <;> try omega
    simp only [List.length_cons, List.length_nil] at hl hl6
    obtain ⟨t, e1, e2, _, _, e4, b4, b5, b6⟩ := arg_value (home := home) E hvl (by omega) (by omega) h1
    rw [show ((118 : UInt8).toNat) = 118 from rfl] at ht sf ⊢
    have hn : (number (atR toks (i + 3))).2 = true ∧ -1000 ≤ (number (atR toks (i + 3))).1 ∧ (number (atR toks (i + 3))).1 ≤ 1000 := by unfold within at hwi; simp at hwi; exact ⟨hwi.1.1, hwi.1.2, hwi.2⟩
    have hg3 := getD_atR (show i + 3 < toks.length by omega) (show i + 3 < 600 by omega)
    have hv3 : valueR toks names K (i + 3) = (number (atR toks (i + 3))).1 := by unfold valueR; rw [hg3, if_pos hn.1]
    have hb3 : boundR toks names KB (i + 3) = absv (number (atR toks (i + 3))).1 := by unfold boundR; rw [hg3, if_pos hn.1]
    have hwo := hwd.2.2.1 rfl
    have e5 := ht _ hwo
    have e6 := hv _ hwo
    have e7 : doneV kMul (valueR toks names K (i + 3)) (valueR toks names K (i + 3 + 1)) (valueR toks names K (i + 3 + 2)) = wrap64 (valueR toks names K (i + 3) * valueR toks names K (i + 3 + 1)) := rfl
    have e8 : reachV kMul (boundR toks names KB (i + 3)) (boundR toks names KB (i + 3 + 1)) (boundR toks names KB (i + 3 + 2)) = wrap64 (boundR toks names KB (i + 3) * boundR toks names KB (i + 3 + 1)) := rfl
    rw [e5, e6, e7, e8, hv3, hb3]
    refine ⟨last_value e1 e2 hvl ?_, fun hc => absurd hc (by decide), fun _ => ?_, sf _ hwo (by decide)⟩
    · unfold nodeValueW
      simp only
      rw [if_neg (by omega), if_neg (by omega), if_neg (by omega), if_neg (by omega), if_pos trivial, e4]
    · have hm := mul_abs (number (atR toks (i + 3))).1 _ _ b4 b5
      have hub : absv (number (atR toks (i + 3))).1 * boundR toks names KB (i + 3 + 1) ≤ 1000 * 1000000000000000 := by
        refine Int.mul_le_mul ?_ b6 (by omega) (by omega)
        unfold absv; split <;> omega
      generalize absv (number (atR toks (i + 3))).1 * boundR toks names KB (i + 3 + 1) = X at *
      generalize (number (atR toks (i + 3))).1 * valueR toks names K (i + 3 + 1) = Y at *
      rw [wrap_id _ (by omega) (by omega), wrap_id _ (by omega) (by omega)]; exact hm
  · rcases hs with ⟨h, _⟩ | ⟨h, _⟩ | ⟨_, hwi, a, m, h1, rfl⟩ | ⟨h, _⟩ | ⟨h, _⟩ | ⟨h, _⟩ <;> try omega
    simp only [List.length_cons, List.length_nil] at hl hl6
    obtain ⟨t, e1, e2, _, _, e4, b4, b5, b6⟩ := arg_value (home := home) E hvl (by omega) (by omega) h1
    rw [show ((118 : UInt8).toNat) = 118 from rfl] at ht sf ⊢
    have hn : (number (atR toks (i + 3 + 1))).2 = true ∧ 1 ≤ (number (atR toks (i + 3 + 1))).1 ∧ (number (atR toks (i + 3 + 1))).1 ≤ 1000000 := by unfold within at hwi; simp at hwi; exact ⟨hwi.1.1, hwi.1.2, hwi.2⟩
    have hg3 := getD_atR (show i + 3 + 1 < toks.length by omega) (show i + 3 + 1 < 600 by omega)
    have hv3 : valueR toks names K (i + 3 + 1) = (number (atR toks (i + 3 + 1))).1 := by unfold valueR; rw [hg3, if_pos hn.1]
    have hwo := hwd.2.2.2.1 rfl
    have e5 := ht _ hwo
    have e6 := hv _ hwo
    have e7 : doneV kFlr (valueR toks names K (i + 3)) (valueR toks names K (i + 3 + 1)) (valueR toks names K (i + 3 + 2)) = valueR toks names K (i + 3) / valueR toks names K (i + 3 + 1) := rfl
    have e8 : reachV kFlr (boundR toks names KB (i + 3)) (boundR toks names KB (i + 3 + 1)) (boundR toks names KB (i + 3 + 2)) = boundR toks names KB (i + 3) := rfl
    rw [e5, e6, e7, e8]
    refine ⟨last_value e1 e2 hvl ?_, fun hc => absurd hc (by decide), fun _ => ?_, ?_⟩
    · unfold nodeValueW
      simp only
      rw [if_neg (by omega), if_neg (by omega), if_neg (by omega), if_neg (by omega), if_neg (by omega), if_neg (by omega), if_neg (by omega), if_neg (by omega), if_pos (by simp), e4]
      unfold quotW
      rw [if_neg (by omega), if_neg (by omega), if_neg (by omega), floorW_small _ _ hn.2.1 (by omega) (by omega), hv3]
    · rw [hv3]; exact div_bd _ _ _ hn.2.1 b4 b5
    · refine ⟨fun hc => by simp at hc, fun _ _ => ?_⟩
      simp only [ei]
      show _ ≤ valueR toks names K (i + 3) ∧ valueR toks names K (i + 3) ≤ _ ∧ 1 ≤ valueR toks names K (i + 3 + 1) ∧ valueR toks names K (i + 3 + 1) ≤ _
      rw [hv3]; omega
  · rcases hs with ⟨h, _⟩ | ⟨h, _⟩ | ⟨h, _⟩ | ⟨_, a, m, b, m', d, m'', h1, h2, h3, rfl⟩ | ⟨h, _⟩ | ⟨h, _⟩ <;> try omega
    simp only [List.length_cons, List.length_nil] at hl hl6
    obtain ⟨rfl, g1, g2, g3, g4⟩ := flag_value E (by omega) (by omega) h1
    rw [List.append_nil] at h2 h3
    obtain ⟨t, e1, e2, e3, e4, b1, b2, b3, b4, b5, b6⟩ := args_value (p := i + 3 + 1) (home := home) E hvl (by omega) (by omega) h2 h3
    rw [show ((118 : UInt8).toNat) = 118 from rfl] at ht sf ⊢
    have hwo := hwd.2.2.2.2.1 rfl
    have e5 := ht _ hwo
    have e6 := hv _ hwo
    have e7 : doneV kSel (valueR toks names K (i + 3)) (valueR toks names K (i + 3 + 1)) (valueR toks names K (i + 3 + 2)) = if valueR toks names K (i + 3) = 1 then valueR toks names K (i + 3 + 1) else valueR toks names K (i + 3 + 1 + 1) := rfl
    have e8 : reachV kSel (boundR toks names KB (i + 3)) (boundR toks names KB (i + 3 + 1)) (boundR toks names KB (i + 3 + 2)) = most (boundR toks names KB (i + 3 + 1)) (boundR toks names KB (i + 3 + 1 + 1)) := rfl
    rw [e5, e6, e7, e8, List.nil_append]
    refine ⟨last_value e1 e2 hvl ?_, fun hc => absurd hc (by decide), fun _ => ?_, sf _ hwo (by decide)⟩
    · unfold nodeValueW
      simp only
      rw [if_neg (by omega), if_neg (by omega), if_neg (by omega), if_neg (by omega), if_neg (by omega), if_neg (by omega), if_neg (by omega), if_pos trivial, e3, e4, pickL_append g2, g3]
      rcases g4 with g4 | g4 <;> rw [g4] <;> rfl
    · unfold most
      split <;> split <;> omega
  · rcases hs with ⟨_, a, m, b, m', h1, h2, rfl⟩ | ⟨h, _⟩ | ⟨h, _⟩ | ⟨h, _⟩ | ⟨h, _⟩ | ⟨h, _⟩ <;> try omega
    simp only [List.length_cons, List.length_nil] at hl hl6
    obtain ⟨t, e1, e2, e3, e4, b1, b2, b3, b4, b5, b6⟩ := args_value (home := home) E hvl (by omega) (by omega) h1 h2
    rw [show ((102 : UInt8).toNat) = 102 from rfl] at ht sf ⊢
    have nv : ∀ c, b2i (holdsB op (valueR toks names K (i + 3)) (valueR toks names K (i + 3 + 1))) = c → nodeValueW ⟨op, a, b, 0, 0, []⟩ (vs ++ t) home = c := by
      intro c hc
      unfold nodeValueW
      simp only
      rw [if_neg (by omega), if_neg (by omega), if_neg (by omega), if_neg (by omega), if_neg (by omega), if_neg (by omega), if_neg (by omega), if_neg (by omega), if_neg (by omega), if_neg (by omega), e3, e4, holds_b2i, hc]
    rcases hop with rfl | rfl | rfl
    · have hwo := hwd.2.2.2.2.2.1 rfl
      rw [ht _ hwo]
      exact ⟨last_value e1 e2 hvl (nv _ rfl), fun _ => b2i_flag _, fun hc => absurd hc (by decide), sf _ hwo (by decide)⟩
    · have hwo := hwd.2.2.2.2.2.2.1 rfl
      rw [ht _ hwo]
      exact ⟨last_value e1 e2 hvl (nv _ rfl), fun _ => b2i_flag _, fun hc => absurd hc (by decide), sf _ hwo (by decide)⟩
    · have hwo := hwd.2.2.2.2.2.2.2.1 rfl
      rw [ht _ hwo]
      exact ⟨last_value e1 e2 hvl (nv _ rfl), fun _ => b2i_flag _, fun hc => absurd hc (by decide), sf _ hwo (by decide)⟩
  · rcases hs with ⟨h, _⟩ | ⟨h, _⟩ | ⟨h, _⟩ | ⟨h, _⟩ | ⟨_, a, m, b, m', h1, h2, rfl⟩ | ⟨h, _⟩ <;> try omega
    simp only [List.length_cons, List.length_nil] at hl hl6
    obtain ⟨rfl, g1, g2, g3, g4⟩ := flag_value E (by omega) (by omega) h1
    obtain ⟨rfl, f1, f2, f3, f4⟩ := flag_value E (by omega) (by omega) h2
    rw [show ((102 : UInt8).toNat) = 102 from rfl] at ht sf ⊢
    have nv : ∀ c, b2i (holdsB op (valueR toks names K (i + 3)) (valueR toks names K (i + 3 + 1))) = c → nodeValueW ⟨op, a, b, 0, 0, []⟩ (vs ++ []) home = c := by
      intro c hc
      unfold nodeValueW
      simp only [List.append_nil]
      rw [if_neg (by omega), if_neg (by omega), if_neg (by omega), if_neg (by omega), if_neg (by omega), if_neg (by omega), if_neg (by omega), if_neg (by omega), if_neg (by omega), if_neg (by omega), g3, f3, holds_b2i, hc]
    rcases hop with rfl | rfl
    · have hwo := hwd.2.2.2.2.2.2.2.2.1 rfl
      rw [ht _ hwo]
      refine ⟨last_value (t := []) (by simp [valsF]) rfl hvl (nv _ ?_), fun _ => b2i_flag _, fun hc => absurd hc (by decide), sf _ hwo (by decide)⟩
      rcases g4 with g4 | g4 <;> rcases f4 with f4 | f4 <;> rw [g4, f4] <;> rfl
    · have hwo := hwd.2.2.2.2.2.2.2.2.2.1 rfl
      rw [ht _ hwo]
      refine ⟨last_value (t := []) (by simp [valsF]) rfl hvl (nv _ ?_), fun _ => b2i_flag _, fun hc => absurd hc (by decide), sf _ hwo (by decide)⟩
      rcases g4 with g4 | g4 <;> rcases f4 with f4 | f4 <;> rw [g4, f4] <;> rfl
  · rcases hs with ⟨h, _⟩ | ⟨h, _⟩ | ⟨h, _⟩ | ⟨h, _⟩ | ⟨h, _⟩ | ⟨_, a, m, h1, rfl⟩ <;> try omega
    simp only [List.length_cons, List.length_nil] at hl hl6
    obtain ⟨rfl, g1, g2, g3, g4⟩ := flag_value E (by omega) (by omega) h1
    rw [show ((102 : UInt8).toNat) = 102 from rfl] at ht sf ⊢
    have hwo := hwd.2.2.2.2.2.2.2.2.2.2 rfl
    rw [ht _ hwo]
    refine ⟨last_value (t := []) (by simp [valsF]) rfl hvl ?_, fun _ => b2i_flag _, fun hc => absurd hc (by decide), sf _ hwo (by decide)⟩
    unfold nodeValueW
    simp only [List.append_nil]
    rw [if_neg (by omega), if_neg (by omega), if_neg (by omega), if_neg (by omega), if_neg (by omega), if_neg (by omega), if_neg (by omega), if_neg (by omega), if_neg (by omega), if_neg (by omega), g3, holds_b2i]
    rcases g4 with g4 | g4 <;> rw [g4] <;> rfl
end Go.Proofs.YtfaljekgpnbmiaaGreat.Pl
