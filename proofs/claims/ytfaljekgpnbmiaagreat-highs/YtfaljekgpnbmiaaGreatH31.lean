/- Joined: PlainTree5. -/
import Derived.Test.YtfaljekgpnbmiaaGreatH30
/-
  Trees: what they come to and how great that may become, as the program lays them down.
-/
namespace Go.Proofs.YtfaljekgpnbmiaaGreat.Pl
open Go.RowKit
set_option linter.unusedSimpArgs false
set_option linter.unusedVariables false

def VL (home vs : List Int) (m : List NodeM) (n v : Int) : Prop := ∃ t, valsF home m vs = vs ++ t ∧ t.length = m.length ∧ 0 ≤ n ∧ n < (vs ++ t).length ∧ pickL (vs ++ t) n = v
theorem VL.fin {home vs t : List Int} {N pre : List NodeM} {x : NodeM} {W : Int} (h : valsF home pre vs = vs ++ t) (hl : t.length = pre.length) (hvl : vs.length = N.length) (hx : nodeValueW x (vs ++ t) home = W) : VL home vs (pre ++ [x]) ((N ++ pre).length : Int) W := by
  refine ⟨t ++ [W], by rw [valsF_append, h, valsF, valsF, hx, List.append_assoc], by simp [hl], by omega, by simp; omega, ?_⟩
  have e : ((N ++ pre).length : Int) = ((vs ++ t).length : Int) := by simp; omega
  rw [e, ← List.append_assoc, pickL_last]
def NodesV (es : List (List UInt8 × Int × Int)) (vs K : List Int) : Prop := ∀ j, (hj : j < es.length) → es[j].2.1 = 0 → 0 ≤ es[j].2.2 ∧ es[j].2.2 < vs.length ∧ pickL vs es[j].2.2 = K.getD j 0
theorem NodesV.more {es : List (List UInt8 × Int × Int)} {vs K : List Int} (h : NodesV es vs K) (t : List Int) : NodesV es (vs ++ t) K := by
  intro j hj h0
  obtain ⟨q1, q2, q3⟩ := h j hj h0
  exact ⟨q1, by simp; omega, by rw [pickL_append q2]; exact q3⟩
theorem Laid.value {es : List (List UInt8 × Int × Int)} {N m : List NodeM} {ex : Ex} {n : Int} (h : Laid es N ex n m) (home K : List Int) : ∀ vs : List Int, vs.length = N.length → NodesV es vs K → VL home vs m n (exV K ex) := by
  induction h using Laid.ind with
  | num N k h =>
    intro vs hv _
    have := VL.fin (home := home) (vs := vs) (t := []) (N := N) (pre := []) (x := ⟨0, 0, 0, 0, k, []⟩) (W := k) (by simp [valsF]) rfl hv rfl
    rw [List.nil_append, List.append_nil] at this
    exact this
  | var N j hj h0 =>
    intro vs hv hN
    obtain ⟨q1, q2, q3⟩ := hN j hj h0
    exact ⟨[], by simp [valsF], rfl, q1, by simpa using q2, by rw [List.append_nil]; exact q3⟩
  | two N m m' op x y a b ho ha hb iha ihb =>
    intro vs hv hN
    obtain ⟨t, e1, e2, e3, e4, e5⟩ := iha vs hv hN
    obtain ⟨t', f1, f2, f3, f4, f5⟩ := ihb (vs ++ t) (by simp; omega) (hN.more t)
    have := VL.fin (home := home) (vs := vs) (t := t ++ t') (N := N) (pre := m ++ m') (x := ⟨op, x, y, 0, 0, []⟩) (W := twoV op (exV K a) (exV K b)) (by rw [valsF_append, e1, f1, List.append_assoc]) (by simp [e2, f2]) hv (by
      rw [← List.append_assoc]
      unfold nodeValueW
      simp only
      rw [f5, pickL_append e4, e5]
      unfold twoV
      rcases ho with rfl | rfl | rfl | rfl | rfl | rfl | rfl | rfl | rfl <;> rfl)
    rw [List.append_assoc N m m']
    exact this
  | mul N m k x a hk ha iha =>
    intro vs hv hN
    obtain ⟨t, e1, e2, e3, e4, e5⟩ := iha vs hv hN
    exact VL.fin (home := home) (vs := vs) (t := t) (N := N) (pre := m) (x := ⟨4, x, 0, 0, k, []⟩) e1 e2 hv (by unfold nodeValueW; simp only; rw [e5]; rfl)
  | cho N m m' m'' x y z c a b hc ha hb ihc iha ihb =>
    intro vs hv hN
    obtain ⟨t, e1, e2, e3, e4, e5⟩ := ihc vs hv hN
    obtain ⟨t', f1, f2, f3, f4, f5⟩ := iha (vs ++ t) (by simp; omega) (hN.more t)
    obtain ⟨t'', g1, g2, g3, g4, g5⟩ := ihb (vs ++ t ++ t') (by simp; omega) ((hN.more t).more t')
    have := VL.fin (home := home) (vs := vs) (t := t ++ t' ++ t'') (N := N) (pre := m ++ m' ++ m'') (x := ⟨7, x, y, z, 0, []⟩) (W := if exV K c ≠ 0 then exV K a else exV K b) (by rw [valsF_append, valsF_append, e1, f1, g1]; simp) (by simp [e2, f2, g2]) hv (by
      rw [← List.append_assoc, ← List.append_assoc]
      unfold nodeValueW
      simp only
      rw [g5, pickL_append f4, f5, List.append_assoc (vs ++ t), pickL_append e4, e5]
      rfl)
    rw [List.append_assoc N m m', List.append_assoc N (m ++ m') m'']
    exact this
  | quo N m op x d a ho hd ha iha =>
    intro vs hv hN
    obtain ⟨t, e1, e2, e3, e4, e5⟩ := iha vs hv hN
    exact VL.fin (home := home) (vs := vs) (t := t) (N := N) (pre := m) (x := ⟨op, x, 0, 0, d, []⟩) e1 e2 hv (by
      unfold nodeValueW; simp only; rw [e5]
      rcases ho with rfl | rfl | rfl | rfl <;> rfl)
  | tab N m x a l h6 hl ha iha =>
    intro vs hv hN
    obtain ⟨t, e1, e2, e3, e4, e5⟩ := iha vs hv hN
    exact VL.fin (home := home) (vs := vs) (t := t) (N := N) (pre := m) (x := ⟨12, x, 0, 0, 0, l⟩) e1 e2 hv (by unfold nodeValueW; simp only; rw [e5]; rfl)
  | neg N m x a ha iha =>
    intro vs hv hN
    obtain ⟨t, e1, e2, e3, e4, e5⟩ := iha vs hv hN
    exact VL.fin (home := home) (vs := vs) (t := t) (N := N) (pre := m) (x := ⟨18, x, 0, 0, 0, []⟩) e1 e2 hv (by
      unfold nodeValueW; simp only; rw [e5]
      show (if decide (exV K a = 0) = true then (1 : Int) else 0) = if exV K a = 0 then 1 else 0
      by_cases h : exV K a = 0 <;> simp [h])
def BL (ins : List (Int × Int)) (bs : List Int) (m : List NodeM) (n v : Int) (big : Bool) : Prop := ∃ t, boundsF ins m bs = bs ++ t ∧ t.length = m.length ∧ t.any over = big ∧ 0 ≤ n ∧ n < (bs ++ t).length ∧ pickL (bs ++ t) n = v
theorem BL.fin {ins : List (Int × Int)} {bs t : List Int} {N pre : List NodeM} {x : NodeM} {W : Int} {big : Bool} (h : boundsF ins pre bs = bs ++ t) (hl : t.length = pre.length) (hvl : bs.length = N.length) (ho : t.any over = big) (hx : nodeBoundW ins x (bs ++ t) = W) : BL ins bs (pre ++ [x]) ((N ++ pre).length : Int) W (big || over W) := by
  refine ⟨t ++ [W], by rw [boundsF_append, h, boundsF, boundsF, hx, List.append_assoc], by simp [hl], by rw [List.any_append, ho]; simp, by omega, by simp; omega, ?_⟩
  have e : ((N ++ pre).length : Int) = ((bs ++ t).length : Int) := by simp; omega
  rw [e, ← List.append_assoc, pickL_last]
theorem Laid.bound {es : List (List UInt8 × Int × Int)} {N m : List NodeM} {ex : Ex} {n : Int} (h : Laid es N ex n m) (ins : List (Int × Int)) (K : List Int) : ∀ bs : List Int, bs.length = N.length → NodesV es bs K → BL ins bs m n (exB K ex) (exBig K ex) := by
  induction h using Laid.ind with
  | num N k h =>
    intro vs hv _
    have := BL.fin (ins := ins) (bs := vs) (t := []) (N := N) (pre := []) (x := ⟨0, 0, 0, 0, k, []⟩) (W := absW k) (by simp [boundsF]) rfl hv rfl rfl
    rw [List.nil_append, List.append_nil] at this
    exact this
  | var N j hj h0 =>
    intro vs hv hN
    obtain ⟨q1, q2, q3⟩ := hN j hj h0
    exact ⟨[], by simp [boundsF], rfl, rfl, q1, by simpa using q2, by rw [List.append_nil]; exact q3⟩
  | two N m m' op x y a b ho ha hb iha ihb =>
    intro vs hv hN
    obtain ⟨t, e1, e2, e0, e3, e4, e5⟩ := iha vs hv hN
    obtain ⟨t', f1, f2, f0, f3, f4, f5⟩ := ihb (vs ++ t) (by simp; omega) (hN.more t)
    have := BL.fin (ins := ins) (bs := vs) (t := t ++ t') (N := N) (pre := m ++ m') (x := ⟨op, x, y, 0, 0, []⟩) (W := twoB op (exB K a) (exB K b)) (big := exBig K a || exBig K b) (by rw [boundsF_append, e1, f1, List.append_assoc]) (by simp [e2, f2]) hv (by rw [List.any_append, e0, f0]) (by
      rw [← List.append_assoc]
      unfold nodeBoundW
      simp only
      rw [f5, pickL_append e4, e5]
      unfold twoB
      rcases ho with rfl | rfl | rfl | rfl | rfl | rfl | rfl | rfl | rfl <;> rfl)
    rw [List.append_assoc N m m']
    exact this
  | mul N m k x a hk ha iha =>
    intro vs hv hN
    obtain ⟨t, e1, e2, e0, e3, e4, e5⟩ := iha vs hv hN
    exact BL.fin (ins := ins) (bs := vs) (t := t) (N := N) (pre := m) (x := ⟨4, x, 0, 0, k, []⟩) e1 e2 hv e0 (by unfold nodeBoundW; simp only; rw [e5]; rfl)
  | cho N m m' m'' x y z c a b hc ha hb ihc iha ihb =>
    intro vs hv hN
    obtain ⟨t, e1, e2, e0, e3, e4, e5⟩ := ihc vs hv hN
    obtain ⟨t', f1, f2, f0, f3, f4, f5⟩ := iha (vs ++ t) (by simp; omega) (hN.more t)
    obtain ⟨t'', g1, g2, g0, g3, g4, g5⟩ := ihb (vs ++ t ++ t') (by simp; omega) ((hN.more t).more t')
    have := BL.fin (ins := ins) (bs := vs) (t := t ++ t' ++ t'') (N := N) (pre := m ++ m' ++ m'') (x := ⟨7, x, y, z, 0, []⟩) (W := greater (exB K a) (exB K b)) (big := exBig K c || exBig K a || exBig K b) (by rw [boundsF_append, boundsF_append, e1, f1, g1]; simp) (by simp [e2, f2, g2]) hv (by rw [List.any_append, List.any_append, e0, f0, g0]) (by
      rw [← List.append_assoc, ← List.append_assoc]
      unfold nodeBoundW
      simp only
      rw [g5, pickL_append f4, f5]
      rfl)
    rw [List.append_assoc N m m', List.append_assoc N (m ++ m') m'']
    exact this
  | quo N m op x d a ho hd ha iha =>
    intro vs hv hN
    obtain ⟨t, e1, e2, e0, e3, e4, e5⟩ := iha vs hv hN
    exact BL.fin (ins := ins) (bs := vs) (t := t) (N := N) (pre := m) (x := ⟨op, x, 0, 0, d, []⟩) e1 e2 hv e0 (by
      unfold nodeBoundW; simp only; rw [e5]
      rcases ho with rfl | rfl | rfl | rfl <;> rfl)
  | tab N m x a l h6 hl ha iha =>
    intro vs hv hN
    obtain ⟨t, e1, e2, e0, e3, e4, e5⟩ := iha vs hv hN
    exact BL.fin (ins := ins) (bs := vs) (t := t) (N := N) (pre := m) (x := ⟨12, x, 0, 0, 0, l⟩) e1 e2 hv e0 (by unfold nodeBoundW; simp only; rw [e5]; rfl)
  | neg N m x a ha iha =>
    intro vs hv hN
    obtain ⟨t, e1, e2, e0, e3, e4, e5⟩ := iha vs hv hN
    exact BL.fin (ins := ins) (bs := vs) (t := t) (N := N) (pre := m) (x := ⟨18, x, 0, 0, 0, []⟩) e1 e2 hv e0 rfl
theorem Laid.noIn {es : List (List UInt8 × Int × Int)} {N m : List NodeM} {ex : Ex} {n : Int} (h : Laid es N ex n m) : ∀ x ∈ m, x.op ≠ 1 := by
  have snoc : ∀ {l : List NodeM} {y : NodeM}, (∀ x ∈ l, x.op ≠ 1) → y.op ≠ 1 → ∀ x ∈ l ++ [y], x.op ≠ 1 := any_snoc_ne
  have app : ∀ {l l' : List NodeM}, (∀ x ∈ l, x.op ≠ 1) → (∀ x ∈ l', x.op ≠ 1) → ∀ x ∈ l ++ l', x.op ≠ 1 := by
    intro l l' h h' x hx
    rcases List.mem_append.1 hx with hx | hx
    · exact h x hx
    · exact h' x hx
  induction h using Laid.ind with
  | num N k h => intro x hx; rw [List.mem_singleton] at hx; subst hx; simp
  | var N j hj h0 => intro x hx; simp at hx
  | two N m m' op x y a b ho ha hb iha ihb => exact snoc (app iha ihb) (by simp only; omega)
  | mul N m k x a hk ha iha => exact snoc iha (by simp)
  | cho N m m' m'' x y z c a b hc ha hb ihc iha ihb => exact snoc (app (app ihc iha) ihb) (by simp)
  | quo N m op x d a ho hd ha iha => exact snoc iha (by simp only; omega)
  | tab N m x a l h6 hl ha iha => exact snoc iha (by simp)
  | neg N m x a ha iha => exact snoc iha (by simp)
end Go.Proofs.YtfaljekgpnbmiaaGreat.Pl
