/- Joined: Ref33. -/
import Derived.Test.YtfaljekgpnbmiaaGreatH40
/-
  The contracts of the reference's Value, Cond and Bound at any expression.
-/
namespace Go.Proofs.YtfaljekgpnbmiaaGreat
open Go.RowKit
set_option linter.unusedVariables false
set_option linter.unusedSimpArgs false

theorem Pl.twoOf_some {t : List UInt8} {op : Int} (h : Pl.twoOf t = some op) : (t = Pl.kAdd ∧ op = 2) ∨ (t = Pl.kSub ∧ op = 3) ∨ (t = Pl.kMin ∧ op = 5) ∨ (t = Pl.kMax ∧ op = 6) := by
  unfold Pl.twoOf at h
  split at h
  · rename_i e; cases h; exact .inl ⟨e, rfl⟩
  split at h
  · rename_i e; cases h; exact .inr (.inl ⟨e, rfl⟩)
  split at h
  · rename_i e; cases h; exact .inr (.inr (.inl ⟨e, rfl⟩))
  split at h
  · rename_i e; cases h; exact .inr (.inr (.inr ⟨e, rfl⟩))
  · cases h
theorem Pl.cmpOf_some {t : List UInt8} {op : Int} (h : Pl.cmpOf t = some op) : (t = Pl.kLt ∧ op = 13) ∨ (t = Pl.kLe ∧ op = 14) ∨ (t = Pl.kEq ∧ op = 15) := by
  unfold Pl.cmpOf at h
  split at h
  · rename_i e; cases h; exact .inl ⟨e, rfl⟩
  split at h
  · rename_i e; cases h; exact .inr (.inl ⟨e, rfl⟩)
  split at h
  · rename_i e; cases h; exact .inr (.inr ⟨e, rfl⟩)
  · cases h
theorem Pl.joinOf_some {t : List UInt8} {op : Int} (h : Pl.joinOf t = some op) : (t = Pl.kAnd ∧ op = 16) ∨ (t = Pl.kOr ∧ op = 17) := by
  unfold Pl.joinOf at h
  split at h
  · rename_i e; cases h; exact .inl ⟨e, rfl⟩
  split at h
  · rename_i e; cases h; exact .inr ⟨e, rfl⟩
  · cases h
theorem Pl.word_at {toks : List (List UInt8)} {i : Nat} {k : List UInt8} (h : Pl.atR toks i = k) (hk : k ≠ []) : i < toks.length ∧ toks.getD i [] = k := by
  obtain ⟨h1, _, h3⟩ := atR_some (show Pl.atR toks i ≠ [] by rw [h]; exact hk)
  exact ⟨h1, by rw [← h3]; exact h⟩
theorem Pl.within_at {toks : List (List UInt8)} {i : Nat} {a b : Int} (h : Pl.within (Pl.atR toks i) a b = true) : i < toks.length ∧ Pl.atR toks i = toks.getD i [] ∧ (Pl.number (toks.getD i [])).2 = true ∧ a ≤ (Pl.number (toks.getD i [])).1 ∧ (Pl.number (toks.getD i [])).1 ≤ b := by
  have h2 := Pl.within_true h
  obtain ⟨h3, _, h5⟩ := atR_some (Pl.number_ne h2.1)
  rw [h5] at h2
  exact ⟨h3, h5, h2⟩
theorem Pl.flagV (b : Bool) : decide ((if b = true then (1 : Int) else 0) ≠ 0) = b := by cases b <;> rfl
theorem Pl.numWord {t k : List UInt8} (h : (Pl.number t).2 = true) (hk : (Pl.number k).2 = false) : (t == k) = false := by
  rw [beq_eq_false_iff_ne]; rintro rfl; rw [hk] at h; cases h
theorem Pl.nameWord {t k : List UInt8} (h : Pl.rName t = true) (hk : Pl.rName k = false) : (t == k) = false := by
  rw [beq_eq_false_iff_ne]; rintro rfl; rw [hk] at h; cases h
section
variable (toks : List (List UInt8)) (names rest : List Pl.DeclM) (known : List Int) (vt vn vk : Value)
/-- The call tells that of every world in which the text lies. -/
def TellT (F : Nat) (i : Nat) (r : Value) (q : Nat) : Prop :=
  ∀ w, TextAt w vt vn vk toks (names ++ rest) known → Calls Tryz.prog F #[.agg #[vt, vn, vk], .int .i64 (i : Int)] w fun e w' => e = .returned (.tuple #[r, .int .i64 q]) ∧ Below w.heap.size w w'
variable {toks names rest known vt vn vk}
theorem TellT.call {F i q : Nat} {r : Value} (h : TellT toks names rest known vt vn vk F i r q) {w : World} (ht : TextAt w vt vn vk toks (names ++ rest) known) : CallT F vt vn vk w i r q := by
  intro w1 j hb hj
  subst hj
  exact h w1 (ht.below hb)
theorem tree_value (hl : toks.length ≤ 9000) (hnl : (names ++ rest).length ≤ 10000) (ht6 : ∀ t ∈ toks, t.length ≤ 6000) (hkn : names.length ≤ known.length) {tag : Bool} {i q : Nat} {ex : Pl.Ex} (hp : Pl.Par toks names tag i ex q) : Pl.Fine known ex →
    (tag = false → TellT toks names rest known vt vn vk 114 i (.int .i64 (Pl.exV known ex)) q) ∧ (tag = true → TellT toks names rest known vt vn vk 152 i (.bool (decide (Pl.exV known ex ≠ 0))) q) := by
  have hlen : ∀ j, j < toks.length → (toks.getD j []).length ≤ 6000 := by
    intro j hj; rw [List.getD_eq_getElem?_getD, List.getElem?_eq_getElem hj]; exact ht6 _ (List.getElem_mem _)
  induction hp using Pl.Par.ind with
  | num i h =>
    intro _
    refine ⟨fun _ w ht => ?_, fun h => (by cases h)⟩
    obtain ⟨h1, _, h3⟩ := atR_some (Pl.number_ne h)
    rw [h3] at h ⊢
    exact V_num toks (names ++ rest) known vt vn vk i w ht h1 hl (hlen i h1) _ (Prod.ext rfl h) (Pl.numWord h (by decide)) (Pl.numWord h (by decide)) (Pl.numWord h (by decide)) (Pl.numWord h (by decide)) (Pl.numWord h (by decide)) (Pl.numWord h (by decide)) (Pl.numWord h (by decide)) (Pl.numWord h (by decide))
  | var i k h hn hk hlk hi =>
    intro _
    refine ⟨fun _ w ht => ?_, fun h => (by cases h)⟩
    have hne : Pl.atR toks i ≠ [] := by intro e; rw [e] at h; exact absurd h (by decide)
    obtain ⟨h1, _, h3⟩ := atR_some hne
    rw [h3] at h hn hk
    have hf : Pl.findD (names ++ rest) (toks.getD i []) = (k : Int) := by
      unfold Pl.findD at hk ⊢; rw [Pl.findFrom_append _ _ _ 0 (by omega) (by omega)]; exact hk
    exact V_var toks (names ++ rest) known vt vn vk i w ht h1 hl hnl (hlen i h1) hn k hf (by omega) (Pl.nameWord h (by decide)) (Pl.nameWord h (by decide)) (Pl.nameWord h (by decide)) (Pl.nameWord h (by decide)) (Pl.nameWord h (by decide)) (Pl.nameWord h (by decide)) (Pl.nameWord h (by decide)) (Pl.nameWord h (by decide))
  | two i p q op a b h ha hb iha ihb =>
    rintro ⟨fa, fb, sa, sb⟩
    refine ⟨fun _ w ht => ?_, fun h => (by cases h)⟩
    have A := ((iha fa).1 rfl).call ht
    have B := ((ihb fb).1 rfl).call ht
    rcases Pl.twoOf_some h with ⟨e, rfl⟩ | ⟨e, rfl⟩ | ⟨e, rfl⟩ | ⟨e, rfl⟩
    · obtain ⟨h1, h2⟩ := Pl.word_at e (by decide)
      exact V_kAdd toks (names ++ rest) known vt vn vk i w ht h1 hl h2 p q _ _ A B
    · obtain ⟨h1, h2⟩ := Pl.word_at e (by decide)
      exact V_kSub toks (names ++ rest) known vt vn vk i w ht h1 hl h2 p q _ _ A B
    · obtain ⟨h1, h2⟩ := Pl.word_at e (by decide)
      exact V_kMin toks (names ++ rest) known vt vn vk i w ht h1 hl h2 p q _ _ A B sa sb
    · obtain ⟨h1, h2⟩ := Pl.word_at e (by decide)
      exact V_kMax toks (names ++ rest) known vt vn vk i w ht h1 hl h2 p q _ _ A B
  | mul i p a h hk ha iha =>
    rintro ⟨fa, _⟩
    refine ⟨fun _ w ht => ?_, fun h => (by cases h)⟩
    obtain ⟨h1, h2⟩ := Pl.word_at h (by decide)
    obtain ⟨h3, h4, _⟩ := Pl.within_at hk
    rw [h4]
    exact V_kMul toks (names ++ rest) known vt vn vk i w ht h1 hl h2 h3 (hlen _ h3) p _ (((iha fa).1 rfl).call ht)
  | cho i p q z c a b h hc ha hb ihc iha ihb =>
    rintro ⟨fc, fa, fb⟩
    refine ⟨fun _ w ht => ?_, fun h => (by cases h)⟩
    obtain ⟨h1, h2⟩ := Pl.word_at h (by decide)
    have C := ((ihc fc).2 rfl).call ht
    have A := ((iha fa).1 rfl).call ht
    have B := ((ihb fb).1 rfl).call ht
    rw [Pl.exV_cho]
    by_cases hz : Pl.exV known c ≠ 0
    · rw [decide_eq_true hz] at C
      rw [if_pos hz]
      exact V_kIf_true toks (names ++ rest) known vt vn vk i w ht h1 hl h2 p q z _ _ C A B
    · rw [decide_eq_false hz] at C
      rw [if_neg hz]
      exact V_kIf_false toks (names ++ rest) known vt vn vk i w ht h1 hl h2 p q z _ _ C A B
  | quo i p op a h ho ha hd iha =>
    rintro ⟨fa, sa⟩
    refine ⟨fun _ w ht => ?_, fun h => (by cases h)⟩
    obtain ⟨h1, h2⟩ := Pl.word_at h (by decide)
    obtain ⟨h3, h4, _, h6, h7⟩ := Pl.within_at hd
    obtain ⟨h8, _, h9⟩ := atR_some (Pl.roundingOf_ne ho).1
    rw [h9] at ho
    rw [h4]
    exact V_kDiv toks (names ++ rest) known vt vn vk i w ht h1 hl h2 h8 p h3 (hlen _ h3) _ _ (((iha fa).1 rfl).call ht) (fun w1 => rounded_ref _ op _ _ w1 ho ⟨h6, h7⟩ sa)
  | tab i p a l h ha hn h1 h6 hb iha =>
    rintro ⟨fa, sa⟩
    refine ⟨fun _ w ht => ?_, fun h => (by cases h)⟩
    obtain ⟨h2, h3⟩ := Pl.word_at h (by decide)
    exact V_kTab toks (names ++ rest) known vt vn vk i w ht h2 hl h3 p _ _ _ (((iha fa).1 rfl).call ht) (fun w1 hb1 => table_ref toks (names ++ rest) known vt vn vk _ p l w1 (ht.below hb1) (hb.got hn h1 h6) hl ht6 sa)
  | cmp i p q op a b h ha hb iha ihb =>
    rintro ⟨fa, fb, _, _⟩
    refine ⟨fun h => (by cases h), fun _ w ht => ?_⟩
    have A := ((iha fa).1 rfl).call ht
    have B := ((ihb fb).1 rfl).call ht
    rcases Pl.cmpOf_some h with ⟨e, rfl⟩ | ⟨e, rfl⟩ | ⟨e, rfl⟩
    · obtain ⟨h1, h2⟩ := Pl.word_at e (by decide)
      have ev : decide (Pl.exV known (.two 13 a b) ≠ 0) = decide (Pl.exV known a < Pl.exV known b) := Pl.flagV _
      rw [ev]
      exact C_kLt toks (names ++ rest) known vt vn vk i w ht h1 hl h2 p q _ _ A B
    · obtain ⟨h1, h2⟩ := Pl.word_at e (by decide)
      have ev : decide (Pl.exV known (.two 14 a b) ≠ 0) = decide (Pl.exV known a ≤ Pl.exV known b) := Pl.flagV _
      rw [ev]
      exact C_kLe toks (names ++ rest) known vt vn vk i w ht h1 hl h2 p q _ _ A B
    · obtain ⟨h1, h2⟩ := Pl.word_at e (by decide)
      have ev : decide (Pl.exV known (.two 15 a b) ≠ 0) = decide (Pl.exV known a = Pl.exV known b) := Pl.flagV _
      rw [ev]
      exact C_kEq toks (names ++ rest) known vt vn vk i w ht h1 hl h2 p q _ _ A B
  | join i p q op a b h ha hb iha ihb =>
    rintro ⟨fa, fb, _, _⟩
    refine ⟨fun h => (by cases h), fun _ w ht => ?_⟩
    have A := ((iha fa).2 rfl).call ht
    have B := ((ihb fb).2 rfl).call ht
    rcases Pl.joinOf_some h with ⟨e, rfl⟩ | ⟨e, rfl⟩
    · obtain ⟨h1, h2⟩ := Pl.word_at e (by decide)
      have ev : decide (Pl.exV known (.two 16 a b) ≠ 0) = decide (Pl.exV known a ≠ 0 ∧ Pl.exV known b ≠ 0) := Pl.flagV _
      rw [ev]
      by_cases ha0 : Pl.exV known a ≠ 0 <;> by_cases hb0 : Pl.exV known b ≠ 0
      · rw [decide_eq_true ha0] at A; rw [decide_eq_true hb0] at B; rw [decide_eq_true ⟨ha0, hb0⟩]
        exact C_kAnd_true_true toks (names ++ rest) known vt vn vk i w ht h1 hl h2 p q A B
      · rw [decide_eq_true ha0] at A; rw [decide_eq_false hb0] at B; rw [decide_eq_false (fun h => hb0 h.2)]
        exact C_kAnd_true_false toks (names ++ rest) known vt vn vk i w ht h1 hl h2 p q A B
      · rw [decide_eq_false ha0] at A; rw [decide_eq_true hb0] at B; rw [decide_eq_false (fun h => ha0 h.1)]
        exact C_kAnd_false_true toks (names ++ rest) known vt vn vk i w ht h1 hl h2 p q A B
      · rw [decide_eq_false ha0] at A; rw [decide_eq_false hb0] at B; rw [decide_eq_false (fun h => ha0 h.1)]
        exact C_kAnd_false_false toks (names ++ rest) known vt vn vk i w ht h1 hl h2 p q A B
    · obtain ⟨h1, h2⟩ := Pl.word_at e (by decide)
      have ev : decide (Pl.exV known (.two 17 a b) ≠ 0) = decide (Pl.exV known a ≠ 0 ∨ Pl.exV known b ≠ 0) := Pl.flagV _
      rw [ev]
      by_cases ha0 : Pl.exV known a ≠ 0 <;> by_cases hb0 : Pl.exV known b ≠ 0
      · rw [decide_eq_true ha0] at A; rw [decide_eq_true hb0] at B; rw [decide_eq_true (Or.inl ha0)]
        exact C_kOr_true_true toks (names ++ rest) known vt vn vk i w ht h1 hl h2 p q A B
      · rw [decide_eq_true ha0] at A; rw [decide_eq_false hb0] at B; rw [decide_eq_true (Or.inl ha0)]
        exact C_kOr_true_false toks (names ++ rest) known vt vn vk i w ht h1 hl h2 p q A B
      · rw [decide_eq_false ha0] at A; rw [decide_eq_true hb0] at B; rw [decide_eq_true (Or.inr hb0)]
        exact C_kOr_false_true toks (names ++ rest) known vt vn vk i w ht h1 hl h2 p q A B
      · rw [decide_eq_false ha0] at A; rw [decide_eq_false hb0] at B; rw [decide_eq_false (fun h => h.elim ha0 hb0)]
        exact C_kOr_false_false toks (names ++ rest) known vt vn vk i w ht h1 hl h2 p q A B
  | neg i p a h ha iha =>
    intro fa
    refine ⟨fun h => (by cases h), fun _ w ht => ?_⟩
    obtain ⟨h1, h2⟩ := Pl.word_at h (by decide)
    have A := ((iha fa).2 rfl).call ht
    rw [Pl.exV_neg]
    by_cases ha0 : Pl.exV known a = 0
    · rw [if_pos ha0]
      rw [decide_eq_false (fun h => h ha0)] at A
      exact C_kNot_false toks (names ++ rest) known vt vn vk i w ht h1 hl h2 p A
    · rw [if_neg ha0]
      rw [decide_eq_true ha0] at A
      exact C_kNot_true toks (names ++ rest) known vt vn vk i w ht h1 hl h2 p A

/-- A bound of two parts. -/
theorem bound_two (hl : toks.length ≤ 9000) (i p q : Nat) (A B : Int) (w : World) (ht : TextAt w vt vn vk toks (names ++ rest) known) (a0 : 0 ≤ A) (a1 : A ≤ 1000000000000001) (b0 : 0 ≤ B) (b1 : B ≤ 1000000000000001) (hA : CallT 146 vt vn vk w (i + 1) (.int .i64 A) p) (hB : CallT 146 vt vn vk w p (.int .i64 B) q) (op : Int)
    (ho : ((Pl.atR toks i = Pl.kAdd ∨ Pl.atR toks i = Pl.kSub) ∧ (op = 2 ∨ op = 3)) ∨ ((Pl.atR toks i = Pl.kMin ∨ Pl.atR toks i = Pl.kMax ∨ Pl.atR toks i = Pl.kLt ∨ Pl.atR toks i = Pl.kLe ∨ Pl.atR toks i = Pl.kEq ∨ Pl.atR toks i = Pl.kAnd ∨ Pl.atR toks i = Pl.kOr) ∧ op ≠ 2 ∧ op ≠ 3)) :
    Calls Tryz.prog 146 #[.agg #[vt, vn, vk], .int .i64 (i : Int)] w fun e w' => e = .returned (.tuple #[.int .i64 (if op = 2 ∨ op = 3 ∨ A = 1000000000000001 ∨ B = 1000000000000001 then Pl.capB (A + B) else Pl.most A B), .int .i64 q]) ∧ Below w.heap.size w w' := by
  rcases ho with ⟨hw, ho⟩ | ⟨hw, h2, h3⟩
  · rw [if_pos (by rcases ho with h | h <;> simp [h])]
    rcases hw with e | e
    · obtain ⟨h1, h2⟩ := Pl.word_at e (by decide)
      exact B_kAdd toks (names ++ rest) known vt vn vk i w ht h1 hl h2 p q A B hA hB a0 a1 b0 b1
    · obtain ⟨h1, h2⟩ := Pl.word_at e (by decide)
      exact B_kSub toks (names ++ rest) known vt vn vk i w ht h1 hl h2 p q A B hA hB a0 a1 b0 b1
  · by_cases ea : A = 1000000000000001
    · rw [if_pos (by simp [ea])]
      have ea' : (A == 1000000000000001) = true := by simp [ea]
      rcases hw with e | e | e | e | e | e | e <;> obtain ⟨k1, k2⟩ := Pl.word_at e (by decide)
      · exact B_kMin_a toks (names ++ rest) known vt vn vk i w ht k1 hl k2 p q A B hA hB a0 a1 b0 b1 ea'
      · exact B_kMax_a toks (names ++ rest) known vt vn vk i w ht k1 hl k2 p q A B hA hB a0 a1 b0 b1 ea'
      · exact B_kLt_a toks (names ++ rest) known vt vn vk i w ht k1 hl k2 p q A B hA hB a0 a1 b0 b1 ea'
      · exact B_kLe_a toks (names ++ rest) known vt vn vk i w ht k1 hl k2 p q A B hA hB a0 a1 b0 b1 ea'
      · exact B_kEq_a toks (names ++ rest) known vt vn vk i w ht k1 hl k2 p q A B hA hB a0 a1 b0 b1 ea'
      · exact B_kAnd_a toks (names ++ rest) known vt vn vk i w ht k1 hl k2 p q A B hA hB a0 a1 b0 b1 ea'
      · exact B_kOr_a toks (names ++ rest) known vt vn vk i w ht k1 hl k2 p q A B hA hB a0 a1 b0 b1 ea'
    · have ea' : (A == 1000000000000001) = false := by simpa using ea
      by_cases eb : B = 1000000000000001
      · rw [if_pos (by simp [eb])]
        have eb' : (B == 1000000000000001) = true := by simp [eb]
        rcases hw with e | e | e | e | e | e | e <;> obtain ⟨k1, k2⟩ := Pl.word_at e (by decide)
        · exact B_kMin_b toks (names ++ rest) known vt vn vk i w ht k1 hl k2 p q A B hA hB a0 a1 b0 b1 ea' eb'
        · exact B_kMax_b toks (names ++ rest) known vt vn vk i w ht k1 hl k2 p q A B hA hB a0 a1 b0 b1 ea' eb'
        · exact B_kLt_b toks (names ++ rest) known vt vn vk i w ht k1 hl k2 p q A B hA hB a0 a1 b0 b1 ea' eb'
        · exact B_kLe_b toks (names ++ rest) known vt vn vk i w ht k1 hl k2 p q A B hA hB a0 a1 b0 b1 ea' eb'
        · exact B_kEq_b toks (names ++ rest) known vt vn vk i w ht k1 hl k2 p q A B hA hB a0 a1 b0 b1 ea' eb'
        · exact B_kAnd_b toks (names ++ rest) known vt vn vk i w ht k1 hl k2 p q A B hA hB a0 a1 b0 b1 ea' eb'
        · exact B_kOr_b toks (names ++ rest) known vt vn vk i w ht k1 hl k2 p q A B hA hB a0 a1 b0 b1 ea' eb'
      · rw [if_neg (by simp [ea, eb, h2, h3])]
        have eb' : (B == 1000000000000001) = false := by simpa using eb
        rcases hw with e | e | e | e | e | e | e <;> obtain ⟨k1, k2⟩ := Pl.word_at e (by decide)
        · exact B_kMin_n toks (names ++ rest) known vt vn vk i w ht k1 hl k2 p q A B hA hB a0 a1 b0 b1 ea' eb'
        · exact B_kMax_n toks (names ++ rest) known vt vn vk i w ht k1 hl k2 p q A B hA hB a0 a1 b0 b1 ea' eb'
        · exact B_kLt_n toks (names ++ rest) known vt vn vk i w ht k1 hl k2 p q A B hA hB a0 a1 b0 b1 ea' eb'
        · exact B_kLe_n toks (names ++ rest) known vt vn vk i w ht k1 hl k2 p q A B hA hB a0 a1 b0 b1 ea' eb'
        · exact B_kEq_n toks (names ++ rest) known vt vn vk i w ht k1 hl k2 p q A B hA hB a0 a1 b0 b1 ea' eb'
        · exact B_kAnd_n toks (names ++ rest) known vt vn vk i w ht k1 hl k2 p q A B hA hB a0 a1 b0 b1 ea' eb'
        · exact B_kOr_n toks (names ++ rest) known vt vn vk i w ht k1 hl k2 p q A B hA hB a0 a1 b0 b1 ea' eb'
theorem tree_bound (hl : toks.length ≤ 9000) (hnl : (names ++ rest).length ≤ 10000) (ht6 : ∀ t ∈ toks, t.length ≤ 6000) (hkn : names.length ≤ known.length) (hK : ∀ j, j < names.length → 0 ≤ known.getD j 0 ∧ known.getD j 0 ≤ 1000000000000000) {tag : Bool} {i q : Nat} {ex : Pl.Ex} (hp : Pl.Par toks names tag i ex q) :
    TellT toks names rest known vt vn vk 146 i (.int .i64 (Pl.refB known ex)) q := by
  have hlen : ∀ j, j < toks.length → (toks.getD j []).length ≤ 6000 := by
    intro j hj; rw [List.getD_eq_getElem?_getD, List.getElem?_eq_getElem hj]; exact ht6 _ (List.getElem_mem _)
  induction hp using Pl.Par.ind with
  | num i h =>
    intro w ht
    obtain ⟨h1, _, h3⟩ := atR_some (Pl.number_ne h)
    rw [h3] at h ⊢
    exact B_num toks (names ++ rest) known vt vn vk i w ht h1 hl (hlen i h1) _ (Prod.ext rfl h) (Pl.numWord h (by decide)) (Pl.numWord h (by decide)) (Pl.numWord h (by decide)) (Pl.numWord h (by decide)) (Pl.numWord h (by decide)) (Pl.numWord h (by decide)) (Pl.numWord h (by decide)) (Pl.numWord h (by decide)) (Pl.numWord h (by decide)) (Pl.numWord h (by decide)) (Pl.numWord h (by decide)) (Pl.numWord h (by decide)) (Pl.numWord h (by decide)) (Pl.numWord h (by decide))
  | var i k h hn hk hlk hi =>
    intro w ht
    have hne : Pl.atR toks i ≠ [] := by intro e; rw [e] at h; exact absurd h (by decide)
    obtain ⟨h1, _, h3⟩ := atR_some hne
    rw [h3] at h hn hk
    have hf : Pl.findD (names ++ rest) (toks.getD i []) = (k : Int) := by
      unfold Pl.findD at hk ⊢; rw [Pl.findFrom_append _ _ _ 0 (by omega) (by omega)]; exact hk
    exact B_var toks (names ++ rest) known vt vn vk i w ht h1 hl hnl (hlen i h1) hn k hf (by omega) (Pl.nameWord h (by decide)) (Pl.nameWord h (by decide)) (Pl.nameWord h (by decide)) (Pl.nameWord h (by decide)) (Pl.nameWord h (by decide)) (Pl.nameWord h (by decide)) (Pl.nameWord h (by decide)) (Pl.nameWord h (by decide)) (Pl.nameWord h (by decide)) (Pl.nameWord h (by decide)) (Pl.nameWord h (by decide)) (Pl.nameWord h (by decide)) (Pl.nameWord h (by decide)) (Pl.nameWord h (by decide))
  | two i p q op a b h ha hb iha ihb =>
    intro w ht
    have ra := ha.refB hK
    have rb := hb.refB hK
    refine bound_two hl i p q _ _ w ht ra.nn ra.le rb.nn rb.le (iha.call ht) (ihb.call ht) op ?_
    rcases Pl.twoOf_some h with ⟨e, rfl⟩ | ⟨e, rfl⟩ | ⟨e, rfl⟩ | ⟨e, rfl⟩ <;> simp [e]
  | mul i p a h hk ha iha =>
    intro w ht
    have ra := ha.refB hK
    obtain ⟨h1, h2⟩ := Pl.word_at h (by decide)
    obtain ⟨h3, h4, _, h6, h7⟩ := Pl.within_at hk
    rw [h4, Pl.refB_mul]
    by_cases ea : Pl.refB known a = 1000000000000001
    · rw [if_pos ea]
      have := B_kMul_a toks (names ++ rest) known vt vn vk i w ht h1 hl h2 h3 (hlen _ h3) p _ (iha.call ht) (by simp [ea])
      rw [ea] at this
      exact this
    · rw [if_neg ea]
      exact B_kMul_n toks (names ++ rest) known vt vn vk i w ht h1 hl h2 h3 (hlen _ h3) p _ (iha.call ht) ⟨h6, h7⟩ ra.nn (by have := ra.le; omega) (by simpa using ea)
  | cho i p q z c a b h hc ha hb ihc iha ihb =>
    intro w ht
    obtain ⟨h1, h2⟩ := Pl.word_at h (by decide)
    rw [Pl.refB_cho]
    by_cases ec : Pl.refB known c = 1000000000000001
    · rw [if_pos ec]
      have := B_kIf_c toks (names ++ rest) known vt vn vk i w ht h1 hl h2 p q z _ _ _ (ihc.call ht) (iha.call ht) (ihb.call ht) (by simp [ec])
      rw [ec] at this
      exact this
    · rw [if_neg ec]
      exact B_kIf_n toks (names ++ rest) known vt vn vk i w ht h1 hl h2 p q z _ _ _ (ihc.call ht) (iha.call ht) (ihb.call ht) (by simpa using ec)
  | quo i p op a h ho ha hd iha =>
    intro w ht
    obtain ⟨h1, h2⟩ := Pl.word_at h (by decide)
    obtain ⟨h3, h4, _⟩ := Pl.within_at hd
    exact B_kDiv toks (names ++ rest) known vt vn vk i w ht h1 hl h2 p h3 _ (iha.call ht)
  | tab i p a l h ha hn h1 h6 hb iha =>
    intro w ht
    have ra := ha.refB hK
    obtain ⟨h2, h3⟩ := Pl.word_at h (by decide)
    exact B_kTab toks (names ++ rest) known vt vn vk i w ht h2 hl h3 p _ _ _ (iha.call ht) (fun w1 hb1 => tables_ref toks (names ++ rest) known vt vn vk _ p l w1 (ht.below hb1) (hb.got hn h1 h6) hl ht6 ⟨ra.nn, ra.le⟩)
  | cmp i p q op a b h ha hb iha ihb =>
    intro w ht
    have ra := ha.refB hK
    have rb := hb.refB hK
    refine bound_two hl i p q _ _ w ht ra.nn ra.le rb.nn rb.le (iha.call ht) (ihb.call ht) op ?_
    rcases Pl.cmpOf_some h with ⟨e, rfl⟩ | ⟨e, rfl⟩ | ⟨e, rfl⟩ <;> simp [e]
  | join i p q op a b h ha hb iha ihb =>
    intro w ht
    have ra := ha.refB hK
    have rb := hb.refB hK
    refine bound_two hl i p q _ _ w ht ra.nn ra.le rb.nn rb.le (iha.call ht) (ihb.call ht) op ?_
    rcases Pl.joinOf_some h with ⟨e, rfl⟩ | ⟨e, rfl⟩ <;> simp [e]
  | neg i p a h ha iha =>
    intro w ht
    obtain ⟨h1, h2⟩ := Pl.word_at h (by decide)
    exact B_kNot toks (names ++ rest) known vt vn vk i w ht h1 hl h2 p _ (iha.call ht)
end
end Go.Proofs.YtfaljekgpnbmiaaGreat
