/- Joined: PlainTree6. -/
import Derived.Test.YtfaljekgpnbmiaaGreatH31
/-
  Trees: the reference's bound of one against the program's; values lie within their bounds.
-/
namespace Go.Proofs.YtfaljekgpnbmiaaGreat.Pl
open Go.RowKit
set_option linter.unusedSimpArgs false
set_option linter.unusedVariables false

theorem BandsAt.ok {toks : List (List UInt8)} : ∀ (l : List (Int × Int)) (p : Nat), BandsAt toks p l → ∀ x ∈ l, -1000000000 ≤ x.1 ∧ x.1 ≤ 1000000000 ∧ -1000 ≤ x.2 ∧ x.2 ≤ 1000 := by
  intro l
  induction l with
  | nil => intro p _ x hx; simp at hx
  | cons y l ih =>
    intro p h x hx
    obtain ⟨h1, h2, h3, h4, h5⟩ := h
    rcases List.mem_cons.1 hx with rfl | hx
    · have := number_bd (atR toks p)
      rw [h1] at this
      exact ⟨this.1, this.2, h3, h4⟩
    · exact ih _ h5 x hx
theorem within_true {t : List UInt8} {a b : Int} (h : within t a b = true) : (number t).2 = true ∧ a ≤ (number t).1 ∧ (number t).1 ≤ b := by
  unfold within at h; simp at h; exact ⟨h.1.1, h.1.2, h.2⟩
theorem absv_nn (k : Int) : 0 ≤ absv k := by unfold absv; split <;> omega
theorem over_false {b : Int} : over b = false ↔ b ≤ 1000000000000000 := by unfold over; rw [decide_eq_false_iff_not]; omega
theorem over_true {b : Int} : over b = true ↔ 1000000000000000 < b := by unfold over; rw [decide_eq_true_iff]
/-- The exact bound of a table. -/
def tabS (a : Int) : List (Int × Int) → Int
  | [] => 0
  | p :: l => absv p.2 * (a + absv p.1) + tabS a l
def BandsOk (l : List (Int × Int)) : Prop := ∀ p ∈ l, -1000000000 ≤ p.1 ∧ p.1 ≤ 1000000000 ∧ -1000 ≤ p.2 ∧ p.2 ≤ 1000
theorem term_bd {a : Int} (ha : 0 ≤ a) (ha' : a ≤ 1000000000000000) {p : Int × Int} (hp : -1000000000 ≤ p.1 ∧ p.1 ≤ 1000000000 ∧ -1000 ≤ p.2 ∧ p.2 ≤ 1000) : 0 ≤ absv p.2 * (a + absv p.1) ∧ absv p.2 * (a + absv p.1) ≤ 1000 * (1000000000000000 + 1000000000) := by
  have h1 : 0 ≤ absv p.2 ∧ absv p.2 ≤ 1000 := by unfold absv; split <;> omega
  have h2 : 0 ≤ absv p.1 ∧ absv p.1 ≤ 1000000000 := by unfold absv; split <;> omega
  exact ⟨Int.mul_nonneg h1.1 (by omega), Int.mul_le_mul h1.2 (by omega) (by omega) (by omega)⟩
theorem tabS_bd {a : Int} (ha : 0 ≤ a) (ha' : a ≤ 1000000000000000) (l : List (Int × Int)) : BandsOk l → 0 ≤ tabS a l ∧ tabS a l ≤ 1000001000000000000 * l.length := by
  induction l with
  | nil => intro _; exact ⟨Int.le_refl _, by simp [tabS]⟩
  | cons p l ih =>
    intro h
    have h1 := term_bd ha ha' (h p (by simp))
    have h2 := ih (fun q hq => h q (by simp [hq]))
    rw [tabS, List.length_cons]
    omega
theorem bandBound_eq {a : Int} (ha : 0 ≤ a) (ha' : a ≤ 1000000000000000) (l : List (Int × Int)) : ∀ acc : Int, 0 ≤ acc → acc + 1000001000000000000 * l.length ≤ 9000000000000000000 → BandsOk l → bandBoundFrom a l acc = acc + tabS a l := by
  induction l with
  | nil => intro acc _ _ _; simp [bandBoundFrom, tabS]
  | cons p l ih =>
    intro acc h0 h1 h
    have hp := h p (by simp)
    have ht := term_bd ha ha' hp
    rw [List.length_cons] at h1
    have e1 : absW p.2 = absv p.2 := absW_num _ ⟨by omega, by omega⟩
    have e2 : absW p.1 = absv p.1 := absW_num _ ⟨by omega, by omega⟩
    have h2 : 0 ≤ absv p.1 ∧ absv p.1 ≤ 1000000000 := by unfold absv; split <;> omega
    rw [bandBoundFrom, e1, e2, wrap_id (a + absv p.1) (by omega) (by omega), wrap_id (absv p.2 * (a + absv p.1)) (by omega) (by omega), wrap_id (acc + absv p.2 * (a + absv p.1)) (by omega) (by omega), ih _ (by omega) (by omega) (fun q hq => h q (by simp [hq])), tabS]
    omega
theorem capB_le (b : Int) : capB b ≤ 1000000000000001 := by unfold capB; split <;> omega
theorem tabB_eq {a : Int} (ha : 0 ≤ a) (ha' : a ≤ 1000000000000000) (l : List (Int × Int)) : ∀ s, 0 ≤ s → BandsOk l → tabB a l (capB s) = capB (s + tabS a l) := by
  induction l with
  | nil => intro s _ _; simp [tabB, tabS]
  | cons p l ih =>
    intro s hs h
    have ht := term_bd ha ha' (h p (by simp))
    rw [tabB, tabS]
    have e : capB (capB s + absv p.2 * (a + absv p.1)) = capB (s + absv p.2 * (a + absv p.1)) := by
      unfold capB
      repeat' split
      all_goals omega
    rw [e, ih _ (by omega) (fun q hq => h q (by simp [hq])), Int.add_assoc]
theorem mulB_bd {k r : Int} (hk : -1000 ≤ k ∧ k ≤ 1000) (h0 : 0 ≤ r) (h1 : r ≤ 1000000000000000) : 0 ≤ absv k * r ∧ absv k * r ≤ 1000000000000000000 := by
  have h2 : 0 ≤ absv k ∧ absv k ≤ 1000 := by unfold absv; split <;> omega
  exact ⟨Int.mul_nonneg h2.1 h0, by have := Int.mul_le_mul h2.2 h1 h0 (by omega); omega⟩
structure RefB (K : List Int) (tag : Bool) (ex : Ex) : Prop where
  nn : 0 ≤ refB K ex
  le : refB K ex ≤ 1000000000000001
  big : exBig K ex = true → refB K ex = 1000000000000001
  small : exBig K ex = false → refB K ex ≤ 1000000000000000
  same : exBig K ex = false → tag = false → exB K ex = refB K ex
theorem RefB.num {K : List Int} {tag : Bool} {k : Int} (h1 : -1000000000 ≤ k ∧ k ≤ 1000000000) : RefB K tag (.num k) := by
  have hs := absv_small h1
  have e : exBig K (.num k) = false := by rw [exBig_num, absW_num _ h1]; exact over_small hs
  exact ⟨absv_nn k, by show absv k ≤ _; omega, fun h => (by rw [e] at h; cases h), fun _ => by show absv k ≤ _; omega, fun _ _ => absW_num _ h1⟩
theorem RefB.var {K : List Int} {tag : Bool} {j : Nat} (this : 0 ≤ K.getD j 0 ∧ K.getD j 0 ≤ 1000000000000000) : RefB K tag (.var j) := by
  exact ⟨this.1, by show K.getD j 0 ≤ _; omega, fun h => (by cases h), fun _ => this.2, fun _ _ => rfl⟩
theorem RefB.two {K : List Int} {tag ta tb : Bool} {op : Int} {a b : Ex} (A : RefB K ta a) (B : RefB K tb b) (hc : ((op = 2 ∨ op = 3) ∧ tag = false ∧ ta = false ∧ tb = false) ∨ ((op = 5 ∨ op = 6) ∧ tag = false ∧ ta = false ∧ tb = false) ∨ ((op = 13 ∨ op = 14 ∨ op = 15 ∨ op = 16 ∨ op = 17) ∧ tag = true)) : RefB K tag (.two op a b) := by
  have a1 := A.nn; have a2 := A.le; have b1 := B.nn; have b2 := B.le
  have hle : refB K (.two op a b) ≤ 1000000000000001 := by
    rw [refB_two]; split
    · exact capB_le _
    · unfold most; split <;> omega
  have hnn : 0 ≤ refB K (.two op a b) := by
    rw [refB_two]; split
    · unfold capB; split <;> omega
    · unfold most; split <;> omega
  by_cases ha : exBig K a = true
  · have e := A.big ha
    have e2 : refB K (.two op a b) = 1000000000000001 := by rw [refB_two, if_pos (by simp [e]), e]; unfold capB; split <;> omega
    have e3 : exBig K (.two op a b) = true := by rw [exBig_two, ha]; rfl
    exact ⟨hnn, hle, fun _ => e2, fun h => (by rw [e3] at h; cases h), fun h => (by rw [e3] at h; cases h)⟩
  by_cases hb : exBig K b = true
  · have e := B.big hb
    have e2 : refB K (.two op a b) = 1000000000000001 := by rw [refB_two, if_pos (by simp [e]), e]; unfold capB; split <;> omega
    have e3 : exBig K (.two op a b) = true := by rw [exBig_two, hb]; simp
    exact ⟨hnn, hle, fun _ => e2, fun h => (by rw [e3] at h; cases h), fun h => (by rw [e3] at h; cases h)⟩
  have ha' : exBig K a = false := by simpa using ha
  have hb' : exBig K b = false := by simpa using hb
  have sa := A.small ha'; have sb := B.small hb'
  have e0 : exBig K (.two op a b) = over (twoB op (exB K a) (exB K b)) := by rw [exBig_two, ha', hb']; rfl
  rcases hc with ⟨ho, rfl, rfl, rfl⟩ | ⟨ho, rfl, rfl, rfl⟩ | ⟨ho, rfl⟩
  · have ea := A.same ha' rfl; have eb := B.same hb' rfl
    have e1 : twoB op (exB K a) (exB K b) = refB K a + refB K b := by unfold twoB; rw [if_pos ho, ea, eb, wrap_id _ (by omega) (by omega)]
    have e2 : refB K (.two op a b) = capB (refB K a + refB K b) := by rw [refB_two, if_pos (by rcases ho with h | h <;> simp [h])]
    have e3 : exB K (.two op a b) = refB K a + refB K b := e1
    rw [e1] at e0
    refine ⟨hnn, hle, fun h => ?_, fun h => ?_, fun h _ => ?_⟩
    · rw [e0, over_true] at h; rw [e2]; unfold capB; split <;> omega
    · rw [e0, over_false] at h; rw [e2]; unfold capB; split <;> omega
    · rw [e0, over_false] at h; rw [e2, e3]; unfold capB; split <;> omega
  · have ea := A.same ha' rfl; have eb := B.same hb' rfl
    have e1 : twoB op (exB K a) (exB K b) = most (refB K a) (refB K b) := by unfold twoB; rw [if_neg (by omega), if_pos ho, ea, eb]; rfl
    have e2 : refB K (.two op a b) = most (refB K a) (refB K b) := by rw [refB_two, if_neg (by omega)]
    have e3 : exB K (.two op a b) = most (refB K a) (refB K b) := e1
    have hm : most (refB K a) (refB K b) ≤ 1000000000000000 := by unfold most; split <;> omega
    rw [e1] at e0
    refine ⟨hnn, hle, fun h => ?_, fun h => ?_, fun h _ => ?_⟩
    · rw [e0, over_true] at h; omega
    · rw [e2]; exact hm
    · rw [e2, e3]
  · have e1 : twoB op (exB K a) (exB K b) = 0 := by unfold twoB; rw [if_neg (by omega), if_neg (by omega)]
    have e2 : refB K (.two op a b) = most (refB K a) (refB K b) := by rw [refB_two, if_neg (by omega)]
    have hm : most (refB K a) (refB K b) ≤ 1000000000000000 := by unfold most; split <;> omega
    rw [e1] at e0
    refine ⟨hnn, hle, fun h => ?_, fun h => ?_, fun h hc => (by cases hc)⟩
    · rw [e0, over_true] at h; omega
    · rw [e2]; exact hm
theorem RefB.mul {K : List Int} {k : Int} {a : Ex} (A : RefB K false a) (hk : -1000 ≤ k ∧ k ≤ 1000) : RefB K false (.mul k a) := by
  have a1 := A.nn; have a2 := A.le
  by_cases ha : exBig K a = true
  · have e := A.big ha
    have e2 : refB K (.mul k a) = 1000000000000001 := by rw [refB_mul, if_pos e]
    have e3 : exBig K (.mul k a) = true := by rw [exBig_mul, ha]; rfl
    exact ⟨by omega, by omega, fun _ => e2, fun h => (by rw [e3] at h; cases h), fun h => (by rw [e3] at h; cases h)⟩
  · have ha' : exBig K a = false := by simpa using ha
    have sa := A.small ha'
    have ea := A.same ha' rfl
    have hb := mulB_bd hk a1 sa
    have e1 : wrap64 (absW k * exB K a) = absv k * refB K a := by rw [absW_num _ ⟨by omega, by omega⟩, ea, wrap_id _ (by omega) (by omega)]
    have e0 : exBig K (.mul k a) = over (absv k * refB K a) := by rw [exBig_mul, ha', e1]; rfl
    have e2 : refB K (.mul k a) = capB (absv k * refB K a) := by rw [refB_mul, if_neg (by omega)]
    have e3 : exB K (.mul k a) = absv k * refB K a := e1
    refine ⟨?_, ?_, fun h => ?_, fun h => ?_, fun h _ => ?_⟩
    · rw [e2]; unfold capB; split <;> omega
    · rw [e2]; exact capB_le _
    · rw [e0, over_true] at h; rw [e2]; unfold capB; split <;> omega
    · rw [e0, over_false] at h; rw [e2]; unfold capB; split <;> omega
    · rw [e0, over_false] at h; rw [e2, e3]; unfold capB; split <;> omega
theorem RefB.cho {K : List Int} {c a b : Ex} (C : RefB K true c) (A : RefB K false a) (B : RefB K false b) : RefB K false (.cho c a b) := by
  have a1 := A.nn; have a2 := A.le; have b1 := B.nn; have b2 := B.le; have c1 := C.nn; have c2 := C.le
  have hle : 0 ≤ refB K (.cho c a b) ∧ refB K (.cho c a b) ≤ 1000000000000001 := by
    rw [refB_cho]; split
    · omega
    · unfold most; split <;> omega
  by_cases hc : exBig K c = true
  · have e2 : refB K (.cho c a b) = 1000000000000001 := by rw [refB_cho, if_pos (C.big hc)]
    have e3 : exBig K (.cho c a b) = true := by rw [exBig_cho, hc]; rfl
    exact ⟨hle.1, hle.2, fun _ => e2, fun h => (by rw [e3] at h; cases h), fun h => (by rw [e3] at h; cases h)⟩
  have hc' : exBig K c = false := by simpa using hc
  have sc := C.small hc'
  have e2 : refB K (.cho c a b) = most (refB K a) (refB K b) := by rw [refB_cho, if_neg (by omega)]
  by_cases ha : exBig K a = true
  · have e := A.big ha
    have e3 : exBig K (.cho c a b) = true := by rw [exBig_cho, ha]; simp
    exact ⟨hle.1, hle.2, fun _ => by rw [e2, e]; unfold most; split <;> omega, fun h => (by rw [e3] at h; cases h), fun h => (by rw [e3] at h; cases h)⟩
  by_cases hb : exBig K b = true
  · have e := B.big hb
    have e3 : exBig K (.cho c a b) = true := by rw [exBig_cho, hb]; simp
    exact ⟨hle.1, hle.2, fun _ => by rw [e2, e]; unfold most; split <;> omega, fun h => (by rw [e3] at h; cases h), fun h => (by rw [e3] at h; cases h)⟩
  have ha' : exBig K a = false := by simpa using ha
  have hb' : exBig K b = false := by simpa using hb
  have sa := A.small ha'; have sb := B.small hb'
  have ea := A.same ha' rfl; have eb := B.same hb' rfl
  have e3 : exB K (.cho c a b) = most (refB K a) (refB K b) := by rw [exB_cho, ea, eb]; rfl
  have hm : most (refB K a) (refB K b) ≤ 1000000000000000 := by unfold most; split <;> omega
  have e0 : exBig K (.cho c a b) = false := by
    rw [exBig_cho, hc', ha', hb', ea, eb]
    show over (most (refB K a) (refB K b)) = false
    rw [over_false]; exact hm
  exact ⟨hle.1, hle.2, fun h => (by rw [e0] at h; cases h), fun _ => by rw [e2]; exact hm, fun _ _ => by rw [e2, e3]⟩
theorem RefB.quo {K : List Int} {op d : Int} {a : Ex} (A : RefB K false a) : RefB K false (.quo op a d) := by
  by_cases ha : exBig K a = true
  · have e3 : exBig K (.quo op a d) = true := by rw [exBig_quo, ha]; rfl
    exact ⟨A.nn, A.le, fun _ => A.big ha, fun h => (by rw [e3] at h; cases h), fun h => (by rw [e3] at h; cases h)⟩
  · have ha' : exBig K a = false := by simpa using ha
    have sa := A.small ha'
    have ea := A.same ha' rfl
    have e0 : exBig K (.quo op a d) = false := by rw [exBig_quo, ha', ea, over_false.2 sa]; rfl
    exact ⟨A.nn, A.le, fun h => (by rw [e0] at h; cases h), fun _ => sa, fun _ _ => ea⟩
theorem RefB.tab {K : List Int} {a : Ex} {l : List (Int × Int)} (A : RefB K false a) (h6 : l.length ≤ 6) (hl : BandsOk l) : RefB K false (.tab a l) := by
  have a1 := A.nn; have a2 := A.le
  by_cases ha : exBig K a = true
  · have e := A.big ha
    have e2 : refB K (.tab a l) = 1000000000000001 := by rw [refB_tab, if_pos e]
    have e3 : exBig K (.tab a l) = true := by rw [exBig_tab, ha]; rfl
    exact ⟨by omega, by omega, fun _ => e2, fun h => (by rw [e3] at h; cases h), fun h => (by rw [e3] at h; cases h)⟩
  · have ha' : exBig K a = false := by simpa using ha
    have sa := A.small ha'
    have ea := A.same ha' rfl
    have hb := tabS_bd a1 sa l hl
    have e1 : bandBoundW (exB K a) l = tabS (refB K a) l := by
      unfold bandBoundW
      rw [ea, bandBound_eq a1 sa l 0 (by omega) (by omega) hl]
      omega
    have e0 : exBig K (.tab a l) = over (tabS (refB K a) l) := by rw [exBig_tab, ha', e1]; rfl
    have e2 : refB K (.tab a l) = capB (tabS (refB K a) l) := by
      rw [refB_tab, if_neg (by omega)]
      have := tabB_eq a1 sa l 0 (by omega) hl
      rw [show capB 0 = 0 from rfl] at this
      rw [this]
      congr 1
      omega
    have e3 : exB K (.tab a l) = tabS (refB K a) l := e1
    refine ⟨?_, ?_, fun h => ?_, fun h => ?_, fun h _ => ?_⟩
    · rw [e2]; unfold capB; split <;> omega
    · rw [e2]; exact capB_le _
    · rw [e0, over_true] at h; rw [e2]; unfold capB; split <;> omega
    · rw [e0, over_false] at h; rw [e2]; unfold capB; split <;> omega
    · rw [e0, over_false] at h; rw [e2, e3]; unfold capB; split <;> omega
theorem RefB.neg {K : List Int} {a : Ex} (A : RefB K true a) : RefB K true (.neg a) := by
  have e0 : exBig K (.neg a) = exBig K a := by rw [exBig_neg]; simp [over]
  exact ⟨A.nn, A.le, fun h => A.big (by rw [← e0]; exact h), fun h => A.small (by rw [← e0]; exact h), fun _ h => (by cases h)⟩
theorem twoOf_op {t : List UInt8} {op : Int} (h : twoOf t = some op) : op = 2 ∨ op = 3 ∨ op = 5 ∨ op = 6 := by
  unfold twoOf at h
  split at h
  · cases h; simp
  split at h
  · cases h; simp
  split at h
  · cases h; simp
  split at h
  · cases h; simp
  · cases h
theorem cmpOf_op {t : List UInt8} {op : Int} (h : cmpOf t = some op) : op = 13 ∨ op = 14 ∨ op = 15 := by
  unfold cmpOf at h
  split at h
  · cases h; simp
  split at h
  · cases h; simp
  split at h
  · cases h; simp
  · cases h
theorem joinOf_op {t : List UInt8} {op : Int} (h : joinOf t = some op) : op = 16 ∨ op = 17 := by
  unfold joinOf at h
  split at h
  · cases h; simp
  split at h
  · cases h; simp
  · cases h
theorem Par.refB {toks : List (List UInt8)} {names : List DeclM} {tag : Bool} {i q : Nat} {ex : Ex} (h : Par toks names tag i ex q) {K : List Int} (hK : ∀ j, j < names.length → 0 ≤ K.getD j 0 ∧ K.getD j 0 ≤ 1000000000000000) : RefB K tag ex := by
  induction h using Par.ind with
  | num i h => exact .num (number_bd _)
  | var i k h hn hk hl hi => exact .var (hK k hl)
  | two i p q op a b h ha hb iha ihb => exact .two iha ihb (by rcases twoOf_op h with h | h | h | h <;> simp [h])
  | mul i p a h hk ha iha => exact .mul iha (within_true hk).2
  | cho i p q z c a b h hc ha hb ihc iha ihb => exact .cho ihc iha ihb
  | quo i p op a h ho ha hd iha => exact .quo iha
  | tab i p a l h ha hn h1 h6 hb iha => exact .tab iha h6 (BandsAt.ok l _ hb)
  | cmp i p q op a b h ha hb iha ihb => exact .two iha ihb (by rcases cmpOf_op h with h | h | h <;> simp [h])
  | join i p q op a b h ha hb iha ihb => exact .two iha ihb (by rcases joinOf_op h with h | h <;> simp [h])
  | neg i p a h ha iha => exact .neg iha

/-! Values lie within their bounds. -/
theorem floorW_mid (a d : Int) (hd : 1 ≤ d) (ha : -4000000000000000 ≤ a) (ha' : a ≤ 4000000000000000) : floorW a d = a / d := by
  have e := floor_tdiv a d hd
  have b := tdiv_bd a d 4000000000000000 ha ha'
  unfold floorI at e
  rw [if_neg (by omega)] at e
  unfold floorW
  rw [if_neg (by omega), e, wrap_id (a.tdiv d) (by omega) (by omega), wrap_id (a.tdiv d - 1) (by omega) (by omega)]
theorem quot_bd (op a d B : Int) (hd : 1 ≤ d ∧ d ≤ 1000000) (ha : -B ≤ a) (ha' : a ≤ B) (hB : B ≤ 1000000000000000) : -B ≤ quotW op a d ∧ quotW op a d ≤ B := by
  have d1 := div_bd a d B hd.1 ha ha'
  have d2 := div_bd (-a) d B hd.1 (by omega) (by omega)
  unfold quotW
  rw [wrap_id (-a) (by omega) (by omega), floorW_mid a d hd.1 (by omega) (by omega), floorW_mid (-a) d hd.1 (by omega) (by omega), wrap_id (-(-a / d)) (by omega) (by omega), wrap_id (2 * a) (by omega) (by omega), wrap_id (2 * a + d) (by omega) (by omega), wrap_id (2 * d) (by omega) (by omega), floorW_mid (2 * a + d) (2 * d) (by omega) (by omega) (by omega)]
  have hBd : 0 ≤ B * d - B := by
    have := Int.mul_le_mul_of_nonneg_left hd.1 (show 0 ≤ B by omega)
    omega
  have d3 : -B ≤ (2 * a + d) / (2 * d) ∧ (2 * a + d) / (2 * d) ≤ B := by
    refine ⟨Int.le_ediv_of_mul_le (by omega) ?_, ?_⟩
    · rw [Int.neg_mul, Int.mul_left_comm]; omega
    · have : (2 * a + d) / (2 * d) < B + 1 := by
        refine Int.ediv_lt_of_lt_mul (by omega) ?_
        rw [Int.add_mul, Int.mul_left_comm]; omega
      omega
  repeat' split
  all_goals omega
theorem bandSum_bd {a A : Int} (hA : A ≤ 1000000000000000) (ha : -A ≤ a) (ha' : a ≤ A) (l : List (Int × Int)) : ∀ acc B : Int, -B ≤ acc → acc ≤ B → B + tabS A l ≤ 9000000000000000000 → BandsOk l → -(B + tabS A l) ≤ bandSumFrom a l acc ∧ bandSumFrom a l acc ≤ B + tabS A l := by
  have hA0 : 0 ≤ A := by omega
  have term : ∀ (p : Int × Int) (t acc B : Int), p.1 < t → t ≤ a → -B ≤ acc → acc ≤ B → (-1000000000 ≤ p.1 ∧ p.1 ≤ 1000000000 ∧ -1000 ≤ p.2 ∧ p.2 ≤ 1000) → B + absv p.2 * (A + absv p.1) ≤ 9000000000000000000 →
      -(B + absv p.2 * (A + absv p.1)) ≤ wrap64 (acc + wrap64 (p.2 * wrap64 (t - p.1))) ∧ wrap64 (acc + wrap64 (p.2 * wrap64 (t - p.1))) ≤ B + absv p.2 * (A + absv p.1) := by
    intro p t acc B h1 h2 h3 h4 hp h5
    have hab : 0 ≤ absv p.1 ∧ -p.1 ≤ absv p.1 ∧ absv p.1 ≤ 1000000000 := by unfold absv; split <;> omega
    have hm := mul_abs p.2 (t - p.1) (A + absv p.1) (by omega) (by omega)
    have ht := term_bd hA0 hA hp
    rw [wrap_id (t - p.1) (by omega) (by omega), wrap_id (p.2 * (t - p.1)) (by omega) (by omega), wrap_id (acc + p.2 * (t - p.1)) (by omega) (by omega)]
    omega
  induction l with
  | nil => intro acc B h1 h2 h3 _; rw [bandSumFrom]; simp [tabS]; omega
  | cons p l ih =>
    intro acc B h1 h2 h3 h
    have hp := h p (by simp)
    have hq : BandsOk l := fun q hq => h q (by simp [hq])
    have ht := term_bd hA0 hA hp
    have hs := tabS_bd hA0 hA l hq
    rw [tabS] at h3 ⊢
    cases l with
    | nil =>
      rw [tabS] at h3 ⊢
      rw [bandSumFrom]
      split
      · rename_i hlt
        have := term p a acc B hlt (by omega) h1 h2 hp (by omega)
        omega
      · omega
    | cons q l =>
      rw [bandSumFrom]
      split
      · rename_i hlt
        have hle : lesser a q.1 ≤ a := by unfold lesser; split <;> omega
        have := term p (lesser a q.1) acc B hlt hle h1 h2 hp (by omega)
        have := ih _ (B + absv p.2 * (A + absv p.1)) this.1 this.2 (by omega) hq
        omega
      · have := ih acc B h1 h2 (by omega) hq
        omega
structure ValB (K KB : List Int) (tag : Bool) (ex : Ex) : Prop where
  val : tag = false → -exB KB ex ≤ exV K ex ∧ exV K ex ≤ exB KB ex ∧ exB KB ex ≤ 1000000000000000
  flag : tag = true → exV K ex = 0 ∨ exV K ex = 1
  fine : Fine K ex
theorem ValB.sm {K KB : List Int} {tag : Bool} {ex : Ex} (h : ValB K KB tag ex) : Sm (exV K ex) := by
  cases tag with
  | false => have := h.val rfl; unfold Sm; omega
  | true => have := h.flag rfl; unfold Sm; omega
theorem Par.valB {toks : List (List UInt8)} {names : List DeclM} {tag : Bool} {i q : Nat} {ex : Ex} (h : Par toks names tag i ex q) {K KB : List Int} (hB : ∀ j, j < names.length → 0 ≤ KB.getD j 0 ∧ KB.getD j 0 ≤ 1000000000000000) (hK : ∀ j, j < names.length → -KB.getD j 0 ≤ K.getD j 0 ∧ K.getD j 0 ≤ KB.getD j 0) : exBig KB ex = false → ValB K KB tag ex := by
  have fl : ∀ op : Int, (op = 13 ∨ op = 14 ∨ op = 15 ∨ op = 16 ∨ op = 17) → ∀ x y, twoV op x y = 0 ∨ twoV op x y = 1 := by
    intro op ho x y
    unfold twoV
    rw [if_neg (by omega), if_neg (by omega), if_neg (by omega), if_neg (by omega)]
    split <;> omega
  induction h using Par.ind with
  | num i h =>
    intro _
    have h1 := number_bd (atR toks i)
    generalize (number (atR toks i)).1 = k at *
    have e : exB KB (.num k) = absv k := absW_num _ h1
    refine ⟨fun _ => ?_, fun h => (by cases h), trivial⟩
    rw [e]
    have := absv_small h1
    show -absv k ≤ k ∧ k ≤ absv k ∧ _
    unfold absv at *; split <;> omega
  | var i j h hn hk hl hi =>
    intro _
    exact ⟨fun _ => ⟨(hK j hl).1, (hK j hl).2, (hB j hl).2⟩, fun h => (by cases h), trivial⟩
  | two i p q op a b h ha hb iha ihb =>
    intro hb
    have ho := twoOf_op h
    rw [exBig_two, Bool.or_eq_false_iff, Bool.or_eq_false_iff] at hb
    obtain ⟨⟨ba, bb⟩, bo⟩ := hb
    rw [over_false] at bo
    have A := iha ba
    have B := ihb bb
    have va := A.val rfl; have vb := B.val rfl
    refine ⟨fun _ => ?_, fun h => (by cases h), A.fine, B.fine, A.sm, B.sm⟩
    rw [exB_two, exV_two]
    rcases ho with rfl | rfl | rfl | rfl
    · have e1 : twoB 2 (exB KB a) (exB KB b) = wrap64 (exB KB a + exB KB b) := rfl
      have e2 : twoV 2 (exV K a) (exV K b) = wrap64 (exV K a + exV K b) := rfl
      rw [e1] at bo ⊢
      rw [e2]
      rw [wrap_id _ (by omega) (by omega)] at bo ⊢
      rw [wrap_id (exV K a + exV K b) (by omega) (by omega)]
      omega
    · have e1 : twoB 3 (exB KB a) (exB KB b) = wrap64 (exB KB a + exB KB b) := rfl
      have e2 : twoV 3 (exV K a) (exV K b) = wrap64 (exV K a - exV K b) := rfl
      rw [e1] at bo ⊢
      rw [e2]
      rw [wrap_id _ (by omega) (by omega)] at bo ⊢
      rw [wrap_id (exV K a - exV K b) (by omega) (by omega)]
      omega
    · have e1 : twoB 5 (exB KB a) (exB KB b) = greater (exB KB a) (exB KB b) := rfl
      have e2 : twoV 5 (exV K a) (exV K b) = lesser (exV K a) (exV K b) := rfl
      rw [e1, e2]; unfold greater lesser; (repeat' split) <;> omega
    · have e1 : twoB 6 (exB KB a) (exB KB b) = greater (exB KB a) (exB KB b) := rfl
      have e2 : twoV 6 (exV K a) (exV K b) = greater (exV K a) (exV K b) := rfl
      rw [e1, e2]; unfold greater; (repeat' split) <;> omega
  | mul i p a h hk ha iha =>
    intro hb
    have hk := (within_true hk).2
    generalize (number (atR toks (i + 1))).1 = k at *
    rw [exBig_mul, Bool.or_eq_false_iff] at hb
    obtain ⟨ba, bo⟩ := hb
    rw [over_false] at bo
    have A := iha ba
    have va := A.val rfl
    refine ⟨fun _ => ?_, fun h => (by cases h), A.fine, A.sm⟩
    rw [exB_mul, exV_mul]
    have hm := mul_abs k (exV K a) (exB KB a) va.1 va.2.1
    have hb2 := mulB_bd hk (show 0 ≤ exB KB a by omega) va.2.2
    rw [absW_num k ⟨by omega, by omega⟩] at bo ⊢
    rw [wrap_id (absv k * exB KB a) (by omega) (by omega)] at bo ⊢
    rw [wrap_id (k * exV K a) (by omega) (by omega)]
    omega
  | cho i p q z c a b h hc ha hb ihc iha ihb =>
    intro hb
    rw [exBig_cho, Bool.or_eq_false_iff, Bool.or_eq_false_iff, Bool.or_eq_false_iff] at hb
    obtain ⟨⟨⟨bc, ba⟩, bb⟩, bo⟩ := hb
    have C := ihc bc
    have A := iha ba
    have B := ihb bb
    have va := A.val rfl; have vb := B.val rfl
    refine ⟨fun _ => ?_, fun h => (by cases h), C.fine, A.fine, B.fine⟩
    rw [exB_cho, exV_cho]
    unfold greater; (repeat' split) <;> omega
  | quo i p op a h ho ha hd iha =>
    intro hb
    have hd := (within_true hd).2
    generalize (number (atR toks p)).1 = d at *
    rw [exBig_quo, Bool.or_eq_false_iff] at hb
    have A := iha hb.1
    have va := A.val rfl
    refine ⟨fun _ => ?_, fun h => (by cases h), A.fine, A.sm⟩
    rw [exB_quo, exV_quo]
    have := quot_bd op (exV K a) d (exB KB a) hd va.1 va.2.1 va.2.2
    omega
  | tab i p a l h ha hn h1 h6 hbs iha =>
    intro hb
    have hl := BandsAt.ok l _ hbs
    rw [exBig_tab, Bool.or_eq_false_iff] at hb
    obtain ⟨ba, bo⟩ := hb
    rw [over_false] at bo
    have A := iha ba
    have va := A.val rfl
    refine ⟨fun _ => ?_, fun h => (by cases h), A.fine, A.sm⟩
    rw [exB_tab, exV_tab]
    have hb2 := tabS_bd (show 0 ≤ exB KB a by omega) va.2.2 l hl
    have e1 : bandBoundW (exB KB a) l = tabS (exB KB a) l := by
      unfold bandBoundW
      rw [bandBound_eq (by omega) va.2.2 l 0 (by omega) (by omega) hl]
      omega
    rw [e1] at bo ⊢
    have := bandSum_bd va.2.2 va.1 va.2.1 l 0 0 (by omega) (by omega) (by omega) hl
    unfold bandSumW
    omega
  | cmp i p q op a b h ha hb iha ihb =>
    intro hb
    have ho := cmpOf_op h
    rw [exBig_two, Bool.or_eq_false_iff, Bool.or_eq_false_iff] at hb
    have A := iha hb.1.1
    have B := ihb hb.1.2
    exact ⟨fun h => (by cases h), fun _ => fl op (by omega) _ _, A.fine, B.fine, A.sm, B.sm⟩
  | join i p q op a b h ha hb iha ihb =>
    intro hb
    have ho := joinOf_op h
    rw [exBig_two, Bool.or_eq_false_iff, Bool.or_eq_false_iff] at hb
    have A := iha hb.1.1
    have B := ihb hb.1.2
    exact ⟨fun h => (by cases h), fun _ => fl op (by omega) _ _, A.fine, B.fine, A.sm, B.sm⟩
  | neg i p a h ha iha =>
    intro hb
    rw [exBig_neg, Bool.or_eq_false_iff] at hb
    have A := iha hb.1
    refine ⟨fun h => (by cases h), fun _ => ?_, A.fine⟩
    rw [exV_neg]; split <;> omega
end Go.Proofs.YtfaljekgpnbmiaaGreat.Pl
