/- Joined: Ref2 PlainRLow Eq1. -/
import Derived.Test.YtbbdkgfdeghdfaaGreatJ13
/-
  Contracts of the reference's Name, fresh, is, cond, bands.
-/
namespace Go.Proofs.YtbbdkgfdeghdfaaGreat
open Go.RowKit

def Pl.kwText : List UInt8 := [32, 105, 110, 32, 108, 101, 116, 32, 115, 101, 116, 32, 111, 117, 116, 32, 97, 100, 100, 32, 115, 117, 98, 32, 109, 117, 108, 32, 109, 105, 110, 32, 109, 97, 120, 32, 105, 102, 32, 100, 105, 118, 32, 116, 97, 98, 32, 108, 116, 32, 108, 101, 32, 101, 113, 32, 97, 110, 100, 32, 111, 114, 32, 110, 111, 116, 32, 100, 111, 119, 110, 32, 117, 112, 32, 122, 101, 114, 111, 32, 110, 101, 97, 114, 32, 102, 108, 114, 32, 115, 101, 108, 32]
def Pl.okAt (i : Nat) (c : UInt8) : Bool := Pl.isLet c || (Pl.isDig c && decide (i ≠ 0))
/-- All bytes from number i on may stand in a name. -/
def Pl.namedFrom : Nat → List UInt8 → Bool
  | _, [] => true
  | i, c :: r => Pl.okAt i c && Pl.namedFrom (i + 1) r
def Pl.rName (t : List UInt8) : Bool := !t.isEmpty && decide (t.length ≤ 8) && Pl.namedFrom 0 t && !Pl.holdsW Pl.kwText t
theorem named_step (t : List UInt8) (k : Nat) (h : k < t.length) : Pl.namedFrom k (t.drop k) = (Pl.okAt k t[k] && Pl.namedFrom (k + 1) (t.drop (k + 1))) := by
  rw [List.drop_eq_getElem_cons h, Pl.namedFrom]
theorem named_end (t : List UInt8) (k : Nat) (h : t.length ≤ k) : Pl.namedFrom k (t.drop k) = true := by
  rw [List.drop_eq_nil_of_le h]; rfl

theorem okAt_no {k : Nat} {c : UInt8} (h : Pl.okAt k c = false) : (decide (97 ≤ (c.toNat : Int)) = false ∨ decide (97 ≤ (c.toNat : Int)) = true ∧ decide ((c.toNat : Int) ≤ 122) = false) ∧ (Pl.isDig c = false ∨ Pl.isDig c = true ∧ ((k : Int) == 0) = true) := by
  unfold Pl.okAt at h
  rw [Bool.or_eq_false_iff] at h
  obtain ⟨h1, h2⟩ := h
  refine ⟨?_, ?_⟩
  · simp [Pl.isLet] at h1 ⊢; omega
  · cases hd : Pl.isDig c
    · exact .inl rfl
    · right; rw [hd] at h2; simp at h2; exact ⟨rfl, by simp [h2]⟩
theorem okAt_yes {k : Nat} {c : UInt8} (h : Pl.okAt k c = true) : (decide (97 ≤ (c.toNat : Int)) = true ∧ decide ((c.toNat : Int) ≤ 122) = true) ∨ ((decide (97 ≤ (c.toNat : Int)) = false ∨ decide (97 ≤ (c.toNat : Int)) = true ∧ decide ((c.toNat : Int) ≤ 122) = false) ∧ Pl.isDig c = true ∧ ((k : Int) == 0) = false) := by
  unfold Pl.okAt at h
  by_cases hl : 97 ≤ (c.toNat : Int) ∧ (c.toNat : Int) ≤ 122
  · left; simp; omega
  · right
    have hl' : Pl.isLet c = false := by simp [Pl.isLet]; omega
    rw [hl', Bool.false_or, Bool.and_eq_true] at h
    refine ⟨by simp; omega, h.1, ?_⟩
    have := h.2
    simp at this
    simp [this]

set_option maxRecDepth 100000 in
set_option maxHeartbeats 1000000 in
theorem Name_loop (t : List UInt8) (w : World) (h0 : 0 < t.length) (he : t.isEmpty = false) (h8 : decide ((8 : Int) < t.length) = false) :
    Calls Tryz.prog 173 #[.string ⟨t.toArray⟩] w fun e w' => e = .returned (.bool (Pl.namedFrom 0 t && !Pl.holdsW Pl.kwText t)) ∧ w' = w := by
  have h8' : t.length ≤ 8 := by simp at h8; omega
  go_enter Tryz.func173, Tryz.ntmps173
  go_wp2_with fail
  go_loop [3] (fun i => ∃ k : Nat, k ≤ t.length ∧ i = .int .i64 k ∧ Hid (Pl.namedFrom k (t.drop k) = Pl.namedFrom 0 t)) (fun i => t.length - (intOf i).toNat)
  case atStart => exact ⟨0, by omega, rfl, rfl⟩
  case round =>
    obtain ⟨k, hk, rfl, hr⟩ := hrel
    by_cases hlt : k < t.length
    · have hb := bget t k hlt
      have hst := named_step t k hlt
      generalize t[k] = c at *
      cases ho : Pl.okAt k c
      · have hx : Hid (Pl.namedFrom 0 t = false) := by have := hr.out; rw [hst, ho, Bool.false_and] at this; exact this.symm
        obtain ⟨hc1, hc2⟩ := okAt_no ho
        clear hr hst ho
        rcases hc1 with hc1 | ⟨hc1, hc1'⟩ <;> rcases hc2 with hc2 | ⟨hc2, hk0⟩
        all_goals
          go_wp2_with (go_at_call 139; refine (digit_any _ _).mono ?_; rintro e w' ⟨rfl, rfl⟩)
          go_ret
          exact ⟨ret_bool (by rw [hx.out, Bool.false_and]), rfl⟩
      · have hx : Hid (Pl.namedFrom (k + 1) (t.drop (k + 1)) = Pl.namedFrom 0 t) := by have := hr.out; rw [hst, ho, Bool.true_and] at this; exact this
        have hcs := okAt_yes ho
        clear hr hst ho
        rcases hcs with ⟨hc1, hc1'⟩ | ⟨hc1 | ⟨hc1, hc1'⟩, hc2, hk0⟩
        all_goals
          go_wp2_with (go_at_call 139; refine (digit_any _ _).mono ?_; rintro e w' ⟨rfl, rfl⟩)
          go_round
          case rel => exact ⟨k + 1, by omega, by go_num, hx.out⟩
          case measure => simp [intOf]; omega
    · have hx : Hid (Pl.namedFrom 0 t = true) := by rw [← hr.out]; exact named_end t k (by omega)
      have hH := hide (holds_ref Pl.kwText t w (by decide) (by omega))
      clear hr
      go_wp2_with fail
      refine (unhide hH).mono ?_
      rintro e w1 ⟨rfl, rfl⟩
      clear hH
      go_wp2_with fail
      go_ret
      exact ⟨ret_bool (by rw [hx.out, Bool.true_and]), rfl⟩

set_option maxHeartbeats 400000 in
theorem Name_long (t : List UInt8) (w : World) (he : t.isEmpty = false) (h8 : decide ((8 : Int) < t.length) = true) :
    Calls Tryz.prog 173 #[.string ⟨t.toArray⟩] w fun e w' => e = .returned (.bool false) ∧ w' = w := by
  go_enter Tryz.func173, Tryz.ntmps173
  go_wp2_with fail
  go_ret
  exact ⟨rfl, rfl⟩
set_option maxHeartbeats 400000 in
theorem Name_nil (w : World) :
    Calls Tryz.prog 173 #[.string ⟨[].toArray⟩] w fun e w' => e = .returned (.bool false) ∧ w' = w := by
  go_enter Tryz.func173, Tryz.ntmps173
  go_wp2_with fail
  go_ret
  exact ⟨rfl, rfl⟩
theorem Name_ref (t : List UInt8) (w : World) :
    Calls Tryz.prog 173 #[.string ⟨t.toArray⟩] w fun e w' => e = .returned (.bool (Pl.rName t)) ∧ w' = w := by
  cases t with
  | nil => exact Name_nil w
  | cons c r =>
    unfold Pl.rName
    rw [show (!(c :: r).isEmpty) = true from rfl, Bool.true_and]
    by_cases h8 : (c :: r).length ≤ 8
    · rw [decide_eq_true h8, Bool.true_and]
      exact Name_loop (c :: r) w (by simp) rfl (by simp at h8 ⊢; omega)
    · rw [decide_eq_false h8, Bool.false_and, Bool.false_and]
      exact Name_long (c :: r) w rfl (by simp at h8 ⊢; omega)

def Pl.fresh (l : List Pl.DeclM) (t : List UInt8) : Bool := Pl.rName t && decide (Pl.findD l t < 0)
set_option maxHeartbeats 400000 in
theorem fresh_ref (l : List Pl.DeclM) (v : Value) (t : List UInt8) (w : World) (h : DeclsAt w v l) (hl : l.length ≤ 10000) :
    Calls Tryz.prog 131 #[v, .string ⟨t.toArray⟩] w fun e w' => e = .returned (.bool (Pl.fresh l t)) ∧ w' = w := by
  have hN := hide (Name_ref t w)
  have hF := hide (find_ref l v t w h hl)
  obtain ⟨ad, n, cap, rfl⟩ : ∃ ad n cap, v = .slice ad n cap := by obtain ⟨x, y, e, _⟩ := h; exact ⟨_, _, _, e⟩
  unfold Pl.fresh
  clear h
  generalize Pl.findD l t = i at *
  cases hr : Pl.rName t <;> cases hi : decide (i < 0)
  all_goals
    rw [hr] at hN
    go_enter Tryz.func131, Tryz.ntmps131
    go_wp2_with fail
    refine (unhide hN).mono ?_
    rintro e w1 ⟨rfl, hw1⟩
    rw [hw1]
    clear hw1 w1 hN
    go_wp2_with fail
    refine (unhide hF).mono ?_
    rintro e w1 ⟨rfl, hw1⟩
    rw [hw1]
    clear hw1 w1 hF
    go_wp2_with fail
    go_ret
    exact ⟨rfl, rfl⟩

def Pl.kindAt (l : List Pl.DeclM) (t : List UInt8) : Option Nat := if Pl.findD l t < 0 then none else (l[(Pl.findD l t).toNat]?).map (·.kind)
def Pl.isOf (l : List Pl.DeclM) (t : List UInt8) (a b : Nat) : Bool := match Pl.kindAt l t with | none => false | some k => decide (k = a) || decide (k = b)
set_option maxHeartbeats 1000000 in
theorem is_ref (l : List Pl.DeclM) (v : Value) (t : List UInt8) (a b : Nat) (w : World) (h : DeclsAt w v l) (hl : l.length ≤ 10000) :
    Calls Tryz.prog 172 #[v, .string ⟨t.toArray⟩, .int .u8 a, .int .u8 b] w fun e w' => e = .returned (.bool (Pl.isOf l t a b)) ∧ ∃ n, w' = w.drewN n := by
  have hF := hide (find_ref l v t w h hl)
  have hbd := Pl.findFrom_bd l t 0
  obtain ⟨ad, cap, rfl, hc⟩ := h
  unfold Pl.isOf Pl.kindAt
  rw [show Pl.findFrom l t 0 = Pl.findD l t from rfl] at hbd
  generalize Pl.findD l t = i at *
  rcases hbd with rfl | ⟨h0, h1⟩
  · rw [if_pos (by omega)]
    clear hc
    go_enter Tryz.func172, Tryz.ntmps172
    go_wp2_with fail
    refine (unhide hF).mono ?_
    rintro e w1 ⟨rfl, hw1⟩
    rw [hw1]
    clear hw1 w1 hF
    go_wp2_with fail
    go_ret
    exact ⟨rfl, 0, rfl⟩
  · obtain ⟨k, rfl⟩ := Int.eq_ofNat_of_zero_le h0
    have hk : k < l.length := by omega
    rw [if_neg (by omega), Int.toNat_natCast, List.getElem?_eq_getElem hk, Option.map_some]
    obtain ⟨g, rfl, _, hkd, _⟩ := hc k hk
    clear hc
    simp only
    generalize l[k].kind = kd at *
    have h0d : decide ((0 : Int) ≤ k) = true := by simp
    by_cases ha : kd = a
    · have hb1 : ((kd : Int) == a) = true := by rw [beq_iff_eq]; omega
      have hres : (decide (kd = a) || decide (kd = b)) = true := by simp [ha]
      rw [hres]
      clear ha
      go_enter Tryz.func172, Tryz.ntmps172
      go_wp2_with fail
      refine (unhide hF).mono ?_
      rintro e w1 ⟨rfl, hw1⟩
      rw [hw1]
      clear hw1 w1 hF
      go_wp2_with fail
      go_ret
      exact ⟨rfl, 0, rfl⟩
    · have hb1 : ((kd : Int) == a) = false := by rw [beq_eq_false_iff_ne]; omega
      cases hbb : decide (kd = b)
      · have hb2 : ((kd : Int) == b) = false := by simp at hbb; rw [beq_eq_false_iff_ne]; omega
        have hres : (decide (kd = a) || false) = false := by simp [ha]
        rw [hres]
        clear ha hbb
        go_enter Tryz.func172, Tryz.ntmps172
        go_wp2_with fail
        refine (unhide hF).mono ?_
        rintro e w1 ⟨rfl, hw1⟩
        rw [hw1]
        clear hw1 w1 hF
        go_wp2_with fail
        go_ret
        exact ⟨rfl, 0, rfl⟩
      · have hb2 : ((kd : Int) == b) = true := by simp at hbb; rw [beq_iff_eq]; omega
        rw [Bool.or_true]
        clear ha hbb
        go_enter Tryz.func172, Tryz.ntmps172
        go_wp2_with fail
        refine (unhide hF).mono ?_
        rintro e w1 ⟨rfl, hw1⟩
        rw [hw1]
        clear hw1 w1 hF
        go_wp2_with fail
        go_ret
        exact ⟨rfl, 0, rfl⟩
end Go.Proofs.YtbbdkgfdeghdfaaGreat

/-
  The reference's reading of the low form, as plain functions.
-/
namespace Go.Proofs.YtbbdkgfdeghdfaaGreat.Pl

def atR (l : List (List UInt8)) (i : Nat) : List UInt8 := if i < l.length ∧ i < 600 then l.getD i [] else []
def fitsR (names : List DeclM) (c : UInt8) (t : List UInt8) : Bool :=
  if c = 65 then (number t).2 || isOf names t 105 118
  else if c = 70 then isOf names t 102 102
  else if c = 75 then within t (-1000) 1000
  else within t 1 1000000
end Go.Proofs.YtbbdkgfdeghdfaaGreat.Pl

/-
  The reference's names and tokens against the program's, as plain data.
-/
namespace Go.Proofs.YtbbdkgfdeghdfaaGreat.Pl

theorem kwText_eq : kwText = pad kws := by decide
theorem holds_kw (t : List UInt8) (h : NoSp t) : holdsW kwText t = isKw t := by
  have := holds_pad kws t h (by intro w hw; revert w; unfold NoSp; decide)
  unfold holdsW
  rw [kwText_eq, show ([32] ++ t ++ [32] : List UInt8) = 32 :: (t ++ [32]) from rfl, this]
  unfold isKw
  rw [Bool.eq_iff_iff]; simp
theorem namedFrom_pos (r : List UInt8) : ∀ k, namedFrom (k + 1) r = r.all okc := by
  induction r with
  | nil => intro k; rfl
  | cons c r ih =>
    intro k
    rw [namedFrom, ih, List.all_cons]
    unfold okAt okc
    simp
theorem noSp_okc {c : UInt8} (h : okc c = true) : c ≠ 32 := by rintro rfl; exact absurd h (by decide)
theorem rName_eq (t : List UInt8) : rName t = isName t := by
  cases t with
  | nil => rfl
  | cons c r =>
    have e1 : namedFrom 0 (c :: r) = (isLet c && r.all okc) := by
      rw [namedFrom, namedFrom_pos]; unfold okAt; simp
    unfold rName
    rw [e1, isName_cons]
    have e2 : decide ((c :: r).length ≤ 8) = decide (r.length ≤ 7) := by rw [List.length_cons]; congr 1; simp
    rw [e2]
    cases hb : (isLet c && r.all okc) with
    | false =>
      rw [Bool.and_false, Bool.false_and, Bool.and_assoc, Bool.and_assoc, ← Bool.and_assoc (isLet c), hb]; simp
    | true =>
      have hc : isLet c = true ∧ r.all okc = true := by simpa using hb
      have hns : NoSp (c :: r) := by
        intro x hx
        rcases List.mem_cons.1 hx with rfl | hx
        · exact noSp_okc (by unfold okc; rw [hc.1]; rfl)
        · exact noSp_okc (List.all_eq_true.1 hc.2 x hx)
      rw [holds_kw _ hns, hc.1, hc.2]
      simp

/-- What the program keeps of a name's kind. -/
def KR (k : Nat) (p : Int) : Prop := ((k = 105 ∨ k = 118) ∧ p = 0) ∨ (k = 102 ∧ p = 1) ∨ (k = 111 ∧ p = 2)
def RelL : List DeclM → List (List UInt8 × Int × Int) → Prop
  | [], [] => True
  | d :: ds, e :: es => d.name = e.1 ∧ KR d.kind e.2.1 ∧ RelL ds es
  | _, _ => False
theorem RelL.len {ds : List DeclM} {es : List (List UInt8 × Int × Int)} (h : RelL ds es) : ds.length = es.length := by
  induction ds generalizing es with
  | nil => cases es with
    | nil => rfl
    | cons e es => exact absurd h id
  | cons d ds ih => cases es with
    | nil => exact absurd h id
    | cons e es => simp [ih h.2.2]
theorem RelL.snoc {ds : List DeclM} {es : List (List UInt8 × Int × Int)} (h : RelL ds es) (d : DeclM) (e : List UInt8 × Int × Int) (h1 : d.name = e.1) (h2 : KR d.kind e.2.1) : RelL (ds ++ [d]) (es ++ [e]) := by
  induction ds generalizing es with
  | nil => cases es with
    | nil => exact ⟨h1, h2, trivial⟩
    | cons e es => exact absurd h id
  | cons d' ds ih => cases es with
    | nil => exact absurd h id
    | cons e' es => exact ⟨h.1, h.2.1, ih h.2.2⟩
theorem RelL.find {ds : List DeclM} {es : List (List UInt8 × Int × Int)} (h : RelL ds es) (t : List UInt8) : ∀ i : Int, findFrom ds t i = if findEnt es t < es.length then i + findEnt es t else -1 := by
  induction ds generalizing es with
  | nil => cases es with
    | nil => intro i; rfl
    | cons e es => exact absurd h id
  | cons d ds ih => cases es with
    | nil => exact absurd h id
    | cons e es =>
      intro i
      rw [findFrom, findEnt, h.1]
      by_cases hn : e.1 = t
      · rw [if_pos hn, if_pos hn]; simp
      · rw [if_neg hn, if_neg hn, ih h.2.2]
        by_cases hl : findEnt es t < es.length
        · rw [if_pos hl, if_pos (by simp; omega)]; omega
        · rw [if_neg hl, if_neg (by simp; omega)]
theorem RelL.kindAt {ds : List DeclM} {es : List (List UInt8 × Int × Int)} (h : RelL ds es) (k : Nat) (hk : k < es.length) : ∃ hd : k < ds.length, KR ds[k].kind es[k].2.1 ∧ ds[k].name = es[k].1 := by
  induction ds generalizing es k with
  | nil => cases es with
    | nil => simp at hk
    | cons e es => exact absurd h id
  | cons d ds ih => cases es with
    | nil => exact absurd h id
    | cons e es => cases k with
      | zero => exact ⟨by simp, h.2.1, h.1⟩
      | succ k =>
        obtain ⟨h1, h2, h3⟩ := ih h.2.2 k (by simpa using hk)
        exact ⟨by simpa using h1, h2, h3⟩
theorem RelL.fresh {ds : List DeclM} {es : List (List UInt8 × Int × Int)} (h : RelL ds es) (t : List UInt8) : Pl.fresh ds t = (isName t && decide (findEnt es t = es.length)) := by
  unfold Pl.fresh
  rw [rName_eq]
  congr 1
  have hf : findD ds t = _ := h.find t 0
  rw [hf]
  have hle := findEnt_le es t
  by_cases hl : findEnt es t < es.length
  · rw [if_pos hl, decide_eq_false (by omega), decide_eq_false (by omega)]
  · rw [if_neg hl, decide_eq_true (by omega), decide_eq_true (by omega)]
/-- The node of a name of that kind. -/
def knownOf (es : List (List UInt8 × Int × Int)) (t : List UInt8) (kd : Int) : Option Int :=
  match es[findEnt es t]? with
  | none => none
  | some e => if e.2.1 = kd then some e.2.2 else none
theorem known_eq (r : RdM) (kd : Int) : r.known kd = knownOf r.ents r.peek kd := rfl
theorem RelL.isOf {ds : List DeclM} {es : List (List UInt8 × Int × Int)} (h : RelL ds es) (t : List UInt8) (a b : Nat) (kd : Int) (hab : ∀ k p, KR k p → ((k = a ∨ k = b) ↔ p = kd)) : Pl.isOf ds t a b = (knownOf es t kd).isSome := by
  unfold Pl.isOf Pl.kindAt knownOf
  have hf : findD ds t = _ := h.find t 0
  rw [hf]
  by_cases hl : findEnt es t < es.length
  · obtain ⟨hd, hk, _⟩ := h.kindAt _ hl
    rw [if_pos hl, if_neg (by omega), show ((0 : Int) + (findEnt es t : Int)).toNat = findEnt es t by omega, List.getElem?_eq_getElem hd, Option.map_some, List.getElem?_eq_getElem hl]
    simp only
    have := hab _ _ hk
    by_cases hkd : (es[findEnt es t]).2.1 = kd
    · rw [if_pos hkd]
      have := this.2 hkd
      rcases this with h | h <;> simp [h]
    · rw [if_neg hkd]
      have h2 : ¬ ((ds[findEnt es t]).kind = a ∨ (ds[findEnt es t]).kind = b) := fun hc => hkd (this.1 hc)
      simp only [not_or] at h2
      simp [h2.1, h2.2]
  · rw [if_neg hl, if_pos (by omega), List.getElem?_eq_none (by have := findEnt_le es t; omega)]
    rfl
theorem RelL.isVal {ds : List DeclM} {es : List (List UInt8 × Int × Int)} (h : RelL ds es) (t : List UInt8) : Pl.isOf ds t 105 118 = (knownOf es t 0).isSome :=
  h.isOf t 105 118 0 (by intro k p hk; rcases hk with ⟨h1, h2⟩ | ⟨h1, h2⟩ | ⟨h1, h2⟩ <;> omega)
theorem peek_atR (r : RdM) : r.peek = atR r.toks r.pos := by
  unfold RdM.peek atR
  by_cases h : r.toks.length ≤ r.pos ∨ 600 ≤ r.pos
  · rw [if_pos h, if_neg (by omega)]
  · rw [if_neg h, if_pos (by omega)]
theorem RelL.newName {ds : List DeclM} {r : RdM} (h : RelL ds r.ents) : r.newName = if Pl.fresh ds (atR r.toks r.pos) = true then some (atR r.toks r.pos) else none := by
  rw [h.fresh, ← peek_atR]
  unfold RdM.newName
  by_cases hc : isName r.peek = true ∧ findEnt r.ents r.peek = r.ents.length
  · rw [if_pos hc, if_pos (by simp [hc.1, hc.2])]
  · rw [if_neg hc, if_neg (by simpa using hc)]
theorem isName_ne {t : List UInt8} (h : isName t = true) : t ≠ [] := by rintro rfl; exact absurd h (by decide)
theorem RelL.fresh_ne {ds : List DeclM} {es : List (List UInt8 × Int × Int)} (h : RelL ds es) {t : List UInt8} (hf : Pl.fresh ds t = true) : t ≠ [] := by
  rw [h.fresh] at hf
  exact isName_ne (by simp at hf; exact hf.1)

end Go.Proofs.YtbbdkgfdeghdfaaGreat.Pl
