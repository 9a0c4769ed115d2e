/- Joined: Eq6 Eq7 PlainBand3 Eq8 Eq9 Eq10 Eq12 High1. -/
import Derived.Test.YtbbdkgfdeghdfaaGreatJ16
/-
  What was built is in order: every argument has been told; the inputs are those of the plan.
-/
namespace Go.Proofs.YtbbdkgfdeghdfaaGreat.Pl

theorem findFrom_append (a b : List DeclM) (t : List UInt8) : ∀ i : Int, 0 ≤ i → 0 ≤ findFrom a t i → findFrom (a ++ b) t i = findFrom a t i := by
  induction a with
  | nil => intro i hi h; rw [findFrom] at h; omega
  | cons d a ih =>
    intro i hi h
    rw [List.cons_append, findFrom]
    rw [findFrom] at h ⊢
    by_cases hn : d.name = t
    · rw [if_pos hn, if_pos hn]
    · rw [if_neg hn] at h ⊢
      rw [if_neg hn]
      exact ih (i + 1) (by omega) h
theorem fitsF_home (n : Nat) : ∀ (names : List DeclM) (home : List Int), n ≤ names.length → home.length = n → fitsF n names home = homeFrom ((names.take n).map fun d => (d.lo, d.hi)) home := by
  induction n with
  | zero => intro names home _ _; cases home <;> rfl
  | succ n ih =>
    intro names home h1 h2
    cases names with
    | nil => simp at h1
    | cons d names =>
      cases home with
      | nil => simp at h2
      | cons x home =>
        rw [fitsF, ih names home (by simpa using h1) (by simpa using h2)]
        rfl
end Go.Proofs.YtbbdkgfdeghdfaaGreat.Pl

/-
  The bounds: the program's big is the reference's wide.
-/
namespace Go.Proofs.YtbbdkgfdeghdfaaGreat.Pl
open Go.RowKit

theorem pickL_zeros (l : List Int) (k : Nat) (i : Int) : pickL (l ++ List.replicate k 0) i = pickL l i := by
  unfold pickL
  by_cases h : 0 ≤ i ∧ i < l.length
  · rw [if_pos (by simp; omega), if_pos h, List.getD_eq_getElem?_getD, List.getD_eq_getElem?_getD, List.getElem?_append_left (by omega)]
  · rw [if_neg h]
    split
    · rename_i hc
      rw [List.getD_eq_getElem?_getD, List.getElem?_append_right (by omega)]
      rw [List.getElem?_replicate]
      split <;> rfl
    · rfl
theorem nodeBound_zeros (ins : List (Int × Int)) (n : NodeM) (bs : List Int) (k : Nat) : nodeBoundW ins n (bs ++ List.replicate k 0) = nodeBoundW ins n bs := by
  unfold nodeBoundW; simp only [pickL_zeros]
theorem nodeValue_zeros (n : NodeM) (vs home : List Int) (k : Nat) : nodeValueW n (vs ++ List.replicate k 0) home = nodeValueW n vs home := by
  unfold nodeValueW; simp only [pickL_zeros]
def boundsF (ins : List (Int × Int)) : List NodeM → List Int → List Int
  | [], bs => bs
  | n :: l, bs => boundsF ins l (bs ++ [nodeBoundW ins n bs])
def valsF (home : List Int) : List NodeM → List Int → List Int
  | [], vs => vs
  | n :: l, vs => valsF home l (vs ++ [nodeValueW n vs home])
theorem valuesFrom_eq (len : Nat) (home : List Int) (l : List NodeM) : ∀ vs, valuesFrom len home l vs = valsF home l vs := by
  induction l with
  | nil => intro vs; rfl
  | cons n l ih => intro vs; rw [valuesFrom, valsF, nodeValue_zeros, ih]
theorem boundsF_append (ins : List (Int × Int)) (a b : List NodeM) : ∀ bs, boundsF ins (a ++ b) bs = boundsF ins b (boundsF ins a bs) := by
  induction a with
  | nil => intro bs; rfl
  | cons n a ih => intro bs; rw [List.cons_append, boundsF, boundsF, ih]
theorem valsF_append (home : List Int) (a b : List NodeM) : ∀ vs, valsF home (a ++ b) vs = valsF home b (valsF home a vs) := by
  induction a with
  | nil => intro vs; rfl
  | cons n a ih => intro vs; rw [List.cons_append, valsF, valsF, ih]
theorem boundsF_ext (ins : List (Int × Int)) (a : List NodeM) : ∀ bs, ∃ t, boundsF ins a bs = bs ++ t ∧ t.length = a.length := by
  induction a with
  | nil => intro bs; exact ⟨[], by simp [boundsF], rfl⟩
  | cons n a ih => intro bs; obtain ⟨t, h, h2⟩ := ih (bs ++ [nodeBoundW ins n bs]); exact ⟨nodeBoundW ins n bs :: t, by rw [boundsF, h]; simp, by simp [h2]⟩
theorem valsF_ext (home : List Int) (a : List NodeM) : ∀ vs, ∃ t, valsF home a vs = vs ++ t ∧ t.length = a.length := by
  induction a with
  | nil => intro vs; exact ⟨[], by simp [valsF], rfl⟩
  | cons n a ih => intro vs; obtain ⟨t, h, h2⟩ := ih (vs ++ [nodeValueW n vs home]); exact ⟨nodeValueW n vs home :: t, by rw [valsF, h]; simp, by simp [h2]⟩
theorem pickL_append {l t : List Int} {i : Int} (h : i < l.length) : pickL (l ++ t) i = pickL l i := by
  unfold pickL
  by_cases h0 : 0 ≤ i
  · rw [if_pos (by simp; omega), if_pos ⟨h0, h⟩, List.getD_eq_getElem?_getD, List.getD_eq_getElem?_getD, List.getElem?_append_left (by omega)]
  · rw [if_neg (by omega), if_neg (by omega)]
theorem pickL_last (l : List Int) (x : Int) : pickL (l ++ [x]) l.length = x := by
  unfold pickL; rw [if_pos (by simp; omega)]; simp
def over (b : Int) : Bool := decide (1000000000000000 < b)
theorem bigFrom_eq (ins : List (Int × Int)) (len : Nat) (l : List NodeM) : ∀ bs t, boundsF ins l bs = bs ++ t → bigFrom ins len l bs = t.any over := by
  induction l with
  | nil => intro bs t h; rw [boundsF] at h; have : t = [] := List.append_right_eq_self.1 h.symm; rw [this]; rfl
  | cons n l ih =>
    intro bs t h
    rw [boundsF] at h
    rw [bigFrom, nodeBound_zeros]
    obtain ⟨t', h2, _⟩ := boundsF_ext ins l (bs ++ [nodeBoundW ins n bs])
    have ht : t = nodeBoundW ins n bs :: t' := by
      rw [h2, List.append_assoc] at h
      exact (List.append_cancel_left h).symm
    rw [ht, List.any_cons, ih _ _ h2]
    unfold over
    by_cases hb : 1000000000000000 < nodeBoundW ins n bs
    · rw [if_pos hb, decide_eq_true hb]; rfl
    · rw [if_neg hb, decide_eq_false hb]; rfl
end Go.Proofs.YtbbdkgfdeghdfaaGreat.Pl

/-
  What the table of the text comes to: 0 at its first threshold; from each number to the next it grows by the band's rate.
-/
namespace Go.Proofs.YtbbdkgfdeghdfaaGreat.Pl
open Go.RowKit

theorem wrap_id (n : Int) (h : -9223372036854775808 ≤ n) (h' : n ≤ 9223372036854775807) : wrap64 n = n := by unfold wrap64; omega
theorem absW_small (n : Int) (h : -1000000000 ≤ n) (h' : n ≤ 1000000000) : absW n = if n < 0 then -n else n := by
  unfold absW; split
  · exact wrap_id _ (by omega) (by omega)
  · rfl
end Go.Proofs.YtbbdkgfdeghdfaaGreat.Pl

/-
  The program's big is the reference's wide.
-/
namespace Go.Proofs.YtbbdkgfdeghdfaaGreat.Pl
open Go.RowKit

theorem boundsF_len (ins : List (Int × Int)) (nodes : List NodeM) : (boundsF ins nodes []).length = nodes.length := by
  obtain ⟨t, h, h2⟩ := boundsF_ext ins nodes []
  rw [h]; simpa using h2
theorem absW_num (n : Int) (h : -1000000000 ≤ n ∧ n ≤ 1000000000) : absW n = absv n := by
  rw [absW_small n h.1 h.2]; rfl
theorem over_small {b : Int} (h : b ≤ 1000000000) : over b = false := by unfold over; rw [decide_eq_false_iff_not]; omega
theorem absv_small {n : Int} (h : -1000000000 ≤ n ∧ n ≤ 1000000000) : absv n ≤ 1000000000 := by unfold absv; split <;> omega
theorem boundsF_ins (ins : List (Int × Int)) (x : Int × Int) (nodes : List NodeM) (h : ∀ n ∈ nodes, n.op = 1 → 0 ≤ n.k ∧ n.k < ins.length) : ∀ bs, boundsF (ins ++ [x]) nodes bs = boundsF ins nodes bs := by
  induction nodes with
  | nil => intro bs; rfl
  | cons n nodes ih =>
    intro bs
    have e : nodeBoundW (ins ++ [x]) n bs = nodeBoundW ins n bs := by
      unfold nodeBoundW
      by_cases h1 : n.op = 1
      · have hk := h n (by simp) h1
        have h0 : ¬ n.op = 0 := by omega
        rw [if_neg h0, if_neg h0, if_pos h1, if_pos h1]
        unfold inputBoundW
        rw [if_pos (by simp; omega), if_pos ⟨hk.1, hk.2⟩, List.getD_eq_getElem?_getD, List.getElem?_append_left (by omega), ← List.getD_eq_getElem?_getD]
      · by_cases h0 : n.op = 0
        · rw [if_pos h0, if_pos h0]
        · rw [if_neg h0, if_neg h0, if_neg h1, if_neg h1]
    rw [boundsF, boundsF, e, ih (fun m hm => h m (by simp [hm]))]
end Go.Proofs.YtbbdkgfdeghdfaaGreat.Pl

/-
  The program's big is the reference's wide: of all that was built.
-/
namespace Go.Proofs.YtbbdkgfdeghdfaaGreat.Pl
open Go.RowKit

theorem any_snoc_ne {l : List NodeM} {x : NodeM} (h : ∀ n ∈ l, n.op ≠ 1) (hx : x.op ≠ 1) : ∀ n ∈ l ++ [x], n.op ≠ 1 := by
  intro n hn
  rcases List.mem_append.1 hn with hn | hn
  · exact h n hn
  · rw [List.mem_singleton] at hn; subst hn; exact hx
theorem greater_most (a b : Int) : greater a b = most a b := rfl
end Go.Proofs.YtbbdkgfdeghdfaaGreat.Pl

/-
  Values: what the program reckons is what the reference reckons. An argument, a flag.
-/
namespace Go.Proofs.YtbbdkgfdeghdfaaGreat.Pl
open Go.RowKit

/-- A name is no number. -/
theorem rName_number {t : List UInt8} (h : rName t = true) : (number t).2 = false := by
  unfold rName at h
  simp only [Bool.and_eq_true] at h
  obtain ⟨⟨⟨h1, _⟩, h3⟩, _⟩ := h
  cases t with
  | nil => simp at h1
  | cons c r =>
    rw [namedFrom] at h3
    simp only [Bool.and_eq_true] at h3
    have hl : isLet c = true := by
      have := h3.1
      unfold okAt at this
      simpa using this
    have hc : 97 ≤ c.toNat := by unfold isLet at hl; simp at hl; exact hl.1
    have h45 : c ≠ 45 := by rintro rfl; exact absurd hc (by decide)
    have h48 : c ≠ 48 := by rintro rfl; exact absurd hc (by decide)
    have hd : isDig c = false := by unfold isDig; rw [decide_eq_false_iff_not]; omega
    rw [number_pos c r h45 (by intro h; cases h; exact h48 rfl) h48, numRest_none _ _ (by rw [numLoop, if_neg (by simp [hd])])]
theorem findEnt_name {es : List (List UInt8 × Int × Int)} {t : List UInt8} (h : findEnt es t < es.length) : es[findEnt es t].1 = t := by
  induction es with
  | nil => simp at h
  | cons e es ih =>
    by_cases he : e.1 = t
    · have : findEnt (e :: es) t = 0 := by rw [findEnt, if_pos he]
      simp only [this]; exact he
    · have e1 : findEnt (e :: es) t = findEnt es t + 1 := by rw [findEnt, if_neg he]
      simp only [e1, List.getElem_cons_succ]
      rw [e1] at h
      exact ih (by simpa using h)
theorem mul_abs (n v B : Int) (h : -B ≤ v) (h' : v ≤ B) : -(absv n * B) ≤ n * v ∧ n * v ≤ absv n * B := by
  unfold absv
  split
  · have a := Int.mul_le_mul_of_nonneg_left h' (show 0 ≤ -n by omega)
    have b := Int.mul_le_mul_of_nonneg_left h (show 0 ≤ -n by omega)
    simp only [Int.neg_mul, Int.mul_neg] at *
    omega
  · have a := Int.mul_le_mul_of_nonneg_left h' (show 0 ≤ n by omega)
    have b := Int.mul_le_mul_of_nonneg_left h (show 0 ≤ n by omega)
    simp only [Int.mul_neg] at *
    omega
theorem div_bd (a d A : Int) (hd : 1 ≤ d) (h : -A ≤ a) (h' : a ≤ A) : -A ≤ a / d ∧ a / d ≤ A := by
  have hA : A ≤ A * d := by
    have := Int.mul_le_mul_of_nonneg_left hd (show 0 ≤ A by omega)
    omega
  refine ⟨Int.le_ediv_of_mul_le (by omega) ?_, Int.ediv_le_of_le_mul (by omega) (by omega)⟩
  rw [Int.neg_mul]; omega
end Go.Proofs.YtbbdkgfdeghdfaaGreat.Pl

/-
  Values of all that was built; the whole low form: the program answers as the reference.
-/
namespace Go.Proofs.YtbbdkgfdeghdfaaGreat.Pl
open Go.RowKit

def outVals : List DeclM → List Int → List Int
  | d :: ds, x :: xs => if d.kind = 111 then x :: outVals ds xs else outVals ds xs
  | _, _ => []
theorem outVals_snoc (names : List DeclM) (d : DeclM) (x : Int) : ∀ K : List Int, K.length = names.length → outVals (names ++ [d]) (K ++ [x]) = outVals names K ++ (if d.kind = 111 then [x] else []) := by
  induction names with
  | nil =>
    intro K hK
    have : K = [] := List.eq_nil_of_length_eq_zero hK
    subst this
    simp [outVals]
  | cons e names ih =>
    intro K hK
    cases K with
    | nil => simp at hK
    | cons y K =>
      rw [List.cons_append, List.cons_append, outVals, outVals, ih K (by simpa using hK)]
      by_cases he : e.kind = 111
      · rw [if_pos he, if_pos he]; rfl
      · rw [if_neg he, if_neg he]
theorem snoc_cases {α : Type} {l : List α} {x : α} {j : Nat} (hj : j < (l ++ [x]).length) : (∃ h : j < l.length, (l ++ [x])[j] = l[j]) ∨ (j = l.length ∧ (l ++ [x])[j] = x) := by
  by_cases h : j < l.length
  · exact .inl ⟨h, List.getElem_append_left h⟩
  · have : j = l.length := by simp at hj; omega
    subst this
    exact .inr ⟨rfl, by simp⟩
def HomeOk (ins : List (Int × Int)) (home : List Int) : Prop := ins.length ≤ home.length ∧ ∀ j, (hj : j < ins.length) → (hk : j < home.length) → ins[j].1 ≤ home[j] ∧ home[j] ≤ ins[j].2
theorem HomeOk.of (ins : List (Int × Int)) : ∀ home : List Int, home.length = ins.length → homeFrom ins home = true → HomeOk ins home := by
  induction ins with
  | nil => intro home hl _; exact ⟨by simp, fun j hj => by simp at hj⟩
  | cons p ins ih =>
    intro home hl h
    cases home with
    | nil => simp at hl
    | cons x home =>
      rw [homeFrom] at h
      simp only [Bool.and_eq_true, decide_eq_true_eq] at h
      obtain ⟨q1, q2⟩ := ih home (by simpa using hl) h.2
      refine ⟨by simp at hl ⊢; omega, fun j hj hk => ?_⟩
      cases j with
      | zero => exact h.1
      | succ j => exact q2 j (by simpa using hj) (by simpa using hk)
theorem HomeOk.init {ins : List (Int × Int)} {x : Int × Int} {home : List Int} (h : HomeOk (ins ++ [x]) home) : HomeOk ins home := by
  obtain ⟨h1, h2⟩ := h
  simp at h1
  refine ⟨by omega, fun j hj hk => ?_⟩
  have := h2 j (by simp; omega) hk
  rw [List.getElem_append_left hj] at this
  exact this
end Go.Proofs.YtbbdkgfdeghdfaaGreat.Pl

/-
  Contracts of package high's readers that take expressions or conditions, given those of expression and condition at what is left of the text.
-/
namespace Go.Proofs.YtbbdkgfdeghdfaaGreat
open Go.RowKit

/-- The function fn reads as the plain function f does, from the token lo on. -/
def ReadC (fn : Nat) (f : Pl.RdM → Option Int × Pl.RdM) (lo : Nat) : Prop :=
  ∀ (B : Nat) (w : World) (b : Nat) (r : Pl.RdM) (s : Nat), Rd B w b r → Pl.Ok s r → lo ≤ r.pos →
    Calls Tryz.prog fn #[.pointer (some ⟨b, 0, none⟩)] w fun e w' => e = .returned (optV (f r).1) ∧ Rd B w' b (f r).2 ∧ Below B w w'
theorem ReadC.no {fn : Nat} {f : Pl.RdM → Option Int × Pl.RdM} {lo : Nat} (E : ReadC fn f lo) {B : Nat} {w : World} {b : Nat} {r r1 : Pl.RdM} {s : Nat} (h : Rd B w b r) (ok : Pl.Ok s r) (hl : lo ≤ r.pos) (hf : f r = (none, r1)) :
    Calls Tryz.prog fn #[.pointer (some ⟨b, 0, none⟩)] w fun e w' => e = .returned (.tuple #[.int .i64 0, .bool false]) ∧ Rd B w' b r1 ∧ Below B w w' := by
  have := E B w b r s h ok hl; rw [hf] at this; exact this
theorem ReadC.yes {fn : Nat} {f : Pl.RdM → Option Int × Pl.RdM} {lo : Nat} (E : ReadC fn f lo) {B : Nat} {w : World} {b : Nat} {r r1 : Pl.RdM} {s : Nat} {a : Int} (h : Rd B w b r) (ok : Pl.Ok s r) (hl : lo ≤ r.pos) (hf : f r = (some a, r1)) :
    Calls Tryz.prog fn #[.pointer (some ⟨b, 0, none⟩)] w fun e w' => e = .returned (.tuple #[.int .i64 a, .bool true]) ∧ Rd B w' b r1 ∧ Below B w w' := by
  have := E B w b r s h ok hl; rw [hf] at this; exact this
theorem nodes_le {s : Nat} {r : Pl.RdM} (ok : Pl.Ok s r) : r.nodes.length ≤ 1000 := by
  have h1 := ok.size
  have h2 := ok.pos
  unfold Pl.RdM.sz at h1; omega
theorem keeps_of {f : Pl.RdM → Option Int × Pl.RdM} (hk : ∀ r, Pl.Keeps r (f r).2) {r r1 : Pl.RdM} {o : Option Int} (e : f r = (o, r1)) : Pl.Keeps r r1 := by have := hk r; rw [e] at this; exact this

section
variable {f g : Pl.RdM → Option Int × Pl.RdM} {lo : Nat}

set_option maxHeartbeats 1000000 in
theorem pair_any (hk : ∀ r, Pl.Keeps r (f r).2) (E : ReadC 168 f lo) {B : Nat} {w : World} {b : Nat} {r : Pl.RdM} {s : Nat} (h : Rd B w b r) (ok : Pl.Ok s r) (hp : r.peek ≠ []) (hl : lo ≤ r.pos + 1) (op : Int) :
    Calls Tryz.prog 208 #[.pointer (some ⟨b, 0, none⟩), .int .i64 op] w fun e w' => e = .returned (optV (Pl.pairR f op r.skip).1) ∧ Rd B w' b (Pl.pairR f op r.skip).2 ∧ Below B w w' := by
  have ok1 := ok.step hp
  have hl1 : lo ≤ r.skip.pos := by rw [(Pl.skip_of hp).1]; exact hl
  have hpos := ok.pos
  unfold Pl.pairR
  cases hf1 : f r.skip with
  | mk o r1 =>
  cases o with
  | none =>
    go_enter Tryz.func208, Tryz.ntmps208
    go_wp2_with fail
    refine (Skip_any h hpos).mono ?_
    rintro e w1 ⟨rfl, hrw1, hbw1⟩
    go_wp2_with fail
    refine (E.no hrw1 ok1 hl1 hf1).mono ?_
    rintro e w2 ⟨rfl, hrw2, hbw2⟩
    have HH : Hid (Rd B w2 b r1 ∧ Below B w w2) := ⟨hrw2, (hbw1.trans hbw2)⟩
    clear hrw1 hbw1 hrw2 hbw2 h
    go_wp2
    go_ret2
    exact ⟨rfl, HH.out.1, HH.out.2⟩
  | some a =>
    have k1 := keeps_of hk hf1
    have ok2 := k1.ok _ ok1
    have hl2 : lo ≤ r1.pos := Nat.le_trans hl1 k1.pos
    simp only [Pl.oneR]
    cases hf2 : f r1 with
    | mk o r2 =>
    cases o with
    | none =>
      go_enter Tryz.func208, Tryz.ntmps208
      go_wp2_with fail
      refine (Skip_any h hpos).mono ?_
      rintro e w1 ⟨rfl, hrw1, hbw1⟩
      go_wp2_with fail
      refine (E.yes hrw1 ok1 hl1 hf1).mono ?_
      rintro e w2 ⟨rfl, hrw2, hbw2⟩
      go_wp2_with fail
      refine (E.no hrw2 ok2 hl2 hf2).mono ?_
      rintro e w3 ⟨rfl, hrw3, hbw3⟩
      have HH : Hid (Rd B w3 b r2 ∧ Below B w w3) := ⟨hrw3, ((hbw1.trans hbw2).trans hbw3)⟩
      clear hrw1 hbw1 hrw2 hbw2 hrw3 hbw3 h
      go_wp2
      go_ret2
      exact ⟨rfl, HH.out.1, HH.out.2⟩
    | some c =>
      have k2 := keeps_of hk hf2
      have ok3 := k2.ok _ ok2
      go_enter Tryz.func208, Tryz.ntmps208
      go_wp2_with fail
      refine (Skip_any h hpos).mono ?_
      rintro e w1 ⟨rfl, hrw1, hbw1⟩
      go_wp2_with fail
      refine (E.yes hrw1 ok1 hl1 hf1).mono ?_
      rintro e w2 ⟨rfl, hrw2, hbw2⟩
      go_wp2_with fail
      refine (E.yes hrw2 ok2 hl2 hf2).mono ?_
      rintro e w3 ⟨rfl, hrw3, hbw3⟩
      go_wp2_with fail
      refine (Append_any hrw3 ⟨op, a, c, 0, 0, []⟩ (.slice none 0 0) (World.ownsRow_nil _ _ _ _) (nodes_le ok3)).mono ?_
      rintro e w4 ⟨rfl, hrw4, hbw4⟩
      have HH : Hid (Rd B w4 b (r2.addNode ⟨op, a, c, 0, 0, []⟩) ∧ Below B w w4) := ⟨hrw4, (((hbw1.trans hbw2).trans hbw3).trans hbw4)⟩
      clear hrw1 hbw1 hrw2 hbw2 hrw3 hbw3 hrw4 hbw4 h
      go_wp2
      go_ret2
      exact ⟨rfl, HH.out.1, HH.out.2⟩

set_option maxHeartbeats 1000000 in
theorem joint_any (hk : ∀ r, Pl.Keeps r (g r).2) (E : ReadC 248 g lo) {B : Nat} {w : World} {b : Nat} {r : Pl.RdM} {s : Nat} (h : Rd B w b r) (ok : Pl.Ok s r) (hp : r.peek ≠ []) (hl : lo ≤ r.pos + 1) (op : Int) :
    Calls Tryz.prog 254 #[.pointer (some ⟨b, 0, none⟩), .int .i64 op] w fun e w' => e = .returned (optV (Pl.pairR g op r.skip).1) ∧ Rd B w' b (Pl.pairR g op r.skip).2 ∧ Below B w w' := by
  have ok1 := ok.step hp
  have hl1 : lo ≤ r.skip.pos := by rw [(Pl.skip_of hp).1]; exact hl
  have hpos := ok.pos
  unfold Pl.pairR
  cases hf1 : g r.skip with
  | mk o r1 =>
  cases o with
  | none =>
    go_enter Tryz.func254, Tryz.ntmps254
    go_wp2_with fail
    refine (Skip_any h hpos).mono ?_
    rintro e w1 ⟨rfl, hrw1, hbw1⟩
    go_wp2_with fail
    refine (E.no hrw1 ok1 hl1 hf1).mono ?_
    rintro e w2 ⟨rfl, hrw2, hbw2⟩
    have HH : Hid (Rd B w2 b r1 ∧ Below B w w2) := ⟨hrw2, (hbw1.trans hbw2)⟩
    clear hrw1 hbw1 hrw2 hbw2 h
    go_wp2
    go_ret2
    exact ⟨rfl, HH.out.1, HH.out.2⟩
  | some a =>
    have k1 := keeps_of hk hf1
    have ok2 := k1.ok _ ok1
    have hl2 : lo ≤ r1.pos := Nat.le_trans hl1 k1.pos
    simp only [Pl.oneR]
    cases hf2 : g r1 with
    | mk o r2 =>
    cases o with
    | none =>
      go_enter Tryz.func254, Tryz.ntmps254
      go_wp2_with fail
      refine (Skip_any h hpos).mono ?_
      rintro e w1 ⟨rfl, hrw1, hbw1⟩
      go_wp2_with fail
      refine (E.yes hrw1 ok1 hl1 hf1).mono ?_
      rintro e w2 ⟨rfl, hrw2, hbw2⟩
      go_wp2_with fail
      refine (E.no hrw2 ok2 hl2 hf2).mono ?_
      rintro e w3 ⟨rfl, hrw3, hbw3⟩
      have HH : Hid (Rd B w3 b r2 ∧ Below B w w3) := ⟨hrw3, ((hbw1.trans hbw2).trans hbw3)⟩
      clear hrw1 hbw1 hrw2 hbw2 hrw3 hbw3 h
      go_wp2
      go_ret2
      exact ⟨rfl, HH.out.1, HH.out.2⟩
    | some c =>
      have k2 := keeps_of hk hf2
      have ok3 := k2.ok _ ok2
      go_enter Tryz.func254, Tryz.ntmps254
      go_wp2_with fail
      refine (Skip_any h hpos).mono ?_
      rintro e w1 ⟨rfl, hrw1, hbw1⟩
      go_wp2_with fail
      refine (E.yes hrw1 ok1 hl1 hf1).mono ?_
      rintro e w2 ⟨rfl, hrw2, hbw2⟩
      go_wp2_with fail
      refine (E.yes hrw2 ok2 hl2 hf2).mono ?_
      rintro e w3 ⟨rfl, hrw3, hbw3⟩
      go_wp2_with fail
      refine (Append_any hrw3 ⟨op, a, c, 0, 0, []⟩ (.slice none 0 0) (World.ownsRow_nil _ _ _ _) (nodes_le ok3)).mono ?_
      rintro e w4 ⟨rfl, hrw4, hbw4⟩
      have HH : Hid (Rd B w4 b (r2.addNode ⟨op, a, c, 0, 0, []⟩) ∧ Below B w w4) := ⟨hrw4, (((hbw1.trans hbw2).trans hbw3).trans hbw4)⟩
      clear hrw1 hbw1 hrw2 hbw2 hrw3 hbw3 hrw4 hbw4 h
      go_wp2
      go_ret2
      exact ⟨rfl, HH.out.1, HH.out.2⟩

set_option maxHeartbeats 1000000 in
theorem contrary_any (E : ReadC 248 g lo) (hk : ∀ r, Pl.Keeps r (g r).2) {B : Nat} {w : World} {b : Nat} {r : Pl.RdM} {s : Nat} (h : Rd B w b r) (ok : Pl.Ok s r) (hp : r.peek ≠ []) (hl : lo ≤ r.pos + 1) :
    Calls Tryz.prog 255 #[.pointer (some ⟨b, 0, none⟩)] w fun e w' => e = .returned (optV (Pl.oneR g (fun a => ⟨18, a, 0, 0, 0, []⟩) r.skip).1) ∧ Rd B w' b (Pl.oneR g (fun a => ⟨18, a, 0, 0, 0, []⟩) r.skip).2 ∧ Below B w w' := by
  have ok1 := ok.step hp
  have hl1 : lo ≤ r.skip.pos := by rw [(Pl.skip_of hp).1]; exact hl
  have hpos := ok.pos
  unfold Pl.oneR
  cases hf1 : g r.skip with
  | mk o r1 =>
  cases o with
  | none =>
    go_enter Tryz.func255, Tryz.ntmps255
    go_wp2_with fail
    refine (Skip_any h hpos).mono ?_
    rintro e w1 ⟨rfl, hrw1, hbw1⟩
    go_wp2_with fail
    refine (E.no hrw1 ok1 hl1 hf1).mono ?_
    rintro e w2 ⟨rfl, hrw2, hbw2⟩
    have HH : Hid (Rd B w2 b r1 ∧ Below B w w2) := ⟨hrw2, (hbw1.trans hbw2)⟩
    clear hrw1 hbw1 hrw2 hbw2 h
    go_wp2
    go_ret2
    exact ⟨rfl, HH.out.1, HH.out.2⟩
  | some a =>
    have k1 := keeps_of hk hf1
    have ok2 := k1.ok _ ok1
    go_enter Tryz.func255, Tryz.ntmps255
    go_wp2_with fail
    refine (Skip_any h hpos).mono ?_
    rintro e w1 ⟨rfl, hrw1, hbw1⟩
    go_wp2_with fail
    refine (E.yes hrw1 ok1 hl1 hf1).mono ?_
    rintro e w2 ⟨rfl, hrw2, hbw2⟩
    go_wp2_with fail
    refine (Append_any hrw2 ⟨18, a, 0, 0, 0, []⟩ (.slice none 0 0) (World.ownsRow_nil _ _ _ _) (nodes_le ok2)).mono ?_
    rintro e w3 ⟨rfl, hrw3, hbw3⟩
    have HH : Hid (Rd B w3 b (r1.addNode ⟨18, a, 0, 0, 0, []⟩) ∧ Below B w w3) := ⟨hrw3, ((hbw1.trans hbw2).trans hbw3)⟩
    clear hrw1 hbw1 hrw2 hbw2 hrw3 hbw3 h
    go_wp2
    go_ret2
    exact ⟨rfl, HH.out.1, HH.out.2⟩

set_option maxHeartbeats 1000000 in
theorem product_any (E : ReadC 168 f lo) (hk : ∀ r, Pl.Keeps r (f r).2) {B : Nat} {w : World} {b : Nat} {r : Pl.RdM} {s : Nat} (h : Rd B w b r) (ok : Pl.Ok s r) (hp : r.peek ≠ []) (hl : lo ≤ r.pos + 1) :
    Calls Tryz.prog 209 #[.pointer (some ⟨b, 0, none⟩)] w fun e w' => e = .returned (optV (Pl.productR f r.skip).1) ∧ Rd B w' b (Pl.productR f r.skip).2 ∧ Below B w w' := by
  have ok1 := ok.step hp
  have hl1 : lo ≤ r.skip.pos := by rw [(Pl.skip_of hp).1]; exact hl
  have hpos := ok.pos
  unfold Pl.productR
  cases hn : r.skip.num (-1000) 1000 with
  | none =>
    go_enter Tryz.func209, Tryz.ntmps209
    go_wp2_with fail
    refine (Skip_any h hpos).mono ?_
    rintro e w1 ⟨rfl, hrw1, hbw1⟩
    go_wp2_with fail
    refine (RNum_no hrw1 ok1.pos ok1.peek_len _ _ hn).mono ?_
    rintro e w2 ⟨rfl, hrw2, hbw2⟩
    have HH : Hid (Rd B w2 b r.skip ∧ Below B w w2) := ⟨hrw2, (hbw1.trans hbw2)⟩
    clear hrw1 hbw1 hrw2 hbw2 h
    go_wp2
    go_ret2
    exact ⟨rfl, HH.out.1, HH.out.2⟩
  | some k =>
    have ks := Pl.Keeps.skip r.skip
    have ok2 := ks.ok _ ok1
    have hl2 : lo ≤ r.skip.skip.pos := Nat.le_trans hl1 ks.pos
    simp only [Pl.oneR]
    cases hf1 : f r.skip.skip with
    | mk o r1 =>
    cases o with
    | none =>
      go_enter Tryz.func209, Tryz.ntmps209
      go_wp2_with fail
      refine (Skip_any h hpos).mono ?_
      rintro e w1 ⟨rfl, hrw1, hbw1⟩
      go_wp2_with fail
      refine (RNum_yes hrw1 ok1.pos ok1.peek_len _ _ k hn).mono ?_
      rintro e w2 ⟨rfl, hrw2, hbw2⟩
      go_wp2_with fail
      refine (E.no hrw2 ok2 hl2 hf1).mono ?_
      rintro e w3 ⟨rfl, hrw3, hbw3⟩
      have HH : Hid (Rd B w3 b r1 ∧ Below B w w3) := ⟨hrw3, ((hbw1.trans hbw2).trans hbw3)⟩
      clear hrw1 hbw1 hrw2 hbw2 hrw3 hbw3 h
      go_wp2
      go_ret2
      exact ⟨rfl, HH.out.1, HH.out.2⟩
    | some a =>
      have k1 := keeps_of hk hf1
      have ok3 := k1.ok _ ok2
      go_enter Tryz.func209, Tryz.ntmps209
      go_wp2_with fail
      refine (Skip_any h hpos).mono ?_
      rintro e w1 ⟨rfl, hrw1, hbw1⟩
      go_wp2_with fail
      refine (RNum_yes hrw1 ok1.pos ok1.peek_len _ _ k hn).mono ?_
      rintro e w2 ⟨rfl, hrw2, hbw2⟩
      go_wp2_with fail
      refine (E.yes hrw2 ok2 hl2 hf1).mono ?_
      rintro e w3 ⟨rfl, hrw3, hbw3⟩
      go_wp2_with fail
      refine (Append_any hrw3 ⟨4, a, 0, 0, k, []⟩ (.slice none 0 0) (World.ownsRow_nil _ _ _ _) (nodes_le ok3)).mono ?_
      rintro e w4 ⟨rfl, hrw4, hbw4⟩
      have HH : Hid (Rd B w4 b (r1.addNode ⟨4, a, 0, 0, k, []⟩) ∧ Below B w w4) := ⟨hrw4, (((hbw1.trans hbw2).trans hbw3).trans hbw4)⟩
      clear hrw1 hbw1 hrw2 hbw2 hrw3 hbw3 hrw4 hbw4 h
      go_wp2
      go_ret2
      exact ⟨rfl, HH.out.1, HH.out.2⟩

end
end Go.Proofs.YtbbdkgfdeghdfaaGreat
