/- Joined: Eq3 Eq4 Eq5 Ref13 Ref17 Ref18 Ref19 Eq6 Eq7 PlainBand3 Eq8 Eq9 Eq10 Eq12. -/
import Derived.Test.YtfaljekgpnbmiaaGreatH14
/-
  What a step takes: the program reads it as the reference does, and what nodes it lays.
-/
namespace Go.Proofs.YtfaljekgpnbmiaaGreat.Pl

/-- No name is empty. -/
def NE (es : List (List UInt8 × Int × Int)) : Prop := ∀ e ∈ es, e.1 ≠ []
theorem findEnt_nil {es : List (List UInt8 × Int × Int)} (h : NE es) : findEnt es [] = es.length := by
  induction es with
  | nil => rfl
  | cons e es ih => rw [findEnt, if_neg (h e (by simp)), ih (fun x hx => h x (by simp [hx]))]; simp
theorem knownOf_nil {es : List (List UInt8 × Int × Int)} (h : NE es) (kd : Int) : knownOf es [] kd = none := by
  unfold knownOf; rw [findEnt_nil h, List.getElem?_eq_none (Nat.le_refl _)]
/-- The argument t is node a; m is what is laid for it. -/
def ArgN (es : List (List UInt8 × Int × Int)) (nodes : List NodeM) (t : List UInt8) (a : Int) (m : List NodeM) : Prop :=
  ((number t).2 = true ∧ m = [⟨0, 0, 0, 0, (number t).1, []⟩] ∧ a = nodes.length) ∨ ((number t).2 = false ∧ m = [] ∧ knownOf es t 0 = some a)
/-- f reads one token where c is wanted. -/
def Reads (c : UInt8) (f : RdM → Option Int × RdM) (A : List (List UInt8 × Int × Int) → List NodeM → List UInt8 → Int → List NodeM → Prop) : Prop :=
  ∀ (names : List DeclM) (r : RdM), RelL names r.ents → NE r.ents →
    (fitsR names c (atR r.toks r.pos) = false ∧ f r = (none, r)) ∨
    (fitsR names c (atR r.toks r.pos) = true ∧ atR r.toks r.pos ≠ [] ∧ ∃ a m, A r.ents r.nodes (atR r.toks r.pos) a m ∧ f r = (some a, ⟨r.ins, r.nodes ++ m, r.outs, r.toks, r.pos + 1, r.ents⟩))
theorem leaf_reads : Reads 65 RdM.leaf ArgN := by
  intro names r hR hN
  have hv := hR.isVal (atR r.toks r.pos)
  have hfit : fitsR names 65 (atR r.toks r.pos) = ((number (atR r.toks r.pos)).2 || (knownOf r.ents (atR r.toks r.pos) 0).isSome) := by unfold fitsR; rw [if_pos rfl, hv]
  rw [hfit]
  unfold RdM.leaf RdM.constant RdM.knownStep
  rw [num_wide, known_eq, peek_atR]
  cases hn : (number (atR r.toks r.pos)).2 with
  | true =>
    right
    have hne := number_ne hn
    refine ⟨rfl, hne, r.nodes.length, [⟨0, 0, 0, 0, (number (atR r.toks r.pos)).1, []⟩], .inl ⟨hn, rfl, rfl⟩, ?_⟩
    rw [if_pos rfl]
    simp only
    rw [skip_pos (by rw [peek_atR]; exact hne)]
    rfl
  | false =>
    rw [if_neg (by simp)]
    simp only
    cases hk : knownOf r.ents (atR r.toks r.pos) 0 with
    | none => left; exact ⟨rfl, rfl⟩
    | some a =>
      right
      have hne : atR r.toks r.pos ≠ [] := by intro e; rw [e, knownOf_nil hN] at hk; cases hk
      refine ⟨rfl, hne, a, [], .inr ⟨hn, rfl, hk⟩, ?_⟩
      simp only [List.append_nil]
      rw [skip_pos (by rw [peek_atR]; exact hne)]
section
variable {c c' : UInt8} {f g : RdM → Option Int × RdM} {A G : List (List UInt8 × Int × Int) → List NodeM → List UInt8 → Int → List NodeM → Prop}
end
end Go.Proofs.YtfaljekgpnbmiaaGreat.Pl

/-
  A step and an out of the low form: the program reads them as the reference does.
-/
namespace Go.Proofs.YtfaljekgpnbmiaaGreat.Pl

theorem atR_lt {toks : List (List UInt8)} {i : Nat} (h : atR toks i ≠ []) : i < toks.length ∧ i < 600 := by
  unfold atR at h
  split at h
  · assumption
  · exact absurd rfl h
end Go.Proofs.YtfaljekgpnbmiaaGreat.Pl

/-
  The whole text of the low form: the program's three loops against the reference's one.
-/
namespace Go.Proofs.YtfaljekgpnbmiaaGreat.Pl
set_option linter.unusedVariables false

theorem countD_snoc (names : List DeclM) (d : DeclM) (k : Nat) : countD (names ++ [d]) k = countD names k + (if d.kind = k then 1 else 0) := by
  induction names with
  | nil => simp [countD]
  | cons e names ih => rw [List.cons_append, countD, countD, ih]; omega
end Go.Proofs.YtfaljekgpnbmiaaGreat.Pl

/-
  Contracts of the reference's done and reach: what a step comes to, and how great that may become.
-/
namespace Go.Proofs.YtfaljekgpnbmiaaGreat
open Go.RowKit

theorem text_shape {w : World} {vt vn vk : Value} {toks : List (List UInt8)} {names : List Pl.DeclM} {known : List Int} (h : TextAt w vt vn vk toks names known) : ∃ a1 c1 a2 c2 a3 c3, vt = .slice a1 toks.length c1 ∧ vn = .slice a2 names.length c2 ∧ vk = .slice a3 known.length c3 := by
  obtain ⟨a1, c1, h1⟩ := h.toks.shape
  obtain ⟨a2, c2, h2⟩ := h.names.shape
  obtain ⟨a3, c3, h3, _⟩ := h.known
  exact ⟨a1, c1, a2, c2, a3, c3, h1, h2, h3⟩
end Go.Proofs.YtfaljekgpnbmiaaGreat

/-
  The contract of the reference's Tells: the values of the outs.
-/
namespace Go.Proofs.YtfaljekgpnbmiaaGreat
open Go.RowKit

theorem own_other {w w' : World} {B : Nat} {e : TypeId} {size : Nat} {v : Value} {n : Nat} {xs : List Value} {b : Option Nat} (h : w.ownsRow B e size v n xs) (hg : w.grownBy w' b) (hd : ∀ g, v.ownBlock = some g → b ≠ some g) : w'.ownsRow B e size v n xs := by
  refine ⟨h.1, ?_⟩
  rcases h.2 with hn | ⟨g, cap, cur, rfl, hb, hgg, rest⟩
  · exact .inl hn
  · exact .inr ⟨g, cap, cur, rfl, hb, by rw [hg.block g (lt_of_block hgg) (fun e => hd g (by simp [Value.ownBlock]) e.symm)]; exact hgg, rest⟩
theorem own_lt2 {w : World} {B : Nat} {e : TypeId} {size : Nat} {v : Value} {n : Nat} {xs : List Value} (h : w.ownsRow B e size v n xs) : ∀ g, v.ownBlock = some g → g < w.heap.size := fun g hg => (h.lt g hg).2
/-- Two lists lie in different blocks. -/
def Apart2 (u v : Value) : Prop := ∀ g, u.ownBlock = some g → v.ownBlock ≠ some g
theorem Apart2.nil (v : Value) : Apart2 (.slice none 0 0) v := fun g h => by simp [Value.ownBlock] at h
end Go.Proofs.YtfaljekgpnbmiaaGreat

/-
  Contracts of the reference's Fits and ReadLow.
-/
namespace Go.Proofs.YtfaljekgpnbmiaaGreat
open Go.RowKit

def Pl.fitsF : Nat → List Pl.DeclM → List Int → Bool
  | 0, _, _ => true
  | n + 1, d :: ds, x :: xs => decide (d.lo ≤ x ∧ x ≤ d.hi) && Pl.fitsF n ds xs
  | _, _, _ => true
def Pl.fitsD (names : List Pl.DeclM) (home : List Int) : Bool := decide (home.length = Pl.countD names 105) && Pl.fitsF (Pl.countD names 105) names home
theorem fitsF_step (names : List Pl.DeclM) (home : List Int) (n k : Nat) (h1 : k < names.length) (h2 : k < home.length) (hk : k < n) : Pl.fitsF (n - k) (names.drop k) (home.drop k) = (decide (names[k].lo ≤ home[k] ∧ home[k] ≤ names[k].hi) && Pl.fitsF (n - (k + 1)) (names.drop (k + 1)) (home.drop (k + 1))) := by
  rw [show n - k = (n - (k + 1)) + 1 by omega, List.drop_eq_getElem_cons h1, List.drop_eq_getElem_cons h2, Pl.fitsF]

set_option maxRecDepth 100000 in
set_option maxHeartbeats 1000000 in
theorem Fits_ref (names : List Pl.DeclM) (home : List Int) (vn vh : Value) (w : World) (hn : DeclsAt w vn names) (hh : IntsAt w vh home) (hnl : names.length ≤ 10000) (hhl : home.length ≤ maxLen) :
    Calls Tryz.prog 76 #[vn, vh] w fun e w' => e = .returned (.bool (Pl.fitsD names home)) ∧ ∃ n, w' = w.drewN n := by
  unfold maxLen at hhl
  have hC := hide (count_ref names vn 105 w hn hnl)
  have HN := hide hn
  have HH := hide hh
  have hcl := Pl.countD_le names 105
  obtain ⟨a2, p2, rfl⟩ := hn.shape
  obtain ⟨a3, p3, rfl, _⟩ := hh
  unfold Pl.fitsD
  generalize Pl.countD names 105 = n at *
  clear hn
  by_cases hne : home.length = n
  · have hd : decide (home.length = n) = true := by simp [hne]
    rw [hd, Bool.true_and]
    have hne1 : home.length ≤ n := by omega
    have hne2 : n ≤ home.length := by omega
    have hne0 : ((home.length : Int) != n) = false := by simp; omega
    clear hd hne
    generalize hq : Pl.fitsF n names home = T
    have HQ := hide hq
    clear hq
    go_enter Tryz.func76, Tryz.ntmps76
    go_wp2_with fail
    refine (unhide hC).mono ?_
    rintro e w1 ⟨rfl, hw1⟩
    rw [hw1]
    clear hw1 w1 hC
    go_wp2
    go_loopw [6] (fun i wr => ∃ (k m : Nat), k ≤ n ∧ i = .int .i64 k ∧ wr = w.drewN m ∧ Hid (Pl.fitsF (n - k) (names.drop k) (home.drop k) = T)) (fun i _ => n - (intOf i).toNat)
    case atStart => exact ⟨0, 0, by omega, rfl, rfl, unhide HQ⟩
    case round =>
      obtain ⟨k, m, hk, rfl, rfl, hr⟩ := hrel
      clear HQ
      by_cases hlt : k < n
      · have hst := fitsF_step names home n k (by omega) (by omega) hlt
        obtain ⟨g2, rfl, _, _, e2, e3, _⟩ := decls_get (unhide HN) k (by omega)
        obtain ⟨b3, o3, rfl, c3⟩ := ints_get (unhide HH) k (by omega)
        have hr2 := hr.out
        rw [hst] at hr2
        clear hst hr
        generalize (names[k]'(by omega)).lo = lo at *
        generalize (names[k]'(by omega)).hi = hi at *
        generalize (home[k]'(by omega)) = x at *
        have hkh : k < home.length := by omega
        have hkn : k < names.length := by omega
        by_cases h1 : x < lo
        · have hT : Hid (T = false) := by rw [← hr2, decide_eq_false (by omega)]; rfl
          clear hr2
          go_wp2
          go_quiet (fail)
          go_wp2
          go_ret
          exact ⟨ret_bool hT.out.symm, _, World.drewN_drewN _ _ _⟩
        · by_cases h2 : hi < x
          · have hT : Hid (T = false) := by rw [← hr2, decide_eq_false (by omega)]; rfl
            clear hr2
            go_wp2
            go_quiet (fail)
            go_wp2
            go_ret
            exact ⟨ret_bool hT.out.symm, _, World.drewN_drewN _ _ _⟩
          · have hr3 : Hid (Pl.fitsF (n - (k + 1)) (names.drop (k + 1)) (home.drop (k + 1)) = T) := by rw [decide_eq_true (by omega), Bool.true_and] at hr2; exact hr2
            clear hr2
            go_wp2
            go_quiet (fail)
            go_wp2
            go_roundw
            case rel => exact ⟨k + 1, _, by omega, by go_num, rfl, hr3.out⟩
            case measure => simp [intOf]; omega
      · have hT : Hid (T = true) := by have := hr.out; rw [show n - k = 0 by omega, Pl.fitsF] at this; exact this.symm
        clear hr
        go_wp2
        go_ret
        exact ⟨ret_bool hT.out.symm, _, rfl⟩
  · have hd : decide (home.length = n) = false := by simp [hne]
    rw [hd, Bool.false_and]
    have hne2 : ((home.length : Int) != n) = true := by simp; omega
    clear hd
    go_enter Tryz.func76, Tryz.ntmps76
    go_wp2_with fail
    refine (unhide hC).mono ?_
    rintro e w1 ⟨rfl, hw1⟩
    rw [hw1]
    clear hw1 w1 hC
    go_wp2
    go_ret
    exact ⟨rfl, 0, rfl⟩
end Go.Proofs.YtfaljekgpnbmiaaGreat

/-
  Contracts of the reference's ReadLow, CheckLow, PrintLow, RunLow.
-/
namespace Go.Proofs.YtfaljekgpnbmiaaGreat
open Go.RowKit

/-- What a reading of the reference leaves. -/
structure TextOwn (w : World) (e : Int) (toks : List (List UInt8)) (names : List Pl.DeclM) (vt vn vk : Value) : Prop where
  good : e = 0 → ∃ B, StrsOwn B w vt toks ∧ DeclsOwn B w vn names ∧ vk = .slice none 0 0
  st : ∃ ad n cap, vt = .slice ad n cap
  sn : ∃ ad n cap, vn = .slice ad n cap
  sk : ∃ ad n cap, vk = .slice ad n cap
theorem TextOwn.none (w : World) (e : Int) (toks : List (List UInt8)) (names : List Pl.DeclM) (h : e ≠ 0) : TextOwn w e toks names (.slice none 0 0) (.slice none 0 0) (.slice none 0 0) :=
  ⟨fun h' => absurd h' h, ⟨_, _, _, rfl⟩, ⟨_, _, _, rfl⟩, ⟨_, _, _, rfl⟩⟩
theorem TextOwn.keep {w w' : World} {e : Int} {toks : List (List UInt8)} {names : List Pl.DeclM} {vt vn vk : Value} (h : TextOwn w e toks names vt vn vk) (k : ∀ e : TypeId, 124 ≠ e → KeepT e w w') : TextOwn w' e toks names vt vn vk :=
  ⟨fun h0 => by obtain ⟨B, h1, h2, h3⟩ := h.good h0; exact ⟨B, own_keep h1 (k _ (by decide)), own_keep h2 (k _ (by decide)), h3⟩, h.st, h.sn, h.sk⟩
theorem keep_text {w : World} {g : Nat} {cs : Array Value} (hk : w.heap[g]? = some (.cells cs 124 (0, 0))) (x y z : Value) : ∀ e : TypeId, 124 ≠ e → KeepT e w (((w.setCell ⟨g, 0, none⟩ x).setCell ⟨g, 1, none⟩ y).setCell ⟨g, 2, none⟩ z) := by
  have h1 := heap_setCell_same w g 0 _ _ x hk
  have h2 := heap_setCell_same _ g 1 _ _ y h1
  exact fun e he => ((KeepT.setCell hk he 0 x).trans (KeepT.setCell h1 he 1 y)).trans (KeepT.setCell h2 he 2 z)
theorem text_facts {w : World} {g : Nat} {x y z : Value} {T : TypeId} (h : w.heap[g]? = some (.cells #[x, y, z] T (0, 0))) : w.cell? ⟨g, 0, none⟩ = some x ∧ w.cell? ⟨g, 1, none⟩ = some y ∧ w.cell? ⟨g, 2, none⟩ = some z ∧ w.frozen? ⟨g, 0, none⟩ = false ∧ w.frozen? ⟨g, 1, none⟩ = false ∧ w.frozen? ⟨g, 2, none⟩ = false :=
  ⟨by rw [cellsOf h]; rfl, by rw [cellsOf h]; rfl, by rw [cellsOf h]; rfl, freeOf h 0, freeOf h 1, freeOf h 2⟩
theorem toks_small (l : List UInt8) (hl : l.length ≤ 6000) : (Pl.tokens l).length ≤ 6001 ∧ ∀ t ∈ Pl.tokens l, t.length ≤ 6000 := by
  refine ⟨?_, fun t ht => by have := Pl.tokens_len_aux l [] false t ht; simp at this; omega⟩
  have h1 := Pl.scan_wide l [] false
  have h2 : (Pl.tokens l).length ≤ Pl.wide (Pl.tokens l) := by
    unfold Pl.wide
    generalize Pl.tokens l = K
    induction K with
    | nil => simp
    | cons t r ih => simp; omega
  unfold Pl.tokens at h2 ⊢
  simp at h1; omega

end Go.Proofs.YtfaljekgpnbmiaaGreat

/-
  What was built is in order: every argument has been told; the inputs are those of the plan.
-/
namespace Go.Proofs.YtfaljekgpnbmiaaGreat.Pl

theorem findFrom_append (a b : List DeclM) (t : List UInt8) : ∀ i : Int, 0 ≤ i → 0 ≤ findFrom a t i → findFrom (a ++ b) t i = findFrom a t i := by
  induction a with
  | nil => intro i hi h; rw [findFrom] at h; omega
  | cons d a ih =>
    intro i hi h
    rw [List.cons_append, findFrom]
    rw [findFrom] at h ⊢
    by_cases hn : d.name = t
    · rw [if_pos hn, if_pos hn]
    · rw [if_neg hn] at h ⊢
      rw [if_neg hn]
      exact ih (i + 1) (by omega) h
theorem fitsF_home (n : Nat) : ∀ (names : List DeclM) (home : List Int), n ≤ names.length → home.length = n → fitsF n names home = homeFrom ((names.take n).map fun d => (d.lo, d.hi)) home := by
  induction n with
  | zero => intro names home _ _; cases home <;> rfl
  | succ n ih =>
    intro names home h1 h2
    cases names with
    | nil => simp at h1
    | cons d names =>
      cases home with
      | nil => simp at h2
      | cons x home =>
        rw [fitsF, ih names home (by simpa using h1) (by simpa using h2)]
        rfl
end Go.Proofs.YtfaljekgpnbmiaaGreat.Pl

/-
  The bounds: the program's big is the reference's wide.
-/
namespace Go.Proofs.YtfaljekgpnbmiaaGreat.Pl
open Go.RowKit

theorem pickL_zeros (l : List Int) (k : Nat) (i : Int) : pickL (l ++ List.replicate k 0) i = pickL l i := by
  unfold pickL
  by_cases h : 0 ≤ i ∧ i < l.length
  · rw [if_pos (by simp; omega), if_pos h, List.getD_eq_getElem?_getD, List.getD_eq_getElem?_getD, List.getElem?_append_left (by omega)]
  · rw [if_neg h]
    split
    · rename_i hc
      rw [List.getD_eq_getElem?_getD, List.getElem?_append_right (by omega)]
      rw [List.getElem?_replicate]
      split <;> rfl
    · rfl
theorem nodeBound_zeros (ins : List (Int × Int)) (n : NodeM) (bs : List Int) (k : Nat) : nodeBoundW ins n (bs ++ List.replicate k 0) = nodeBoundW ins n bs := by
  unfold nodeBoundW; simp only [pickL_zeros]
theorem nodeValue_zeros (n : NodeM) (vs home : List Int) (k : Nat) : nodeValueW n (vs ++ List.replicate k 0) home = nodeValueW n vs home := by
  unfold nodeValueW; simp only [pickL_zeros]
def boundsF (ins : List (Int × Int)) : List NodeM → List Int → List Int
  | [], bs => bs
  | n :: l, bs => boundsF ins l (bs ++ [nodeBoundW ins n bs])
def valsF (home : List Int) : List NodeM → List Int → List Int
  | [], vs => vs
  | n :: l, vs => valsF home l (vs ++ [nodeValueW n vs home])
theorem valuesFrom_eq (len : Nat) (home : List Int) (l : List NodeM) : ∀ vs, valuesFrom len home l vs = valsF home l vs := by
  induction l with
  | nil => intro vs; rfl
  | cons n l ih => intro vs; rw [valuesFrom, valsF, nodeValue_zeros, ih]
theorem boundsF_append (ins : List (Int × Int)) (a b : List NodeM) : ∀ bs, boundsF ins (a ++ b) bs = boundsF ins b (boundsF ins a bs) := by
  induction a with
  | nil => intro bs; rfl
  | cons n a ih => intro bs; rw [List.cons_append, boundsF, boundsF, ih]
theorem valsF_append (home : List Int) (a b : List NodeM) : ∀ vs, valsF home (a ++ b) vs = valsF home b (valsF home a vs) := by
  induction a with
  | nil => intro vs; rfl
  | cons n a ih => intro vs; rw [List.cons_append, valsF, valsF, ih]
theorem boundsF_ext (ins : List (Int × Int)) (a : List NodeM) : ∀ bs, ∃ t, boundsF ins a bs = bs ++ t ∧ t.length = a.length := by
  induction a with
  | nil => intro bs; exact ⟨[], by simp [boundsF], rfl⟩
  | cons n a ih => intro bs; obtain ⟨t, h, h2⟩ := ih (bs ++ [nodeBoundW ins n bs]); exact ⟨nodeBoundW ins n bs :: t, by rw [boundsF, h]; simp, by simp [h2]⟩
theorem valsF_ext (home : List Int) (a : List NodeM) : ∀ vs, ∃ t, valsF home a vs = vs ++ t ∧ t.length = a.length := by
  induction a with
  | nil => intro vs; exact ⟨[], by simp [valsF], rfl⟩
  | cons n a ih => intro vs; obtain ⟨t, h, h2⟩ := ih (vs ++ [nodeValueW n vs home]); exact ⟨nodeValueW n vs home :: t, by rw [valsF, h]; simp, by simp [h2]⟩
theorem pickL_append {l t : List Int} {i : Int} (h : i < l.length) : pickL (l ++ t) i = pickL l i := by
  unfold pickL
  by_cases h0 : 0 ≤ i
  · rw [if_pos (by simp; omega), if_pos ⟨h0, h⟩, List.getD_eq_getElem?_getD, List.getD_eq_getElem?_getD, List.getElem?_append_left (by omega)]
  · rw [if_neg (by omega), if_neg (by omega)]
theorem pickL_last (l : List Int) (x : Int) : pickL (l ++ [x]) l.length = x := by
  unfold pickL; rw [if_pos (by simp; omega)]; simp
def over (b : Int) : Bool := decide (1000000000000000 < b)
theorem bigFrom_eq (ins : List (Int × Int)) (len : Nat) (l : List NodeM) : ∀ bs t, boundsF ins l bs = bs ++ t → bigFrom ins len l bs = t.any over := by
  induction l with
  | nil => intro bs t h; rw [boundsF] at h; have : t = [] := List.append_right_eq_self.1 h.symm; rw [this]; rfl
  | cons n l ih =>
    intro bs t h
    rw [boundsF] at h
    rw [bigFrom, nodeBound_zeros]
    obtain ⟨t', h2, _⟩ := boundsF_ext ins l (bs ++ [nodeBoundW ins n bs])
    have ht : t = nodeBoundW ins n bs :: t' := by
      rw [h2, List.append_assoc] at h
      exact (List.append_cancel_left h).symm
    rw [ht, List.any_cons, ih _ _ h2]
    unfold over
    by_cases hb : 1000000000000000 < nodeBoundW ins n bs
    · rw [if_pos hb, decide_eq_true hb]; rfl
    · rw [if_neg hb, decide_eq_false hb]; rfl
end Go.Proofs.YtfaljekgpnbmiaaGreat.Pl

/-
  What the table of the text comes to: 0 at its first threshold; from each number to the next it grows by the band's rate.
-/
namespace Go.Proofs.YtfaljekgpnbmiaaGreat.Pl
open Go.RowKit

theorem wrap_id (n : Int) (h : -9223372036854775808 ≤ n) (h' : n ≤ 9223372036854775807) : wrap64 n = n := by unfold wrap64; omega
theorem absW_small (n : Int) (h : -1000000000 ≤ n) (h' : n ≤ 1000000000) : absW n = if n < 0 then -n else n := by
  unfold absW; split
  · exact wrap_id _ (by omega) (by omega)
  · rfl
end Go.Proofs.YtfaljekgpnbmiaaGreat.Pl

/-
  The program's big is the reference's wide.
-/
namespace Go.Proofs.YtfaljekgpnbmiaaGreat.Pl
open Go.RowKit

theorem boundsF_len (ins : List (Int × Int)) (nodes : List NodeM) : (boundsF ins nodes []).length = nodes.length := by
  obtain ⟨t, h, h2⟩ := boundsF_ext ins nodes []
  rw [h]; simpa using h2
theorem absW_num (n : Int) (h : -1000000000 ≤ n ∧ n ≤ 1000000000) : absW n = absv n := by
  rw [absW_small n h.1 h.2]; rfl
theorem over_small {b : Int} (h : b ≤ 1000000000) : over b = false := by unfold over; rw [decide_eq_false_iff_not]; omega
theorem absv_small {n : Int} (h : -1000000000 ≤ n ∧ n ≤ 1000000000) : absv n ≤ 1000000000 := by unfold absv; split <;> omega
theorem boundsF_ins (ins : List (Int × Int)) (x : Int × Int) (nodes : List NodeM) (h : ∀ n ∈ nodes, n.op = 1 → 0 ≤ n.k ∧ n.k < ins.length) : ∀ bs, boundsF (ins ++ [x]) nodes bs = boundsF ins nodes bs := by
  induction nodes with
  | nil => intro bs; rfl
  | cons n nodes ih =>
    intro bs
    have e : nodeBoundW (ins ++ [x]) n bs = nodeBoundW ins n bs := by
      unfold nodeBoundW
      by_cases h1 : n.op = 1
      · have hk := h n (by simp) h1
        have h0 : ¬ n.op = 0 := by omega
        rw [if_neg h0, if_neg h0, if_pos h1, if_pos h1]
        unfold inputBoundW
        rw [if_pos (by simp; omega), if_pos ⟨hk.1, hk.2⟩, List.getD_eq_getElem?_getD, List.getElem?_append_left (by omega), ← List.getD_eq_getElem?_getD]
      · by_cases h0 : n.op = 0
        · rw [if_pos h0, if_pos h0]
        · rw [if_neg h0, if_neg h0, if_neg h1, if_neg h1]
    rw [boundsF, boundsF, e, ih (fun m hm => h m (by simp [hm]))]
end Go.Proofs.YtfaljekgpnbmiaaGreat.Pl

/-
  The program's big is the reference's wide: of all that was built.
-/
namespace Go.Proofs.YtfaljekgpnbmiaaGreat.Pl
open Go.RowKit

theorem any_snoc_ne {l : List NodeM} {x : NodeM} (h : ∀ n ∈ l, n.op ≠ 1) (hx : x.op ≠ 1) : ∀ n ∈ l ++ [x], n.op ≠ 1 := by
  intro n hn
  rcases List.mem_append.1 hn with hn | hn
  · exact h n hn
  · rw [List.mem_singleton] at hn; subst hn; exact hx
theorem greater_most (a b : Int) : greater a b = most a b := rfl
end Go.Proofs.YtfaljekgpnbmiaaGreat.Pl

/-
  Values: what the program reckons is what the reference reckons. An argument, a flag.
-/
namespace Go.Proofs.YtfaljekgpnbmiaaGreat.Pl
open Go.RowKit

/-- A name is no number. -/
theorem rName_number {t : List UInt8} (h : rName t = true) : (number t).2 = false := by
  unfold rName at h
  simp only [Bool.and_eq_true] at h
  obtain ⟨⟨⟨h1, _⟩, h3⟩, _⟩ := h
  cases t with
  | nil => simp at h1
  | cons c r =>
    rw [namedFrom] at h3
    simp only [Bool.and_eq_true] at h3
    have hl : isLet c = true := by
      have := h3.1
      unfold okAt at this
      simpa using this
    have hc : 97 ≤ c.toNat := by unfold isLet at hl; simp at hl; exact hl.1
    have h45 : c ≠ 45 := by rintro rfl; exact absurd hc (by decide)
    have h48 : c ≠ 48 := by rintro rfl; exact absurd hc (by decide)
    have hd : isDig c = false := by unfold isDig; rw [decide_eq_false_iff_not]; omega
    rw [number_pos c r h45 (by intro h; cases h; exact h48 rfl) h48, numRest_none _ _ (by rw [numLoop, if_neg (by simp [hd])])]
theorem findEnt_name {es : List (List UInt8 × Int × Int)} {t : List UInt8} (h : findEnt es t < es.length) : es[findEnt es t].1 = t := by
  induction es with
  | nil => simp at h
  | cons e es ih =>
    by_cases he : e.1 = t
    · have : findEnt (e :: es) t = 0 := by rw [findEnt, if_pos he]
      simp only [this]; exact he
    · have e1 : findEnt (e :: es) t = findEnt es t + 1 := by rw [findEnt, if_neg he]
      simp only [e1, List.getElem_cons_succ]
      rw [e1] at h
      exact ih (by simpa using h)
theorem mul_abs (n v B : Int) (h : -B ≤ v) (h' : v ≤ B) : -(absv n * B) ≤ n * v ∧ n * v ≤ absv n * B := by
  unfold absv
  split
  · have a := Int.mul_le_mul_of_nonneg_left h' (show 0 ≤ -n by omega)
    have b := Int.mul_le_mul_of_nonneg_left h (show 0 ≤ -n by omega)
    simp only [Int.neg_mul, Int.mul_neg] at *
    omega
  · have a := Int.mul_le_mul_of_nonneg_left h' (show 0 ≤ n by omega)
    have b := Int.mul_le_mul_of_nonneg_left h (show 0 ≤ n by omega)
    simp only [Int.mul_neg] at *
    omega
theorem div_bd (a d A : Int) (hd : 1 ≤ d) (h : -A ≤ a) (h' : a ≤ A) : -A ≤ a / d ∧ a / d ≤ A := by
  have hA : A ≤ A * d := by
    have := Int.mul_le_mul_of_nonneg_left hd (show 0 ≤ A by omega)
    omega
  refine ⟨Int.le_ediv_of_mul_le (by omega) ?_, Int.ediv_le_of_le_mul (by omega) (by omega)⟩
  rw [Int.neg_mul]; omega
end Go.Proofs.YtfaljekgpnbmiaaGreat.Pl

/-
  Values of all that was built; the whole low form: the program answers as the reference.
-/
namespace Go.Proofs.YtfaljekgpnbmiaaGreat.Pl
open Go.RowKit

def outVals : List DeclM → List Int → List Int
  | d :: ds, x :: xs => if d.kind = 111 then x :: outVals ds xs else outVals ds xs
  | _, _ => []
theorem outVals_snoc (names : List DeclM) (d : DeclM) (x : Int) : ∀ K : List Int, K.length = names.length → outVals (names ++ [d]) (K ++ [x]) = outVals names K ++ (if d.kind = 111 then [x] else []) := by
  induction names with
  | nil =>
    intro K hK
    have : K = [] := List.eq_nil_of_length_eq_zero hK
    subst this
    simp [outVals]
  | cons e names ih =>
    intro K hK
    cases K with
    | nil => simp at hK
    | cons y K =>
      rw [List.cons_append, List.cons_append, outVals, outVals, ih K (by simpa using hK)]
      by_cases he : e.kind = 111
      · rw [if_pos he, if_pos he]; rfl
      · rw [if_neg he, if_neg he]
theorem snoc_cases {α : Type} {l : List α} {x : α} {j : Nat} (hj : j < (l ++ [x]).length) : (∃ h : j < l.length, (l ++ [x])[j] = l[j]) ∨ (j = l.length ∧ (l ++ [x])[j] = x) := by
  by_cases h : j < l.length
  · exact .inl ⟨h, List.getElem_append_left h⟩
  · have : j = l.length := by simp at hj; omega
    subst this
    exact .inr ⟨rfl, by simp⟩
def HomeOk (ins : List (Int × Int)) (home : List Int) : Prop := ins.length ≤ home.length ∧ ∀ j, (hj : j < ins.length) → (hk : j < home.length) → ins[j].1 ≤ home[j] ∧ home[j] ≤ ins[j].2
theorem HomeOk.of (ins : List (Int × Int)) : ∀ home : List Int, home.length = ins.length → homeFrom ins home = true → HomeOk ins home := by
  induction ins with
  | nil => intro home hl _; exact ⟨by simp, fun j hj => by simp at hj⟩
  | cons p ins ih =>
    intro home hl h
    cases home with
    | nil => simp at hl
    | cons x home =>
      rw [homeFrom] at h
      simp only [Bool.and_eq_true, decide_eq_true_eq] at h
      obtain ⟨q1, q2⟩ := ih home (by simpa using hl) h.2
      refine ⟨by simp at hl ⊢; omega, fun j hj hk => ?_⟩
      cases j with
      | zero => exact h.1
      | succ j => exact q2 j (by simpa using hj) (by simpa using hk)
theorem HomeOk.init {ins : List (Int × Int)} {x : Int × Int} {home : List Int} (h : HomeOk (ins ++ [x]) home) : HomeOk ins home := by
  obtain ⟨h1, h2⟩ := h
  simp at h1
  refine ⟨by omega, fun j hj hk => ?_⟩
  have := h2 j (by simp; omega) hk
  rw [List.getElem_append_left hj] at this
  exact this
end Go.Proofs.YtfaljekgpnbmiaaGreat.Pl
