/- Joined: Ref12 Eq2 Eq3. -/
import Derived.Test.YtfaljekgpnbmiaaGreatL21
/-
  Contracts of the reference's yes, two, value and bound.
-/
namespace Go.Proofs.YtfaljekgpnbmiaaGreat
open Go.RowKit

def Pl.knownAt (known : List Int) (i : Int) : Int := known.getD i.toNat 0
def Pl.valueR (toks : List (List UInt8)) (names : List Pl.DeclM) (known : List Int) (i : Nat) : Int :=
  if (Pl.number (toks.getD i [])).2 = true then (Pl.number (toks.getD i [])).1 else Pl.knownAt known (Pl.findD names (toks.getD i []))
def Pl.boundR (toks : List (List UInt8)) (names : List Pl.DeclM) (known : List Int) (i : Nat) : Int :=
  if (Pl.number (toks.getD i [])).2 = true then Pl.absv (Pl.number (toks.getD i [])).1 else Pl.knownAt known (Pl.findD names (toks.getD i []))
/-- Token i is an argument or a flag that has been told. -/
def Pl.Told (toks : List (List UInt8)) (names : List Pl.DeclM) (n : Nat) (i : Nat) : Prop :=
  i < toks.length ∧ ((Pl.number (toks.getD i [])).2 = true ∨ ∃ k : Nat, Pl.findD names (toks.getD i []) = (k : Int) ∧ k < n)
/-- Where a text of the reference lies. -/
structure TextAt (w : World) (vt vn vk : Value) (toks : List (List UInt8)) (names : List Pl.DeclM) (known : List Int) : Prop where
  toks : StrsAt w vt toks
  names : DeclsAt w vn names
  known : IntsAt w vk known
theorem TextAt.below {w w' : World} {vt vn vk : Value} {toks : List (List UInt8)} {names : List Pl.DeclM} {known : List Int} (h : TextAt w vt vn vk toks names known) (hb : Below w.heap.size w w') : TextAt w' vt vn vk toks names known := ⟨h.toks.below hb, h.names.below hb, h.known.below hb⟩

theorem Pl.numLoop_bd (l : List UInt8) : ∀ (a : Int), 0 ≤ a → ∀ m, Pl.numLoop l a = some m → 0 ≤ m ∧ (l = [] → m = a) ∧ (l ≠ [] → m ≤ 1000000000) := by
  induction l with
  | nil => intro a ha m h; rw [Pl.numLoop] at h; cases h; exact ⟨ha, fun _ => rfl, fun h => absurd rfl h⟩
  | cons c l ih =>
    intro a ha m h
    rw [Pl.numLoop] at h
    split at h
    · rename_i hd
      split at h
      · cases h
      · rename_i hle
        have hdd : (48 : Int) ≤ c.toNat := by simp [Pl.isDig] at hd; omega
        have := ih _ (by omega) m h
        refine ⟨this.1, fun e => (by cases e), fun _ => ?_⟩
        by_cases hl : l = []
        · rw [this.2.1 hl]; omega
        · exact this.2.2 hl
    · cases h
theorem Pl.numRest_bd (neg : Bool) (d : List UInt8) (hd : d ≠ []) : -1000000000 ≤ (Pl.numRest neg d).1 ∧ (Pl.numRest neg d).1 ≤ 1000000000 := by
  unfold Pl.numRest
  split
  · simp
  · rename_i n hn
    have := Pl.numLoop_bd d 0 (by omega) n hn
    have h2 := this.2.2 hd
    have h1 := this.1
    cases neg <;> simp <;> omega
theorem Pl.number_bd (t : List UInt8) : -1000000000 ≤ (Pl.number t).1 ∧ (Pl.number t).1 ≤ 1000000000 := by
  have hd : ∀ neg (d : List UInt8), -1000000000 ≤ (Pl.numDigs neg d).1 ∧ (Pl.numDigs neg d).1 ≤ 1000000000 := by
    intro neg d
    unfold Pl.numDigs
    split
    · simp
    · split
      · simp
      · rename_i h
        exact Pl.numRest_bd neg d (by intro e; subst e; exact h (.inl rfl))
  unfold Pl.number
  split
  · exact hd _ _
  · exact hd _ _
set_option maxHeartbeats 400000 in
theorem yes_ref (b : Bool) (w : World) : Calls Tryz.prog 159 #[.bool b] w fun e w' => e = .returned (.int .i64 (if b then 1 else 0)) ∧ w' = w := by
  cases b
  all_goals
    go_enter Tryz.func159, Tryz.ntmps159
    go_wp2
    go_ret
    exact ⟨rfl, rfl⟩
set_option maxHeartbeats 400000 in
theorem two_add (a b : Int) (w : World) : Calls Tryz.prog 150 #[.string ⟨Pl.kAdd.toArray⟩, .int .i64 a, .int .i64 b] w fun e w' => e = .returned (.int .i64 (wrap64 (a + b))) ∧ w' = w := by
  unfold Pl.kAdd
  go_enter Tryz.func150, Tryz.ntmps150
  go_wp2
  go_ret
  exact ⟨rfl, rfl⟩
set_option maxHeartbeats 400000 in
theorem two_sub (a b : Int) (w : World) : Calls Tryz.prog 150 #[.string ⟨Pl.kSub.toArray⟩, .int .i64 a, .int .i64 b] w fun e w' => e = .returned (.int .i64 (wrap64 (a - b))) ∧ w' = w := by
  unfold Pl.kSub
  go_enter Tryz.func150, Tryz.ntmps150
  go_wp2
  go_ret
  exact ⟨rfl, rfl⟩

set_option maxRecDepth 100000 in
set_option maxHeartbeats 1000000 in
theorem value_ref (toks : List (List UInt8)) (names : List Pl.DeclM) (known : List Int) (vt vn vk : Value) (i : Nat) (j : Int) (w : World) (h : TextAt w vt vn vk toks names known) (hT : Pl.Told toks names known.length i) (hj : j = (i : Int)) (_ : toks.length ≤ 10000) (hnl : names.length ≤ 10000) (ht6 : ∀ t ∈ toks, t.length ≤ 6000) :
    Calls Tryz.prog 117 #[.agg #[vt, vn, vk], .int .i64 j] w fun e w' => e = .returned (.int .i64 (Pl.valueR toks names known i)) ∧ Below w.heap.size w w' := by
  subst hj
  obtain ⟨hi, hT⟩ := hT
  have htl : (toks.getD i []).length ≤ 6000 := by rw [List.getD_eq_getElem?_getD, List.getElem?_eq_getElem hi]; exact ht6 _ (List.getElem_mem _)
  have hN := hide (fun w1 => RNumber_any (toks.getD i []) w1 (by unfold maxLen; omega))
  have hF := hide (fun w1 (hb : Below w.heap.size w w1) => find_ref names vn (toks.getD i []) w1 (h.names.below hb) hnl)
  obtain ⟨adt, capt, hvt⟩ := h.toks.shape
  obtain ⟨adn, capn, hvn⟩ := h.names.shape
  obtain ⟨adk, nk, capk, hvk⟩ : ∃ ad n cap, vk = .slice ad n cap := by obtain ⟨x, y, e, _⟩ := h.known; exact ⟨_, _, _, e⟩
  subst hvt hvn hvk
  obtain ⟨gt, rfl, hct⟩ := h.toks.get i hi
  have hb0 : ∀ a, Below w.heap.size w (w.alloc a) := fun a => (Below.refl _ w).alloc (Nat.le_refl _) a
  have hct2 := fun a => cell_low (hb0 a) (lt_of_cell hct) hct
  have hkn : nk = known.length := by obtain ⟨x, y, e, _⟩ := h.known; simp only [Value.slice.injEq] at e; exact e.2.1
  subst hkn
  unfold Pl.valueR
  have HK := hide h.known
  have HB := hide hb0
  generalize toks.getD i [] = t at *
  clear h hct ht6 hb0
  cases hn : Pl.number t with
  | mk n ok =>
  simp only [hn] at hN hT
  cases ok with
  | true =>
    simp only [if_true]
    clear hF hT HK
    go_enter Tryz.func117, Tryz.ntmps117
    go_wp2_with fail
    refine (unhide hN _).mono ?_
    rintro e w1 ⟨rfl, hw1⟩
    rw [hw1]
    clear hw1 w1 hN
    go_wp2
    go_ret
    exact ⟨rfl, unhide HB _⟩
  | false =>
    obtain ⟨k, hk1, hk2⟩ : ∃ k : Nat, Pl.findD names t = (k : Int) ∧ k < known.length := by rcases hT with h | h; cases h; exact h
    obtain ⟨bk, ok, rfl, hck⟩ := ints_get (unhide HK) k hk2
    have hck2 := fun a => cell_low (unhide HB a) (lt_of_cell hck) hck
    have hkv : Pl.knownAt known (Pl.findD names t) = known.getD k 0 := by rw [hk1]; rfl
    rw [hk1] at hF
    simp only [Bool.false_eq_true, if_false]
    rw [hkv]
    have hkg : known.getD k 0 = known[k] := by rw [List.getD_eq_getElem?_getD, List.getElem?_eq_getElem hk2]; rfl
    rw [hkg]
    generalize known[k] = kv at *
    clear hck hkv hT hk1 hn HK hkg
    go_enter Tryz.func117, Tryz.ntmps117
    go_wp2_with fail
    refine (unhide hN _).mono ?_
    rintro e w1 ⟨rfl, hw1⟩
    rw [hw1]
    clear hw1 w1 hN
    go_wp2_with fail
    have hf' : Hid (∀ m : Nat, Calls Tryz.prog 155 #[.slice adn names.length capn, .string ⟨t.toArray⟩] ((w.alloc (.cells #[.slice (some ⟨gt, 0, none⟩) toks.length capt, .slice adn names.length capn, .slice (some ⟨bk, ok, none⟩) known.length capk] 124)).drewN m) fun e w' => e = .returned (.int .i64 k) ∧ w' = (w.alloc (.cells #[.slice (some ⟨gt, 0, none⟩) toks.length capt, .slice adn names.length capn, .slice (some ⟨bk, ok, none⟩) known.length capk] 124)).drewN m) := fun m => unhide hF _ (below_drewN (unhide HB _) m)
    clear hF
    go_quiet ((go_at_call 155; exact Calls.quiet_of_same (hf'.out _)))
    clear hf'
    go_wp2
    go_ret
    exact ⟨rfl, below_drewN (unhide HB _) _⟩

set_option maxRecDepth 100000 in
set_option maxHeartbeats 1000000 in
theorem bound_ref (toks : List (List UInt8)) (names : List Pl.DeclM) (known : List Int) (vt vn vk : Value) (i : Nat) (j : Int) (w : World) (h : TextAt w vt vn vk toks names known) (hT : Pl.Told toks names known.length i) (hj : j = (i : Int)) (_ : toks.length ≤ 10000) (hnl : names.length ≤ 10000) (ht6 : ∀ t ∈ toks, t.length ≤ 6000) :
    Calls Tryz.prog 211 #[.agg #[vt, vn, vk], .int .i64 j] w fun e w' => e = .returned (.int .i64 (Pl.boundR toks names known i)) ∧ Below w.heap.size w w' := by
  subst hj
  obtain ⟨hi, hT⟩ := hT
  have htl : (toks.getD i []).length ≤ 6000 := by rw [List.getD_eq_getElem?_getD, List.getElem?_eq_getElem hi]; exact ht6 _ (List.getElem_mem _)
  have hN := hide (fun w1 => RNumber_any (toks.getD i []) w1 (by unfold maxLen; omega))
  have hF := hide (fun w1 (hb : Below w.heap.size w w1) => find_ref names vn (toks.getD i []) w1 (h.names.below hb) hnl)
  obtain ⟨adt, capt, hvt⟩ := h.toks.shape
  obtain ⟨adn, capn, hvn⟩ := h.names.shape
  obtain ⟨adk, nk, capk, hvk⟩ : ∃ ad n cap, vk = .slice ad n cap := by obtain ⟨x, y, e, _⟩ := h.known; exact ⟨_, _, _, e⟩
  subst hvt hvn hvk
  obtain ⟨gt, rfl, hct⟩ := h.toks.get i hi
  have hb0 : ∀ a, Below w.heap.size w (w.alloc a) := fun a => (Below.refl _ w).alloc (Nat.le_refl _) a
  have hct2 := fun a => cell_low (hb0 a) (lt_of_cell hct) hct
  have hkn : nk = known.length := by obtain ⟨x, y, e, _⟩ := h.known; simp only [Value.slice.injEq] at e; exact e.2.1
  subst hkn
  unfold Pl.boundR
  have HK := hide h.known
  have HB := hide hb0
  generalize toks.getD i [] = t at *
  clear h hct ht6 hb0
  cases hn : Pl.number t with
  | mk n ok =>
  simp only [hn] at hN hT
  cases ok with
  | true =>
    simp only [if_true]
    have hap := hide (fun w1 => apart_any n w1 (by have := Pl.number_bd t; rw [hn] at this; simp at this; omega) (by have := Pl.number_bd t; rw [hn] at this; simp at this; omega))
    clear hF hT HK
    go_enter Tryz.func211, Tryz.ntmps211
    go_wp2_with fail
    refine (unhide hN _).mono ?_
    rintro e w1 ⟨rfl, hw1⟩
    rw [hw1]
    clear hw1 w1 hN
    go_wp2_with fail
    refine (unhide hap _).mono ?_
    rintro e w1 ⟨rfl, hw1⟩
    rw [hw1]
    clear hw1 w1 hap
    go_wp2
    go_ret
    exact ⟨rfl, unhide HB _⟩
  | false =>
    obtain ⟨k, hk1, hk2⟩ : ∃ k : Nat, Pl.findD names t = (k : Int) ∧ k < known.length := by rcases hT with h | h; cases h; exact h
    obtain ⟨bk, ok, rfl, hck⟩ := ints_get (unhide HK) k hk2
    have hck2 := fun a => cell_low (unhide HB a) (lt_of_cell hck) hck
    have hkv : Pl.knownAt known (Pl.findD names t) = known.getD k 0 := by rw [hk1]; rfl
    rw [hk1] at hF
    simp only [Bool.false_eq_true, if_false]
    rw [hkv]
    have hkg : known.getD k 0 = known[k] := by rw [List.getD_eq_getElem?_getD, List.getElem?_eq_getElem hk2]; rfl
    rw [hkg]
    generalize known[k] = kv at *
    clear hck hkv hT hk1 hn HK hkg
    go_enter Tryz.func211, Tryz.ntmps211
    go_wp2_with fail
    refine (unhide hN _).mono ?_
    rintro e w1 ⟨rfl, hw1⟩
    rw [hw1]
    clear hw1 w1 hN
    go_wp2_with fail
    have hf' : Hid (∀ m : Nat, Calls Tryz.prog 155 #[.slice adn names.length capn, .string ⟨t.toArray⟩] ((w.alloc (.cells #[.slice (some ⟨gt, 0, none⟩) toks.length capt, .slice adn names.length capn, .slice (some ⟨bk, ok, none⟩) known.length capk] 124)).drewN m) fun e w' => e = .returned (.int .i64 k) ∧ w' = (w.alloc (.cells #[.slice (some ⟨gt, 0, none⟩) toks.length capt, .slice adn names.length capn, .slice (some ⟨bk, ok, none⟩) known.length capk] 124)).drewN m) := fun m => unhide hF _ (below_drewN (unhide HB _) m)
    clear hF
    go_quiet ((go_at_call 155; exact Calls.quiet_of_same (hf'.out _)))
    clear hf'
    go_wp2
    go_ret
    exact ⟨rfl, below_drewN (unhide HB _) _⟩
end Go.Proofs.YtfaljekgpnbmiaaGreat

/-
  One declaration of the low form: the program reads it as the reference does.
-/
namespace Go.Proofs.YtfaljekgpnbmiaaGreat.Pl

theorem skip_pos {r : RdM} (h : r.peek ≠ []) : r.skip = ⟨r.ins, r.nodes, r.outs, r.toks, r.pos + 1, r.ents⟩ := (skip_of h).1
theorem num_wide (r : RdM) : r.num (-1000000000) 1000000000 = if (number r.peek).2 = true then some (number r.peek).1 else none := by
  have := number_bd r.peek
  unfold RdM.num
  by_cases h : (number r.peek).2 = true
  · rw [if_pos ⟨h, this⟩, if_pos h]
  · rw [if_neg (fun hc => h hc.1), if_neg h]
theorem num_within (r : RdM) (lo hi : Int) : r.num lo hi = if within r.peek lo hi = true then some (number r.peek).1 else none := by
  unfold RdM.num within
  by_cases h : (number r.peek).2 = true ∧ lo ≤ (number r.peek).1 ∧ (number r.peek).1 ≤ hi
  · rw [if_pos h, if_pos (by simp [h.1, h.2.1, h.2.2])]
  · rw [if_neg h, if_neg (by intro hc; simp at hc; exact h ⟨hc.1.1, hc.1.2, hc.2⟩)]
theorem number_ne {t : List UInt8} (h : (number t).2 = true) : t ≠ [] := by rintro rfl; rw [number_nil] at h; cases h

theorem input_eq {names : List DeclM} {r : RdM} {i : Nat} (hR : RelL names r.ents) (hp : r.pos = i + 1) :
    (∃ p, inputD r.toks names i = .inr p ∧ (inputR r).1 = false ∧ (inputR r).2.pos = p) ∨
    (∃ d, inputD r.toks names i = .inl d ∧ d.kind = 105 ∧ d.name ≠ [] ∧ d.pos = i ∧ -1000000000 ≤ d.lo ∧ d.lo ≤ d.hi ∧ d.hi ≤ 1000000000 ∧ i + 4 ≤ 600 ∧ i + 4 ≤ r.toks.length ∧
      inputR r = (true, ⟨r.ins ++ [(d.lo, d.hi)], r.nodes ++ [⟨1, 0, 0, 0, r.ins.length, []⟩], r.outs, r.toks, i + 4, r.ents ++ [(d.name, 0, (r.nodes.length : Int))]⟩)) := by
  obtain ⟨ins, nodes, outs, toks, pos, ents⟩ := r
  simp only at hR hp ⊢
  subst hp
  have hnn := RelL.newName (r := ⟨ins, nodes, outs, toks, i + 1, ents⟩) hR
  simp only at hnn
  unfold inputD inputR
  rw [hnn]
  cases hf : fresh names (atR toks (i + 1)) with
  | false => left; exact ⟨i + 1, by rw [if_pos rfl], by simp⟩
  | true =>
    have hne := hR.fresh_ne hf
    rw [if_neg (by simp), if_pos rfl]
    simp only
    have hs1 : RdM.skip ⟨ins, nodes, outs, toks, i + 1, ents⟩ = ⟨ins, nodes, outs, toks, i + 1 + 1, ents⟩ := skip_pos (by rw [peek_atR]; exact hne)
    rw [hs1, num_wide, peek_atR]
    simp only
    have hb2 := number_bd (atR toks (i + 2))
    cases hn2 : (number (atR toks (i + 2))).2 with
    | false => left; exact ⟨i + 2, by rw [if_pos rfl], by simp⟩
    | true =>
      rw [if_neg (by simp), if_pos rfl]
      simp only
      have hs2 : RdM.skip ⟨ins, nodes, outs, toks, i + 1 + 1, ents⟩ = ⟨ins, nodes, outs, toks, i + 1 + 1 + 1, ents⟩ := skip_pos (by rw [peek_atR]; exact number_ne hn2)
      rw [hs2, num_within, peek_atR]
      simp only
      have hb3 := number_bd (atR toks (i + 3))
      by_cases hc : (number (atR toks (i + 3))).2 = false ∨ (number (atR toks (i + 3))).1 < (number (atR toks (i + 2))).1
      · left
        refine ⟨i + 3, by rw [if_pos hc], ?_⟩
        rw [if_neg (by show ¬ within (atR toks (i + 3)) (number (atR toks (i + 2))).1 1000000000 = true; unfold within; rcases hc with h | h; simp [h]; simp; intro _ h2; omega)]
        exact ⟨rfl, rfl⟩
      · right
        have hc1 : (number (atR toks (i + 3))).2 = true := by cases h : (number (atR toks (i + 3))).2 <;> simp_all
        have hc2 : (number (atR toks (i + 2))).1 ≤ (number (atR toks (i + 3))).1 := by simp only [not_or] at hc; omega
        have hs3 : RdM.skip ⟨ins, nodes, outs, toks, i + 1 + 1 + 1, ents⟩ = ⟨ins, nodes, outs, toks, i + 1 + 1 + 1 + 1, ents⟩ := skip_pos (by rw [peek_atR]; exact number_ne hc1)
        have hl3 : i + 3 < toks.length ∧ i + 3 < 600 := by
          have := number_ne hc1
          unfold atR at this
          split at this
          · assumption
          · exact absurd rfl this
        refine ⟨_, by rw [if_neg hc], rfl, hne, rfl, hb2.1, hc2, hb3.2, by omega, by omega, ?_⟩
        rw [if_pos (by show within (atR toks (i + 3)) (number (atR toks (i + 2))).1 1000000000 = true; unfold within; simp [hc1, hc2, hb3.2])]
        simp only
        rw [hs3]
        rfl

end Go.Proofs.YtfaljekgpnbmiaaGreat.Pl

/-
  What a step takes: the program reads it as the reference does, and what nodes it lays.
-/
namespace Go.Proofs.YtfaljekgpnbmiaaGreat.Pl

/-- No name is empty. -/
def NE (es : List (List UInt8 × Int × Int)) : Prop := ∀ e ∈ es, e.1 ≠ []
theorem findEnt_nil {es : List (List UInt8 × Int × Int)} (h : NE es) : findEnt es [] = es.length := by
  induction es with
  | nil => rfl
  | cons e es ih => rw [findEnt, if_neg (h e (by simp)), ih (fun x hx => h x (by simp [hx]))]; simp
theorem knownOf_nil {es : List (List UInt8 × Int × Int)} (h : NE es) (kd : Int) : knownOf es [] kd = none := by
  unfold knownOf; rw [findEnt_nil h, List.getElem?_eq_none (Nat.le_refl _)]
/-- The argument t is node a; m is what is laid for it. -/
def ArgN (es : List (List UInt8 × Int × Int)) (nodes : List NodeM) (t : List UInt8) (a : Int) (m : List NodeM) : Prop :=
  ((number t).2 = true ∧ m = [⟨0, 0, 0, 0, (number t).1, []⟩] ∧ a = nodes.length) ∨ ((number t).2 = false ∧ m = [] ∧ knownOf es t 0 = some a)
def FlagN (es : List (List UInt8 × Int × Int)) (_ : List NodeM) (t : List UInt8) (a : Int) (m : List NodeM) : Prop := m = [] ∧ knownOf es t 1 = some a
/-- f reads one token where c is wanted. -/
def Reads (c : UInt8) (f : RdM → Option Int × RdM) (A : List (List UInt8 × Int × Int) → List NodeM → List UInt8 → Int → List NodeM → Prop) : Prop :=
  ∀ (names : List DeclM) (r : RdM), RelL names r.ents → NE r.ents →
    (fitsR names c (atR r.toks r.pos) = false ∧ f r = (none, r)) ∨
    (fitsR names c (atR r.toks r.pos) = true ∧ atR r.toks r.pos ≠ [] ∧ ∃ a m, A r.ents r.nodes (atR r.toks r.pos) a m ∧ f r = (some a, ⟨r.ins, r.nodes ++ m, r.outs, r.toks, r.pos + 1, r.ents⟩))
theorem leaf_reads : Reads 65 RdM.leaf ArgN := by
  intro names r hR hN
  have hv := hR.isVal (atR r.toks r.pos)
  have hfit : fitsR names 65 (atR r.toks r.pos) = ((number (atR r.toks r.pos)).2 || (knownOf r.ents (atR r.toks r.pos) 0).isSome) := by unfold fitsR; rw [if_pos rfl, hv]
  rw [hfit]
  unfold RdM.leaf RdM.constant RdM.knownStep
  rw [num_wide, known_eq, peek_atR]
  cases hn : (number (atR r.toks r.pos)).2 with
  | true =>
    right
    have hne := number_ne hn
    refine ⟨rfl, hne, r.nodes.length, [⟨0, 0, 0, 0, (number (atR r.toks r.pos)).1, []⟩], .inl ⟨hn, rfl, rfl⟩, ?_⟩
    rw [if_pos rfl]
    simp only
    rw [skip_pos (by rw [peek_atR]; exact hne)]
    rfl
  | false =>
    rw [if_neg (by simp)]
    simp only
    cases hk : knownOf r.ents (atR r.toks r.pos) 0 with
    | none => left; exact ⟨rfl, rfl⟩
    | some a =>
      right
      have hne : atR r.toks r.pos ≠ [] := by intro e; rw [e, knownOf_nil hN] at hk; cases hk
      refine ⟨rfl, hne, a, [], .inr ⟨hn, rfl, hk⟩, ?_⟩
      simp only [List.append_nil]
      rw [skip_pos (by rw [peek_atR]; exact hne)]
theorem flag_reads : Reads 70 RdM.flag FlagN := by
  intro names r hR hN
  have hv := hR.isFlag (atR r.toks r.pos)
  have hfit : fitsR names 70 (atR r.toks r.pos) = (knownOf r.ents (atR r.toks r.pos) 1).isSome := by unfold fitsR; rw [if_neg (by decide), if_pos rfl, hv]
  rw [hfit]
  unfold RdM.flag RdM.knownStep
  rw [known_eq, peek_atR]
  cases hk : knownOf r.ents (atR r.toks r.pos) 1 with
  | none => left; exact ⟨rfl, rfl⟩
  | some a =>
    right
    have hne : atR r.toks r.pos ≠ [] := by intro e; rw [e, knownOf_nil hN] at hk; cases hk
    refine ⟨rfl, hne, a, [], ⟨rfl, hk⟩, ?_⟩
    simp only [List.append_nil]
    rw [skip_pos (by rw [peek_atR]; exact hne)]
section
variable {c c' : UInt8} {f g : RdM → Option Int × RdM} {A G : List (List UInt8 × Int × Int) → List NodeM → List UInt8 → Int → List NodeM → Prop}
theorem one_eq (hf : Reads c f A) (mk : Int → NodeM) (names : List DeclM) (r : RdM) (hR : RelL names r.ents) (hN : NE r.ents) :
    (∃ q, badR r.toks names r.pos [c] = some q ∧ (oneR f mk r).1 = none ∧ (oneR f mk r).2.pos = q) ∨
    (badR r.toks names r.pos [c] = none ∧ atR r.toks r.pos ≠ [] ∧ ∃ a m, A r.ents r.nodes (atR r.toks r.pos) a m ∧ oneR f mk r = (some ((r.nodes ++ m).length : Int), ⟨r.ins, r.nodes ++ m ++ [mk a], r.outs, r.toks, r.pos + 1, r.ents⟩)) := by
  unfold oneR badR
  rcases hf names r hR hN with ⟨h1, h2⟩ | ⟨h1, hne, a, m, h2, h3⟩
  · left; exact ⟨r.pos, by rw [if_neg (by simp [h1])], by rw [h2], by rw [h2]⟩
  · right; refine ⟨by rw [if_pos h1]; rfl, hne, a, m, h2, ?_⟩
    rw [h3]; rfl
theorem pair_eq (hf : Reads c f A) (op : Int) (names : List DeclM) (r : RdM) (hR : RelL names r.ents) (hN : NE r.ents) :
    (∃ q, badR r.toks names r.pos [c, c] = some q ∧ (pairR f op r).1 = none ∧ (pairR f op r).2.pos = q) ∨
    (badR r.toks names r.pos [c, c] = none ∧ atR r.toks (r.pos + 1) ≠ [] ∧ ∃ a m b m', A r.ents r.nodes (atR r.toks r.pos) a m ∧ A r.ents (r.nodes ++ m) (atR r.toks (r.pos + 1)) b m' ∧
      pairR f op r = (some ((r.nodes ++ m ++ m').length : Int), ⟨r.ins, r.nodes ++ m ++ m' ++ [⟨op, a, b, 0, 0, []⟩], r.outs, r.toks, r.pos + 1 + 1, r.ents⟩)) := by
  unfold pairR
  rw [badR]
  rcases hf names r hR hN with ⟨h1, h2⟩ | ⟨h1, hne, a, m, h2, h3⟩
  · left; exact ⟨r.pos, by rw [if_neg (by simp [h1])], by rw [h2], by rw [h2]⟩
  · rw [if_pos h1, h3]
    simp only
    rcases one_eq hf (fun b => ⟨op, a, b, 0, 0, []⟩) names ⟨r.ins, r.nodes ++ m, r.outs, r.toks, r.pos + 1, r.ents⟩ hR hN with ⟨q, h4, h5, h6⟩ | ⟨h4, hne2, b, m', h5, h6⟩
    · left; exact ⟨q, h4, h5, h6⟩
    · right; exact ⟨h4, hne2, a, m, b, m', h2, h5, h6⟩
theorem choice_eq (hg : Reads c' g G) (hf : Reads c f A) (names : List DeclM) (r : RdM) (hR : RelL names r.ents) (hN : NE r.ents) :
    (∃ q, badR r.toks names r.pos [c', c, c] = some q ∧ (choiceR g f r).1 = none ∧ (choiceR g f r).2.pos = q) ∨
    (badR r.toks names r.pos [c', c, c] = none ∧ atR r.toks (r.pos + 1 + 1) ≠ [] ∧ ∃ a m b m' d m'', G r.ents r.nodes (atR r.toks r.pos) a m ∧ A r.ents (r.nodes ++ m) (atR r.toks (r.pos + 1)) b m' ∧ A r.ents (r.nodes ++ m ++ m') (atR r.toks (r.pos + 1 + 1)) d m'' ∧
      choiceR g f r = (some ((r.nodes ++ m ++ m' ++ m'').length : Int), ⟨r.ins, r.nodes ++ m ++ m' ++ m'' ++ [⟨7, a, b, d, 0, []⟩], r.outs, r.toks, r.pos + 1 + 1 + 1, r.ents⟩)) := by
  unfold choiceR
  rw [badR]
  rcases hg names r hR hN with ⟨h1, h2⟩ | ⟨h1, hne, a, m, h2, h3⟩
  · left; exact ⟨r.pos, by rw [if_neg (by simp [h1])], by rw [h2], by rw [h2]⟩
  · rw [if_pos h1, h3, badR]
    simp only
    rcases hf names ⟨r.ins, r.nodes ++ m, r.outs, r.toks, r.pos + 1, r.ents⟩ hR hN with ⟨h4, h5⟩ | ⟨h4, hne2, b, m', h5, h6⟩
    · left; exact ⟨r.pos + 1, by rw [if_neg (by simp only at h4; simp [h4])], by rw [h5], by rw [h5]⟩
    · simp only at h4 h5 h6
      rw [if_pos h4, h6]
      simp only
      rcases one_eq hf (fun d => ⟨7, a, b, d, 0, []⟩) names ⟨r.ins, r.nodes ++ m ++ m', r.outs, r.toks, r.pos + 1 + 1, r.ents⟩ hR hN with ⟨q, h7, h8, h9⟩ | ⟨h7, hne3, d, m'', h8, h9⟩
      · left; exact ⟨q, h7, h8, h9⟩
      · right; exact ⟨h7, hne3, a, m, b, m', d, m'', h2, h5, h8, h9⟩
theorem product_eq (hf : Reads c f A) (names : List DeclM) (r : RdM) (hR : RelL names r.ents) (hN : NE r.ents) :
    (∃ q, badR r.toks names r.pos [75, c] = some q ∧ (productR f r).1 = none ∧ (productR f r).2.pos = q) ∨
    (badR r.toks names r.pos [75, c] = none ∧ atR r.toks (r.pos + 1) ≠ [] ∧ within (atR r.toks r.pos) (-1000) 1000 = true ∧ ∃ a m, A r.ents r.nodes (atR r.toks (r.pos + 1)) a m ∧
      productR f r = (some ((r.nodes ++ m).length : Int), ⟨r.ins, r.nodes ++ m ++ [⟨4, a, 0, 0, (number (atR r.toks r.pos)).1, []⟩], r.outs, r.toks, r.pos + 1 + 1, r.ents⟩)) := by
  unfold productR
  have hfit : fitsR names 75 (atR r.toks r.pos) = within (atR r.toks r.pos) (-1000) 1000 := by unfold fitsR; rw [if_neg (by decide), if_neg (by decide), if_pos rfl]
  rw [badR, hfit, num_within, peek_atR]
  cases hw : within (atR r.toks r.pos) (-1000) 1000 with
  | false => left; exact ⟨r.pos, by rw [if_neg (by simp)], by simp⟩
  | true =>
    have hne : atR r.toks r.pos ≠ [] := number_ne (by unfold within at hw; simp at hw; exact hw.1.1)
    rw [if_pos rfl, if_pos rfl]
    simp only
    rw [skip_pos (by rw [peek_atR]; exact hne)]
    rcases one_eq hf (fun a => ⟨4, a, 0, 0, (number (atR r.toks r.pos)).1, []⟩) names ⟨r.ins, r.nodes, r.outs, r.toks, r.pos + 1, r.ents⟩ hR hN with ⟨q, h4, h5, h6⟩ | ⟨h4, hne2, a, m, h5, h6⟩
    · left; exact ⟨q, h4, h5, h6⟩
    · right; exact ⟨h4, hne2, trivial, a, m, h5, h6⟩
end
theorem quot_eq (names : List DeclM) (r : RdM) (hR : RelL names r.ents) (hN : NE r.ents) :
    (∃ q, badR r.toks names r.pos [65, 68] = some q ∧ (quotLR r).1 = none ∧ (quotLR r).2.pos = q) ∨
    (badR r.toks names r.pos [65, 68] = none ∧ atR r.toks (r.pos + 1) ≠ [] ∧ within (atR r.toks (r.pos + 1)) 1 1000000 = true ∧ ∃ a m, ArgN r.ents r.nodes (atR r.toks r.pos) a m ∧
      quotLR r = (some ((r.nodes ++ m).length : Int), ⟨r.ins, r.nodes ++ m ++ [⟨8, a, 0, 0, (number (atR r.toks (r.pos + 1))).1, []⟩], r.outs, r.toks, r.pos + 1 + 1, r.ents⟩)) := by
  unfold quotLR
  rw [badR]
  rcases leaf_reads names r hR hN with ⟨h1, h2⟩ | ⟨h1, hne, a, m, h2, h3⟩
  · left; exact ⟨r.pos, by rw [if_neg (by simp [h1])], by rw [h2], by rw [h2]⟩
  · rw [if_pos h1, h3]
    simp only
    have hfit : fitsR names 68 (atR r.toks (r.pos + 1)) = within (atR r.toks (r.pos + 1)) 1 1000000 := by unfold fitsR; rw [if_neg (by decide), if_neg (by decide), if_neg (by decide)]
    rw [badR, hfit, num_within, peek_atR]
    simp only
    cases hw : within (atR r.toks (r.pos + 1)) 1 1000000 with
    | false => left; exact ⟨r.pos + 1, by rw [if_neg (by simp)], by simp⟩
    | true =>
      have hne2 : atR r.toks (r.pos + 1) ≠ [] := number_ne (by unfold within at hw; simp at hw; exact hw.1.1)
      right
      refine ⟨by rw [if_pos rfl]; rfl, hne2, rfl, a, m, h2, ?_⟩
      rw [if_pos rfl]
      simp only
      rw [skip_pos (by rw [peek_atR]; exact hne2)]
      rfl

end Go.Proofs.YtfaljekgpnbmiaaGreat.Pl
