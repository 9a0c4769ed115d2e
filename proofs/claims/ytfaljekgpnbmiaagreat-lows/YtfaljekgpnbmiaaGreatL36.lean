/- Joined: Eq12 High1 High5. -/
import Derived.Test.YtfaljekgpnbmiaaGreatL35
/-
  Values of all that was built; the whole low form: the program answers as the reference.
-/
namespace Go.Proofs.YtfaljekgpnbmiaaGreat.Pl
open Go.RowKit

def outVals : List DeclM → List Int → List Int
  | d :: ds, x :: xs => if d.kind = 111 then x :: outVals ds xs else outVals ds xs
  | _, _ => []
theorem outVals_snoc (names : List DeclM) (d : DeclM) (x : Int) : ∀ K : List Int, K.length = names.length → outVals (names ++ [d]) (K ++ [x]) = outVals names K ++ (if d.kind = 111 then [x] else []) := by
  induction names with
  | nil =>
    intro K hK
    have : K = [] := List.eq_nil_of_length_eq_zero hK
    subst this
    simp [outVals]
  | cons e names ih =>
    intro K hK
    cases K with
    | nil => simp at hK
    | cons y K =>
      rw [List.cons_append, List.cons_append, outVals, outVals, ih K (by simpa using hK)]
      by_cases he : e.kind = 111
      · rw [if_pos he, if_pos he]; rfl
      · rw [if_neg he, if_neg he]
theorem tellOf_more {toks : List (List UInt8)} {names : List DeclM} {n : Nat} {d : DeclM} (h : DeclOk toks names n d) (b : List DeclM) (home : List Int) (k : Nat) (known : List Int) : tellOf toks (names ++ b) home k d known = tellOf toks names home k d known := by
  unfold tellOf
  by_cases h1 : d.kind = 105
  · rw [if_pos h1, if_pos h1]
  rw [if_neg h1, if_neg h1]
  by_cases h2 : d.kind = 111
  · rw [if_pos h2, if_pos h2]
    rcases h with ⟨h3, _⟩ | ⟨_, p, hp, ht⟩ | ⟨h3, _⟩
    · omega
    · rw [hp, Int.toNat_natCast, value_more ht]
    · omega
  · rw [if_neg h2, if_neg h2]
    rcases h with ⟨h3, _⟩ | ⟨h3, _⟩ | ⟨_, p, hp, hs⟩
    · omega
    · omega
    · rw [hp, Int.toNat_natCast]
      unfold doneR
      rcases hs.2 with ⟨ho, _, t1, t2⟩ | ⟨ho, _, t1, t2, t3⟩ | ⟨ho, hk, t1, t2⟩ | ⟨ho, hk, t1⟩
      · rw [value_more t1, value_more t2]
        rcases ho with ho | ho | ho | ho <;> rw [ho] <;> rfl
      · rw [value_more t1, value_more t2, value_more t3]
      · rw [value_more t1, value_more t2]
        rcases ho with ho | ho | ho | ho | ho <;> rw [ho] <;> rfl
      · rw [value_more t1, ho]; rfl
theorem SafeAt.more {toks : List (List UInt8)} {names : List DeclM} {n : Nat} {d : DeclM} (h : DeclOk toks names n d) (b : List DeclM) {home : List Int} {k : Nat} {known : List Int} (hs : SafeAt toks names home k d known) : SafeAt toks (names ++ b) home k d known := by
  refine ⟨hs.1, fun h1 h2 => ?_⟩
  have h3 := hs.2 h1 h2
  rcases h with ⟨h4, _⟩ | ⟨h4, _⟩ | ⟨_, p, hp, hq⟩
  · omega
  · omega
  · rw [hp, Int.toNat_natCast] at h2 h3 ⊢
    rcases hq.2 with ⟨_, _, t1, t2⟩ | ⟨ho, _⟩ | ⟨_, hk, _⟩ | ⟨_, hk, _⟩
    · rw [value_more t1, value_more t2]; exact h3
    · rw [h2] at ho; exact absurd ho (by decide)
    · omega
    · omega
structure VSem (toks : List (List UInt8)) (home : List Int) (names : List DeclM) (es : List (List UInt8 × Int × Int)) (nodes : List NodeM) (os : List Int) (KB vs K : List Int) : Prop where
  env : Env names es KB vs K
  vals : vs = valsF home nodes []
  told : ∀ j, (hj : j < names.length) → (hk : j < K.length) → K[j] = tellOf toks names home j names[j] (K.take j)
  safe : ∀ j, (hj : j < names.length) → SafeAt toks names home j names[j] (K.take j)
  outs : ∀ o ∈ os, 0 ≤ o ∧ o < vs.length
  outv : os.map (pickL vs) = outVals names K
theorem snoc_cases {α : Type} {l : List α} {x : α} {j : Nat} (hj : j < (l ++ [x]).length) : (∃ h : j < l.length, (l ++ [x])[j] = l[j]) ∨ (j = l.length ∧ (l ++ [x])[j] = x) := by
  by_cases h : j < l.length
  · exact .inl ⟨h, List.getElem_append_left h⟩
  · have : j = l.length := by simp at hj; omega
    subst this
    exact .inr ⟨rfl, by simp⟩
theorem VSem.snoc {toks : List (List UInt8)} {home : List Int} {names : List DeclM} {es : List (List UInt8 × Int × Int)} {nodes more : List NodeM} {os os' : List Int} {KB vs K t : List Int} (h : VSem toks home names es nodes os KB vs K) (hwf : WF toks names) (d : DeclM) (name : List UInt8) (kd a WB T : Int)
    (hR : RelL (names ++ [d]) (es ++ [(name, kd, a)])) (hd : DeclOk toks names names.length d) (hT : T = tellOf toks names home names.length d K) (ht : valsF home more vs = vs ++ t)
    (ha : kd ≠ 2 → 0 ≤ a ∧ a < (vs ++ t).length ∧ pickL (vs ++ t) a = T) (hf : kd = 1 → T = 0 ∨ T = 1) (hsm : kd = 0 → -WB ≤ T ∧ T ≤ WB ∧ WB ≤ 1000000000000000) (hnum : (number name).2 = false) (hsafe : SafeAt toks names home names.length d K)
    (ho : ∀ o ∈ os', 0 ≤ o ∧ o < (vs ++ t).length) (hov : os'.map (pickL (vs ++ t)) = if d.kind = 111 then [T] else []) :
    VSem toks home (names ++ [d]) (es ++ [(name, kd, a)]) (nodes ++ more) (os ++ os') (KB ++ [WB]) (vs ++ t) (K ++ [T]) := by
  have hel : es.length = names.length := h.env.rel.len.symm
  have hKl := h.env.len
  have hBl := h.env.lenB
  refine ⟨⟨hR, by simp [hKl], by simp [hBl], ?_, ?_, ?_, ?_⟩, by rw [valsF_append, ← h.vals, ht], ?_, ?_, ?_, ?_⟩
  · intro j hj hk h2
    rcases snoc_cases hj with ⟨hl, e⟩ | ⟨rfl, e⟩
    · rw [e] at h2 ⊢
      rw [List.getElem_append_left (by omega)]
      exact node_more h.env.node t j hl (by omega) h2
    · rw [e] at h2 ⊢
      have e1 : (K ++ [T])[es.length] = T := by rw [List.getElem_append_right (by omega)]; simp
      rw [e1]; exact ha h2
  · intro j hj hk h2
    rcases snoc_cases hj with ⟨hl, e⟩ | ⟨rfl, e⟩
    · rw [e] at h2
      rw [List.getElem_append_left (by omega)]
      exact h.env.flag j hl (by omega) h2
    · rw [e] at h2
      have e1 : (K ++ [T])[es.length] = T := by rw [List.getElem_append_right (by omega)]; simp
      rw [e1]; exact hf h2
  · intro j hj hk hb h2
    rcases snoc_cases hj with ⟨hl, e⟩ | ⟨rfl, e⟩
    · rw [e] at h2
      rw [List.getElem_append_left (by omega), List.getElem_append_left (by omega)]
      exact h.env.small j hl (by omega) (by omega) h2
    · rw [e] at h2
      have e1 : (K ++ [T])[es.length] = T := by rw [List.getElem_append_right (by omega)]; simp
      have e2 : (KB ++ [WB])[es.length] = WB := by rw [List.getElem_append_right (by omega)]; simp
      rw [e1, e2]; exact hsm h2
  · intro e he
    rcases List.mem_append.1 he with he | he
    · exact h.env.num e he
    · rw [List.mem_singleton] at he; subst he; exact hnum
  · intro j hj hk
    rcases snoc_cases hj with ⟨hl, e⟩ | ⟨rfl, e⟩
    · rw [e, List.getElem_append_left (by omega), List.take_append_of_le_length (by omega), tellOf_more (hwf j hl) [d]]
      exact h.told j hl (by omega)
    · have e1 : (K ++ [T])[names.length] = T := by rw [List.getElem_append_right (by omega)]; simp
      rw [e, e1, List.take_append_of_le_length (by omega), List.take_of_length_le (by omega), tellOf_more hd [d], hT]
  · intro j hj
    rcases snoc_cases hj with ⟨hl, e⟩ | ⟨rfl, e⟩
    · rw [e, List.take_append_of_le_length (by omega)]
      exact (h.safe j hl).more (hwf j hl) [d]
    · rw [e, List.take_append_of_le_length (by omega), List.take_of_length_le (by omega)]
      exact hsafe.more hd [d]
  · intro o ho'
    rcases List.mem_append.1 ho' with ho' | ho'
    · have := h.outs o ho'
      simp; omega
    · exact ho o ho'
  · rw [outVals_snoc names d T K hKl, List.map_append, hov, ← h.outv]
    congr 1
    apply List.map_congr_left
    intro o ho'
    exact pickL_append (h.outs o ho').2
def HomeOk (ins : List (Int × Int)) (home : List Int) : Prop := ins.length ≤ home.length ∧ ∀ j, (hj : j < ins.length) → (hk : j < home.length) → ins[j].1 ≤ home[j] ∧ home[j] ≤ ins[j].2
theorem HomeOk.of (ins : List (Int × Int)) : ∀ home : List Int, home.length = ins.length → homeFrom ins home = true → HomeOk ins home := by
  induction ins with
  | nil => intro home hl _; exact ⟨by simp, fun j hj => by simp at hj⟩
  | cons p ins ih =>
    intro home hl h
    cases home with
    | nil => simp at hl
    | cons x home =>
      rw [homeFrom] at h
      simp only [Bool.and_eq_true, decide_eq_true_eq] at h
      obtain ⟨q1, q2⟩ := ih home (by simpa using hl) h.2
      refine ⟨by simp at hl ⊢; omega, fun j hj hk => ?_⟩
      cases j with
      | zero => exact h.1
      | succ j => exact q2 j (by simpa using hj) (by simpa using hk)
theorem HomeOk.init {ins : List (Int × Int)} {x : Int × Int} {home : List Int} (h : HomeOk (ins ++ [x]) home) : HomeOk ins home := by
  obtain ⟨h1, h2⟩ := h
  simp at h1
  refine ⟨by omega, fun j hj hk => ?_⟩
  have := h2 j (by simp; omega) hk
  rw [List.getElem_append_left hj] at this
  exact this
theorem Built.values {toks : List (List UInt8)} {names : List DeclM} {r : RdM} (h : Built toks names r) (home : List Int) : HomeOk r.ins home → ∃ bs KB, BSem toks names r.ents r.ins r.nodes bs KB ∧ (bs.any over = false → ∃ vs K, VSem toks home names r.ents r.nodes r.outs KB vs K) := by
  have small : ∀ {W : Int}, over W = false → W ≤ 1000000000000000 := by
    intro W h; unfold over at h; simpa using h
  induction h using Built.ind with
  | start =>
    intro _
    refine ⟨[], [], ⟨rfl, rfl, fun j hj => by simp at hj, fun j hj => by simp at hj, rfl, fun n hn => by simp at hn⟩, fun _ => ⟨[], [], ⟨trivial, rfl, rfl, fun j hj => by simp at hj, fun j hj => by simp at hj, fun j hj => by simp at hj, fun e he => by simp at he⟩, rfl, fun j hj => by simp at hj, fun j hj => by simp at hj, fun o ho => by simp at ho, rfl⟩⟩
  | @input names r h d i hk hn h1 h2 h3 hne hfr ih =>
    intro hh
    obtain ⟨bs, KB, hS, hV⟩ := ih hh.init
    obtain ⟨hR, _, _⟩ := h.rel
    have hbl : bs.length = r.nodes.length := by rw [hS.bounds, boundsF_len]
    have e0 : boundsF (r.ins ++ [(d.lo, d.hi)]) r.nodes [] = bs := by rw [boundsF_ins _ _ _ hS.inp, ← hS.bounds]
    have hW : wideOf toks names d KB = most (absv d.lo) (absv d.hi) := by unfold wideOf; rw [if_pos hk]
    have e1 : nodeBoundW (r.ins ++ [(d.lo, d.hi)]) ⟨1, 0, 0, 0, r.ins.length, []⟩ bs = wideOf toks names d KB := by
      rw [hW]
      unfold nodeBoundW
      rw [if_neg (by simp), if_pos (by simp)]
      unfold inputBoundW
      rw [if_pos (by simp; omega)]
      simp only [Int.toNat_natCast, List.getD_eq_getElem?_getD, List.getElem?_concat_length, Option.getD_some]
      rw [absW_num _ ⟨h1, by omega⟩, absW_num _ ⟨by omega, h3⟩, greater_most]
    obtain ⟨t, f1, f2, f3, f4, f5⟩ := last_bound (ins := r.ins ++ [(d.lo, d.hi)]) (bs := bs) (t := []) (nodes := r.nodes) (pre := []) (x := ⟨1, 0, 0, 0, r.ins.length, []⟩) (W := wideOf toks names d KB) (by simp [boundsF]) rfl hbl rfl (by rw [List.append_nil]; exact e1)
    rw [List.nil_append] at f1 f3 f4 f5
    have hdo : DeclOk toks names names.length d := .inl ⟨hk, h1, by omega, by omega, h3⟩
    have e : ((r.nodes ++ [(⟨1, 0, 0, 0, r.ins.length, []⟩ : NodeM)]).length : Int) - 1 = r.nodes.length := by simp
    refine ⟨_, _, hS.snoc hR h.wf d 0 _ d.name t e0 (by simp) f1 f2 hdo (fun _ => ?_) ?_, fun hb => ?_⟩
    · rw [e] at f3 f4 f5
      exact ⟨f3, f4, f5⟩
    · intro n hn _
      rw [List.mem_singleton] at hn; subst hn
      simp; omega
    · rw [List.any_append, Bool.or_eq_false_iff] at hb
      obtain ⟨vs, K, hVS⟩ := hV hb.1
      have hvl : vs.length = r.nodes.length := by
        obtain ⟨t, g1, g2⟩ := valsF_ext home r.nodes []
        rw [hVS.vals, g1]; simpa using g2
      have hhl : r.ins.length < home.length := by have := hh.1; simp at this; omega
      have hho := hh.2 r.ins.length (by simp) hhl
      simp only [List.getElem_concat_length] at hho
      have hT : tellOf toks names home names.length d K = home[r.ins.length] := by
        unfold tellOf
        rw [if_pos hk, hn, List.getD_eq_getElem?_getD, List.getElem?_eq_getElem hhl]; rfl
      have hx : nodeValueW ⟨1, 0, 0, 0, r.ins.length, []⟩ (vs ++ []) home = home[r.ins.length] := by
        unfold nodeValueW
        rw [if_neg (by simp), if_pos (by simp)]
        unfold pickL
        rw [if_pos (by simp only; omega)]
        simp only [Int.toNat_natCast]
        rw [List.getD_eq_getElem?_getD, List.getElem?_eq_getElem hhl]; rfl
      obtain ⟨t2, g1, g2, g3, g4⟩ := last_value (home := home) (vs := vs) (t := []) (nodes := r.nodes) (pre := []) (by simp [valsF]) rfl hvl hx
      rw [List.nil_append] at g1 g2 g3 g4
      rw [e] at g2 g3 g4
      have := hVS.snoc (os' := []) h.wf d d.name 0 r.nodes.length (wideOf toks names d KB) _ (hR.snoc _ _ rfl (.inl ⟨.inl hk, rfl⟩)) hdo hT.symm g1 (fun _ => ⟨g2, g3, g4⟩) (fun hc => absurd hc (by decide)) (fun _ => ?_) ?_ ?_ (by simp) (by rw [if_neg (by omega)]; rfl)
      · rw [List.append_nil] at this
        exact ⟨_, _, this⟩
      · refine ⟨?_, ?_, ?_⟩ <;> rw [hW] <;> unfold most absv <;> (repeat' split) <;> omega
      · have hf := hfr
        unfold fresh at hf
        simp only [Bool.and_eq_true] at hf
        exact rName_number hf.1
      · exact ⟨fun _ => by omega, fun hc => by omega⟩
  | @step names r h i op ws k more name hw hs hm hne hl hl6 hfr ih =>
    intro hh
    obtain ⟨bs, KB, hS, hV⟩ := ih hh
    obtain ⟨hR, _, _⟩ := h.rel
    have hbl : bs.length = r.nodes.length := by rw [hS.bounds, boundsF_len]
    obtain ⟨⟨t, f1, f2, f3, f4, f5⟩, f6⟩ := step_bound (ins := r.ins) name hR hS.len hS.node hbl hw hs hl hl6
    have hdo := step_ok name hR hw hs hl hl6
    refine ⟨_, _, hS.snoc hR h.wf ⟨name, k.toNat, 0, 0, (i : Int) + 2⟩ _ _ name t hS.bounds.symm (Nat.le_refl _) f1 f2 hdo (fun _ => ⟨f3, f4, f5⟩) (fun n hn h1 => absurd h1 (f6 n hn)), fun hb => ?_⟩
    rw [List.any_append, Bool.or_eq_false_iff] at hb
    obtain ⟨vs, K, hVS⟩ := hV hb.1
    have hvl : vs.length = r.nodes.length := by
      obtain ⟨t, g1, g2⟩ := valsF_ext home r.nodes []
      rw [hVS.vals, g1]; simpa using g2
    obtain ⟨⟨t2, g1, g2, g3, g4⟩, g5, g6, g7⟩ := step_value (home := home) name names.length hVS.env hvl hw hs hl hl6
    have hkw := kind_of_word hw
    have := hVS.snoc (os' := []) h.wf ⟨name, k.toNat, 0, 0, (i : Int) + 2⟩ name (kindOf op) (((r.nodes ++ more).length : Int) - 1) (wideOf toks names ⟨name, k.toNat, 0, 0, (i : Int) + 2⟩ KB) _ (hR.snoc _ _ rfl hkw.1) hdo rfl g1 (fun _ => ⟨g2, g3, g4⟩) g5 (fun h0 => ⟨(g6 h0).1, (g6 h0).2, small (by rw [← f2]; exact hb.2)⟩) ?_ g7 (by simp) (by rw [if_neg hkw.2.2.1]; rfl)
    · rw [List.append_nil] at this
      exact ⟨_, _, this⟩
    · have hf := hfr
      unfold fresh at hf
      simp only [Bool.and_eq_true] at hf
      exact rName_number hf.1
  | @out names r h i a m name ha hne hl hl6 hfr ih =>
    intro hh
    obtain ⟨bs, KB, hS, hV⟩ := ih hh
    obtain ⟨hR, _, _⟩ := h.rel
    have hbl : bs.length = r.nodes.length := by rw [hS.bounds, boundsF_len]
    obtain ⟨t, e1, e2, e3, e4, e5, e6, e7⟩ := arg_bound (ins := r.ins) hR hS.len hS.node hbl (by omega) (by omega) ha
    have hdo : DeclOk toks names names.length ⟨name, 111, 0, 0, (i : Int) + 2⟩ := .inr (.inl ⟨rfl, i + 2, by simp, arg_told hR (by omega) (by omega) ha⟩)
    refine ⟨_, _, hS.snoc hR h.wf ⟨name, 111, 0, 0, (i : Int) + 2⟩ 2 a name t hS.bounds.symm (Nat.le_refl _) e1 (by rw [e3]; rfl) hdo (fun hc => absurd rfl hc) (fun n hn h1 => absurd h1 (e7 n hn)), fun hb => ?_⟩
    rw [List.any_append, Bool.or_eq_false_iff] at hb
    obtain ⟨vs, K, hVS⟩ := hV hb.1
    have hvl : vs.length = r.nodes.length := by
      obtain ⟨t, g1, g2⟩ := valsF_ext home r.nodes []
      rw [hVS.vals, g1]; simpa using g2
    obtain ⟨t2, g1, g2, g3, g4, g5, _⟩ := arg_value (home := home) hVS.env hvl (by omega) (by omega) ha
    have hT : tellOf toks names home names.length ⟨name, 111, 0, 0, (i : Int) + 2⟩ K = valueR toks names K (i + 2) := by
      unfold tellOf
      rw [if_neg (by simp), if_pos (by simp)]
      congr 1
    have := hVS.snoc (os' := [a]) h.wf ⟨name, 111, 0, 0, (i : Int) + 2⟩ name 2 a (wideOf toks names ⟨name, 111, 0, 0, (i : Int) + 2⟩ KB) _ (hR.snoc _ _ rfl (.inr (.inr ⟨rfl, rfl⟩))) hdo hT.symm g1 (fun hc => absurd rfl hc) (fun hc => absurd hc (by decide)) (fun hc => absurd hc (by decide)) ?_ ⟨fun hc => by simp at hc, fun hc => by simp at hc⟩ ?_ ?_
    · exact ⟨_, _, this⟩
    · have hf := hfr
      unfold fresh at hf
      simp only [Bool.and_eq_true] at hf
      exact rName_number hf.1
    · intro o ho; rw [List.mem_singleton] at ho; subst ho; exact ⟨g3, g4⟩
    · rw [if_pos rfl, List.map_cons, List.map_nil, g5]
end Go.Proofs.YtfaljekgpnbmiaaGreat.Pl

/-
  Contracts of package high's readers that take expressions or conditions, given those of expression and condition at what is left of the text.
-/
namespace Go.Proofs.YtfaljekgpnbmiaaGreat
open Go.RowKit

/-- The function fn reads as the plain function f does, from the token lo on. -/
def ReadC (fn : Nat) (f : Pl.RdM → Option Int × Pl.RdM) (lo : Nat) : Prop :=
  ∀ (B : Nat) (w : World) (b : Nat) (r : Pl.RdM) (s : Nat), Rd B w b r → Pl.Ok s r → lo ≤ r.pos →
    Calls Tryz.prog fn #[.pointer (some ⟨b, 0, none⟩)] w fun e w' => e = .returned (optV (f r).1) ∧ Rd B w' b (f r).2 ∧ Below B w w'
theorem ReadC.no {fn : Nat} {f : Pl.RdM → Option Int × Pl.RdM} {lo : Nat} (E : ReadC fn f lo) {B : Nat} {w : World} {b : Nat} {r r1 : Pl.RdM} {s : Nat} (h : Rd B w b r) (ok : Pl.Ok s r) (hl : lo ≤ r.pos) (hf : f r = (none, r1)) :
    Calls Tryz.prog fn #[.pointer (some ⟨b, 0, none⟩)] w fun e w' => e = .returned (.tuple #[.int .i64 0, .bool false]) ∧ Rd B w' b r1 ∧ Below B w w' := by
  have := E B w b r s h ok hl; rw [hf] at this; exact this
theorem ReadC.yes {fn : Nat} {f : Pl.RdM → Option Int × Pl.RdM} {lo : Nat} (E : ReadC fn f lo) {B : Nat} {w : World} {b : Nat} {r r1 : Pl.RdM} {s : Nat} {a : Int} (h : Rd B w b r) (ok : Pl.Ok s r) (hl : lo ≤ r.pos) (hf : f r = (some a, r1)) :
    Calls Tryz.prog fn #[.pointer (some ⟨b, 0, none⟩)] w fun e w' => e = .returned (.tuple #[.int .i64 a, .bool true]) ∧ Rd B w' b r1 ∧ Below B w w' := by
  have := E B w b r s h ok hl; rw [hf] at this; exact this
theorem nodes_le {s : Nat} {r : Pl.RdM} (ok : Pl.Ok s r) : r.nodes.length ≤ 1000 := by
  have h1 := ok.size
  have h2 := ok.pos
  unfold Pl.RdM.sz at h1; omega
theorem keeps_of {f : Pl.RdM → Option Int × Pl.RdM} (hk : ∀ r, Pl.Keeps r (f r).2) {r r1 : Pl.RdM} {o : Option Int} (e : f r = (o, r1)) : Pl.Keeps r r1 := by have := hk r; rw [e] at this; exact this

section
variable {f g : Pl.RdM → Option Int × Pl.RdM} {lo : Nat}

end
end Go.Proofs.YtfaljekgpnbmiaaGreat

/-
  The contracts of package high's expression and condition: they read as the plain reader does.
-/
namespace Go.Proofs.YtfaljekgpnbmiaaGreat
open Go.RowKit

section
variable {f g : Pl.RdM → Option Int × Pl.RdM} {lo : Nat}
theorem bfalse {t u : List UInt8} (h : ¬ t = u) : (t == u) = false := by simpa using h

end

end Go.Proofs.YtfaljekgpnbmiaaGreat
