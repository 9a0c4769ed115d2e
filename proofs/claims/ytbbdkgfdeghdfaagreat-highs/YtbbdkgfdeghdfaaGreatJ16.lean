/- Joined: Ref5 Ref6 Ref7 Ref11 Ref12 Eq2 Eq3 Eq4 Eq5 Ref13 Ref17 Ref18 Ref19. -/
import Derived.Test.YtbbdkgfdeghdfaaGreatJ15
/-
  The contract of the reference's Print; lists of strings that are read.
-/
namespace Go.Proofs.YtbbdkgfdeghdfaaGreat
open Go.RowKit

/-- A slice of strings that reads as l. -/
def StrsAt (w : World) (v : Value) (l : List (List UInt8)) : Prop :=
  ∃ ad cap, v = .slice ad l.length cap ∧ ∀ i, i < l.length → ∃ g, ad = some ⟨g, 0, none⟩ ∧ w.cell? ⟨g, i, none⟩ = some (.string ⟨(l.getD i []).toArray⟩)
theorem strs_at {B : Nat} {w : World} {v : Value} {l : List (List UInt8)} (h : StrsOwn B w v l) : StrsAt w v l := strs_shape h
theorem StrsAt.below {w w' : World} {v : Value} {l : List (List UInt8)} (h : StrsAt w v l) (hb : Below w.heap.size w w') : StrsAt w' v l := by
  obtain ⟨ad, cap, e, hc⟩ := h
  refine ⟨ad, cap, e, fun i hi => ?_⟩
  obtain ⟨g, e1, e2⟩ := hc i hi
  exact ⟨g, e1, cell_low hb (lt_of_cell e2) e2⟩
theorem StrsAt.get {w : World} {ad : Option Addr} {n cap : Nat} {l : List (List UInt8)} (h : StrsAt w (.slice ad n cap) l) (i : Nat) (hi : i < l.length) : ∃ g, ad = some ⟨g, 0, none⟩ ∧ w.cell? ⟨g, i, none⟩ = some (.string ⟨(l.getD i []).toArray⟩) := by
  obtain ⟨ad', cap', e, hc⟩ := h
  simp only [Value.slice.injEq] at e
  obtain ⟨g, e1, e2⟩ := hc i hi
  exact ⟨g, e.1.trans e1, e2⟩
theorem StrsAt.shape {w : World} {v : Value} {l : List (List UInt8)} (h : StrsAt w v l) : ∃ ad cap, v = .slice ad l.length cap := by
  obtain ⟨ad, cap, e, _⟩ := h
  exact ⟨ad, cap, e⟩

theorem tok_len_wide (toks : List (List UInt8)) : ∀ t ∈ toks, t.length ≤ Pl.wide toks := by
  induction toks with
  | nil => intro t ht; simp at ht
  | cons u r ih =>
    intro t ht
    have e : Pl.wide (u :: r) = u.length + 1 + Pl.wide r := by simp [Pl.wide]
    rw [e]
    rcases List.mem_cons.1 ht with rfl | ht
    · omega
    · have := ih t ht; omega

set_option maxRecDepth 100000 in
set_option maxHeartbeats 1000000 in
theorem Print_ref (toks : List (List UInt8)) (v : Value) (w : World) (h : StrsAt w v toks) (hg : ∀ t ∈ toks, Pl.NoSp t) (hne : toks ≠ []) (hw : Pl.wide toks ≤ 10000) :
    Calls Tryz.prog 43 #[v] w fun e w' => e = .returned (strV (Pl.linesOf toks)) ∧ w' = w := by
  obtain ⟨ad, cp, rfl, hcell⟩ := h
  have hlen : toks.length ≤ 10000 := by
    have : toks.length ≤ Pl.wide toks := by
      unfold Pl.wide
      clear hcell hg hne hw
      induction toks with
      | nil => simp
      | cons t r ih => simp; omega
    omega
  have HC := hide hcell
  have HG := hide hg
  have HN := hide hne
  have HLT := hide (tok_len_wide toks)
  clear hcell hg hne
  have happ := ByteArray.mk_append_mk
  go_enter Tryz.func43, Tryz.ntmps43
  go_wp2
  go_loop [3, 4] (fun s i => ∃ k : Nat, k ≤ toks.length ∧ i = .int .i64 k ∧ s = .string ⟨(Pl.linesHead (toks.take k)).toArray⟩) (fun _ i => toks.length - (intOf i).toNat)
  case atStart => exact ⟨0, by omega, rfl, rfl⟩
  case round =>
    obtain ⟨k, hk, rfl, rfl⟩ := hrel
    by_cases hlt : k < toks.length
    · obtain ⟨g0, rfl, hc⟩ := unhide HC k hlt
      have hmem : toks.getD k [] ∈ toks := by rw [List.getD_eq_getElem?_getD, List.getElem?_eq_getElem hlt]; exact List.getElem_mem _
      have hns := unhide HG _ hmem
      have htl := unhide HLT _ hmem
      have htk : toks.take (k + 1) = toks.take k ++ [toks.getD k []] := by rw [List.take_add_one, List.getElem?_eq_getElem hlt, List.getD_eq_getElem?_getD, List.getElem?_eq_getElem hlt]; rfl
      have hwd3 := Pl.linesHead_len (toks.take k)
      have hwd4 := Pl.wide_take toks k
      have hlz : (toks.take k).length = k := by rw [List.length_take]; omega
      have hH := hide (fun w => holds_ref (Pl.pad Pl.headWords) (toks.getD k []) w (by decide) (by omega))
      rw [Pl.holds_heads _ hns] at hH
      have hkw : Pl.pad Pl.headWords = [32, 105, 110, 32, 108, 101, 116, 32, 115, 101, 116, 32, 111, 117, 116, 32] := by decide
      rw [hkw] at hH
      clear hkw hmem hns
      generalize toks.getD k [] = t at *
      by_cases h0 : k = 0
      · subst h0
        have HT : Hid (Pl.linesHead (toks.take (0 + 1)) = t) := by rw [htk]; simp [Pl.linesHead, Pl.linesFrom, Hid]
        have e1 : Pl.linesHead (toks.take 0) = [] := rfl
        rw [e1]
        clear e1 htk hlz hwd3 hwd4
        generalize decide (t = Pl.kIn ∨ t = Pl.kLet ∨ t = Pl.kSet ∨ t = Pl.kOut) = bb at *
        go_wp2_with fail
        refine (unhide hH _).mono ?_
        rintro e w' ⟨rfl, hw'⟩
        rw [hw']
        clear hw' w' hH
        go_wp2
        go_round
        case rel => exact ⟨0 + 1, by omega, by go_num, by rw [unhide HT]⟩
        case measure => simp [intOf]; omega
      · have hk0 : 0 < k := by omega
        have HT := hide (show Pl.linesHead (toks.take (k + 1)) = Pl.linesHead (toks.take k) ++ [Pl.gapOf t] ++ t by
          rw [htk, Pl.linesHead_snoc _ _ (by intro e; rw [e] at hlz; simp at hlz; omega)])
        clear htk hlz h0
        generalize Pl.linesHead (toks.take k) = L at *
        by_cases hh : t = Pl.kIn ∨ t = Pl.kLet ∨ t = Pl.kSet ∨ t = Pl.kOut
        · have e1 : Pl.gapOf t = 10 := by unfold Pl.gapOf; rw [if_pos hh]
          rw [e1] at HT
          rw [decide_eq_true hh] at hH
          clear e1 hh
          go_wp2_with fail
          refine (unhide hH _).mono ?_
          rintro e w' ⟨rfl, hw'⟩
          rw [hw']
          clear hw' w' hH
          go_wp2
          go_round
          case rel => exact ⟨k + 1, by omega, by go_num, by rw [unhide HT]; simp⟩
          case measure => simp [intOf]; omega
        · have e1 : Pl.gapOf t = 32 := by unfold Pl.gapOf; rw [if_neg hh]
          rw [e1] at HT
          rw [decide_eq_false hh] at hH
          clear e1 hh
          go_wp2_with fail
          refine (unhide hH _).mono ?_
          rintro e w' ⟨rfl, hw'⟩
          rw [hw']
          clear hw' w' hH
          go_wp2
          go_round
          case rel => exact ⟨k + 1, by omega, by go_num, by rw [unhide HT]; simp⟩
          case measure => simp [intOf]; omega
    · have e1 : toks.take k = toks := List.take_of_length_le (by omega)
      have hwd3 := Pl.linesHead_len toks
      have HL := hide (Pl.linesOf_eq toks (unhide HN))
      rw [e1]
      clear e1
      generalize Pl.linesHead toks = L at *
      go_wp2
      go_ret
      exact ⟨by rw [unhide HL]; rfl, rfl⟩
end Go.Proofs.YtbbdkgfdeghdfaaGreat

/-
  Contracts of the reference's at, forms, fits, bad.
-/
namespace Go.Proofs.YtbbdkgfdeghdfaaGreat
open Go.RowKit

theorem DeclsAt.drewN {w : World} {v : Value} {l : List Pl.DeclM} (h : DeclsAt w v l) (n : Nat) : DeclsAt (w.drewN n) v l := h
theorem StrsAt.drewN {w : World} {v : Value} {l : List (List UInt8)} (h : StrsAt w v l) (n : Nat) : StrsAt (w.drewN n) v l := h
end Go.Proofs.YtbbdkgfdeghdfaaGreat

/-
  Contracts of the reference's input, set, out, long, declared.
-/
namespace Go.Proofs.YtbbdkgfdeghdfaaGreat
open Go.RowKit

theorem DeclsAt.below {w w' : World} {v : Value} {l : List Pl.DeclM} (h : DeclsAt w v l) (hb : Below w.heap.size w w') : DeclsAt w' v l := by
  obtain ⟨ad, cap, e, hc⟩ := h
  refine ⟨ad, cap, e, fun i hi => ?_⟩
  obtain ⟨g, e1, c0, c1, c2, c3, c4⟩ := hc i hi
  exact ⟨g, e1, cell_low hb (lt_of_cell c0) c0, cell_low hb (lt_of_cell c1) c1, cell_low hb (lt_of_cell c2) c2, cell_low hb (lt_of_cell c3) c3, cell_low hb (lt_of_cell c4) c4⟩
theorem DeclsAt.shape {w : World} {v : Value} {l : List Pl.DeclM} (h : DeclsAt w v l) : ∃ ad cap, v = .slice ad l.length cap := by
  obtain ⟨x, y, e, _⟩ := h; exact ⟨_, _, e⟩
end Go.Proofs.YtbbdkgfdeghdfaaGreat

/-
  The contract of the reference's Low.
-/
namespace Go.Proofs.YtbbdkgfdeghdfaaGreat
open Go.RowKit

def declsCells (l : List Pl.DeclM) : List Value := l.flatMap fun d => [.string ⟨d.name.toArray⟩, .int .u8 d.kind, .int .i64 d.lo, .int .i64 d.hi, .int .i64 d.pos]
def DeclsOwn (B : Nat) (w : World) (v : Value) (l : List Pl.DeclM) : Prop := w.ownsRow B 108 5 v l.length (declsCells l)
theorem Tryz.infoDecl : (Tryz.prog.info? 108).map (fun i => (i.zero, i.size, i.bytes)) = some (some (.agg #[.string ⟨#[]⟩, .int .u8 0, .int .i64 0, .int .i64 0, .int .i64 0]), 5, 48) := by kernel_rfl
theorem declsCells_get (l : List Pl.DeclM) (i : Nat) (hi : i < l.length) : (declsCells l)[i * 5]? = some (.string ⟨l[i].name.toArray⟩) ∧ (declsCells l)[i * 5 + 1]? = some (.int .u8 l[i].kind) ∧ (declsCells l)[i * 5 + 2]? = some (.int .i64 l[i].lo) ∧ (declsCells l)[i * 5 + 3]? = some (.int .i64 l[i].hi) ∧ (declsCells l)[i * 5 + 4]? = some (.int .i64 l[i].pos) := by
  induction l generalizing i with
  | nil => simp at hi
  | cons e l ih =>
    cases i with
    | zero => exact ⟨rfl, rfl, rfl, rfl, rfl⟩
    | succ i =>
      have := ih i (by simpa using hi)
      have e1 : declsCells (e :: l) = .string ⟨e.name.toArray⟩ :: .int .u8 e.kind :: .int .i64 e.lo :: .int .i64 e.hi :: .int .i64 e.pos :: declsCells l := by simp [declsCells]
      rw [e1]
      rw [show (i + 1) * 5 = i * 5 + 1 + 1 + 1 + 1 + 1 by omega]
      simpa using this
theorem decls_at {B : Nat} {w : World} {v : Value} {l : List Pl.DeclM} (h : DeclsOwn B w v l) : DeclsAt w v l := by
  rcases h.2 with ⟨rfl, hn⟩ | ⟨g, cap, cur, rfl, hb, hgg, hle, hm, hcs, htk⟩
  · exact ⟨none, 0, by rw [hn], fun i hi => by omega⟩
  · have hc := fun j hj => World.ownsRow.cellAt (show w.ownsRow B 108 5 (.slice (some ⟨g, 0, none⟩) l.length cap) l.length (declsCells l) from h) j hj
    refine ⟨some ⟨g, 0, none⟩, cap, rfl, fun i hi => ⟨g, rfl, ?_, ?_, ?_, ?_, ?_⟩⟩
    · rw [hc (i * 5) (by omega)]; exact (declsCells_get l i hi).1
    · rw [hc (i * 5 + 1) (by omega)]; exact (declsCells_get l i hi).2.1
    · rw [hc (i * 5 + 2) (by omega)]; exact (declsCells_get l i hi).2.2.1
    · rw [hc (i * 5 + 3) (by omega)]; exact (declsCells_get l i hi).2.2.2.1
    · rw [hc (i * 5 + 4) (by omega)]; exact (declsCells_get l i hi).2.2.2.2
theorem atR_some {l : List (List UInt8)} {i : Nat} (h : Pl.atR l i ≠ []) : i < l.length ∧ i < 600 ∧ Pl.atR l i = l.getD i [] := by
  unfold Pl.atR at *
  split at h
  · rename_i hc; rw [if_pos hc]; exact ⟨hc.1, hc.2, rfl⟩
  · exact absurd rfl h
/-- What the reading of a whole text tells. -/
def LowV (B : Nat) (e : Ending) (w' : World) : List Pl.DeclM ⊕ Nat → Prop
  | .inl ds => ∃ v, e = .returned (.tuple #[v, .int .i64 (-1)]) ∧ DeclsOwn B w' v ds
  | .inr p => e = .returned (.tuple #[.slice none 0 0, .int .i64 p])

end Go.Proofs.YtbbdkgfdeghdfaaGreat

/-
  Contracts of the reference's yes, two, value and bound.
-/
namespace Go.Proofs.YtbbdkgfdeghdfaaGreat
open Go.RowKit

/-- Where a text of the reference lies. -/
structure TextAt (w : World) (vt vn vk : Value) (toks : List (List UInt8)) (names : List Pl.DeclM) (known : List Int) : Prop where
  toks : StrsAt w vt toks
  names : DeclsAt w vn names
  known : IntsAt w vk known
theorem TextAt.below {w w' : World} {vt vn vk : Value} {toks : List (List UInt8)} {names : List Pl.DeclM} {known : List Int} (h : TextAt w vt vn vk toks names known) (hb : Below w.heap.size w w') : TextAt w' vt vn vk toks names known := ⟨h.toks.below hb, h.names.below hb, h.known.below hb⟩

theorem Pl.numLoop_bd (l : List UInt8) : ∀ (a : Int), 0 ≤ a → ∀ m, Pl.numLoop l a = some m → 0 ≤ m ∧ (l = [] → m = a) ∧ (l ≠ [] → m ≤ 1000000000) := by
  induction l with
  | nil => intro a ha m h; rw [Pl.numLoop] at h; cases h; exact ⟨ha, fun _ => rfl, fun h => absurd rfl h⟩
  | cons c l ih =>
    intro a ha m h
    rw [Pl.numLoop] at h
    split at h
    · rename_i hd
      split at h
      · cases h
      · rename_i hle
        have hdd : (48 : Int) ≤ c.toNat := by simp [Pl.isDig] at hd; omega
        have := ih _ (by omega) m h
        refine ⟨this.1, fun e => (by cases e), fun _ => ?_⟩
        by_cases hl : l = []
        · rw [this.2.1 hl]; omega
        · exact this.2.2 hl
    · cases h
theorem Pl.numRest_bd (neg : Bool) (d : List UInt8) (hd : d ≠ []) : -1000000000 ≤ (Pl.numRest neg d).1 ∧ (Pl.numRest neg d).1 ≤ 1000000000 := by
  unfold Pl.numRest
  split
  · simp
  · rename_i n hn
    have := Pl.numLoop_bd d 0 (by omega) n hn
    have h2 := this.2.2 hd
    have h1 := this.1
    cases neg <;> simp <;> omega
theorem Pl.number_bd (t : List UInt8) : -1000000000 ≤ (Pl.number t).1 ∧ (Pl.number t).1 ≤ 1000000000 := by
  have hd : ∀ neg (d : List UInt8), -1000000000 ≤ (Pl.numDigs neg d).1 ∧ (Pl.numDigs neg d).1 ≤ 1000000000 := by
    intro neg d
    unfold Pl.numDigs
    split
    · simp
    · split
      · simp
      · rename_i h
        exact Pl.numRest_bd neg d (by intro e; subst e; exact h (.inl rfl))
  unfold Pl.number
  split
  · exact hd _ _
  · exact hd _ _
set_option maxHeartbeats 400000 in
theorem two_add (a b : Int) (w : World) : Calls Tryz.prog 97 #[.string ⟨Pl.kAdd.toArray⟩, .int .i64 a, .int .i64 b] w fun e w' => e = .returned (.int .i64 (wrap64 (a + b))) ∧ w' = w := by
  unfold Pl.kAdd
  go_enter Tryz.func97, Tryz.ntmps97
  go_wp2
  go_ret
  exact ⟨rfl, rfl⟩
set_option maxHeartbeats 400000 in
theorem two_sub (a b : Int) (w : World) : Calls Tryz.prog 97 #[.string ⟨Pl.kSub.toArray⟩, .int .i64 a, .int .i64 b] w fun e w' => e = .returned (.int .i64 (wrap64 (a - b))) ∧ w' = w := by
  unfold Pl.kSub
  go_enter Tryz.func97, Tryz.ntmps97
  go_wp2
  go_ret
  exact ⟨rfl, rfl⟩

end Go.Proofs.YtbbdkgfdeghdfaaGreat

/-
  One declaration of the low form: the program reads it as the reference does.
-/
namespace Go.Proofs.YtbbdkgfdeghdfaaGreat.Pl

theorem skip_pos {r : RdM} (h : r.peek ≠ []) : r.skip = ⟨r.ins, r.nodes, r.outs, r.toks, r.pos + 1, r.ents⟩ := (skip_of h).1
theorem num_wide (r : RdM) : r.num (-1000000000) 1000000000 = if (number r.peek).2 = true then some (number r.peek).1 else none := by
  have := number_bd r.peek
  unfold RdM.num
  by_cases h : (number r.peek).2 = true
  · rw [if_pos ⟨h, this⟩, if_pos h]
  · rw [if_neg (fun hc => h hc.1), if_neg h]
theorem num_within (r : RdM) (lo hi : Int) : r.num lo hi = if within r.peek lo hi = true then some (number r.peek).1 else none := by
  unfold RdM.num within
  by_cases h : (number r.peek).2 = true ∧ lo ≤ (number r.peek).1 ∧ (number r.peek).1 ≤ hi
  · rw [if_pos h, if_pos (by simp [h.1, h.2.1, h.2.2])]
  · rw [if_neg h, if_neg (by intro hc; simp at hc; exact h ⟨hc.1.1, hc.1.2, hc.2⟩)]
theorem number_ne {t : List UInt8} (h : (number t).2 = true) : t ≠ [] := by rintro rfl; rw [number_nil] at h; cases h

end Go.Proofs.YtbbdkgfdeghdfaaGreat.Pl

/-
  What a step takes: the program reads it as the reference does, and what nodes it lays.
-/
namespace Go.Proofs.YtbbdkgfdeghdfaaGreat.Pl

/-- No name is empty. -/
def NE (es : List (List UInt8 × Int × Int)) : Prop := ∀ e ∈ es, e.1 ≠ []
theorem findEnt_nil {es : List (List UInt8 × Int × Int)} (h : NE es) : findEnt es [] = es.length := by
  induction es with
  | nil => rfl
  | cons e es ih => rw [findEnt, if_neg (h e (by simp)), ih (fun x hx => h x (by simp [hx]))]; simp
theorem knownOf_nil {es : List (List UInt8 × Int × Int)} (h : NE es) (kd : Int) : knownOf es [] kd = none := by
  unfold knownOf; rw [findEnt_nil h, List.getElem?_eq_none (Nat.le_refl _)]
/-- The argument t is node a; m is what is laid for it. -/
def ArgN (es : List (List UInt8 × Int × Int)) (nodes : List NodeM) (t : List UInt8) (a : Int) (m : List NodeM) : Prop :=
  ((number t).2 = true ∧ m = [⟨0, 0, 0, 0, (number t).1, []⟩] ∧ a = nodes.length) ∨ ((number t).2 = false ∧ m = [] ∧ knownOf es t 0 = some a)
/-- f reads one token where c is wanted. -/
def Reads (c : UInt8) (f : RdM → Option Int × RdM) (A : List (List UInt8 × Int × Int) → List NodeM → List UInt8 → Int → List NodeM → Prop) : Prop :=
  ∀ (names : List DeclM) (r : RdM), RelL names r.ents → NE r.ents →
    (fitsR names c (atR r.toks r.pos) = false ∧ f r = (none, r)) ∨
    (fitsR names c (atR r.toks r.pos) = true ∧ atR r.toks r.pos ≠ [] ∧ ∃ a m, A r.ents r.nodes (atR r.toks r.pos) a m ∧ f r = (some a, ⟨r.ins, r.nodes ++ m, r.outs, r.toks, r.pos + 1, r.ents⟩))
theorem leaf_reads : Reads 65 RdM.leaf ArgN := by
  intro names r hR hN
  have hv := hR.isVal (atR r.toks r.pos)
  have hfit : fitsR names 65 (atR r.toks r.pos) = ((number (atR r.toks r.pos)).2 || (knownOf r.ents (atR r.toks r.pos) 0).isSome) := by unfold fitsR; rw [if_pos rfl, hv]
  rw [hfit]
  unfold RdM.leaf RdM.constant RdM.knownStep
  rw [num_wide, known_eq, peek_atR]
  cases hn : (number (atR r.toks r.pos)).2 with
  | true =>
    right
    have hne := number_ne hn
    refine ⟨rfl, hne, r.nodes.length, [⟨0, 0, 0, 0, (number (atR r.toks r.pos)).1, []⟩], .inl ⟨hn, rfl, rfl⟩, ?_⟩
    rw [if_pos rfl]
    simp only
    rw [skip_pos (by rw [peek_atR]; exact hne)]
    rfl
  | false =>
    rw [if_neg (by simp)]
    simp only
    cases hk : knownOf r.ents (atR r.toks r.pos) 0 with
    | none => left; exact ⟨rfl, rfl⟩
    | some a =>
      right
      have hne : atR r.toks r.pos ≠ [] := by intro e; rw [e, knownOf_nil hN] at hk; cases hk
      refine ⟨rfl, hne, a, [], .inr ⟨hn, rfl, hk⟩, ?_⟩
      simp only [List.append_nil]
      rw [skip_pos (by rw [peek_atR]; exact hne)]
section
variable {c c' : UInt8} {f g : RdM → Option Int × RdM} {A G : List (List UInt8 × Int × Int) → List NodeM → List UInt8 → Int → List NodeM → Prop}
end
end Go.Proofs.YtbbdkgfdeghdfaaGreat.Pl

/-
  A step and an out of the low form: the program reads them as the reference does.
-/
namespace Go.Proofs.YtbbdkgfdeghdfaaGreat.Pl

theorem atR_lt {toks : List (List UInt8)} {i : Nat} (h : atR toks i ≠ []) : i < toks.length ∧ i < 600 := by
  unfold atR at h
  split at h
  · assumption
  · exact absurd rfl h
end Go.Proofs.YtbbdkgfdeghdfaaGreat.Pl

/-
  The whole text of the low form: the program's three loops against the reference's one.
-/
namespace Go.Proofs.YtbbdkgfdeghdfaaGreat.Pl
set_option linter.unusedVariables false

theorem countD_snoc (names : List DeclM) (d : DeclM) (k : Nat) : countD (names ++ [d]) k = countD names k + (if d.kind = k then 1 else 0) := by
  induction names with
  | nil => simp [countD]
  | cons e names ih => rw [List.cons_append, countD, countD, ih]; omega
end Go.Proofs.YtbbdkgfdeghdfaaGreat.Pl

/-
  Contracts of the reference's done and reach: what a step comes to, and how great that may become.
-/
namespace Go.Proofs.YtbbdkgfdeghdfaaGreat
open Go.RowKit

theorem text_shape {w : World} {vt vn vk : Value} {toks : List (List UInt8)} {names : List Pl.DeclM} {known : List Int} (h : TextAt w vt vn vk toks names known) : ∃ a1 c1 a2 c2 a3 c3, vt = .slice a1 toks.length c1 ∧ vn = .slice a2 names.length c2 ∧ vk = .slice a3 known.length c3 := by
  obtain ⟨a1, c1, h1⟩ := h.toks.shape
  obtain ⟨a2, c2, h2⟩ := h.names.shape
  obtain ⟨a3, c3, h3, _⟩ := h.known
  exact ⟨a1, c1, a2, c2, a3, c3, h1, h2, h3⟩
end Go.Proofs.YtbbdkgfdeghdfaaGreat

/-
  The contract of the reference's Tells: the values of the outs.
-/
namespace Go.Proofs.YtbbdkgfdeghdfaaGreat
open Go.RowKit

theorem own_other {w w' : World} {B : Nat} {e : TypeId} {size : Nat} {v : Value} {n : Nat} {xs : List Value} {b : Option Nat} (h : w.ownsRow B e size v n xs) (hg : w.grownBy w' b) (hd : ∀ g, v.ownBlock = some g → b ≠ some g) : w'.ownsRow B e size v n xs := by
  refine ⟨h.1, ?_⟩
  rcases h.2 with hn | ⟨g, cap, cur, rfl, hb, hgg, rest⟩
  · exact .inl hn
  · exact .inr ⟨g, cap, cur, rfl, hb, by rw [hg.block g (lt_of_block hgg) (fun e => hd g (by simp [Value.ownBlock]) e.symm)]; exact hgg, rest⟩
theorem own_lt {w : World} {B : Nat} {e : TypeId} {size : Nat} {v : Value} {n : Nat} {xs : List Value} (h : w.ownsRow B e size v n xs) : ∀ g, v.ownBlock = some g → g < w.heap.size := fun g hg => (h.lt g hg).2
/-- Two lists lie in different blocks. -/
def Apart2 (u v : Value) : Prop := ∀ g, u.ownBlock = some g → v.ownBlock ≠ some g
theorem Apart2.nil (v : Value) : Apart2 (.slice none 0 0) v := fun g h => by simp [Value.ownBlock] at h
end Go.Proofs.YtbbdkgfdeghdfaaGreat

/-
  Contracts of the reference's Fits and ReadLow.
-/
namespace Go.Proofs.YtbbdkgfdeghdfaaGreat
open Go.RowKit

def Pl.fitsF : Nat → List Pl.DeclM → List Int → Bool
  | 0, _, _ => true
  | n + 1, d :: ds, x :: xs => decide (d.lo ≤ x ∧ x ≤ d.hi) && Pl.fitsF n ds xs
  | _, _, _ => true
def Pl.fitsD (names : List Pl.DeclM) (home : List Int) : Bool := decide (home.length = Pl.countD names 105) && Pl.fitsF (Pl.countD names 105) names home
theorem fitsF_step (names : List Pl.DeclM) (home : List Int) (n k : Nat) (h1 : k < names.length) (h2 : k < home.length) (hk : k < n) : Pl.fitsF (n - k) (names.drop k) (home.drop k) = (decide (names[k].lo ≤ home[k] ∧ home[k] ≤ names[k].hi) && Pl.fitsF (n - (k + 1)) (names.drop (k + 1)) (home.drop (k + 1))) := by
  rw [show n - k = (n - (k + 1)) + 1 by omega, List.drop_eq_getElem_cons h1, List.drop_eq_getElem_cons h2, Pl.fitsF]

set_option maxRecDepth 100000 in
set_option maxHeartbeats 1000000 in
theorem Fits_ref (names : List Pl.DeclM) (home : List Int) (vn vh : Value) (w : World) (hn : DeclsAt w vn names) (hh : IntsAt w vh home) (hnl : names.length ≤ 10000) (hhl : home.length ≤ maxLen) :
    Calls Tryz.prog 45 #[vn, vh] w fun e w' => e = .returned (.bool (Pl.fitsD names home)) ∧ ∃ n, w' = w.drewN n := by
  unfold maxLen at hhl
  have hC := hide (count_ref names vn 105 w hn hnl)
  have HN := hide hn
  have HH := hide hh
  have hcl := Pl.countD_le names 105
  obtain ⟨a2, p2, rfl⟩ := hn.shape
  obtain ⟨a3, p3, rfl, _⟩ := hh
  unfold Pl.fitsD
  generalize Pl.countD names 105 = n at *
  clear hn
  by_cases hne : home.length = n
  · have hd : decide (home.length = n) = true := by simp [hne]
    rw [hd, Bool.true_and]
    have hne1 : home.length ≤ n := by omega
    have hne2 : n ≤ home.length := by omega
    have hne0 : ((home.length : Int) != n) = false := by simp; omega
    clear hd hne
    generalize hq : Pl.fitsF n names home = T
    have HQ := hide hq
    clear hq
    go_enter Tryz.func45, Tryz.ntmps45
    go_wp2_with fail
    refine (unhide hC).mono ?_
    rintro e w1 ⟨rfl, hw1⟩
    rw [hw1]
    clear hw1 w1 hC
    go_wp2
    go_loopw [6] (fun i wr => ∃ (k m : Nat), k ≤ n ∧ i = .int .i64 k ∧ wr = w.drewN m ∧ Hid (Pl.fitsF (n - k) (names.drop k) (home.drop k) = T)) (fun i _ => n - (intOf i).toNat)
    case atStart => exact ⟨0, 0, by omega, rfl, rfl, unhide HQ⟩
    case round =>
      obtain ⟨k, m, hk, rfl, rfl, hr⟩ := hrel
      clear HQ
      by_cases hlt : k < n
      · have hst := fitsF_step names home n k (by omega) (by omega) hlt
        obtain ⟨g2, rfl, _, _, e2, e3, _⟩ := decls_get (unhide HN) k (by omega)
        obtain ⟨b3, o3, rfl, c3⟩ := ints_get (unhide HH) k (by omega)
        have hr2 := hr.out
        rw [hst] at hr2
        clear hst hr
        generalize (names[k]'(by omega)).lo = lo at *
        generalize (names[k]'(by omega)).hi = hi at *
        generalize (home[k]'(by omega)) = x at *
        have hkh : k < home.length := by omega
        have hkn : k < names.length := by omega
        by_cases h1 : x < lo
        · have hT : Hid (T = false) := by rw [← hr2, decide_eq_false (by omega)]; rfl
          clear hr2
          go_wp2
          go_quiet (fail)
          go_wp2
          go_ret
          exact ⟨ret_bool hT.out.symm, _, World.drewN_drewN _ _ _⟩
        · by_cases h2 : hi < x
          · have hT : Hid (T = false) := by rw [← hr2, decide_eq_false (by omega)]; rfl
            clear hr2
            go_wp2
            go_quiet (fail)
            go_wp2
            go_ret
            exact ⟨ret_bool hT.out.symm, _, World.drewN_drewN _ _ _⟩
          · have hr3 : Hid (Pl.fitsF (n - (k + 1)) (names.drop (k + 1)) (home.drop (k + 1)) = T) := by rw [decide_eq_true (by omega), Bool.true_and] at hr2; exact hr2
            clear hr2
            go_wp2
            go_quiet (fail)
            go_wp2
            go_roundw
            case rel => exact ⟨k + 1, _, by omega, by go_num, rfl, hr3.out⟩
            case measure => simp [intOf]; omega
      · have hT : Hid (T = true) := by have := hr.out; rw [show n - k = 0 by omega, Pl.fitsF] at this; exact this.symm
        clear hr
        go_wp2
        go_ret
        exact ⟨ret_bool hT.out.symm, _, rfl⟩
  · have hd : decide (home.length = n) = false := by simp [hne]
    rw [hd, Bool.false_and]
    have hne2 : ((home.length : Int) != n) = true := by simp; omega
    clear hd
    go_enter Tryz.func45, Tryz.ntmps45
    go_wp2_with fail
    refine (unhide hC).mono ?_
    rintro e w1 ⟨rfl, hw1⟩
    rw [hw1]
    clear hw1 w1 hC
    go_wp2
    go_ret
    exact ⟨rfl, 0, rfl⟩
end Go.Proofs.YtbbdkgfdeghdfaaGreat

/-
  Contracts of the reference's ReadLow, CheckLow, PrintLow, RunLow.
-/
namespace Go.Proofs.YtbbdkgfdeghdfaaGreat
open Go.RowKit

/-- What a reading of the reference leaves. -/
structure TextOwn (w : World) (e : Int) (toks : List (List UInt8)) (names : List Pl.DeclM) (vt vn vk : Value) : Prop where
  good : e = 0 → ∃ B, StrsOwn B w vt toks ∧ DeclsOwn B w vn names ∧ vk = .slice none 0 0
  st : ∃ ad n cap, vt = .slice ad n cap
  sn : ∃ ad n cap, vn = .slice ad n cap
  sk : ∃ ad n cap, vk = .slice ad n cap
theorem TextOwn.none (w : World) (e : Int) (toks : List (List UInt8)) (names : List Pl.DeclM) (h : e ≠ 0) : TextOwn w e toks names (.slice none 0 0) (.slice none 0 0) (.slice none 0 0) :=
  ⟨fun h' => absurd h' h, ⟨_, _, _, rfl⟩, ⟨_, _, _, rfl⟩, ⟨_, _, _, rfl⟩⟩
theorem TextOwn.keep {w w' : World} {e : Int} {toks : List (List UInt8)} {names : List Pl.DeclM} {vt vn vk : Value} (h : TextOwn w e toks names vt vn vk) (k : ∀ e : TypeId, 84 ≠ e → KeepT e w w') : TextOwn w' e toks names vt vn vk :=
  ⟨fun h0 => by obtain ⟨B, h1, h2, h3⟩ := h.good h0; exact ⟨B, own_keep h1 (k _ (by decide)), own_keep h2 (k _ (by decide)), h3⟩, h.st, h.sn, h.sk⟩
theorem keep_text {w : World} {g : Nat} {cs : Array Value} (hk : w.heap[g]? = some (.cells cs 84 (0, 0))) (x y z : Value) : ∀ e : TypeId, 84 ≠ e → KeepT e w (((w.setCell ⟨g, 0, none⟩ x).setCell ⟨g, 1, none⟩ y).setCell ⟨g, 2, none⟩ z) := by
  have h1 := heap_setCell_same w g 0 _ _ x hk
  have h2 := heap_setCell_same _ g 1 _ _ y h1
  exact fun e he => ((KeepT.setCell hk he 0 x).trans (KeepT.setCell h1 he 1 y)).trans (KeepT.setCell h2 he 2 z)
theorem text_facts {w : World} {g : Nat} {x y z : Value} {T : TypeId} (h : w.heap[g]? = some (.cells #[x, y, z] T (0, 0))) : w.cell? ⟨g, 0, none⟩ = some x ∧ w.cell? ⟨g, 1, none⟩ = some y ∧ w.cell? ⟨g, 2, none⟩ = some z ∧ w.frozen? ⟨g, 0, none⟩ = false ∧ w.frozen? ⟨g, 1, none⟩ = false ∧ w.frozen? ⟨g, 2, none⟩ = false :=
  ⟨by rw [cellsOf h]; rfl, by rw [cellsOf h]; rfl, by rw [cellsOf h]; rfl, freeOf h 0, freeOf h 1, freeOf h 2⟩
theorem toks_small (l : List UInt8) (hl : l.length ≤ 6000) : (Pl.tokens l).length ≤ 6001 ∧ ∀ t ∈ Pl.tokens l, t.length ≤ 6000 := by
  refine ⟨?_, fun t ht => by have := Pl.tokens_len_aux l [] false t ht; simp at this; omega⟩
  have h1 := Pl.scan_wide l [] false
  have h2 : (Pl.tokens l).length ≤ Pl.wide (Pl.tokens l) := by
    unfold Pl.wide
    generalize Pl.tokens l = K
    induction K with
    | nil => simp
    | cons t r ih => simp; omega
  unfold Pl.tokens at h2 ⊢
  simp at h1; omega

end Go.Proofs.YtbbdkgfdeghdfaaGreat
