/- Joined: Ref24. -/
import Derived.Test.YtbbdkgfdeghdfaaGreatJ35
/-
  The contract of the reference's ends: a name is known from now on.
-/
namespace Go.Proofs.YtbbdkgfdeghdfaaGreat
open Go.RowKit
set_option linter.unusedVariables false
set_option linter.unusedSimpArgs false

/-- Where the reference's reader lies. -/
structure RH (B : Nat) (w : World) (b : Nat) (vt vn : Value) (st : Pl.StH) : Prop where
  base : B ≤ b
  blk : w.heap[b]? = some (.cells #[vt, .int .i64 st.pos, .string ⟨st.pile.toArray⟩, vn, .int .i64 st.last, .string ⟨st.name.toArray⟩, .int .i64 st.beg] 131 (0, 0))
  own : DeclsOwn B w vn st.names
theorem RH.below {B : Nat} {w w' : World} {b : Nat} {vt vn : Value} {st : Pl.StH} (h : RH B w b vt vn st) (hb : Below w.heap.size w w') : RH B w' b vt vn st :=
  ⟨h.base, (hb.block b (lt_of_block h.blk)).trans h.blk, own_keep h.own (.of_below hb)⟩
theorem RH.addName {B : Nat} {w : World} {b : Nat} {vt vn : Value} {st : Pl.StH} (h : RH B w b vt vn st) {w1 : World} {v' : Value} {d : Pl.DeclM} (hg : w.grownBy w1 vn.ownBlock)
    (ho : w1.ownsRow B 108 5 v' (st.names.length + 1) (declsCells st.names ++ [.string ⟨d.name.toArray⟩, .int .u8 d.kind, .int .i64 d.lo, .int .i64 d.hi, .int .i64 d.pos])) :
    RH B (w1.setCell ⟨b, 3, none⟩ v') b vt v' ⟨st.pos, st.pile, st.names ++ [d], st.last, st.name, st.beg⟩ ∧ w1.heap[b]? = some (.cells #[vt, .int .i64 st.pos, .string ⟨st.pile.toArray⟩, vn, .int .i64 st.last, .string ⟨st.name.toArray⟩, .int .i64 st.beg] 131 (0, 0)) := by
  have hb : w1.heap[b]? = some (.cells #[vt, .int .i64 st.pos, .string ⟨st.pile.toArray⟩, vn, .int .i64 st.last, .string ⟨st.name.toArray⟩, .int .i64 st.beg] 131 (0, 0)) := (KeepT.grown h.own hg (show 108 ≠ 131 by decide) _ _ h.blk).trans h.blk
  refine ⟨⟨h.base, by rw [heap_setCell_same w1 b 3 _ _ _ hb]; rfl, ?_⟩, hb⟩
  have := own_keep ho (.setCell hb (show 131 ≠ 108 by decide) 3 v')
  unfold DeclsOwn declsCells
  rw [List.flatMap_append, List.length_append]
  simpa [declsCells] using this
theorem decl_cell (a : ByteArray) (k : Nat) (x y z : Int) : ∀ u ∈ [Value.string a, .int .u8 k, .int .i64 x, .int .i64 y, .int .i64 z], u.oneCell' = true := by
  intro u hu; simp at hu; rcases hu with rfl | rfl | rfl | rfl | rfl <;> rfl

theorem below_same {B : Nat} {w w1 w2 : World} (h : Below B w w1) (h1 : w2.heap = w1.heap) (h2 : w2.os = w1.os) (h3 : w2.tape = w1.tape) (h4 : w2.output = w1.output) : Below B w w2 :=
  ⟨h2.trans h.os, h3.trans h.tape, h4.trans h.output, by rw [h1]; exact h.size, fun k hk => by rw [h1]; exact h.block k hk⟩

set_option maxRecDepth 100000 in
set_option maxHeartbeats 2000000 in
theorem ends_V {B : Nat} {w : World} {b : Nat} {vt vn : Value} {st : Pl.StH} (h : RH B w b vt vn st) (hl : st.names.length ≤ 10000) :
    Calls Tryz.prog 86 #[.pointer (some ⟨b, 0, none⟩), .int .u8 86] w fun e w' => e = .returned (.tuple #[]) ∧ (∃ vn', RH B w' b vt vn' ⟨st.pos, st.pile, st.names ++ [⟨st.name, 118, 0, 0, st.beg⟩], st.last, st.name, st.beg⟩) ∧ Below B w w' := by
  obtain ⟨i0, hinf, hz0, hz1, hz2⟩ := info_parts Tryz.infoDecl
  have hB := h.base
  have hlt := lt_of_block h.blk
  obtain ⟨c0, c1, c2, c3, c4, c5, c6, fz⟩ := rd_facts h.blk
  obtain ⟨W0, hW0⟩ : ∃ W0, W0 = ((w.alloc (.cells #[.string ⟨st.name.toArray⟩, .int .u8 118, .int .i64 0, .int .i64 0, .int .i64 st.beg] 108)).alloc (.cells #[.string ⟨st.name.toArray⟩, .int .u8 118, .int .i64 0, .int .i64 0, .int .i64 st.beg] 108)) := ⟨_, rfl⟩
  have hbel : Below w.heap.size w W0 := by rw [hW0]; exact ((Below.refl _ w).alloc (Nat.le_refl _) _).alloc (by simp) _
  have hnew : W0.heap[w.heap.size + 1]? = some (.cells #[.string ⟨st.name.toArray⟩, .int .u8 118, .int .i64 0, .int .i64 0, .int .i64 st.beg] 108 (0, 0)) := by
    rw [hW0]; have := heap_alloc_new (w.alloc (.cells #[.string ⟨st.name.toArray⟩, .int .u8 118, .int .i64 0, .int .i64 0, .int .i64 st.beg] 108)) (.cells #[.string ⟨st.name.toArray⟩, .int .u8 118, .int .i64 0, .int .i64 0, .int .i64 st.beg] 108); simpa using this
  have hRW : ∀ W : World, W.heap = W0.heap → RH B W b vt vn st := fun W hW => by
    have := h.below hbel
    exact ⟨this.base, by rw [hW]; exact this.blk, by have h2 := this.own; unfold DeclsOwn World.ownsRow at h2 ⊢; rw [hW]; exact h2⟩
  have HA : Hid ((∀ W : World, W.heap = W0.heap → RH B W b vt vn st) ∧ Below w.heap.size w W0 ∧ W0.heap[w.heap.size + 1]? = some (.cells #[.string ⟨st.name.toArray⟩, .int .u8 118, .int .i64 0, .int .i64 0, .int .i64 st.beg] 108 (0, 0)) ∧ W0 = ((w.alloc (.cells #[.string ⟨st.name.toArray⟩, .int .u8 118, .int .i64 0, .int .i64 0, .int .i64 st.beg] 108)).alloc (.cells #[.string ⟨st.name.toArray⟩, .int .u8 118, .int .i64 0, .int .i64 0, .int .i64 st.beg] 108))) := ⟨hRW, hbel, hnew, hW0⟩
  clear hbel hnew hW0 hRW h
  go_enter Tryz.func86, Tryz.ntmps86
  go_wp2
  go_region
  all_goals go_wp2
  go_region_law (
    refine step_append_lies _ rfl (.tmp 62) (.tmp 64) 82 rfl B 108 i0 (.agg #[.string ⟨#[]⟩, .int .u8 0, .int .i64 0, .int .i64 0, .int .i64 0]) 5 48 Tryz.underlying82 hinf hz0 hz1 hz2 rfl (by decide) vn st.names.length (declsCells st.names) (by simp [Act.eval]) (by obtain ⟨a1, _, _, rfl⟩ := HA.out; exact (a1 _ rfl).own) ⟨w.heap.size + 1, 0, none⟩ 1 1 [.string ⟨st.name.toArray⟩, .int .u8 118, .int .i64 0, .int .i64 0, .int .i64 st.beg] (by simp [Act.eval]) rfl (by obtain ⟨_, _, a5, rfl⟩ := HA.out; exact news_far _ _ _ a5 rfl) (decl_cell _ _ _ _ _) (by decide) (by unfold maxLen; omega) (by omega) (by simp; omega) _ rfl ?_
    intro g cap w1 hown' hgrow _ _
    have R : Hid (RH B (w1.setCell ⟨b, 3, none⟩ (.slice (some ⟨g, 0, none⟩) (st.names.length + 1) cap)) b vt (.slice (some ⟨g, 0, none⟩) (st.names.length + 1) cap) ⟨st.pos, st.pile, st.names ++ [⟨st.name, 118, 0, 0, st.beg⟩], st.last, st.name, st.beg⟩ ∧ Below B w (w1.setCell ⟨b, 3, none⟩ (.slice (some ⟨g, 0, none⟩) (st.names.length + 1) cap)) ∧ w1.heap[b]? = some (.cells #[vt, .int .i64 st.pos, .string ⟨st.pile.toArray⟩, vn, .int .i64 st.last, .string ⟨st.name.toArray⟩, .int .i64 st.beg] 131 (0, 0))) := by
      obtain ⟨a1, a3, _, rfl⟩ := HA.out
      have hx := RH.addName (d := ⟨st.name, 118, 0, 0, st.beg⟩) (a1 _ (by exact rfl)) hgrow hown'
      exact ⟨hx.1, ((below_same (a3.mono (show B ≤ w.heap.size by omega)) (by exact rfl) (by exact rfl) (by exact rfl) (by exact rfl)).grown hgrow (by simp; omega) (own_base (a1 _ (by exact rfl)).own)).setCell (p := ⟨b, 3, none⟩) hB _, hx.2⟩
    have c3' : w1.cell? ⟨b, 3, none⟩ = some vn := by rw [cellsOf R.out.2.2]; rfl
    have f3' : w1.frozen? ⟨b, 3, none⟩ = false := freeOf R.out.2.2 3
    clear hown' hgrow)
  all_goals
    go_wp2
    go_end0
    exact ⟨rfl, ⟨_, R.out.1⟩, R.out.2.1⟩
set_option maxRecDepth 100000 in
set_option maxHeartbeats 2000000 in
theorem ends_O {B : Nat} {w : World} {b : Nat} {vt vn : Value} {st : Pl.StH} (h : RH B w b vt vn st) (hl : st.names.length ≤ 10000) :
    Calls Tryz.prog 86 #[.pointer (some ⟨b, 0, none⟩), .int .u8 79] w fun e w' => e = .returned (.tuple #[]) ∧ (∃ vn', RH B w' b vt vn' ⟨st.pos, st.pile, st.names ++ [⟨st.name, 111, 0, 0, st.beg⟩], st.last, st.name, st.beg⟩) ∧ Below B w w' := by
  obtain ⟨i0, hinf, hz0, hz1, hz2⟩ := info_parts Tryz.infoDecl
  have hB := h.base
  have hlt := lt_of_block h.blk
  obtain ⟨c0, c1, c2, c3, c4, c5, c6, fz⟩ := rd_facts h.blk
  obtain ⟨W0, hW0⟩ : ∃ W0, W0 = ((w.alloc (.cells #[.string ⟨st.name.toArray⟩, .int .u8 111, .int .i64 0, .int .i64 0, .int .i64 st.beg] 108)).alloc (.cells #[.string ⟨st.name.toArray⟩, .int .u8 111, .int .i64 0, .int .i64 0, .int .i64 st.beg] 108)) := ⟨_, rfl⟩
  have hbel : Below w.heap.size w W0 := by rw [hW0]; exact ((Below.refl _ w).alloc (Nat.le_refl _) _).alloc (by simp) _
  have hnew : W0.heap[w.heap.size + 1]? = some (.cells #[.string ⟨st.name.toArray⟩, .int .u8 111, .int .i64 0, .int .i64 0, .int .i64 st.beg] 108 (0, 0)) := by
    rw [hW0]; have := heap_alloc_new (w.alloc (.cells #[.string ⟨st.name.toArray⟩, .int .u8 111, .int .i64 0, .int .i64 0, .int .i64 st.beg] 108)) (.cells #[.string ⟨st.name.toArray⟩, .int .u8 111, .int .i64 0, .int .i64 0, .int .i64 st.beg] 108); simpa using this
  have hRW : ∀ W : World, W.heap = W0.heap → RH B W b vt vn st := fun W hW => by
    have := h.below hbel
    exact ⟨this.base, by rw [hW]; exact this.blk, by have h2 := this.own; unfold DeclsOwn World.ownsRow at h2 ⊢; rw [hW]; exact h2⟩
  have HA : Hid ((∀ W : World, W.heap = W0.heap → RH B W b vt vn st) ∧ Below w.heap.size w W0 ∧ W0.heap[w.heap.size + 1]? = some (.cells #[.string ⟨st.name.toArray⟩, .int .u8 111, .int .i64 0, .int .i64 0, .int .i64 st.beg] 108 (0, 0)) ∧ W0 = ((w.alloc (.cells #[.string ⟨st.name.toArray⟩, .int .u8 111, .int .i64 0, .int .i64 0, .int .i64 st.beg] 108)).alloc (.cells #[.string ⟨st.name.toArray⟩, .int .u8 111, .int .i64 0, .int .i64 0, .int .i64 st.beg] 108))) := ⟨hRW, hbel, hnew, hW0⟩
  clear hbel hnew hW0 hRW h
  go_enter Tryz.func86, Tryz.ntmps86
  go_wp2
  go_region
  all_goals go_wp2
  go_region_law (
    refine step_append_lies _ rfl (.tmp 62) (.tmp 64) 82 rfl B 108 i0 (.agg #[.string ⟨#[]⟩, .int .u8 0, .int .i64 0, .int .i64 0, .int .i64 0]) 5 48 Tryz.underlying82 hinf hz0 hz1 hz2 rfl (by decide) vn st.names.length (declsCells st.names) (by simp [Act.eval]) (by obtain ⟨a1, _, _, rfl⟩ := HA.out; exact (a1 _ rfl).own) ⟨w.heap.size + 1, 0, none⟩ 1 1 [.string ⟨st.name.toArray⟩, .int .u8 111, .int .i64 0, .int .i64 0, .int .i64 st.beg] (by simp [Act.eval]) rfl (by obtain ⟨_, _, a5, rfl⟩ := HA.out; exact news_far _ _ _ a5 rfl) (decl_cell _ _ _ _ _) (by decide) (by unfold maxLen; omega) (by omega) (by simp; omega) _ rfl ?_
    intro g cap w1 hown' hgrow _ _
    have R : Hid (RH B (w1.setCell ⟨b, 3, none⟩ (.slice (some ⟨g, 0, none⟩) (st.names.length + 1) cap)) b vt (.slice (some ⟨g, 0, none⟩) (st.names.length + 1) cap) ⟨st.pos, st.pile, st.names ++ [⟨st.name, 111, 0, 0, st.beg⟩], st.last, st.name, st.beg⟩ ∧ Below B w (w1.setCell ⟨b, 3, none⟩ (.slice (some ⟨g, 0, none⟩) (st.names.length + 1) cap)) ∧ w1.heap[b]? = some (.cells #[vt, .int .i64 st.pos, .string ⟨st.pile.toArray⟩, vn, .int .i64 st.last, .string ⟨st.name.toArray⟩, .int .i64 st.beg] 131 (0, 0))) := by
      obtain ⟨a1, a3, _, rfl⟩ := HA.out
      have hx := RH.addName (d := ⟨st.name, 111, 0, 0, st.beg⟩) (a1 _ (by exact rfl)) hgrow hown'
      exact ⟨hx.1, ((below_same (a3.mono (show B ≤ w.heap.size by omega)) (by exact rfl) (by exact rfl) (by exact rfl) (by exact rfl)).grown hgrow (by simp; omega) (own_base (a1 _ (by exact rfl)).own)).setCell (p := ⟨b, 3, none⟩) hB _, hx.2⟩
    have c3' : w1.cell? ⟨b, 3, none⟩ = some vn := by rw [cellsOf R.out.2.2]; rfl
    have f3' : w1.frozen? ⟨b, 3, none⟩ = false := freeOf R.out.2.2 3
    clear hown' hgrow)
  all_goals
    go_wp2
    go_end0
    exact ⟨rfl, ⟨_, R.out.1⟩, R.out.2.1⟩
set_option maxRecDepth 100000 in
set_option maxHeartbeats 2000000 in
theorem ends_I {B : Nat} {w : World} {b : Nat} {vt vn : Value} {st : Pl.StH} (h : RH B w b vt vn st) (hl : st.names.length ≤ 10000) {toks : List (List UInt8)} (ht : StrsAt w vt toks) (hb1 : st.beg + 1 < toks.length) (htl : toks.length ≤ 8000) (ht6 : ∀ t ∈ toks, t.length ≤ 6000) :
    Calls Tryz.prog 86 #[.pointer (some ⟨b, 0, none⟩), .int .u8 73] w fun e w' => e = .returned (.tuple #[]) ∧ (∃ vn', RH B w' b vt vn' ⟨st.pos, st.pile, st.names ++ [Pl.declD toks st.name st.beg 73], st.last, st.name, st.beg⟩) ∧ Below B w w' := by
  obtain ⟨i0, hinf, hz0, hz1, hz2⟩ := info_parts Tryz.infoDecl
  have hB := h.base
  have hlt := lt_of_block h.blk
  obtain ⟨c0, c1, c2, c3, c4, c5, c6, fz⟩ := rd_facts h.blk
  obtain ⟨ad, cap0, rfl⟩ := ht.shape
  obtain ⟨gt, rfl, hct⟩ := ht.get st.beg (by omega)
  have hct2 := tok_at ht w (st.beg + 1) (Below.refl _ _) hb1
  have hgt := lt_of_cell hct
  have hb0 : st.beg < toks.length := by omega
  have hlen : ∀ j, j < toks.length → (toks.getD j []).length ≤ 6000 := by
    intro j hj; rw [List.getD_eq_getElem?_getD, List.getElem?_eq_getElem hj]; exact ht6 _ (List.getElem_mem _)
  have hN1 := hide (fun w1 => RNumber_any (toks.getD st.beg []) w1 (by have := hlen st.beg (by omega); unfold maxLen; omega))
  have hN2 := hide (fun w1 => RNumber_any (toks.getD (st.beg + 1) []) w1 (by have := hlen (st.beg + 1) hb1; unfold maxLen; omega))
  have hres : Pl.declD toks st.name st.beg 73 = ⟨st.name, 105, (Pl.number (toks.getD st.beg [])).1, (Pl.number (toks.getD (st.beg + 1) [])).1, st.beg⟩ := rfl
  rw [hres]
  clear hres hlen ht ht6
  generalize Pl.number (toks.getD st.beg []) = n1 at *
  generalize Pl.number (toks.getD (st.beg + 1) []) = n2 at *
  obtain ⟨lo, ok1⟩ := n1
  obtain ⟨hi, ok2⟩ := n2
  simp only at hN1 hN2 ⊢
  generalize toks.getD st.beg [] = t1 at *
  generalize toks.getD (st.beg + 1) [] = t2 at *
  obtain ⟨W0, hW0⟩ : ∃ W0, W0 = ((((w.alloc (.cells #[.string ⟨st.name.toArray⟩, .int .u8 105, .int .i64 0, .int .i64 0, .int .i64 st.beg] 108)).setCell ⟨w.heap.size, 2, none⟩ (.int .i64 lo)).setCell ⟨w.heap.size, 3, none⟩ (.int .i64 hi)).alloc (.cells #[.string ⟨st.name.toArray⟩, .int .u8 105, .int .i64 lo, .int .i64 hi, .int .i64 st.beg] 108)) := ⟨_, rfl⟩
  have hbel : Below w.heap.size w W0 := by rw [hW0]; exact ((((Below.refl _ w).alloc (Nat.le_refl _) _).setCell (p := ⟨w.heap.size, 2, none⟩) (Nat.le_refl _) _).setCell (p := ⟨w.heap.size, 3, none⟩) (Nat.le_refl _) _).alloc (by simp) _
  have hnew : W0.heap[w.heap.size + 1]? = some (.cells #[.string ⟨st.name.toArray⟩, .int .u8 105, .int .i64 lo, .int .i64 hi, .int .i64 st.beg] 108 (0, 0)) := by
    rw [hW0]; have := heap_alloc_new (((w.alloc (.cells #[.string ⟨st.name.toArray⟩, .int .u8 105, .int .i64 0, .int .i64 0, .int .i64 st.beg] 108)).setCell ⟨w.heap.size, 2, none⟩ (.int .i64 lo)).setCell ⟨w.heap.size, 3, none⟩ (.int .i64 hi)) (.cells #[.string ⟨st.name.toArray⟩, .int .u8 105, .int .i64 lo, .int .i64 hi, .int .i64 st.beg] 108); simpa using this
  have hRW : ∀ W : World, W.heap = W0.heap → RH B W b (.slice (some ⟨gt, 0, none⟩) toks.length cap0) vn st := fun W hW => by
    have := h.below hbel
    exact ⟨this.base, by rw [hW]; exact this.blk, by have h2 := this.own; unfold DeclsOwn World.ownsRow at h2 ⊢; rw [hW]; exact h2⟩
  have HA : Hid ((∀ W : World, W.heap = W0.heap → RH B W b (.slice (some ⟨gt, 0, none⟩) toks.length cap0) vn st) ∧ Below w.heap.size w W0 ∧ W0.heap[w.heap.size + 1]? = some (.cells #[.string ⟨st.name.toArray⟩, .int .u8 105, .int .i64 lo, .int .i64 hi, .int .i64 st.beg] 108 (0, 0)) ∧ W0 = ((((w.alloc (.cells #[.string ⟨st.name.toArray⟩, .int .u8 105, .int .i64 0, .int .i64 0, .int .i64 st.beg] 108)).setCell ⟨w.heap.size, 2, none⟩ (.int .i64 lo)).setCell ⟨w.heap.size, 3, none⟩ (.int .i64 hi)).alloc (.cells #[.string ⟨st.name.toArray⟩, .int .u8 105, .int .i64 lo, .int .i64 hi, .int .i64 st.beg] 108))) := ⟨hRW, hbel, hnew, hW0⟩
  clear hbel hnew hW0 hRW h
  go_enter Tryz.func86, Tryz.ntmps86
  go_wp2
  go_region
  all_goals go_wp2
  go_quiet ((go_at_call 98; refine (unhide hN1 _).mono ?_; rintro e w9 ⟨he, hw9⟩; exact ⟨he, _, hw9⟩))
  go_wp2
  go_quiet ((go_at_call 98; refine (unhide hN2 _).mono ?_; rintro e w9 ⟨he, hw9⟩; exact ⟨he, _, hw9⟩))
  go_wp2
  go_region_law (
    refine step_append_lies _ rfl (.tmp 62) (.tmp 64) 82 rfl B 108 i0 (.agg #[.string ⟨#[]⟩, .int .u8 0, .int .i64 0, .int .i64 0, .int .i64 0]) 5 48 Tryz.underlying82 hinf hz0 hz1 hz2 rfl (by decide) vn st.names.length (declsCells st.names) (by simp [Act.eval]) (by obtain ⟨a1, _, _, rfl⟩ := HA.out; exact (a1 _ rfl).own) ⟨w.heap.size + 1, 0, none⟩ 1 1 [.string ⟨st.name.toArray⟩, .int .u8 105, .int .i64 lo, .int .i64 hi, .int .i64 st.beg] (by simp [Act.eval]) rfl (by obtain ⟨_, _, a5, rfl⟩ := HA.out; exact news_far _ _ _ a5 rfl) (decl_cell _ _ _ _ _) (by decide) (by unfold maxLen; omega) (by omega) (by simp; omega) _ rfl ?_
    intro g cap w1 hown' hgrow _ _
    have R : Hid (RH B (w1.setCell ⟨b, 3, none⟩ (.slice (some ⟨g, 0, none⟩) (st.names.length + 1) cap)) b (.slice (some ⟨gt, 0, none⟩) toks.length cap0) (.slice (some ⟨g, 0, none⟩) (st.names.length + 1) cap) ⟨st.pos, st.pile, st.names ++ [⟨st.name, 105, lo, hi, st.beg⟩], st.last, st.name, st.beg⟩ ∧ Below B w (w1.setCell ⟨b, 3, none⟩ (.slice (some ⟨g, 0, none⟩) (st.names.length + 1) cap)) ∧ w1.heap[b]? = some (.cells #[(.slice (some ⟨gt, 0, none⟩) toks.length cap0), .int .i64 st.pos, .string ⟨st.pile.toArray⟩, vn, .int .i64 st.last, .string ⟨st.name.toArray⟩, .int .i64 st.beg] 131 (0, 0))) := by
      obtain ⟨a1, a3, _, rfl⟩ := HA.out
      have hx := RH.addName (d := ⟨st.name, 105, lo, hi, st.beg⟩) (a1 _ (by exact rfl)) hgrow hown'
      exact ⟨hx.1, ((below_same (a3.mono (show B ≤ w.heap.size by omega)) (by exact rfl) (by exact rfl) (by exact rfl) (by exact rfl)).grown hgrow (by simp; omega) (own_base (a1 _ (by exact rfl)).own)).setCell (p := ⟨b, 3, none⟩) hB _, hx.2⟩
    have c3' : w1.cell? ⟨b, 3, none⟩ = some vn := by rw [cellsOf R.out.2.2]; rfl
    have f3' : w1.frozen? ⟨b, 3, none⟩ = false := freeOf R.out.2.2 3
    clear hown' hgrow)
  all_goals
    go_wp2
    go_end0
    exact ⟨rfl, ⟨_, R.out.1⟩, R.out.2.1⟩
end Go.Proofs.YtbbdkgfdeghdfaaGreat
