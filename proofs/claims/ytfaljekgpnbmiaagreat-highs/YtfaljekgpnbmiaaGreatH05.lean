/- Joined: Rdr3 Rdr4 Rdr5. -/
import Derived.Test.YtfaljekgpnbmiaaGreatH04
/-
  Contracts of the plan's AppendInput and of the reader's LearnOut, find, Known, NewName, Number, Word, Constant.
-/
namespace Go.Proofs.YtfaljekgpnbmiaaGreat
open Go.RowKit

set_option maxHeartbeats 400000 in
theorem AppendInput_x {B : Nat} {w : World} {b : Nat} {r : Pl.RdM} {lx ly : List (List UInt8)} (h : RdX B w b r lx ly) (lo hi : Int) (hn : r.nodes.length ≤ 1000) (hni : r.ins.length ≤ 1000) :
    Calls Tryz.prog 248 #[.pointer (some ⟨b, 0, none⟩), .agg #[.int .i64 lo, .int .i64 hi]] w fun e w' => e = .returned (.int .i64 r.nodes.length) ∧ RdX B w' b ((r.addIn (lo, hi)).addNode ⟨1, 0, 0, 0, r.ins.length, []⟩) lx ly ∧ Below B w w' := by
  obtain ⟨i0, hinf, hz0, hz1, hz2⟩ := info_parts Tryz.infoSpan
  obtain ⟨vi, vn, vo, vt, ve, bvs, vx, vy, h⟩ := h
  have hB := h.base
  have hlt := lt_of_block h.blk
  obtain ⟨adi, cpi, hvi⟩ := slice_shape h.ins
  have c0 : w.cell? ⟨b, 0, none⟩ = some (.slice adi r.ins.length cpi) := by rw [cellsOf h.blk, ← hvi]; rfl
  have f0 : w.frozen? ⟨b, 0, none⟩ = false := freeOf h.blk 0
  obtain ⟨W0, hW0⟩ : ∃ W0, W0 = (((w.alloc (.cells #[.int .i64 lo, .int .i64 hi] 139)).alloc (.cells #[.int .i64 1, .int .i64 0, .int .i64 0, .int .i64 0, .int .i64 r.ins.length, .slice none 0 0] 194)).alloc (.cells #[.int .i64 lo, .int .i64 hi] 139)) := ⟨_, rfl⟩
  have hbel : Below w.heap.size w W0 := by rw [hW0]; exact (((Below.refl _ w).alloc (Nat.le_refl _) _).alloc (by simp) _).alloc (by simp; omega) _
  have hnew : W0.heap[w.heap.size + 2]? = some (.cells #[.int .i64 lo, .int .i64 hi] 139 (0, 0)) := by
    rw [hW0]; have := heap_alloc_new ((w.alloc (.cells #[.int .i64 lo, .int .i64 hi] 139)).alloc (.cells #[.int .i64 1, .int .i64 0, .int .i64 0, .int .i64 0, .int .i64 r.ins.length, .slice none 0 0] 194)) (.cells #[.int .i64 lo, .int .i64 hi] 139); simpa using this
  have hnod : W0.heap[w.heap.size + 1]? = some (.cells #[.int .i64 1, .int .i64 0, .int .i64 0, .int .i64 0, .int .i64 r.ins.length, .slice none 0 0] 194 (0, 0)) := by
    rw [hW0, Below.heap_alloc _ _ _ (by simp)]
    have := heap_alloc_new (w.alloc (.cells #[.int .i64 lo, .int .i64 hi] 139)) (.cells #[.int .i64 1, .int .i64 0, .int .i64 0, .int .i64 0, .int .i64 r.ins.length, .slice none 0 0] 194); simpa using this
  have HA : Hid ((∀ k, RdAt B (W0.drewN k) b r vi vn vo vt ve bvs vx vy lx ly) ∧ (∀ k, Below w.heap.size w (W0.drewN k)) ∧ W0.heap[w.heap.size + 1]? = some (.cells #[.int .i64 1, .int .i64 0, .int .i64 0, .int .i64 0, .int .i64 r.ins.length, .slice none 0 0] 194 (0, 0)) ∧ W0.heap[w.heap.size + 2]? = some (.cells #[.int .i64 lo, .int .i64 hi] 139 (0, 0)) ∧ vi = .slice adi r.ins.length cpi ∧ W0 = (((w.alloc (.cells #[.int .i64 lo, .int .i64 hi] 139)).alloc (.cells #[.int .i64 1, .int .i64 0, .int .i64 0, .int .i64 0, .int .i64 r.ins.length, .slice none 0 0] 194)).alloc (.cells #[.int .i64 lo, .int .i64 hi] 139))) :=
    ⟨fun k => h.below (below_drewN hbel k), fun k => below_drewN hbel k, hnod, hnew, hvi, hW0⟩
  have c03 : (((w.alloc (.cells #[.int .i64 lo, .int .i64 hi] 139)).alloc (.cells #[.int .i64 1, .int .i64 0, .int .i64 0, .int .i64 0, .int .i64 r.ins.length, .slice none 0 0] 194)).alloc (.cells #[.int .i64 lo, .int .i64 hi] 139)).cell? ⟨b, 0, none⟩ = some (.slice adi r.ins.length cpi) := by
    rw [hW0] at hbel; exact (hbel.cell hlt).trans c0
  clear hbel hnew hnod hW0 h hvi
  go_enter Tryz.func248, Tryz.ntmps248
  go_wp2
  go_region_law (
    refine step_append_lies _ rfl (.tmp 16) (.tmp 18) 100 rfl B 139 i0 (.agg #[.int .i64 0, .int .i64 0]) 2 16 Tryz.underlying100 hinf hz0 hz1 hz2 rfl (by decide) (.slice adi r.ins.length cpi) r.ins.length (spanCells r.ins) (by simp [Act.eval]) (by obtain ⟨a1, _, _, _, rfl, rfl⟩ := HA.out; exact (a1 1).ins) ⟨w.heap.size + 2, 0, none⟩ 1 1 [intV lo, intV hi] (by simp [Act.eval]) rfl (by obtain ⟨_, _, _, a5, _, rfl⟩ := HA.out; exact news_far _ #[intV lo, intV hi] _ a5 rfl) (two_cell _ _ rfl rfl) (by decide) (by unfold maxLen; omega) (by omega) (by simp; omega) _ rfl ?_
    intro g cap w1 hown' hgrow _ _
    have R : Hid (RdX B (w1.setCell ⟨b, 0, none⟩ (.slice (some ⟨g, 0, none⟩) (r.ins.length + 1) cap)) b (r.addIn (lo, hi)) lx ly ∧ Below B w (w1.setCell ⟨b, 0, none⟩ (.slice (some ⟨g, 0, none⟩) (r.ins.length + 1) cap)) ∧ w1.heap[b]? = some (.cells #[.slice adi r.ins.length cpi, vn, vo, vx, vy, vt, .int .i64 r.pos, ve] 188 (0, 0)) ∧ w1.heap[w.heap.size + 1]? = some (.cells #[.int .i64 1, .int .i64 0, .int .i64 0, .int .i64 0, .int .i64 r.ins.length, .slice none 0 0] 194 (0, 0))) := by
      obtain ⟨a1, a3, a4, _, rfl, rfl⟩ := HA.out
      have ha := a1 1
      exact ⟨⟨_, _, _, _, _, _, _, _, ha.addIn hgrow hown'⟩, (((a3 1).mono (by omega)).grown hgrow (by simp; omega) (own_base ha.ins)).setCell (p := ⟨b, 0, none⟩) hB _, (ha.blkKept ha.ins hgrow (by decide)).trans ha.blk, (KeepT.grown ha.ins hgrow (show 139 ≠ 194 by decide) _ _ a4).trans a4⟩
    have hRb := R.out.2.2.1
    have c0' : w1.cell? ⟨b, 0, none⟩ = some (.slice adi r.ins.length cpi) := by rw [cellsOf hRb]; rfl
    have f0' : w1.frozen? ⟨b, 0, none⟩ = false := freeOf hRb 0
    have hk : (w1.setCell ⟨b, 0, none⟩ (.slice (some ⟨g, 0, none⟩) (r.ins.length + 1) cap)).heap[w.heap.size + 1]? = some (.cells #[.int .i64 1, .int .i64 0, .int .i64 0, .int .i64 0, .int .i64 r.ins.length, .slice none 0 0] 194 (0, 0)) := by
      rw [Below.heap_setCell _ _ _ _ (by simp; omega)]; exact R.out.2.2.2
    have k0 : (w1.setCell ⟨b, 0, none⟩ (.slice (some ⟨g, 0, none⟩) (r.ins.length + 1) cap)).cell? ⟨w.heap.size + 1, 0, none⟩ = some (.int .i64 1) := by rw [cellsOf hk]; rfl
    have k1 : (w1.setCell ⟨b, 0, none⟩ (.slice (some ⟨g, 0, none⟩) (r.ins.length + 1) cap)).cell? ⟨w.heap.size + 1, 1, none⟩ = some (.int .i64 0) := by rw [cellsOf hk]; rfl
    have k2 : (w1.setCell ⟨b, 0, none⟩ (.slice (some ⟨g, 0, none⟩) (r.ins.length + 1) cap)).cell? ⟨w.heap.size + 1, 2, none⟩ = some (.int .i64 0) := by rw [cellsOf hk]; rfl
    have k3 : (w1.setCell ⟨b, 0, none⟩ (.slice (some ⟨g, 0, none⟩) (r.ins.length + 1) cap)).cell? ⟨w.heap.size + 1, 3, none⟩ = some (.int .i64 0) := by rw [cellsOf hk]; rfl
    have k4 : (w1.setCell ⟨b, 0, none⟩ (.slice (some ⟨g, 0, none⟩) (r.ins.length + 1) cap)).cell? ⟨w.heap.size + 1, 4, none⟩ = some (.int .i64 r.ins.length) := by rw [cellsOf hk]; rfl
    have k5 : (w1.setCell ⟨b, 0, none⟩ (.slice (some ⟨g, 0, none⟩) (r.ins.length + 1) cap)).cell? ⟨w.heap.size + 1, 5, none⟩ = some (.slice none 0 0) := by rw [cellsOf hk]; rfl
    clear hown' hgrow hRb hk)
  all_goals
    go_wp2_with fail
    refine (Append_x R.out.1 ⟨1, 0, 0, 0, r.ins.length, []⟩ (.slice none 0 0) (World.ownsRow_nil _ _ _ _) hn).mono ?_
    rintro e w2 ⟨rfl, hR2, hB2⟩
    have hB3 : Hid (Below B w w2) := R.out.2.1.trans hB2
    have hR3 : Hid (RdX B w2 b ((r.addIn (lo, hi)).addNode ⟨1, 0, 0, 0, r.ins.length, []⟩) lx ly) := hR2
    clear k0 k1 k2 k3 k4 k5 c0' f0' R hB2 hR2
    go_wp2
    go_ret
    exact ⟨rfl, hR3.out, hB3.out⟩

set_option maxRecDepth 100000 in
set_option maxHeartbeats 1000000 in
theorem LearnOut_any {B : Nat} {w : World} {b : Nat} {r : Pl.RdM} (h : Rd B w b r) (t : List UInt8) (n : Int) (hn : r.ents.length ≤ 1000) (hno : r.outs.length ≤ 1000) :
    Calls Tryz.prog 188 #[.pointer (some ⟨b, 0, none⟩), .string ⟨t.toArray⟩, .int .i64 n] w fun e w' => e = .returned (.tuple #[]) ∧ Rd B w' b ((r.addEnt t 2 n).addOut n) ∧ Below B w w' := by
  obtain ⟨i0, hi, hz0, hz1, hz2⟩ := info_parts Tryz.infoEnt
  obtain ⟨j0, hj, hy0, hy1, hy2⟩ := info_parts Tryz.infoInt
  obtain ⟨k0, hk, hx0, hx1, hx2⟩ := info_parts Tryz.infoStr
  obtain ⟨vi, vn, vo, vt, ve, bvs, vx, vy, lx, ly, h, hnm⟩ := h
  have hB := h.base
  have hly : ly.length ≤ 1000 := by rw [hnm.outs]; exact Nat.le_trans (Pl.outNames_len _) hn
  have hlt := lt_of_block h.blk
  have c5 : w.cell? ⟨b, 7, none⟩ = some ve := by rw [cellsOf h.blk]; rfl
  have f5 : w.frozen? ⟨b, 7, none⟩ = false := freeOf h.blk 7
  have hal := h.below ((Below.refl _ w).alloc (Nat.le_refl _) (.cells #[.string ⟨t.toArray⟩, .int .i64 2, .int .i64 n] 307))
  go_enter Tryz.func188, Tryz.ntmps188
  go_wp2_with (at_builtin; refine wpList_append_lies _ rfl _ _ 186 rfl B 307 i0 (.agg #[.string ⟨#[]⟩, .int .i64 0, .int .i64 0]) 3 32 Tryz.underlying186 hi hz0 hz1 hz2 rfl (by decide) _ _ _ rfl hal.ents ⟨_, 0, none⟩ 1 1 [strV t, intV 2, intV n] rfl rfl ?c1 (three_cell _ _ _ rfl rfl rfl) (by decide) ?c3 ?c4 ?c5 _ rfl ?_)
  case c1 => exact news_at #[strV t, intV 2, intV n] _
  case c3 => unfold maxLen; omega
  case c4 => omega
  case c5 => simp; omega
  · intro g cap w1 hown' hgrow _ _
    have hA0 := hal.addEnt hgrow hown'
    have hB0 := (((Below.refl B w).alloc (by omega) (.cells #[.string ⟨t.toArray⟩, .int .i64 2, .int .i64 n] 307)).grown hgrow (by simp; omega) (own_base hal.ents)).setCell (p := ⟨b, 7, none⟩) hB (.slice (some ⟨g, 0, none⟩) (r.ents.length + 1) cap)
    have hbk := hal.blkKept hal.ents hgrow (by decide)
    have c5' : w1.cell? ⟨b, 7, none⟩ = some ve := by rw [cellsOf (hbk.trans hal.blk)]; rfl
    have f5' : w1.frozen? ⟨b, 7, none⟩ = false := freeOf (hbk.trans hal.blk) 7
    have c2 : (w1.setCell ⟨b, 7, none⟩ (.slice (some ⟨g, 0, none⟩) (r.ents.length + 1) cap)).cell? ⟨b, 2, none⟩ = some vo := by rw [cellsOf hA0.blk]; rfl
    have hal2 := hA0.below ((Below.refl _ (w1.setCell ⟨b, 7, none⟩ (.slice (some ⟨g, 0, none⟩) (r.ents.length + 1) cap))).alloc (Nat.le_refl _) (.cells #[.int .i64 n] 3))
    have hsz := lt_of_block hA0.blk
    have HH : Hid (Below B w (w1.setCell ⟨b, 7, none⟩ (.slice (some ⟨g, 0, none⟩) (r.ents.length + 1) cap))) := hB0
    clear hown' hgrow hbk hal h hA0 hB0
    go_wp2_with (at_builtin; refine wpList_append_lies _ rfl _ _ 22 rfl B 3 j0 (.int .i64 0) 1 8 Tryz.underlying22 hj hy0 hy1 hy2 rfl (by decide) _ _ _ rfl hal2.outs ⟨_, 0, none⟩ 1 1 [intV n] rfl rfl ?d1 (fun u hu => by simp at hu; subst hu; rfl) (by decide) ?d3 ?d4 ?d5 _ rfl ?_)
    case d1 => exact news_far _ #[intV n] 3 (by have := heap_alloc_new (w1.setCell ⟨b, 7, none⟩ (.slice (some ⟨g, 0, none⟩) (r.ents.length + 1) cap)) (.cells #[.int .i64 n] 3); simpa [intV] using this) rfl
    case d3 => show r.outs.length + 1 ≤ _; unfold maxLen; omega
    case d4 => show (r.outs.length + 1) * 8 ≤ _; omega
    case d5 => simp at hsz ⊢; omega
    · intro g2 cap2 w2 hown2 hgrow2 _ _
      have hA0 : RdAt B (w2.setCell ⟨b, 2, none⟩ (.slice (some ⟨g2, 0, none⟩) ((r.addEnt t 2 n).outs.length + 1) cap2)) b ((r.addEnt t 2 n).addOut n) vi vn (.slice (some ⟨g2, 0, none⟩) ((r.addEnt t 2 n).outs.length + 1) cap2) vt (.slice (some ⟨g, 0, none⟩) (r.ents.length + 1) cap) bvs vx vy lx ly := hal2.addOut hgrow2 hown2
      have hB0 := (((HH.out.alloc (by simp at hsz ⊢; omega) (.cells #[.int .i64 n] 3)).grown hgrow2 (by simp at hsz ⊢; omega) (own_base hal2.outs)).setCell (p := ⟨b, 2, none⟩) hB (.slice (some ⟨g2, 0, none⟩) ((r.addEnt t 2 n).outs.length + 1) cap2))
      have hbk := hal2.blkKept hal2.outs hgrow2 (by decide)
      have c2' : w2.cell? ⟨b, 2, none⟩ = some vo := by rw [cellsOf (hbk.trans hal2.blk)]; rfl
      have f2' : w2.frozen? ⟨b, 2, none⟩ = false := freeOf (hbk.trans hal2.blk) 2
      have c4 : (w2.setCell ⟨b, 2, none⟩ (.slice (some ⟨g2, 0, none⟩) ((r.addEnt t 2 n).outs.length + 1) cap2)).cell? ⟨b, 4, none⟩ = some vy := by rw [cellsOf hA0.blk]; rfl
      have hal3 := hA0.below ((Below.refl _ (w2.setCell ⟨b, 2, none⟩ (.slice (some ⟨g2, 0, none⟩) ((r.addEnt t 2 n).outs.length + 1) cap2))).alloc (Nat.le_refl _) (.cells #[.string ⟨t.toArray⟩] 9))
      have hsz3 := lt_of_block hA0.blk
      have HH3 : Hid (Below B w (w2.setCell ⟨b, 2, none⟩ (.slice (some ⟨g2, 0, none⟩) ((r.addEnt t 2 n).outs.length + 1) cap2))) := hB0
      clear hown2 hgrow2 hbk hal2 c2 c5' f5' HH hA0 hB0
      go_wp2_with (at_builtin; refine wpList_append_lies _ rfl _ _ 102 rfl B 9 k0 (.string ⟨#[]⟩) 1 16 Tryz.underlying102 hk hx0 hx1 hx2 rfl (by decide) _ _ _ rfl hal3.outN ⟨_, 0, none⟩ 1 1 [strV t] rfl rfl ?e1 (fun u hu => by simp at hu; subst hu; rfl) (by decide) ?e3 ?e4 ?e5 _ rfl ?_)
      case e1 => exact news_far _ #[strV t] 9 (by have := heap_alloc_new (w2.setCell ⟨b, 2, none⟩ (.slice (some ⟨g2, 0, none⟩) ((r.addEnt t 2 n).outs.length + 1) cap2)) (.cells #[.string ⟨t.toArray⟩] 9); simpa [strV] using this) rfl
      case e3 => unfold maxLen; omega
      case e4 => omega
      case e5 => simp at hsz3 ⊢; omega
      · intro g3 cap3 w3 hown3 hgrow3 hgb3 _
        have hA : Hid (RdAt B (w3.setCell ⟨b, 4, none⟩ (.slice (some ⟨g3, 0, none⟩) (ly.length + 1) cap3)) b ((r.addEnt t 2 n).addOut n) vi vn (.slice (some ⟨g2, 0, none⟩) ((r.addEnt t 2 n).outs.length + 1) cap2) vt (.slice (some ⟨g, 0, none⟩) (r.ents.length + 1) cap) bvs vx (.slice (some ⟨g3, 0, none⟩) (ly.length + 1) cap3) lx (ly ++ [t])) := hal3.addOutN hgrow3 (by simpa using hgb3) hown3
        have hB1 : Hid (Below B w (w3.setCell ⟨b, 4, none⟩ (.slice (some ⟨g3, 0, none⟩) (ly.length + 1) cap3))) := (((HH3.out.alloc (by simp at hsz3 ⊢; omega) (.cells #[.string ⟨t.toArray⟩] 9)).grown hgrow3 (by simp at hsz3 ⊢; omega) (own_base hal3.outN)).setCell (p := ⟨b, 4, none⟩) hB _)
        have hbk := hal3.blkKept hal3.outN hgrow3 (by decide)
        have c4' : w3.cell? ⟨b, 4, none⟩ = some vy := by rw [cellsOf (hbk.trans hal3.blk)]; rfl
        have f4' : w3.frozen? ⟨b, 4, none⟩ = false := freeOf (hbk.trans hal3.blk) 4
        clear hown3 hgrow3 hbk hal3 c4 c2' f2' HH3 hgb3
        go_wp2
        go_end0
        exact ⟨rfl, ⟨_, _, _, _, _, _, _, _, _, _, hA.out, hnm.addOut t n⟩, hB1.out⟩

theorem entCells_get (l : List (List UInt8 × Int × Int)) (i : Nat) (hi : i < l.length) : (entCells l)[i * 3]? = some (strV l[i].1) ∧ (entCells l)[i * 3 + 1]? = some (intV l[i].2.1) ∧ (entCells l)[i * 3 + 2]? = some (intV l[i].2.2) := by
  induction l generalizing i with
  | nil => simp at hi
  | cons e l ih =>
    cases i with
    | zero => exact ⟨rfl, rfl, rfl⟩
    | succ i =>
      have := ih i (by simpa using hi)
      have e1 : entCells (e :: l) = strV e.1 :: intV e.2.1 :: intV e.2.2 :: entCells l := by simp [entCells]
      rw [e1]
      rw [show (i + 1) * 3 = i * 3 + 1 + 1 + 1 by omega]
      simpa using this
theorem ents_shape {B : Nat} {w : World} {v : Value} {l : List (List UInt8 × Int × Int)} (h : EntsOwn B w v l) :
    ∃ ad cap, v = .slice ad l.length cap ∧ (∀ i, (hi : i < l.length) → ∃ g, ad = some ⟨g, 0, none⟩ ∧ w.cell? ⟨g, i * 3, none⟩ = some (strV l[i].1) ∧ w.cell? ⟨g, i * 3 + 1, none⟩ = some (.int .i64 l[i].2.1) ∧ w.cell? ⟨g, i * 3 + 2, none⟩ = some (.int .i64 l[i].2.2)) := by
  rcases h.2 with ⟨rfl, hn⟩ | ⟨g, cap, cur, rfl, hb, hgg, hle, hm, hcs, htk⟩
  · exact ⟨none, 0, by rw [hn], fun i hi => by omega⟩
  · have hc := fun j hj => World.ownsRow.cellAt (show w.ownsRow B 307 3 (.slice (some ⟨g, 0, none⟩) l.length cap) l.length (entCells l) from h) j hj
    refine ⟨some ⟨g, 0, none⟩, cap, rfl, fun i hi => ⟨g, rfl, ?_, ?_, ?_⟩⟩
    · rw [hc (i * 3) (by omega)]; exact (entCells_get l i hi).1
    · rw [hc (i * 3 + 1) (by omega)]; exact (entCells_get l i hi).2.1
    · rw [hc (i * 3 + 2) (by omega)]; exact (entCells_get l i hi).2.2
end Go.Proofs.YtfaljekgpnbmiaaGreat

/-
  Contracts of the reader's find, Known, NewName, Number, Word, Constant.
-/
namespace Go.Proofs.YtfaljekgpnbmiaaGreat
open Go.RowKit

set_option maxHeartbeats 400000 in
theorem find_any {B : Nat} {w : World} {b : Nat} {r : Pl.RdM} (h : Rd B w b r) (t : List UInt8) (hn : r.ents.length ≤ 1000) :
    Calls Tryz.prog 319 #[.pointer (some ⟨b, 0, none⟩), .string ⟨t.toArray⟩] w fun e w' => e = .returned (.int .i64 (Pl.findEnt r.ents t)) ∧ w' = w := by
  obtain ⟨vi, vn, vo, vt, ve, bvs, vx, vy, lx, ly, h, hnm⟩ := h
  have c5 : w.cell? ⟨b, 7, none⟩ = some ve := by rw [cellsOf h.blk]; rfl
  obtain ⟨ad, cap, rfl, hcell⟩ := ents_shape h.ents
  clear h
  go_enter Tryz.func319, Tryz.ntmps319
  go_wp2
  go_loop [5] (fun i => ∃ k : Nat, k ≤ r.ents.length ∧ i = .int .i64 k ∧ Hid (Pl.findEnt r.ents t = k + Pl.findEnt (r.ents.drop k) t)) (fun i => r.ents.length - (intOf i).toNat)
  case atStart => exact ⟨0, by omega, rfl, by simp [Hid]⟩
  case round =>
    obtain ⟨k, hk, rfl, hr⟩ := hrel
    by_cases hlt : k < r.ents.length
    · obtain ⟨g, rfl, hc, _⟩ := hcell k hlt
      clear hcell
      by_cases he : r.ents[k].1 = t
      · have hx : Hid (Pl.findEnt r.ents t = k) := by have := hr.out; rw [Pl.findEnt_hit _ _ _ hlt he] at this; simpa [Hid] using this
        rw [he] at hc
        unfold strV at hc
        clear hr he
        go_wp2
        go_ret
        exact ⟨ret_int (by rw [hx.out]), rfl⟩
      · have hx : Hid (Pl.findEnt r.ents t = ↑(k + 1) + Pl.findEnt (r.ents.drop (k + 1)) t) := by have := hr.out; rw [Pl.findEnt_miss _ _ _ hlt he] at this; simp only [Hid]; omega
        generalize r.ents[k].1 = u at *
        have hb : (u == t) = false := by simpa using he
        unfold strV at hc
        clear hr he
        go_wp2
        go_round
        case rel => exact ⟨k + 1, by omega, by go_num, hx.out⟩
        case measure => simp [intOf]; omega
    · have hx : Hid (Pl.findEnt r.ents t = k) := by have := hr.out; rw [Pl.findEnt_end _ _ _ (by omega)] at this; simpa [Hid] using this
      clear hcell hr
      go_wp2
      go_ret
      exact ⟨ret_int (by rw [hx.out]), rfl⟩

set_option maxHeartbeats 400000 in
theorem RNumO_no {B : Nat} {w : World} {b : Nat} {r : Pl.RdM} (h : Rd B w b r) (hp : r.pos ≤ 600) (hpk : r.peek.length ≤ 6000) (lo hi : Int) (hno : r.num lo hi = none) :
    Calls Tryz.prog 247 #[.pointer (some ⟨b, 0, none⟩), .int .i64 lo, .int .i64 hi] w fun e w' => e = .returned (.tuple #[.int .i64 0, .bool false]) ∧ Moves b r.pos w w' := by
  have hpc := Peek_any h hp
  have hb1 : Hid (∀ n, Moves b r.pos w (w.drewN n)) := fun n => h.stays (below_drewN (Below.refl _ w) n)
  have hno' : ¬ ((Pl.number r.peek).2 = true ∧ lo ≤ (Pl.number r.peek).1 ∧ (Pl.number r.peek).1 ≤ hi) := by intro hc; rw [Pl.RdM.num, if_pos hc] at hno; cases hno
  have hN := fun w => Number_any r.peek w (by unfold maxLen; omega)
  generalize r.peek = t at *
  generalize Pl.number t = p at *
  obtain ⟨m, ok⟩ := p
  simp only at hno' hN
  have hcs : ok = false ∨ ok = true ∧ decide (m < lo) = true ∨ ok = true ∧ decide (m < lo) = false ∧ decide (hi < m) = true := by
    cases ok <;> simp at hno' ⊢; omega
  clear hno hno' h
  rcases hcs with rfl | ⟨rfl, ht1⟩ | ⟨rfl, ht1, ht2⟩
  all_goals
    go_enter Tryz.func247, Tryz.ntmps247
    go_wp2_with fail
    refine hpc.mono ?_
    rintro e w' ⟨rfl, n, rfl⟩
    unfold strV
    go_wp2_with fail
    refine (hN _).mono ?_
    rintro e w' ⟨rfl, rfl⟩
    clear hpc hN
    go_wp2
    go_ret2
    exact ⟨rfl, hb1.out n⟩

set_option maxHeartbeats 400000 in
theorem RNumO_yes {B : Nat} {w : World} {b : Nat} {r : Pl.RdM} (h : Rd B w b r) (hp : r.pos ≤ 600) (hpk : r.peek.length ≤ 6000) (lo hi m : Int) (hno : r.num lo hi = some m) :
    Calls Tryz.prog 247 #[.pointer (some ⟨b, 0, none⟩), .int .i64 lo, .int .i64 hi] w fun e w' => e = .returned (.tuple #[.int .i64 m, .bool true]) ∧ Moves b r.skip.pos w w' := by
  have hpc := Peek_any h hp
  have h1 : Hid (∀ n, Rd B (w.drewN n) b r) := fun n => h.below (below_drewN (Below.refl _ w) n)
  have hb1 : Hid (∀ n, Moves b r.pos w (w.drewN n)) := fun n => h.stays (below_drewN (Below.refl _ w) n)
  have hno' : ((Pl.number r.peek).2 = true ∧ lo ≤ (Pl.number r.peek).1 ∧ (Pl.number r.peek).1 ≤ hi) ∧ (Pl.number r.peek).1 = m := by
    unfold Pl.RdM.num at hno
    split at hno
    · exact ⟨‹_›, by simpa using hno⟩
    · cases hno
  have hN := fun w => Number_any r.peek w (by unfold maxLen; omega)
  generalize r.peek = t at *
  generalize Pl.number t = p at *
  obtain ⟨m', ok⟩ := p
  simp only at hno' hN
  obtain ⟨⟨rfl, hl1, hl2⟩, rfl⟩ := hno'
  have ht1 : decide (m' < lo) = false := by simp; omega
  have ht2 : decide (hi < m') = false := by simp; omega
  clear hno h hl1 hl2
  go_enter Tryz.func247, Tryz.ntmps247
  go_wp2_with fail
  refine hpc.mono ?_
  rintro e w' ⟨rfl, n, rfl⟩
  unfold strV
  go_wp2_with fail
  refine (hN _).mono ?_
  rintro e w' ⟨rfl, rfl⟩
  clear hpc hN
  go_wp2_with fail
  refine (Skip_only (h1.out n) hp).mono ?_
  rintro e w' ⟨rfl, hbb⟩
  have hr' : Hid (Moves b r.skip.pos w w') := (hb1.out n).trans hbb
  clear hbb
  go_wp2
  go_ret2
  exact ⟨rfl, hr'.out⟩

theorem RNum_no {B : Nat} {w : World} {b : Nat} {r : Pl.RdM} (h : Rd B w b r) (hp : r.pos ≤ 600) (hpk : r.peek.length ≤ 6000) (lo hi : Int) (hno : r.num lo hi = none) :
    Calls Tryz.prog 247 #[.pointer (some ⟨b, 0, none⟩), .int .i64 lo, .int .i64 hi] w fun e w' => e = .returned (.tuple #[.int .i64 0, .bool false]) ∧ Rd B w' b r ∧ Below B w w' :=
  (RNumO_no h hp hpk lo hi hno).mono fun _ _ ⟨h1, h2⟩ => ⟨h1, h.still h2, h2.only.below h.bd.1 h.bd.2.1⟩
theorem RNum_yes {B : Nat} {w : World} {b : Nat} {r : Pl.RdM} (h : Rd B w b r) (hp : r.pos ≤ 600) (hpk : r.peek.length ≤ 6000) (lo hi m : Int) (hno : r.num lo hi = some m) :
    Calls Tryz.prog 247 #[.pointer (some ⟨b, 0, none⟩), .int .i64 lo, .int .i64 hi] w fun e w' => e = .returned (.tuple #[.int .i64 m, .bool true]) ∧ Rd B w' b r.skip ∧ Below B w w' :=
  (RNumO_yes h hp hpk lo hi m hno).mono fun _ _ ⟨h1, h2⟩ => ⟨h1, h.skips h2, h2.only.below h.bd.1 h.bd.2.1⟩

set_option maxHeartbeats 400000 in
theorem Word_any {B : Nat} {w : World} {b : Nat} {r : Pl.RdM} (h : Rd B w b r) (hp : r.pos ≤ 600) (t : List UInt8) :
    Calls Tryz.prog 183 #[.pointer (some ⟨b, 0, none⟩), .string ⟨t.toArray⟩] w fun e w' => e = .returned (.bool (r.peek == t)) ∧ Rd B w' b (if r.peek == t then r.skip else r) ∧ Below B w w' := by
  have hpc := Peek_any h hp
  have h1 : Hid (∀ n, Rd B (w.drewN n) b r) := fun n => h.below (below_drewN (Below.refl _ w) n)
  have hb1 : Hid (∀ n, Below B w (w.drewN n)) := fun n => below_drewN (Below.refl B w) n
  generalize r.peek = u at *
  clear h
  cases hut : (u == t)
  · go_enter Tryz.func183, Tryz.ntmps183
    go_wp2_with fail
    refine hpc.mono ?_
    rintro e w' ⟨rfl, n, rfl⟩
    unfold strV
    clear hpc
    go_wp2
    go_ret
    exact ⟨rfl, by simpa using h1.out n, hb1.out n⟩
  · go_enter Tryz.func183, Tryz.ntmps183
    go_wp2_with fail
    refine hpc.mono ?_
    rintro e w' ⟨rfl, n, rfl⟩
    unfold strV
    clear hpc
    go_wp2_with fail
    refine (Skip_any (h1.out n) hp).mono ?_
    rintro e w' ⟨rfl, hr, hbb⟩
    have hr' : Hid (Rd B w' b r.skip) := hr
    clear hr
    go_wp2
    go_ret
    exact ⟨rfl, by simpa using hr'.out, (hb1.out n).trans hbb⟩
end Go.Proofs.YtfaljekgpnbmiaaGreat

/-
  Contracts of the reader's NewName and known.
-/
namespace Go.Proofs.YtfaljekgpnbmiaaGreat
open Go.RowKit

theorem Rd.drewN {B : Nat} {w : World} {b : Nat} {r : Pl.RdM} (h : Rd B w b r) (n : Nat) : Rd B (w.drewN n) b r := h.below (below_drewN (Below.refl _ w) n)

set_option maxHeartbeats 400000 in
theorem NewName_bad {B : Nat} {w : World} {b : Nat} {r : Pl.RdM} (h : Rd B w b r) (hp : r.pos ≤ 600) (hno : Pl.isName r.peek = false) :
    Calls Tryz.prog 246 #[.pointer (some ⟨b, 0, none⟩)] w fun e w' => e = .returned (.tuple #[strV [], .bool false]) ∧ Rd B w' b r ∧ Below B w w' := by
  have hpc := Peek_any h hp
  have h1 : Hid (∀ n, Rd B (w.drewN n) b r) := h.drewN
  have hb1 : Hid (∀ n, Below B w (w.drewN n)) := fun n => below_drewN (Below.refl B w) n
  generalize r.peek = t at *
  clear h
  go_enter Tryz.func246, Tryz.ntmps246
  go_wp2_with fail
  refine hpc.mono ?_
  rintro e w' ⟨rfl, n, rfl⟩
  unfold strV
  go_wp2_with fail
  refine (IsName_any t _).mono ?_
  rintro e w' ⟨rfl, rfl⟩
  clear hpc
  go_wp2
  go_ret2
  exact ⟨rfl, h1.out n, hb1.out n⟩

set_option maxHeartbeats 400000 in
theorem NewName_good {B : Nat} {w : World} {b : Nat} {r : Pl.RdM} (h : Rd B w b r) (hp : r.pos ≤ 600) (hn : r.ents.length ≤ 1000) (hno : Pl.isName r.peek = true) (isnew : Bool) (hnew : decide (Pl.findEnt r.ents r.peek < r.ents.length) = !isnew) :
    Calls Tryz.prog 246 #[.pointer (some ⟨b, 0, none⟩)] w fun e w' => e = .returned (.tuple #[strV (if isnew then r.peek else []), .bool isnew]) ∧ Rd B w' b (if isnew then r.skip else r) ∧ Below B w w' := by
  have hpc := Peek_any h hp
  have h1 : Hid (∀ n, Rd B (w.drewN n) b r) := h.drewN
  have hb1 : Hid (∀ n, Below B w (w.drewN n)) := fun n => below_drewN (Below.refl B w) n
  obtain ⟨vi, vn, vo, vt, ve, bvs, vx, vy, lx, ly, h, hnm⟩ := h
  have c5 : w.cell? ⟨b, 7, none⟩ = some ve := by rw [cellsOf h.blk]; rfl
  obtain ⟨ad, cap, rfl, _⟩ := ents_shape h.ents
  generalize r.peek = t at *
  generalize hfe : Pl.findEnt r.ents t = k at *
  have hfe' : Hid (Pl.findEnt r.ents t = k) := hfe
  clear h hfe
  go_enter Tryz.func246, Tryz.ntmps246
  go_wp2_with fail
  refine hpc.mono ?_
  rintro e w' ⟨rfl, n, rfl⟩
  unfold strV
  go_wp2_with fail
  refine (IsName_any t _).mono ?_
  rintro e w' ⟨rfl, rfl⟩
  clear hpc
  go_wp2_with fail
  have hRW := h1.out n
  have hbW : Hid (Below B w (w.drewN n)) := hb1.out n
  have cW : (w.drewN n).cell? ⟨b, 7, none⟩ = some (.slice ad r.ents.length cap) := c5
  clear h1 hb1 c5
  generalize w.drewN n = W at *
  have hf' : Hid (∀ m : Nat, Calls Tryz.prog 319 #[.pointer (some ⟨b, 0, none⟩), .string ⟨t.toArray⟩] (W.drewN m) fun e w' => e = .returned (.int .i64 k) ∧ w' = W.drewN m) := fun m => by
    have := find_any (hRW.drewN m) t hn; rw [hfe'.out] at this; exact this
  have hR1 : Hid (∀ m, Rd B (W.drewN m) b r ∧ Below B w (W.drewN m)) := fun m => ⟨hRW.drewN m, below_drewN hbW.out m⟩
  clear hRW
  go_quiet ((go_at_call 319; exact Calls.quiet_of_same (hf'.out _)))
  clear hf'
  cases isnew
  · have hlt : k < r.ents.length := by simpa using hnew
    clear hnew
    go_wp2
    go_ret2
    exact ⟨rfl, (hR1.out _).1, (hR1.out _).2⟩
  · have hlt : ¬ k < r.ents.length := by simpa using hnew
    clear hnew
    go_wp2_with fail
    refine (Skip_any (hR1.out _).1 hp).mono ?_
    rintro e w' ⟨rfl, hr, hbb⟩
    have hr' : Hid (Rd B w' b r.skip ∧ Below B w w') := ⟨hr, (hR1.out _).2.trans hbb⟩
    clear hr hbb
    go_wp2
    go_ret2
    exact ⟨rfl, hr'.out.1, hr'.out.2⟩

theorem NewName_any {B : Nat} {w : World} {b : Nat} {r : Pl.RdM} (h : Rd B w b r) (hp : r.pos ≤ 600) (hn : r.ents.length ≤ 1000) :
    Calls Tryz.prog 246 #[.pointer (some ⟨b, 0, none⟩)] w fun e w' => e = .returned (.tuple #[strV (r.newName.getD []), .bool r.newName.isSome]) ∧ Rd B w' b (if r.newName.isSome then r.skip else r) ∧ Below B w w' := by
  cases hno : Pl.isName r.peek
  · have e : r.newName = none := by unfold Pl.RdM.newName; rw [if_neg (by simp [hno])]
    rw [e]; exact NewName_bad h hp hno
  · have hle := Pl.findEnt_le r.ents r.peek
    by_cases hk : Pl.findEnt r.ents r.peek < r.ents.length
    · have e : r.newName = none := by unfold Pl.RdM.newName; rw [if_neg (by omega)]
      rw [e]; exact NewName_good h hp hn hno false (by simpa using hk)
    · have e : r.newName = some r.peek := by unfold Pl.RdM.newName; rw [if_pos ⟨hno, by omega⟩]
      rw [e]; exact NewName_good h hp hn hno true (by simpa using hk)

set_option maxHeartbeats 400000 in
theorem known_none {B : Nat} {w : World} {b : Nat} {r : Pl.RdM} (h : Rd B w b r) (hp : r.pos ≤ 600) (hn : r.ents.length ≤ 1000) (kd : Int) (hk : r.known kd = none) :
    Calls Tryz.prog 333 #[.pointer (some ⟨b, 0, none⟩), .int .i64 kd] w fun e w' => e = .returned (.tuple #[.int .i64 0, .bool false]) ∧ Rd B w' b r ∧ Below B w w' := by
  have hpc := Peek_any h hp
  have hf := fun n t => find_any (h.drewN n) t hn
  have h1 : Hid (∀ n, Rd B (w.drewN n) b r) := h.drewN
  have hb1 : Hid (∀ n, Below B w (w.drewN n)) := fun n => below_drewN (Below.refl B w) n
  obtain ⟨vi, vn, vo, vt, ve, bvs, vx, vy, lx, ly, h, hnm⟩ := h
  have c5 : w.cell? ⟨b, 7, none⟩ = some ve := by rw [cellsOf h.blk]; rfl
  obtain ⟨ad, cap, rfl, hcell⟩ := ents_shape h.ents
  have hle := Pl.findEnt_le r.ents r.peek
  unfold Pl.RdM.known at hk
  generalize r.peek = t at *
  generalize hfe : Pl.findEnt r.ents t = k at *
  have hf' : Hid (∀ n : Nat, Calls Tryz.prog 319 #[.pointer (some ⟨b, 0, none⟩), .string ⟨t.toArray⟩] (w.drewN n) fun e w' => e = .returned (.int .i64 k) ∧ w' = w.drewN n) := fun n => by
    have := hf n t; rw [hfe] at this; exact this
  clear h hf hfe
  by_cases hlt : k < r.ents.length
  · obtain ⟨g, rfl, _, hc, _⟩ := hcell k hlt
    rw [List.getElem?_eq_getElem hlt] at hk
    have hm1 : r.ents[k].2.1 ≠ kd := by simp only at hk; split at hk <;> simp_all
    generalize r.ents[k].2.1 = kk at *
    have hne : (kk == kd) = false := by simpa using hm1
    have hne2 : (kk != kd) = true := by simpa using hm1
    have hd : decide ((r.ents.length : Int) ≤ k) = false := by simp; omega
    clear hcell hk hm1
    go_enter Tryz.func333, Tryz.ntmps333
    go_wp2_with fail
    refine hpc.mono ?_
    rintro e w' ⟨rfl, n, rfl⟩
    unfold strV
    go_wp2_with fail
    refine (hf'.out n).mono ?_
    rintro e w' ⟨rfl, rfl⟩
    clear hpc hf'
    go_wp2
    go_ret2
    exact ⟨rfl, h1.out n, hb1.out n⟩
  · have hd : decide ((r.ents.length : Int) ≤ k) = true := by simp; omega
    clear hcell hk
    go_enter Tryz.func333, Tryz.ntmps333
    go_wp2_with fail
    refine hpc.mono ?_
    rintro e w' ⟨rfl, n, rfl⟩
    unfold strV
    go_wp2_with fail
    refine (hf'.out n).mono ?_
    rintro e w' ⟨rfl, rfl⟩
    clear hpc hf'
    go_wp2
    go_ret2
    exact ⟨rfl, h1.out n, hb1.out n⟩
end Go.Proofs.YtfaljekgpnbmiaaGreat
