/-
  Contracts of the reader's methods that keep names: Learn, LearnOut; and of the plan's Append, AppendInput.
-/
import Derived.Test.YtfaljekgpnbmiaaRdr1
import Derived.Deep.RegionLaw
import Derived.Deep.AppendLies
namespace Go.Proofs.Ytfaljekgpnbmiaa
open Go.RowKit

theorem Try.infoEnt : (Try.prog.info? 133).map (fun i => (i.zero, i.size, i.bytes)) = some (some (.agg #[.string ⟨#[]⟩, .int .i64 0, .int .i64 0]), 3, 32) := by kernel_rfl
theorem Try.infoInt : (Try.prog.info? 3).map (fun i => (i.zero, i.size, i.bytes)) = some (some (.int .i64 0), 1, 8) := by kernel_rfl
theorem Try.infoSpan : (Try.prog.info? 89).map (fun i => (i.zero, i.size, i.bytes)) = some (some (.agg #[.int .i64 0, .int .i64 0]), 2, 16) := by kernel_rfl
theorem Try.infoBand : (Try.prog.info? 136).map (fun i => (i.zero, i.size, i.bytes)) = some (some (.agg #[.int .i64 0, .int .i64 0]), 2, 16) := by kernel_rfl
theorem Try.infoNode : (Try.prog.info? 94).map (fun i => (i.zero, i.size, i.bytes)) = some (some (.agg #[.int .i64 0, .int .i64 0, .int .i64 0, .int .i64 0, .int .i64 0, .slice none 0 0]), 6, 64) := by kernel_rfl

theorem news_at {w : World} (cs : Array Value) (T : TypeId) : ∀ j u, cs.toList[j]? = some u → (w.alloc (.cells cs T)).cell? ((⟨w.heap.size, 0, none⟩ : Addr).add j) = some u := by
  intro j u hj
  have hadd : (⟨w.heap.size, 0, none⟩ : Addr).add j = ⟨w.heap.size, j, none⟩ := by unfold Addr.add; split <;> simp_all
  rw [hadd, cellsOf (heap_alloc_new w (.cells cs T)) j]
  simpa using hj
theorem two_cell (x y : Value) (hx : x.oneCell' = true) (hy : y.oneCell' = true) : ∀ u ∈ [x, y], u.oneCell' = true := by
  intro u hu; simp at hu; rcases hu with rfl | rfl <;> assumption

theorem three_cell (x y z : Value) (hx : x.oneCell' = true) (hy : y.oneCell' = true) (hz : z.oneCell' = true) : ∀ u ∈ [x, y, z], u.oneCell' = true := by
  intro u hu; simp at hu; rcases hu with rfl | rfl | rfl <;> assumption

set_option maxHeartbeats 400000 in
theorem LearnValue_x {B : Nat} {w : World} {b : Nat} {r : Pl.RdM} {lx ly : List (List UInt8)} (h : RdX B w b r lx ly) (t : List UInt8) (n : Int) (hn : r.ents.length ≤ 1000) :
    Calls Try.prog 68 #[.pointer (some ⟨b, 0, none⟩), .string ⟨t.toArray⟩, .int .i64 n] w fun e w' => e = .returned (.tuple #[]) ∧ RdX B w' b (r.addEnt t 0 n) lx ly ∧ Below B w w' := by
  obtain ⟨i0, hi, hz0, hz1, hz2⟩ := info_parts Try.infoEnt
  obtain ⟨vi, vn, vo, vt, ve, bvs, vx, vy, h⟩ := h
  have hB := h.base
  have hlt := lt_of_block h.blk
  have c5 : w.cell? ⟨b, 7, none⟩ = some ve := by rw [cellsOf h.blk]; rfl
  have f5 : w.frozen? ⟨b, 7, none⟩ = false := freeOf h.blk 7
  have hal := h.below ((Below.refl _ w).alloc (Nat.le_refl _) (.cells #[.string ⟨t.toArray⟩, .int .i64 0, .int .i64 n] 133))
  go_enter Try.func68, Try.ntmps68
  go_wp2_with (at_builtin; refine wpList_append_lies _ rfl _ _ 84 rfl B 133 i0 (.agg #[.string ⟨#[]⟩, .int .i64 0, .int .i64 0]) 3 32 Try.underlying84 hi hz0 hz1 hz2 rfl (by decide) _ _ _ rfl hal.ents ⟨_, 0, none⟩ 1 1 [strV t, intV 0, intV n] rfl rfl ?c1 (three_cell _ _ _ rfl rfl rfl) (by decide) ?c3 ?c4 ?c5 _ rfl ?_)
  case c1 => exact news_at #[strV t, intV 0, intV n] _
  case c3 => unfold maxLen; omega
  case c4 => omega
  case c5 => simp; omega
  · intro g cap w1 hown' hgrow _ _
    have hA : Hid (RdAt B (w1.setCell ⟨b, 7, none⟩ (.slice (some ⟨g, 0, none⟩) (r.ents.length + 1) cap)) b (r.addEnt t 0 n) vi vn vo vt (.slice (some ⟨g, 0, none⟩) (r.ents.length + 1) cap) bvs vx vy lx ly) := hal.addEnt hgrow hown'
    have hB1 : Hid (Below B w (w1.setCell ⟨b, 7, none⟩ (.slice (some ⟨g, 0, none⟩) (r.ents.length + 1) cap))) := (((Below.refl B w).alloc (by omega) (.cells #[.string ⟨t.toArray⟩, .int .i64 0, .int .i64 n] 133)).grown hgrow (by simp; omega) (own_base hal.ents)).setCell (p := ⟨b, 7, none⟩) hB _
    have hbk := hal.blkKept hal.ents hgrow (by decide)
    have c5' : w1.cell? ⟨b, 7, none⟩ = some ve := by rw [cellsOf (hbk.trans hal.blk)]; rfl
    have f5' : w1.frozen? ⟨b, 7, none⟩ = false := freeOf (hbk.trans hal.blk) 7
    clear hown' hgrow hbk hal h
    go_wp2
    go_end0
    exact ⟨rfl, ⟨_, _, _, _, _, _, _, _, hA.out⟩, hB1.out⟩
theorem Rd.x {B : Nat} {w : World} {b : Nat} {r : Pl.RdM} (h : Rd B w b r) : ∃ lx ly, RdX B w b r lx ly ∧ Pl.Named r lx ly := by
  obtain ⟨vi, vn, vo, vt, ve, bvs, vx, vy, lx, ly, h, hnm⟩ := h
  exact ⟨lx, ly, ⟨vi, vn, vo, vt, ve, bvs, vx, vy, h⟩, hnm⟩
theorem RdX.rd {B : Nat} {w : World} {b : Nat} {r : Pl.RdM} {lx ly : List (List UInt8)} (h : RdX B w b r lx ly) (hnm : Pl.Named r lx ly) : Rd B w b r := by
  obtain ⟨vi, vn, vo, vt, ve, bvs, vx, vy, h⟩ := h
  exact ⟨vi, vn, vo, vt, ve, bvs, vx, vy, lx, ly, h, hnm⟩
theorem LearnValue_any {B : Nat} {w : World} {b : Nat} {r : Pl.RdM} (h : Rd B w b r) (t : List UInt8) (n : Int) (hn : r.ents.length ≤ 1000) :
    Calls Try.prog 68 #[.pointer (some ⟨b, 0, none⟩), .string ⟨t.toArray⟩, .int .i64 n] w fun e w' => e = .returned (.tuple #[]) ∧ Rd B w' b (r.addEnt t 0 n) ∧ Below B w w' := by
  obtain ⟨lx, ly, hx, hnm⟩ := h.x
  exact (LearnValue_x hx t n hn).mono fun _ _ ⟨h1, h2, h3⟩ => ⟨h1, h2.rd (hnm.addEnt t 0 n (by decide)), h3⟩

theorem slice_shape {w : World} {B : Nat} {e : TypeId} {size : Nat} {v : Value} {n : Nat} {xs : List Value} (h : w.ownsRow B e size v n xs) : ∃ ad cap, v = .slice ad n cap := by
  rcases h.2 with ⟨rfl, hn⟩ | ⟨g, cap, cur, rfl, _⟩
  · exact ⟨none, 0, by rw [hn]⟩
  · exact ⟨_, _, rfl⟩
theorem node_cell (n : Pl.NodeM) (ad : Option Addr) (l c : Nat) : ∀ u ∈ nodeCells n (.slice ad l c), u.oneCell' = true := by
  intro u hu
  simp [nodeCells] at hu
  rcases hu with rfl | rfl | rfl | rfl | rfl | rfl <;> rfl
theorem news_far {w w0 : World} (g : Nat) (cs : Array Value) (T : TypeId) (h : w0.heap[g]? = some (.cells cs T (0, 0))) (hw : w.heap = w0.heap) : ∀ j u, cs.toList[j]? = some u → w.cell? ((⟨g, 0, none⟩ : Addr).add j) = some u := by
  intro j u hj
  have hadd : (⟨g, 0, none⟩ : Addr).add j = ⟨g, j, none⟩ := by unfold Addr.add; split <;> simp_all
  rw [hadd, cellsOf (by rw [hw]; exact h) j]
  simpa using hj

set_option maxHeartbeats 400000 in
theorem Append_x {B : Nat} {w : World} {b : Nat} {r : Pl.RdM} {lx ly : List (List UInt8)} (h : RdX B w b r lx ly) (n : Pl.NodeM) (bv : Value) (hbv : BandsOwn B w bv n.bands) (hn : r.nodes.length ≤ 1000) :
    Calls Try.prog 135 #[.pointer (some ⟨b, 0, none⟩), .agg #[.int .i64 n.op, .int .i64 n.a, .int .i64 n.b, .int .i64 n.c, .int .i64 n.k, bv]] w fun e w' => e = .returned (.int .i64 r.nodes.length) ∧ RdX B w' b (r.addNode n) lx ly ∧ Below B w w' := by
  obtain ⟨i0, hi, hz0, hz1, hz2⟩ := info_parts Try.infoNode
  obtain ⟨vi, vn, vo, vt, ve, bvs, vx, vy, h⟩ := h
  have hB := h.base
  have hlt := lt_of_block h.blk
  have c1 : w.cell? ⟨b, 1, none⟩ = some vn := by rw [cellsOf h.blk]; rfl
  have f1 : w.frozen? ⟨b, 1, none⟩ = false := freeOf h.blk 1
  obtain ⟨ad, cp, hsl⟩ := slice_shape hbv
  subst hsl
  obtain ⟨W0, hW0⟩ : ∃ W0, W0 = ((w.alloc (.cells (nodeCells n (.slice ad n.bands.length cp)).toArray 94)).alloc (.cells (nodeCells n (.slice ad n.bands.length cp)).toArray 94)) := ⟨_, rfl⟩
  have hbel : Below w.heap.size w W0 := by rw [hW0]; exact ((Below.refl _ w).alloc (Nat.le_refl _) _).alloc (by simp) _
  have hsz : W0.heap.size = w.heap.size + 1 + 1 := by rw [hW0]; simp
  have hnew : W0.heap[w.heap.size + 1]? = some (.cells (nodeCells n (.slice ad n.bands.length cp)).toArray 94 (0, 0)) := by
    rw [hW0]; have := heap_alloc_new (w.alloc (.cells (nodeCells n (.slice ad n.bands.length cp)).toArray 94)) (.cells (nodeCells n (.slice ad n.bands.length cp)).toArray 94); simpa using this
  have hal : ∀ k, RdAt B (W0.drewN k) b r vi vn vo vt ve bvs vx vy lx ly := fun k => h.below (below_drewN hbel k)
  have hbv' : ∀ k, BandsOwn B (W0.drewN k) (.slice ad n.bands.length cp) n.bands := fun k => own_keep hbv (.of_below (below_drewN hbel k))
  have HA : Hid ((∀ k, RdAt B (W0.drewN k) b r vi vn vo vt ve bvs vx vy lx ly) ∧ (∀ k, BandsOwn B (W0.drewN k) (.slice ad n.bands.length cp) n.bands) ∧ (∀ k, Below w.heap.size w (W0.drewN k)) ∧ W0.heap.size = w.heap.size + 1 + 1 ∧ W0.heap[w.heap.size + 1]? = some (.cells (nodeCells n (.slice ad n.bands.length cp)).toArray 94 (0, 0)) ∧ W0 = ((w.alloc (.cells (nodeCells n (.slice ad n.bands.length cp)).toArray 94)).alloc (.cells (nodeCells n (.slice ad n.bands.length cp)).toArray 94))) := ⟨hal, hbv', fun k => below_drewN hbel k, hsz, hnew, hW0⟩
  clear hal hbv' hbel hsz hnew hW0 hbv h
  go_enter Try.func135, Try.ntmps135
  go_wp2
  go_region_law (
    refine step_append_lies _ rfl (.tmp 9) (.tmp 11) 47 rfl B 94 i0 (.agg #[.int .i64 0, .int .i64 0, .int .i64 0, .int .i64 0, .int .i64 0, .slice none 0 0]) 6 64 Try.underlying47 hi hz0 hz1 hz2 rfl (by decide) vn r.nodes.length (List.zipWith nodeCells r.nodes bvs).flatten (by simp [Act.eval]) (by obtain ⟨a1, _, _, _, _, rfl⟩ := HA.out; exact (a1 1).nodes.own) ⟨w.heap.size + 1, 0, none⟩ 1 1 (nodeCells n (.slice ad n.bands.length cp)) (by simp [Act.eval]) rfl (by obtain ⟨_, _, _, _, a5, rfl⟩ := HA.out; exact news_far _ _ _ a5 rfl) (node_cell n ad _ cp) (by decide) (by unfold maxLen; omega) (by omega) (by simp; omega) _ rfl ?_
    intro g cap w1 hown' hgrow _ _
    have R : Hid (RdX B (w1.setCell ⟨b, 1, none⟩ (.slice (some ⟨g, 0, none⟩) (r.nodes.length + 1) cap)) b (r.addNode n) lx ly ∧ Below B w (w1.setCell ⟨b, 1, none⟩ (.slice (some ⟨g, 0, none⟩) (r.nodes.length + 1) cap)) ∧ w1.heap[b]? = some (.cells #[vi, vn, vo, vx, vy, vt, .int .i64 r.pos, ve] 86 (0, 0))) := by
      obtain ⟨a1, a2, a3, _, _, rfl⟩ := HA.out
      exact ⟨⟨_, _, _, _, _, _, _, _, (a1 1).addNode (a2 1) hgrow hown'⟩, (((a3 1).mono (by omega)).grown hgrow (by simp; omega) (own_base (a1 1).nodes.own)).setCell (p := ⟨b, 1, none⟩) hB _, ((a1 1).blkKept (a1 1).nodes.own hgrow (by decide)).trans (a1 1).blk⟩
    have c1' : w1.cell? ⟨b, 1, none⟩ = some vn := by rw [cellsOf R.out.2.2]; rfl
    have f1' : w1.frozen? ⟨b, 1, none⟩ = false := freeOf R.out.2.2 1
    have c1'' : (w1.setCell ⟨b, 1, none⟩ (.slice (some ⟨g, 0, none⟩) (r.nodes.length + 1) cap)).cell? ⟨b, 1, none⟩ = some (.slice (some ⟨g, 0, none⟩) (r.nodes.length + 1) cap) := by rw [cellsOf (heap_setCell_same w1 b 1 _ _ _ R.out.2.2)]; rfl
    clear hown' hgrow)
  all_goals
    go_wp2
    go_ret
    exact ⟨ret_int (by omega), R.out.1, R.out.2.1⟩
theorem Append_any {B : Nat} {w : World} {b : Nat} {r : Pl.RdM} (h : Rd B w b r) (n : Pl.NodeM) (bv : Value) (hbv : BandsOwn B w bv n.bands) (hn : r.nodes.length ≤ 1000) :
    Calls Try.prog 135 #[.pointer (some ⟨b, 0, none⟩), .agg #[.int .i64 n.op, .int .i64 n.a, .int .i64 n.b, .int .i64 n.c, .int .i64 n.k, bv]] w fun e w' => e = .returned (.int .i64 r.nodes.length) ∧ Rd B w' b (r.addNode n) ∧ Below B w w' := by
  obtain ⟨lx, ly, hx, hnm⟩ := h.x
  exact (Append_x hx n bv hbv hn).mono fun _ _ ⟨h1, h2, h3⟩ => ⟨h1, h2.rd (hnm.addNode n), h3⟩
end Go.Proofs.Ytfaljekgpnbmiaa
