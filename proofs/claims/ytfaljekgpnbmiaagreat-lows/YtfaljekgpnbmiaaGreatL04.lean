/- Joined: Rdr2 Keyword Name. -/
import Derived.Test.YtfaljekgpnbmiaaGreatL03
/-
  Contracts of the reader's methods that keep names: Learn, LearnOut; and of the plan's Append, AppendInput.
-/
namespace Go.Proofs.YtfaljekgpnbmiaaGreat
open Go.RowKit

theorem Tryz.infoEnt : (Tryz.prog.info? 307).map (fun i => (i.zero, i.size, i.bytes)) = some (some (.agg #[.string ⟨#[]⟩, .int .i64 0, .int .i64 0]), 3, 32) := by kernel_rfl
theorem Tryz.infoInt : (Tryz.prog.info? 3).map (fun i => (i.zero, i.size, i.bytes)) = some (some (.int .i64 0), 1, 8) := by kernel_rfl
theorem Tryz.infoSpan : (Tryz.prog.info? 139).map (fun i => (i.zero, i.size, i.bytes)) = some (some (.agg #[.int .i64 0, .int .i64 0]), 2, 16) := by kernel_rfl
theorem Tryz.infoNode : (Tryz.prog.info? 194).map (fun i => (i.zero, i.size, i.bytes)) = some (some (.agg #[.int .i64 0, .int .i64 0, .int .i64 0, .int .i64 0, .int .i64 0, .slice none 0 0]), 6, 64) := by kernel_rfl

theorem news_at {w : World} (cs : Array Value) (T : TypeId) : ∀ j u, cs.toList[j]? = some u → (w.alloc (.cells cs T)).cell? ((⟨w.heap.size, 0, none⟩ : Addr).add j) = some u := by
  intro j u hj
  have hadd : (⟨w.heap.size, 0, none⟩ : Addr).add j = ⟨w.heap.size, j, none⟩ := by unfold Addr.add; split <;> simp_all
  rw [hadd, cellsOf (heap_alloc_new w (.cells cs T)) j]
  simpa using hj
theorem two_cell (x y : Value) (hx : x.oneCell' = true) (hy : y.oneCell' = true) : ∀ u ∈ [x, y], u.oneCell' = true := by
  intro u hu; simp at hu; rcases hu with rfl | rfl <;> assumption

theorem three_cell (x y z : Value) (hx : x.oneCell' = true) (hy : y.oneCell' = true) (hz : z.oneCell' = true) : ∀ u ∈ [x, y, z], u.oneCell' = true := by
  intro u hu; simp at hu; rcases hu with rfl | rfl | rfl <;> assumption

set_option maxHeartbeats 400000 in
theorem LearnValue_x {B : Nat} {w : World} {b : Nat} {r : Pl.RdM} {lx ly : List (List UInt8)} (h : RdX B w b r lx ly) (t : List UInt8) (n : Int) (hn : r.ents.length ≤ 1000) :
    Calls Tryz.prog 186 #[.pointer (some ⟨b, 0, none⟩), .string ⟨t.toArray⟩, .int .i64 n] w fun e w' => e = .returned (.tuple #[]) ∧ RdX B w' b (r.addEnt t 0 n) lx ly ∧ Below B w w' := by
  obtain ⟨i0, hi, hz0, hz1, hz2⟩ := info_parts Tryz.infoEnt
  obtain ⟨vi, vn, vo, vt, ve, bvs, vx, vy, h⟩ := h
  have hB := h.base
  have hlt := lt_of_block h.blk
  have c5 : w.cell? ⟨b, 7, none⟩ = some ve := by rw [cellsOf h.blk]; rfl
  have f5 : w.frozen? ⟨b, 7, none⟩ = false := freeOf h.blk 7
  have hal := h.below ((Below.refl _ w).alloc (Nat.le_refl _) (.cells #[.string ⟨t.toArray⟩, .int .i64 0, .int .i64 n] 307))
  go_enter Tryz.func186, Tryz.ntmps186
  go_wp2_with (at_builtin; refine wpList_append_lies _ rfl _ _ 186 rfl B 307 i0 (.agg #[.string ⟨#[]⟩, .int .i64 0, .int .i64 0]) 3 32 Tryz.underlying186 hi hz0 hz1 hz2 rfl (by decide) _ _ _ rfl hal.ents ⟨_, 0, none⟩ 1 1 [strV t, intV 0, intV n] rfl rfl ?c1 (three_cell _ _ _ rfl rfl rfl) (by decide) ?c3 ?c4 ?c5 _ rfl ?_)
  case c1 => exact news_at #[strV t, intV 0, intV n] _
  case c3 => unfold maxLen; omega
  case c4 => omega
  case c5 => simp; omega
  · intro g cap w1 hown' hgrow _ _
    have hA : Hid (RdAt B (w1.setCell ⟨b, 7, none⟩ (.slice (some ⟨g, 0, none⟩) (r.ents.length + 1) cap)) b (r.addEnt t 0 n) vi vn vo vt (.slice (some ⟨g, 0, none⟩) (r.ents.length + 1) cap) bvs vx vy lx ly) := hal.addEnt hgrow hown'
    have hB1 : Hid (Below B w (w1.setCell ⟨b, 7, none⟩ (.slice (some ⟨g, 0, none⟩) (r.ents.length + 1) cap))) := (((Below.refl B w).alloc (by omega) (.cells #[.string ⟨t.toArray⟩, .int .i64 0, .int .i64 n] 307)).grown hgrow (by simp; omega) (own_base hal.ents)).setCell (p := ⟨b, 7, none⟩) hB _
    have hbk := hal.blkKept hal.ents hgrow (by decide)
    have c5' : w1.cell? ⟨b, 7, none⟩ = some ve := by rw [cellsOf (hbk.trans hal.blk)]; rfl
    have f5' : w1.frozen? ⟨b, 7, none⟩ = false := freeOf (hbk.trans hal.blk) 7
    clear hown' hgrow hbk hal h
    go_wp2
    go_end0
    exact ⟨rfl, ⟨_, _, _, _, _, _, _, _, hA.out⟩, hB1.out⟩
theorem Rd.x {B : Nat} {w : World} {b : Nat} {r : Pl.RdM} (h : Rd B w b r) : ∃ lx ly, RdX B w b r lx ly ∧ Pl.Named r lx ly := by
  obtain ⟨vi, vn, vo, vt, ve, bvs, vx, vy, lx, ly, h, hnm⟩ := h
  exact ⟨lx, ly, ⟨vi, vn, vo, vt, ve, bvs, vx, vy, h⟩, hnm⟩
theorem RdX.rd {B : Nat} {w : World} {b : Nat} {r : Pl.RdM} {lx ly : List (List UInt8)} (h : RdX B w b r lx ly) (hnm : Pl.Named r lx ly) : Rd B w b r := by
  obtain ⟨vi, vn, vo, vt, ve, bvs, vx, vy, h⟩ := h
  exact ⟨vi, vn, vo, vt, ve, bvs, vx, vy, lx, ly, h, hnm⟩
theorem LearnValue_any {B : Nat} {w : World} {b : Nat} {r : Pl.RdM} (h : Rd B w b r) (t : List UInt8) (n : Int) (hn : r.ents.length ≤ 1000) :
    Calls Tryz.prog 186 #[.pointer (some ⟨b, 0, none⟩), .string ⟨t.toArray⟩, .int .i64 n] w fun e w' => e = .returned (.tuple #[]) ∧ Rd B w' b (r.addEnt t 0 n) ∧ Below B w w' := by
  obtain ⟨lx, ly, hx, hnm⟩ := h.x
  exact (LearnValue_x hx t n hn).mono fun _ _ ⟨h1, h2, h3⟩ => ⟨h1, h2.rd (hnm.addEnt t 0 n (by decide)), h3⟩

theorem slice_shape {w : World} {B : Nat} {e : TypeId} {size : Nat} {v : Value} {n : Nat} {xs : List Value} (h : w.ownsRow B e size v n xs) : ∃ ad cap, v = .slice ad n cap := by
  rcases h.2 with ⟨rfl, hn⟩ | ⟨g, cap, cur, rfl, _⟩
  · exact ⟨none, 0, by rw [hn]⟩
  · exact ⟨_, _, rfl⟩
theorem node_cell (n : Pl.NodeM) (ad : Option Addr) (l c : Nat) : ∀ u ∈ nodeCells n (.slice ad l c), u.oneCell' = true := by
  intro u hu
  simp [nodeCells] at hu
  rcases hu with rfl | rfl | rfl | rfl | rfl | rfl <;> rfl
theorem news_far {w w0 : World} (g : Nat) (cs : Array Value) (T : TypeId) (h : w0.heap[g]? = some (.cells cs T (0, 0))) (hw : w.heap = w0.heap) : ∀ j u, cs.toList[j]? = some u → w.cell? ((⟨g, 0, none⟩ : Addr).add j) = some u := by
  intro j u hj
  have hadd : (⟨g, 0, none⟩ : Addr).add j = ⟨g, j, none⟩ := by unfold Addr.add; split <;> simp_all
  rw [hadd, cellsOf (by rw [hw]; exact h) j]
  simpa using hj

set_option maxHeartbeats 400000 in
theorem Append_x {B : Nat} {w : World} {b : Nat} {r : Pl.RdM} {lx ly : List (List UInt8)} (h : RdX B w b r lx ly) (n : Pl.NodeM) (bv : Value) (hbv : BandsOwn B w bv n.bands) (hn : r.nodes.length ≤ 1000) :
    Calls Tryz.prog 321 #[.pointer (some ⟨b, 0, none⟩), .agg #[.int .i64 n.op, .int .i64 n.a, .int .i64 n.b, .int .i64 n.c, .int .i64 n.k, bv]] w fun e w' => e = .returned (.int .i64 r.nodes.length) ∧ RdX B w' b (r.addNode n) lx ly ∧ Below B w w' := by
  obtain ⟨i0, hi, hz0, hz1, hz2⟩ := info_parts Tryz.infoNode
  obtain ⟨vi, vn, vo, vt, ve, bvs, vx, vy, h⟩ := h
  have hB := h.base
  have hlt := lt_of_block h.blk
  have c1 : w.cell? ⟨b, 1, none⟩ = some vn := by rw [cellsOf h.blk]; rfl
  have f1 : w.frozen? ⟨b, 1, none⟩ = false := freeOf h.blk 1
  obtain ⟨ad, cp, hsl⟩ := slice_shape hbv
  subst hsl
  obtain ⟨W0, hW0⟩ : ∃ W0, W0 = ((w.alloc (.cells (nodeCells n (.slice ad n.bands.length cp)).toArray 194)).alloc (.cells (nodeCells n (.slice ad n.bands.length cp)).toArray 194)) := ⟨_, rfl⟩
  have hbel : Below w.heap.size w W0 := by rw [hW0]; exact ((Below.refl _ w).alloc (Nat.le_refl _) _).alloc (by simp) _
  have hsz : W0.heap.size = w.heap.size + 1 + 1 := by rw [hW0]; simp
  have hnew : W0.heap[w.heap.size + 1]? = some (.cells (nodeCells n (.slice ad n.bands.length cp)).toArray 194 (0, 0)) := by
    rw [hW0]; have := heap_alloc_new (w.alloc (.cells (nodeCells n (.slice ad n.bands.length cp)).toArray 194)) (.cells (nodeCells n (.slice ad n.bands.length cp)).toArray 194); simpa using this
  have hal : ∀ k, RdAt B (W0.drewN k) b r vi vn vo vt ve bvs vx vy lx ly := fun k => h.below (below_drewN hbel k)
  have hbv' : ∀ k, BandsOwn B (W0.drewN k) (.slice ad n.bands.length cp) n.bands := fun k => own_keep hbv (.of_below (below_drewN hbel k))
  have HA : Hid ((∀ k, RdAt B (W0.drewN k) b r vi vn vo vt ve bvs vx vy lx ly) ∧ (∀ k, BandsOwn B (W0.drewN k) (.slice ad n.bands.length cp) n.bands) ∧ (∀ k, Below w.heap.size w (W0.drewN k)) ∧ W0.heap.size = w.heap.size + 1 + 1 ∧ W0.heap[w.heap.size + 1]? = some (.cells (nodeCells n (.slice ad n.bands.length cp)).toArray 194 (0, 0)) ∧ W0 = ((w.alloc (.cells (nodeCells n (.slice ad n.bands.length cp)).toArray 194)).alloc (.cells (nodeCells n (.slice ad n.bands.length cp)).toArray 194))) := ⟨hal, hbv', fun k => below_drewN hbel k, hsz, hnew, hW0⟩
  clear hal hbv' hbel hsz hnew hW0 hbv h
  go_enter Tryz.func321, Tryz.ntmps321
  go_wp2
  go_region_law (
    refine step_append_lies _ rfl (.tmp 9) (.tmp 11) 101 rfl B 194 i0 (.agg #[.int .i64 0, .int .i64 0, .int .i64 0, .int .i64 0, .int .i64 0, .slice none 0 0]) 6 64 Tryz.underlying101 hi hz0 hz1 hz2 rfl (by decide) vn r.nodes.length (List.zipWith nodeCells r.nodes bvs).flatten (by simp [Act.eval]) (by obtain ⟨a1, _, _, _, _, rfl⟩ := HA.out; exact (a1 1).nodes.own) ⟨w.heap.size + 1, 0, none⟩ 1 1 (nodeCells n (.slice ad n.bands.length cp)) (by simp [Act.eval]) rfl (by obtain ⟨_, _, _, _, a5, rfl⟩ := HA.out; exact news_far _ _ _ a5 rfl) (node_cell n ad _ cp) (by decide) (by unfold maxLen; omega) (by omega) (by simp; omega) _ rfl ?_
    intro g cap w1 hown' hgrow _ _
    have R : Hid (RdX B (w1.setCell ⟨b, 1, none⟩ (.slice (some ⟨g, 0, none⟩) (r.nodes.length + 1) cap)) b (r.addNode n) lx ly ∧ Below B w (w1.setCell ⟨b, 1, none⟩ (.slice (some ⟨g, 0, none⟩) (r.nodes.length + 1) cap)) ∧ w1.heap[b]? = some (.cells #[vi, vn, vo, vx, vy, vt, .int .i64 r.pos, ve] 188 (0, 0))) := by
      obtain ⟨a1, a2, a3, _, _, rfl⟩ := HA.out
      exact ⟨⟨_, _, _, _, _, _, _, _, (a1 1).addNode (a2 1) hgrow hown'⟩, (((a3 1).mono (by omega)).grown hgrow (by simp; omega) (own_base (a1 1).nodes.own)).setCell (p := ⟨b, 1, none⟩) hB _, ((a1 1).blkKept (a1 1).nodes.own hgrow (by decide)).trans (a1 1).blk⟩
    have c1' : w1.cell? ⟨b, 1, none⟩ = some vn := by rw [cellsOf R.out.2.2]; rfl
    have f1' : w1.frozen? ⟨b, 1, none⟩ = false := freeOf R.out.2.2 1
    have c1'' : (w1.setCell ⟨b, 1, none⟩ (.slice (some ⟨g, 0, none⟩) (r.nodes.length + 1) cap)).cell? ⟨b, 1, none⟩ = some (.slice (some ⟨g, 0, none⟩) (r.nodes.length + 1) cap) := by rw [cellsOf (heap_setCell_same w1 b 1 _ _ _ R.out.2.2)]; rfl
    clear hown' hgrow)
  all_goals
    go_wp2
    go_ret
    exact ⟨ret_int (by omega), R.out.1, R.out.2.1⟩
theorem Append_any {B : Nat} {w : World} {b : Nat} {r : Pl.RdM} (h : Rd B w b r) (n : Pl.NodeM) (bv : Value) (hbv : BandsOwn B w bv n.bands) (hn : r.nodes.length ≤ 1000) :
    Calls Tryz.prog 321 #[.pointer (some ⟨b, 0, none⟩), .agg #[.int .i64 n.op, .int .i64 n.a, .int .i64 n.b, .int .i64 n.c, .int .i64 n.k, bv]] w fun e w' => e = .returned (.int .i64 r.nodes.length) ∧ Rd B w' b (r.addNode n) ∧ Below B w w' := by
  obtain ⟨lx, ly, hx, hnm⟩ := h.x
  exact (Append_x hx n bv hbv hn).mono fun _ _ ⟨h1, h2, h3⟩ => ⟨h1, h2.rd (hnm.addNode n), h3⟩
end Go.Proofs.YtfaljekgpnbmiaaGreat

/-
  The contract of package token's isKeyword.
-/
namespace Go.Proofs.YtfaljekgpnbmiaaGreat
open Go.RowKit

set_option maxHeartbeats 2000000 in
theorem isKeyword_no (t : List UInt8) (w : World) (h : Pl.isKw t = false) :
    Calls Tryz.prog 393 #[.string ⟨t.toArray⟩] w fun e w' => e = .returned (.bool false) ∧ w' = w := by
  simp only [Pl.isKw, Pl.kws, Pl.kIn, Pl.kLet, Pl.kSet, Pl.kOut, Pl.kAdd, Pl.kSub, Pl.kMul, Pl.kMin, Pl.kMax, Pl.kIf, Pl.kDiv, Pl.kTab, Pl.kLt, Pl.kLe, Pl.kEq, Pl.kAnd, Pl.kOr, Pl.kNot, Pl.kDown, Pl.kUp, Pl.kZero, Pl.kNear, Pl.kFlr, Pl.kSel, List.contains_cons, Bool.or_eq_false_iff, List.contains_nil] at h
  obtain ⟨h1, h2, h3, h4, h5, h6, h7, h8, h9, h10, h11, h12, h13, h14, h15, h16, h17, h18, h19, h20, h21, h22, h23, h24, _⟩ := h
  go_enter Tryz.func393, Tryz.ntmps393
  go_wp2
  go_ret
  exact ⟨rfl, rfl⟩

set_option maxHeartbeats 4000000 in
theorem isKeyword_yes (t : List UInt8) (w : World) (h : Pl.isKw t = true) :
    Calls Tryz.prog 393 #[.string ⟨t.toArray⟩] w fun e w' => e = .returned (.bool true) ∧ w' = w := by
  simp only [Pl.isKw, Pl.kws, Pl.kIn, Pl.kLet, Pl.kSet, Pl.kOut, Pl.kAdd, Pl.kSub, Pl.kMul, Pl.kMin, Pl.kMax, Pl.kIf, Pl.kDiv, Pl.kTab, Pl.kLt, Pl.kLe, Pl.kEq, Pl.kAnd, Pl.kOr, Pl.kNot, Pl.kDown, Pl.kUp, Pl.kZero, Pl.kNear, Pl.kFlr, Pl.kSel, List.contains_cons, Bool.or_eq_true, beq_iff_eq, List.contains_nil] at h
  rcases h with rfl | rfl | rfl | rfl | rfl | rfl | rfl | rfl | rfl | rfl | rfl | rfl | rfl | rfl | rfl | rfl | rfl | rfl | rfl | rfl | rfl | rfl | rfl | rfl | h
  any_goals
    go_enter Tryz.func393, Tryz.ntmps393
    go_wp2
    go_ret
    exact ⟨rfl, rfl⟩
  cases h

theorem isKeyword_any (t : List UInt8) (w : World) :
    Calls Tryz.prog 393 #[.string ⟨t.toArray⟩] w fun e w' => e = .returned (.bool (Pl.isKw t)) ∧ w' = w := by
  cases h : Pl.isKw t
  · exact isKeyword_no t w h
  · exact isKeyword_yes t w h

end Go.Proofs.YtfaljekgpnbmiaaGreat

/-
  Contracts of package token's isKeyword and IsName.
-/
namespace Go.Proofs.YtfaljekgpnbmiaaGreat
open Go.RowKit

set_option maxHeartbeats 1000000 in
theorem IsName_loop (t : List UInt8) (c : UInt8) (w : World) (h0 : 0 < t.length) (hc : t[0] = c) (he : t.isEmpty = false) (h8 : decide ((8 : Int) < t.length) = false) (hlet : Pl.isLet c = true) :
    Calls Tryz.prog 318 #[.string ⟨t.toArray⟩] w fun e w' => e = .returned (.bool ((t.drop 1).all Pl.okc && !Pl.isKw t)) ∧ w' = w := by
  have hb0 : (ByteArray.mk t.toArray)[0] = c := hc
  have h8' : t.length ≤ 8 := by simp at h8; omega
  clear hc
  go_enter Tryz.func318, Tryz.ntmps318
  go_wp2_with (first | (go_at_call 391; refine (isLetter_any _ _).mono ?_; rintro e w' ⟨rfl, rfl⟩) | (go_at_call 392; refine (isDigit_any _ _).mono ?_; rintro e w' ⟨rfl, rfl⟩))
  go_loop [3] (fun i => ∃ k : Nat, k ≤ t.length ∧ i = .int .i64 k ∧ Hid ((t.drop k).all Pl.okc = (t.drop 1).all Pl.okc)) (fun i => t.length - (intOf i).toNat)
  case atStart => exact ⟨1, by omega, rfl, rfl⟩
  case round =>
    obtain ⟨k, hk, rfl, hr⟩ := hrel
    by_cases hlt : k < t.length
    · have hb := bget t k hlt
      cases ho : Pl.okc t[k]
      · obtain ⟨hl1, hl2⟩ := Pl.okc_no ho
        have hx : Hid ((t.drop 1).all Pl.okc = false) := hr.out.symm.trans (Pl.all_no t k hlt ho)
        clear ho
        go_wp2_with (first | (go_at_call 391; refine (isLetter_any _ _).mono ?_; rintro e w' ⟨rfl, rfl⟩) | (go_at_call 392; refine (isDigit_any _ _).mono ?_; rintro e w' ⟨rfl, rfl⟩))
        go_ret
        exact ⟨ret_bool (by rw [hx.out, Bool.false_and]), rfl⟩
      · have hx : Hid ((t.drop (k + 1)).all Pl.okc = (t.drop 1).all Pl.okc) := (Pl.all_step t k hlt ho).trans hr.out
        rcases Pl.okc_yes ho with hl1 | ⟨hl1, hl2⟩
        all_goals
          clear ho
          go_wp2_with (first | (go_at_call 391; refine (isLetter_any _ _).mono ?_; rintro e w' ⟨rfl, rfl⟩) | (go_at_call 392; refine (isDigit_any _ _).mono ?_; rintro e w' ⟨rfl, rfl⟩))
          go_round
          case rel => exact ⟨k + 1, by omega, by go_num, hx.out⟩
          case measure => simp [intOf]; omega
    · have hx : Hid ((t.drop 1).all Pl.okc = true) := hr.out.symm.trans (Pl.all_end t k (by omega))
      go_wp2_with (go_at_call 393; refine (isKeyword_any _ _).mono ?_; rintro e w' ⟨rfl, rfl⟩)
      go_ret
      exact ⟨ret_bool (by rw [hx.out, Bool.true_and]), rfl⟩

set_option maxHeartbeats 1000000 in
theorem IsName_long (t : List UInt8) (w : World) (he : t.isEmpty = false) (h8 : decide ((8 : Int) < t.length) = true) :
    Calls Tryz.prog 318 #[.string ⟨t.toArray⟩] w fun e w' => e = .returned (.bool false) ∧ w' = w := by
  go_enter Tryz.func318, Tryz.ntmps318
  go_wp2_with (go_at_call 391; refine (isLetter_any _ _).mono ?_; rintro e w' ⟨rfl, rfl⟩)
  go_ret
  exact ⟨rfl, rfl⟩

set_option maxHeartbeats 1000000 in
theorem IsName_nil (w : World) :
    Calls Tryz.prog 318 #[.string ⟨[].toArray⟩] w fun e w' => e = .returned (.bool false) ∧ w' = w := by
  go_enter Tryz.func318, Tryz.ntmps318
  go_wp2_with (go_at_call 391; refine (isLetter_any _ _).mono ?_; rintro e w' ⟨rfl, rfl⟩)
  go_ret
  exact ⟨rfl, rfl⟩

set_option maxHeartbeats 1000000 in
theorem IsName_head (t : List UInt8) (c : UInt8) (w : World) (h0 : 0 < t.length) (hc : t[0] = c) (he : t.isEmpty = false) (h8 : decide ((8 : Int) < t.length) = false) (hlet : Pl.isLet c = false) :
    Calls Tryz.prog 318 #[.string ⟨t.toArray⟩] w fun e w' => e = .returned (.bool false) ∧ w' = w := by
  have hb0 : (ByteArray.mk t.toArray)[0] = c := hc
  clear hc
  go_enter Tryz.func318, Tryz.ntmps318
  go_wp2_with (go_at_call 391; refine (isLetter_any _ _).mono ?_; rintro e w' ⟨rfl, rfl⟩)
  go_ret
  exact ⟨rfl, rfl⟩

theorem IsName_any (t : List UInt8) (w : World) :
    Calls Tryz.prog 318 #[.string ⟨t.toArray⟩] w fun e w' => e = .returned (.bool (Pl.isName t)) ∧ w' = w := by
  cases t with
  | nil => exact IsName_nil w
  | cons c r =>
    rw [Pl.isName_cons]
    by_cases h8 : r.length ≤ 7
    · have h8' : decide ((8 : Int) < (c :: r).length) = false := by simp; omega
      rw [decide_eq_true h8, Bool.true_and]
      cases hl : Pl.isLet c
      · rw [Bool.false_and, Bool.false_and]; exact IsName_head (c :: r) c w (by simp) rfl rfl h8' hl
      · rw [Bool.true_and]; exact IsName_loop (c :: r) c w (by simp) rfl rfl h8' hl
    · rw [decide_eq_false h8, Bool.false_and, Bool.false_and, Bool.false_and]
      exact IsName_long (c :: r) w rfl (by simp; omega)
end Go.Proofs.YtfaljekgpnbmiaaGreat
