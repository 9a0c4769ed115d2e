/-
  Contracts of source.New and the reader's Result.
-/
import Derived.Test.YtfaljekgpnbmiaaText2
import Derived.Test.YtfaljekgpnbmiaaPlan6
import Derived.Test.YtfaljekgpnbmiaaPlainRead
namespace Go.Proofs.Ytfaljekgpnbmiaa
open Go.RowKit

set_option maxHeartbeats 400000 in
theorem New_any (l : List UInt8) (w : World) (hl : l.length ≤ 6000) :
    Calls Try.prog 32 #[.string ⟨l.toArray⟩] w fun e w' => ∃ b, e = .returned (.pointer (some ⟨b, 0, none⟩)) ∧ Rd w.heap.size w' b (Pl.startR l) ∧ Below w.heap.size w w' := by
  have hS := Split_any l w hl
  go_enter Try.func32, Try.ntmps32
  go_wp2_with fail
  refine hS.mono ?_
  rintro e w1 ⟨v, rfl, hown, hb⟩
  obtain ⟨ad, cap, rfl⟩ := slice_shape hown
  have hs := hb.size
  have HH : Hid (Rd w.heap.size (w1.alloc (.cells #[.slice none 0 0, .slice none 0 0, .slice none 0 0, .slice none 0 0, .slice none 0 0, .slice ad (Pl.tokens l).length cap, .int .i64 0, .slice none 0 0] 86)) w1.heap.size (Pl.startR l) ∧ Below w.heap.size w (w1.alloc (.cells #[.slice none 0 0, .slice none 0 0, .slice none 0 0, .slice none 0 0, .slice none 0 0, .slice ad (Pl.tokens l).length cap, .int .i64 0, .slice none 0 0] 86))) := by
    refine ⟨⟨_, _, _, _, _, [], _, _, [], [], ⟨hs, heap_alloc_new w1 _, World.ownsRow_nil _ _ _ _, ⟨rfl, World.ownsRow_nil _ _ _ _, fun i h => by simp [Pl.startR] at h⟩, World.ownsRow_nil _ _ _ _, own_keep hown (KeepT.alloc _ _ _), World.ownsRow_nil _ _ _ _, World.ownsRow_nil _ _ _ _, World.ownsRow_nil _ _ _ _, fun _ _ h => by simp [Value.ownBlock] at h, fun _ _ h => by simp [Value.ownBlock] at h, fun _ _ h => by simp [Value.ownBlock] at h⟩, ⟨rfl, Nat.le_refl _, rfl⟩⟩, hb.alloc hs _⟩
  clear hown hb hS
  go_wp2
  go_ret
  exact ⟨_, rfl, HH.out.1, HH.out.2⟩

theorem outsR_ok (n : Nat) : ∀ (any : Bool) (r : Pl.RdM), Pl.Ok 0 r → Pl.Ok 0 (Pl.outsR n any r).2 := by
  induction n with
  | zero => intro _ r h; exact h
  | succ n ih =>
    intro any r h
    rw [Pl.outsR]
    split
    · exact h
    · split
      · rename_i hp
        have hk := (Pl.namedR_keeps r.skip).ok _ h.skip
        split
        · rename_i e; rw [e] at hk; exact hk
        · rename_i e
          have h1 := h.step (by rw [hp]; decide)
          exact ih _ _ (((Pl.namedR_more h1 e).addEnt _ _ _).addOut _)
      · exact h
theorem textR_ok (r : Pl.RdM) (h : Pl.Ok 0 r) : Pl.Ok 0 (Pl.textR r).2 := by
  unfold Pl.textR
  have h1 := inputsR_ok 4 false r h
  split
  · rename_i e; rw [e] at h1; exact h1
  · rename_i r1 e
    rw [e] at h1
    have h2 := letsR_ok 16 r1 h1
    split
    · rename_i e; rw [e] at h2; exact h2
    · rename_i e; rw [e] at h2; exact outsR_ok 4 false _ h2

theorem plan_facts {w : World} {g : Nat} {x y z u v : Value} (h : w.heap[g]? = some (.cells #[x, y, z, u, v] 50 (0, 0))) : w.cell? ⟨g, 0, none⟩ = some x ∧ w.cell? ⟨g, 1, none⟩ = some y ∧ w.cell? ⟨g, 2, none⟩ = some z ∧ w.cell? ⟨g, 3, none⟩ = some u ∧ w.cell? ⟨g, 4, none⟩ = some v ∧ w.frozen? ⟨g, 0, none⟩ = false ∧ w.frozen? ⟨g, 1, none⟩ = false ∧ w.frozen? ⟨g, 2, none⟩ = false ∧ w.frozen? ⟨g, 3, none⟩ = false ∧ w.frozen? ⟨g, 4, none⟩ = false :=
  ⟨by rw [cellsOf h]; rfl, by rw [cellsOf h]; rfl, by rw [cellsOf h]; rfl, by rw [cellsOf h]; rfl, by rw [cellsOf h]; rfl, freeOf h 0, freeOf h 1, freeOf h 2, freeOf h 3, freeOf h 4⟩

/-- The plan's lists, in blocks of their own. -/
def PlanOwn (w : World) (r : Pl.RdM) (vi vn vo vx vy : Value) : Prop := ∃ (B : Nat) (bvs : List Value) (lx ly : List (List UInt8)), SpansOwn B w vi r.ins ∧ NodesOwn B w vn r.nodes bvs ∧ IntsOwn B w vo r.outs ∧ StrsOwn B w vx lx ∧ StrsOwn B w vy ly ∧ Pl.Named r lx ly
theorem PlanOwn.keep {w w' : World} {r : Pl.RdM} {vi vn vo vx vy : Value} (h : PlanOwn w r vi vn vo vx vy) (k : ∀ e : TypeId, 50 ≠ e → KeepT e w w') : PlanOwn w' r vi vn vo vx vy := by
  obtain ⟨B, bvs, lx, ly, h1, h2, h3, h4, h5, h6⟩ := h
  exact ⟨B, bvs, lx, ly, own_keep h1 (k _ (by decide)), h2.keep (k _ (by decide)) (k _ (by decide)), own_keep h3 (k _ (by decide)), own_keep h4 (k _ (by decide)), own_keep h5 (k _ (by decide)), h6⟩
theorem keep_store {w : World} {g : Nat} {cs : Array Value} (hk : w.heap[g]? = some (.cells cs 50 (0, 0))) (x y z u v : Value) : ∀ e : TypeId, 50 ≠ e → KeepT e w (((((w.setCell ⟨g, 0, none⟩ x).setCell ⟨g, 1, none⟩ y).setCell ⟨g, 2, none⟩ z).setCell ⟨g, 3, none⟩ u).setCell ⟨g, 4, none⟩ v) := by
  have h1 := heap_setCell_same w g 0 _ _ x hk
  have h2 := heap_setCell_same _ g 1 _ _ y h1
  have h3 := heap_setCell_same _ g 2 _ _ z h2
  have h4 := heap_setCell_same _ g 3 _ _ u h3
  exact fun e he => ((((KeepT.setCell hk he 0 x).trans (KeepT.setCell h1 he 1 y)).trans (KeepT.setCell h2 he 2 z)).trans (KeepT.setCell h3 he 3 u)).trans (KeepT.setCell h4 he 4 v)
theorem RdAt.planOwn {B : Nat} {w : World} {b : Nat} {r : Pl.RdM} {vi vn vo vt ve : Value} {bvs : List Value} {vx vy : Value} {lx ly : List (List UInt8)} (h : RdAt B w b r vi vn vo vt ve bvs vx vy lx ly) (hnm : Pl.Named r lx ly) : PlanOwn w r vi vn vo vx vy := ⟨B, bvs, lx, ly, h.ins, h.nodes, h.outs, h.inN, h.outN, hnm⟩

/-- What a reading leaves: lists that read as the plan if there is no error, and are nothing else. -/
structure ReadAt (w : World) (e : Int) (r : Pl.RdM) (vi vn vo vx vy : Value) : Prop where
  good : e = 0 → PlanOwn w r vi vn vo vx vy
  bad : e ≠ 0 → vi = .slice none 0 0 ∧ vn = .slice none 0 0 ∧ vo = .slice none 0 0
  si : ∃ ad n cap, vi = .slice ad n cap
  sn : ∃ ad n cap, vn = .slice ad n cap
  so : ∃ ad n cap, vo = .slice ad n cap
  sx : ∃ ad n cap, vx = .slice ad n cap
  sy : ∃ ad n cap, vy = .slice ad n cap
theorem ReadAt.none (w : World) (e : Int) (r : Pl.RdM) (h : e ≠ 0) : ReadAt w e r (.slice none 0 0) (.slice none 0 0) (.slice none 0 0) (.slice none 0 0) (.slice none 0 0) :=
  ⟨fun h' => absurd h' h, fun _ => ⟨rfl, rfl, rfl⟩, ⟨_, _, _, rfl⟩, ⟨_, _, _, rfl⟩, ⟨_, _, _, rfl⟩, ⟨_, _, _, rfl⟩, ⟨_, _, _, rfl⟩⟩

theorem ReadAt.keep {w w' : World} {e : Int} {r : Pl.RdM} {vi vn vo vx vy : Value} (h : ReadAt w e r vi vn vo vx vy) (k : ∀ e : TypeId, 50 ≠ e → KeepT e w w') : ReadAt w' e r vi vn vo vx vy :=
  ⟨fun h0 => (h.good h0).keep k, h.bad, h.si, h.sn, h.so, h.sx, h.sy⟩

set_option maxRecDepth 100000 in
set_option maxHeartbeats 2000000 in
theorem Result_any {B : Nat} {w : World} {b : Nat} {r : Pl.RdM} {s : Nat} (h : Rd B w b r) (ok : Pl.Ok s r) (hbl : ∀ n ∈ r.nodes, n.bands.length ≤ 1000) (right : Bool) :
    Calls Try.prog 34 #[.pointer (some ⟨b, 0, none⟩), .bool right] w fun e w' => ∃ vi vn vo vx vy, e = .returned (.tuple #[.agg #[vi, vn, vo, vx, vy], .int .i64 (Pl.resultR right r).1, .int .i64 (Pl.resultR right r).2]) ∧ ReadAt w' (Pl.resultR right r).1 r vi vn vo vx vy ∧ Below w.heap.size w w' := by
  have hal : Below w.heap.size w (w.alloc (.cells #[.slice none 0 0, .slice none 0 0, .slice none 0 0, .slice none 0 0, .slice none 0 0] 50)) := (Below.refl _ w).alloc (Nat.le_refl _) _
  have hnew := heap_alloc_new w (.cells #[.slice none 0 0, .slice none 0 0, .slice none 0 0, .slice none 0 0, .slice none 0 0] 50)
  have hr1 := h.below hal
  have hlt := h.bd.2.2
  cases right with
  | false =>
    have hR : Hid (Pl.resultR false r = (2, (r.pos : Int))) := by unfold Pl.resultR Hid; rw [if_neg (by simp)]
    obtain ⟨c0, c1, c2, c3, c4, f0, f1, f2, f3, f4⟩ := plan_facts hnew
    obtain ⟨vi, vn, vo, vt, ve, bvs, vx, vy, lx, ly, h3, hnm⟩ := hr1
    have d4 : (w.alloc (.cells #[.slice none 0 0, .slice none 0 0, .slice none 0 0, .slice none 0 0, .slice none 0 0] 50)).cell? ⟨b, 6, none⟩ = some (.int .i64 r.pos) := by rw [cellsOf h3.blk]; rfl
    have HH : Hid (Below w.heap.size w (w.alloc (.cells #[.slice none 0 0, .slice none 0 0, .slice none 0 0, .slice none 0 0, .slice none 0 0] 50)).drew) := below_drewN hal 1
    clear hal hnew h h3 hbl
    go_enter Try.func34, Try.ntmps34
    go_wp2
    go_region
    all_goals go_wp2
    rw [hR.out]
    exact bodyPost_ret (v := .tuple #[.agg #[.slice none 0 0, .slice none 0 0, .slice none 0 0, .slice none 0 0, .slice none 0 0], .int .i64 2, .int .i64 r.pos]) (by simp [results, Try.results34, go_sem, c0, c1, c2, c3, c4]) rfl ⟨_, _, _, _, _, rfl, ReadAt.none _ _ _ (by simp), HH.out⟩
  | true =>
    have hB := IsBig_any r.ins r.nodes r.outs b _ hr1.plan (sizes ok).1 hbl
    cases hbig : Pl.isBigW r.ins r.nodes with
    | true =>
      have hR : Hid (Pl.resultR true r = (3, 0)) := by unfold Pl.resultR Hid; rw [if_pos rfl, if_pos hbig]
      rw [hbig] at hB
      go_enter Try.func34, Try.ntmps34
      go_wp2_with fail
      refine hB.mono ?_
      rintro e w3 ⟨rfl, hb3⟩
      have hk := (hb3.block w.heap.size (by simp)).trans hnew
      obtain ⟨c0, c1, c2, c3, c4, f0, f1, f2, f3, f4⟩ := plan_facts hk
      have HH : Hid (∀ x y z u v, Below w.heap.size w (((((w3.setCell ⟨w.heap.size, 0, none⟩ x).setCell ⟨w.heap.size, 1, none⟩ y).setCell ⟨w.heap.size, 2, none⟩ z).setCell ⟨w.heap.size, 3, none⟩ u).setCell ⟨w.heap.size, 4, none⟩ v)) := fun x y z u v =>
        (((((hal.trans (hb3.mono (by simp))).setCell (p := ⟨w.heap.size, 0, none⟩) (Nat.le_refl _) x).setCell (p := ⟨w.heap.size, 1, none⟩) (Nat.le_refl _) y).setCell (p := ⟨w.heap.size, 2, none⟩) (Nat.le_refl _) z).setCell (p := ⟨w.heap.size, 3, none⟩) (Nat.le_refl _) u).setCell (p := ⟨w.heap.size, 4, none⟩) (Nat.le_refl _) v
      clear hal hnew h hbl hb3 hk hB hr1
      go_wp2_with fail
      rw [hR.out]
      exact bodyPost_ret (v := .tuple #[.agg #[.slice none 0 0, .slice none 0 0, .slice none 0 0, .slice none 0 0, .slice none 0 0], .int .i64 3, .int .i64 0]) (by simp [results, Try.results34, go_sem, c0, c1, c2, c3, c4]) rfl ⟨_, _, _, _, _, rfl, ReadAt.none _ _ _ (by simp), HH.out _ _ _ _ _⟩
    | false =>
      have hR : Hid (Pl.resultR true r = (0, 0)) := by unfold Pl.resultR Hid; rw [if_pos rfl, if_neg (by simp [hbig])]
      rw [hbig] at hB
      go_enter Try.func34, Try.ntmps34
      go_wp2_with fail
      refine hB.mono ?_
      rintro e w3 ⟨rfl, hb3⟩
      have hk := (hb3.block w.heap.size (by simp)).trans hnew
      obtain ⟨c0, c1, c2, c3, c4, f0, f1, f2, f3, f4⟩ := plan_facts hk
      obtain ⟨vi, vn, vo, vt, ve, bvs, vx, vy, lx, ly, h3, hnm⟩ := hr1.below hb3
      obtain ⟨ai, ci, rfl⟩ := slice_shape h3.ins
      obtain ⟨an, cn, rfl⟩ := slice_shape h3.nodes.own
      obtain ⟨ao, co, rfl⟩ := slice_shape h3.outs
      obtain ⟨ax, cx, rfl⟩ := slice_shape h3.inN
      obtain ⟨ay, cy, rfl⟩ := slice_shape h3.outN
      have d0 : w3.cell? ⟨b, 0, none⟩ = some (.slice ai r.ins.length ci) := by rw [cellsOf h3.blk]; rfl
      have d1 : w3.cell? ⟨b, 1, none⟩ = some (.slice an r.nodes.length cn) := by rw [cellsOf h3.blk]; rfl
      have d2 : w3.cell? ⟨b, 2, none⟩ = some (.slice ao r.outs.length co) := by rw [cellsOf h3.blk]; rfl
      have d3 : w3.cell? ⟨b, 3, none⟩ = some (.slice ax lx.length cx) := by rw [cellsOf h3.blk]; rfl
      have d4 : w3.cell? ⟨b, 4, none⟩ = some (.slice ay ly.length cy) := by rw [cellsOf h3.blk]; rfl
      have HH : Hid (∀ x y z u v, Below w.heap.size w (((((w3.setCell ⟨w.heap.size, 0, none⟩ x).setCell ⟨w.heap.size, 1, none⟩ y).setCell ⟨w.heap.size, 2, none⟩ z).setCell ⟨w.heap.size, 3, none⟩ u).setCell ⟨w.heap.size, 4, none⟩ v)) := fun x y z u v =>
        (((((hal.trans (hb3.mono (by simp))).setCell (p := ⟨w.heap.size, 0, none⟩) (Nat.le_refl _) x).setCell (p := ⟨w.heap.size, 1, none⟩) (Nat.le_refl _) y).setCell (p := ⟨w.heap.size, 2, none⟩) (Nat.le_refl _) z).setCell (p := ⟨w.heap.size, 3, none⟩) (Nat.le_refl _) u).setCell (p := ⟨w.heap.size, 4, none⟩) (Nat.le_refl _) v
      have HP := hide (fun x y z u v => (h3.planOwn hnm).keep (keep_store hk x y z u v))
      clear hal hnew h hbl hb3 hk hB hr1 h3
      go_wp2_with fail
      rw [hR.out]
      exact bodyPost_ret (v := .tuple #[.agg #[.slice ai r.ins.length ci, .slice an r.nodes.length cn, .slice ao r.outs.length co, .slice ax lx.length cx, .slice ay ly.length cy], .int .i64 0, .int .i64 0]) (by simp [results, Try.results34, go_sem, c0, c1, c2, c3, c4]) rfl ⟨_, _, _, _, _, rfl, ⟨fun _ => unhide HP _ _ _ _ _, fun h => absurd rfl h, ⟨_, _, _, rfl⟩, ⟨_, _, _, rfl⟩, ⟨_, _, _, rfl⟩, ⟨_, _, _, rfl⟩, ⟨_, _, _, rfl⟩⟩, HH.out _ _ _ _ _⟩
end Go.Proofs.Ytfaljekgpnbmiaa
