/-
  Contracts of source.New, high.Read and statute.RunHigh.
-/
import Derived.Test.YtbfibgmeiikngaaText2
import Derived.Test.YtbfibgmeiikngaaPlan6
import Derived.Test.YtbfibgmeiikngaaPlainRead
namespace Go.Proofs.Ytbfibgmeiikngaa
open Go.RowKit

set_option maxHeartbeats 400000 in
theorem New_any (l : List UInt8) (w : World) (hl : l.length ≤ 6000) :
    Calls Try.prog 12 #[.string ⟨l.toArray⟩] w fun e w' => ∃ b, e = .returned (.pointer (some ⟨b, 0, none⟩)) ∧ Rd w.heap.size w' b (Pl.startR l) ∧ Below w.heap.size w w' := by
  have hS := Split_any l w hl
  go_enter Try.func12, Try.ntmps12
  go_wp2_with fail
  refine hS.mono ?_
  rintro e w1 ⟨v, rfl, hown, hb⟩
  obtain ⟨ad, cap, rfl⟩ := slice_shape hown
  have hs := hb.size
  have HH : Hid (Rd w.heap.size (w1.alloc (.cells #[.slice none 0 0, .slice none 0 0, .slice none 0 0, .slice ad (Pl.tokens l).length cap, .int .i64 0, .slice none 0 0] 46)) w1.heap.size (Pl.startR l) ∧ Below w.heap.size w (w1.alloc (.cells #[.slice none 0 0, .slice none 0 0, .slice none 0 0, .slice ad (Pl.tokens l).length cap, .int .i64 0, .slice none 0 0] 46))) := by
    refine ⟨⟨_, _, _, _, _, [], ⟨hs, heap_alloc_new w1 _, World.ownsRow_nil _ _ _ _, ⟨rfl, World.ownsRow_nil _ _ _ _, fun i h => by simp [Pl.startR] at h⟩, World.ownsRow_nil _ _ _ _, own_keep hown (KeepT.alloc _ _ _), World.ownsRow_nil _ _ _ _⟩⟩, hb.alloc hs _⟩
  clear hown hb hS
  go_wp2
  go_ret
  exact ⟨_, rfl, HH.out.1, HH.out.2⟩

theorem outsR_ok (n : Nat) : ∀ (any : Bool) (r : Pl.RdM), Pl.Ok 0 r → Pl.Ok 0 (Pl.outsR n any r).2 := by
  induction n with
  | zero => intro _ r h; exact h
  | succ n ih =>
    intro any r h
    rw [Pl.outsR]
    split
    · exact h
    · split
      · rename_i hp
        have hk := (Pl.namedR_keeps r.skip).ok _ h.skip
        split
        · rename_i e; rw [e] at hk; exact hk
        · rename_i e
          have h1 := h.step (by rw [hp]; decide)
          exact ih _ _ (((Pl.namedR_more h1 e).addEnt _ _).addOut _)
      · exact h
theorem textR_ok (r : Pl.RdM) (h : Pl.Ok 0 r) : Pl.Ok 0 (Pl.textR r).2 := by
  unfold Pl.textR
  have h1 := inputsR_ok 4 false r h
  split
  · rename_i e; rw [e] at h1; exact h1
  · rename_i r1 e
    rw [e] at h1
    have h2 := letsR_ok 16 r1 h1
    split
    · rename_i e; rw [e] at h2; exact h2
    · rename_i e; rw [e] at h2; exact outsR_ok 4 false _ h2

theorem plan_facts {w : World} {g : Nat} {x y z : Value} (h : w.heap[g]? = some (.cells #[x, y, z] 33 (0, 0))) : w.cell? ⟨g, 0, none⟩ = some x ∧ w.cell? ⟨g, 1, none⟩ = some y ∧ w.cell? ⟨g, 2, none⟩ = some z ∧ w.frozen? ⟨g, 0, none⟩ = false ∧ w.frozen? ⟨g, 1, none⟩ = false ∧ w.frozen? ⟨g, 2, none⟩ = false :=
  ⟨by rw [cellsOf h]; rfl, by rw [cellsOf h]; rfl, by rw [cellsOf h]; rfl, freeOf h 0, freeOf h 1, freeOf h 2⟩

theorem plan_store {B : Nat} {w : World} {b g : Nat} {r : Pl.RdM} {vi vn vo vt ve : Value} {bvs : List Value} {cs : Array Value} (h : RdAt B w b r vi vn vo vt ve bvs) (hk : w.heap[g]? = some (.cells cs 33 (0, 0))) (x y z : Value) :
    PairsAt (((w.setCell ⟨g, 0, none⟩ x).setCell ⟨g, 1, none⟩ y).setCell ⟨g, 2, none⟩ z) vi r.ins ∧ NodesAt (((w.setCell ⟨g, 0, none⟩ x).setCell ⟨g, 1, none⟩ y).setCell ⟨g, 2, none⟩ z) vn r.nodes ∧ IntsAt (((w.setCell ⟨g, 0, none⟩ x).setCell ⟨g, 1, none⟩ y).setCell ⟨g, 2, none⟩ z) vo r.outs := by
  have h1 := heap_setCell_same w g 0 _ _ x hk
  have h2 := heap_setCell_same _ g 1 _ _ y h1
  have k : ∀ e : TypeId, 33 ≠ e → KeepT e w (((w.setCell ⟨g, 0, none⟩ x).setCell ⟨g, 1, none⟩ y).setCell ⟨g, 2, none⟩ z) := fun e he => ((KeepT.setCell hk he 0 x).trans (KeepT.setCell h1 he 1 y)).trans (KeepT.setCell h2 he 2 z)
  exact ⟨pairs_own (own_keep h.ins (k _ (by decide))), nodes_own (h.nodes.keep (k _ (by decide)) (k _ (by decide))), ints_own (own_keep h.outs (k _ (by decide)))⟩

/-- What a reading leaves: three lists, that read as the plan if there is no error, and are nothing else. -/
structure ReadAt (w : World) (e : Int) (r : Pl.RdM) (vi vn vo : Value) : Prop where
  good : e = 0 → PairsAt w vi r.ins ∧ NodesAt w vn r.nodes ∧ IntsAt w vo r.outs
  bad : e ≠ 0 → vi = .slice none 0 0 ∧ vn = .slice none 0 0 ∧ vo = .slice none 0 0
  si : ∃ ad n cap, vi = .slice ad n cap
  sn : ∃ ad n cap, vn = .slice ad n cap
  so : ∃ ad n cap, vo = .slice ad n cap
theorem ReadAt.none (w : World) (e : Int) (r : Pl.RdM) (h : e ≠ 0) : ReadAt w e r (.slice none 0 0) (.slice none 0 0) (.slice none 0 0) :=
  ⟨fun h' => absurd h' h, fun _ => ⟨rfl, rfl, rfl⟩, ⟨_, _, _, rfl⟩, ⟨_, _, _, rfl⟩, ⟨_, _, _, rfl⟩⟩

set_option maxRecDepth 100000 in
set_option maxHeartbeats 2000000 in
theorem Read_any (l : List UInt8) (w : World) (hlm : l.length ≤ maxLen) (hbl : l.length ≤ 6000 → ∀ n ∈ (Pl.textR (Pl.startR l)).2.nodes, n.bands.length ≤ 1000) :
    Calls Try.prog 9 #[.string ⟨l.toArray⟩] w fun e w' => ∃ vi vn vo, e = .returned (.tuple #[.agg #[vi, vn, vo], .int .i64 (Pl.readHigh l).1, .int .i64 (Pl.readHigh l).2.1]) ∧ ReadAt w' (Pl.readHigh l).1 (Pl.readHigh l).2.2 vi vn vo ∧ Below w.heap.size w w' := by
  unfold maxLen at hlm
  have hal : Below w.heap.size w (w.alloc (.cells #[.slice none 0 0, .slice none 0 0, .slice none 0 0] 33)) := (Below.refl _ w).alloc (Nat.le_refl _) _
  have hnew := heap_alloc_new w (.cells #[.slice none 0 0, .slice none 0 0, .slice none 0 0] 33)
  by_cases hlong : 6000 < l.length
  · have hR : Hid (Pl.readHigh l = (1, 0, Pl.startR l)) := by unfold Pl.readHigh Hid; rw [if_pos hlong]
    have HA := hide hal
    clear hal hnew hbl
    go_enter Try.func9, Try.ntmps9
    go_wp2_with fail
    rw [hR.out]
    exact bodyPost_ret (v := .tuple #[.agg #[.slice none 0 0, .slice none 0 0, .slice none 0 0], .int .i64 1, .int .i64 0]) (by simp [results, Try.results9, go_sem]) rfl ⟨_, _, _, rfl, ReadAt.none _ _ _ (by simp), unhide HA⟩
  · have hl : l.length ≤ 6000 := by omega
    have hN := New_any l (w.alloc (.cells #[.slice none 0 0, .slice none 0 0, .slice none 0 0] 33)) hl
    have hok := Pl.start_ok l hl
    have hbl' := hbl hl
    have hR : Hid (Pl.readHigh l = if (Pl.textR (Pl.startR l)).1 = true then (if Pl.isBigW (Pl.textR (Pl.startR l)).2.ins (Pl.textR (Pl.startR l)).2.nodes = true then ((3 : Int), (0 : Int), (Pl.textR (Pl.startR l)).2) else (0, 0, (Pl.textR (Pl.startR l)).2)) else (2, ((Pl.textR (Pl.startR l)).2.pos : Int), (Pl.textR (Pl.startR l)).2)) := by unfold Pl.readHigh Hid; rw [if_neg hlong]
    have hT := fun (B : Nat) (w1 : World) (b : Nat) (h : Rd B w1 b (Pl.startR l)) => text_any h hok
    have hTok := textR_ok (Pl.startR l) hok
    generalize Pl.textR (Pl.startR l) = T at *
    obtain ⟨o, r⟩ := T
    clear hbl
    have hsz : (w.alloc (.cells #[.slice none 0 0, .slice none 0 0, .slice none 0 0] 33)).heap.size = w.heap.size + 1 := by simp
    rw [hsz] at hN
    cases o with
    | false =>
      have hR' : Hid (Pl.readHigh l = (2, (r.pos : Int), r)) := by have := hR.out; simpa [Hid] using this
      clear hR
      go_enter Try.func9, Try.ntmps9
      go_wp2_with fail
      refine hN.mono ?_
      rintro e w1 ⟨b, rfl, hr1, hb1⟩
      go_wp2_with fail
      refine (hT _ _ _ hr1).mono ?_
      rintro e w2 ⟨rfl, hr2, hb2⟩
      have hbb : Below (w.heap.size + 1) (w.alloc (.cells #[.slice none 0 0, .slice none 0 0, .slice none 0 0] 33)) w2 := hb1.trans hb2
      have hk := (hbb.block w.heap.size (by omega)).trans hnew
      obtain ⟨c0, c1, c2, f0, f1, f2⟩ := plan_facts hk
      have hP := hide (Place_any hr2)
      have HH : Hid (∀ x y z, Below w.heap.size w (((w2.setCell ⟨w.heap.size, 0, none⟩ x).setCell ⟨w.heap.size, 1, none⟩ y).setCell ⟨w.heap.size, 2, none⟩ z)) := fun x y z =>
        (((hal.trans (hbb.mono (by omega))).setCell (p := ⟨w.heap.size, 0, none⟩) (Nat.le_refl _) x).setCell (p := ⟨w.heap.size, 1, none⟩) (Nat.le_refl _) y).setCell (p := ⟨w.heap.size, 2, none⟩) (Nat.le_refl _) z
      clear hbb hk hr1 hb1 hr2 hb2 hN hT hal hnew hsz
      go_wp2_with fail
      refine (unhide hP).mono ?_
      rintro e w3 ⟨rfl, rfl⟩
      clear hP
      go_wp2_with fail
      rw [hR'.out]
      exact bodyPost_ret (v := .tuple #[.agg #[.slice none 0 0, .slice none 0 0, .slice none 0 0], .int .i64 2, .int .i64 r.pos]) (by simp [results, Try.results9, go_sem, c0, c1, c2]) rfl ⟨_, _, _, rfl, ReadAt.none _ _ _ (by simp), HH.out _ _ _⟩
    | true =>
      have hsizes := sizes hTok
      have hB := fun (w2 : World) (b : Nat) (h : Rd (w.heap.size + 1) w2 b r) => IsBig_any r.ins r.nodes r.outs b w2 h.plan hsizes.1 hbl'
      cases hbig : Pl.isBigW r.ins r.nodes with
      | true =>
        have hR' : Hid (Pl.readHigh l = (3, 0, r)) := by have := hR.out; simp only [hbig] at this; simpa [Hid] using this
        rw [hbig] at hB
        clear hR
        go_enter Try.func9, Try.ntmps9
        go_wp2_with fail
        refine hN.mono ?_
        rintro e w1 ⟨b, rfl, hr1, hb1⟩
        go_wp2_with fail
        refine (hT _ _ _ hr1).mono ?_
        rintro e w2 ⟨rfl, hr2, hb2⟩
        go_wp2_with fail
        refine (hB _ _ hr2).mono ?_
        rintro e w3 ⟨rfl, hb3⟩
        have hs2 := hr2.bd.2.1
        have hbb : Below (w.heap.size + 1) (w.alloc (.cells #[.slice none 0 0, .slice none 0 0, .slice none 0 0] 33)) w3 := (hb1.trans hb2).trans (hb3.mono hs2)
        have hk := (hbb.block w.heap.size (by omega)).trans hnew
        obtain ⟨c0, c1, c2, f0, f1, f2⟩ := plan_facts hk
        have HH : Hid (∀ x y z, Below w.heap.size w (((w3.setCell ⟨w.heap.size, 0, none⟩ x).setCell ⟨w.heap.size, 1, none⟩ y).setCell ⟨w.heap.size, 2, none⟩ z)) := fun x y z =>
          (((hal.trans (hbb.mono (by omega))).setCell (p := ⟨w.heap.size, 0, none⟩) (Nat.le_refl _) x).setCell (p := ⟨w.heap.size, 1, none⟩) (Nat.le_refl _) y).setCell (p := ⟨w.heap.size, 2, none⟩) (Nat.le_refl _) z
        clear hbb hk hr1 hb1 hr2 hb2 hb3 hN hT hal hnew hsz hB
        go_wp2_with fail
        rw [hR'.out]
        exact bodyPost_ret (v := .tuple #[.agg #[.slice none 0 0, .slice none 0 0, .slice none 0 0], .int .i64 3, .int .i64 0]) (by simp [results, Try.results9, go_sem, c0, c1, c2]) rfl ⟨_, _, _, rfl, ReadAt.none _ _ _ (by simp), HH.out _ _ _⟩
      | false =>
        have hR' : Hid (Pl.readHigh l = (0, 0, r)) := by have := hR.out; simp only [hbig] at this; simpa [Hid] using this
        rw [hbig] at hB
        clear hR
        go_enter Try.func9, Try.ntmps9
        go_wp2_with fail
        refine hN.mono ?_
        rintro e w1 ⟨b, rfl, hr1, hb1⟩
        go_wp2_with fail
        refine (hT _ _ _ hr1).mono ?_
        rintro e w2 ⟨rfl, hr2, hb2⟩
        go_wp2_with fail
        refine (hB _ _ hr2).mono ?_
        rintro e w3 ⟨rfl, hb3⟩
        have hs2 := hr2.bd.2.1
        have hbb : Below (w.heap.size + 1) (w.alloc (.cells #[.slice none 0 0, .slice none 0 0, .slice none 0 0] 33)) w3 := (hb1.trans hb2).trans (hb3.mono hs2)
        have hk := (hbb.block w.heap.size (by omega)).trans hnew
        obtain ⟨c0, c1, c2, f0, f1, f2⟩ := plan_facts hk
        obtain ⟨vi, vn, vo, vt, ve, bvs, h3⟩ := hr2.below hb3
        obtain ⟨ai, ci, rfl⟩ := slice_shape h3.ins
        obtain ⟨an, cn, rfl⟩ := slice_shape h3.nodes.own
        obtain ⟨ao, co, rfl⟩ := slice_shape h3.outs
        have d0 : w3.cell? ⟨b, 0, none⟩ = some (.slice ai r.ins.length ci) := by rw [cellsOf h3.blk]; rfl
        have d1 : w3.cell? ⟨b, 1, none⟩ = some (.slice an r.nodes.length cn) := by rw [cellsOf h3.blk]; rfl
        have d2 : w3.cell? ⟨b, 2, none⟩ = some (.slice ao r.outs.length co) := by rw [cellsOf h3.blk]; rfl
        have HH : Hid (∀ x y z, Below w.heap.size w (((w3.setCell ⟨w.heap.size, 0, none⟩ x).setCell ⟨w.heap.size, 1, none⟩ y).setCell ⟨w.heap.size, 2, none⟩ z)) := fun x y z =>
          (((hal.trans (hbb.mono (by omega))).setCell (p := ⟨w.heap.size, 0, none⟩) (Nat.le_refl _) x).setCell (p := ⟨w.heap.size, 1, none⟩) (Nat.le_refl _) y).setCell (p := ⟨w.heap.size, 2, none⟩) (Nat.le_refl _) z
        have HP := hide (plan_store h3 hk)
        clear hbb hk hr1 hb1 hr2 hb2 hb3 hN hT hal hnew hsz hB h3
        go_wp2_with fail
        rw [hR'.out]
        exact bodyPost_ret (v := .tuple #[.agg #[.slice ai r.ins.length ci, .slice an r.nodes.length cn, .slice ao r.outs.length co], .int .i64 0, .int .i64 0]) (by simp [results, Try.results9, go_sem, c0, c1, c2]) rfl ⟨_, _, _, rfl, ⟨fun _ => unhide HP _ _ _, fun h => absurd rfl h, ⟨_, _, _, rfl⟩, ⟨_, _, _, rfl⟩, ⟨_, _, _, rfl⟩⟩, HH.out _ _ _⟩
end Go.Proofs.Ytbfibgmeiikngaa
