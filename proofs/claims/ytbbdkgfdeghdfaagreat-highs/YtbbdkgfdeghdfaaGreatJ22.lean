/- Joined: Read Read2 RunHigh. -/
import Derived.Test.YtbbdkgfdeghdfaaGreatJ21
/-
  Contracts of source.New and the reader's Result.
-/
namespace Go.Proofs.YtbbdkgfdeghdfaaGreat
open Go.RowKit

set_option maxHeartbeats 400000 in
theorem New_any (l : List UInt8) (w : World) (hl : l.length ≤ 6000) :
    Calls Tryz.prog 57 #[.string ⟨l.toArray⟩] w fun e w' => ∃ b, e = .returned (.pointer (some ⟨b, 0, none⟩)) ∧ Rd w.heap.size w' b (Pl.startR l) ∧ Below w.heap.size w w' := by
  have hS := Split_any l w hl
  go_enter Tryz.func57, Tryz.ntmps57
  go_wp2_with fail
  refine hS.mono ?_
  rintro e w1 ⟨v, rfl, hown, hb⟩
  obtain ⟨ad, cap, rfl⟩ := slice_shape hown
  have hs := hb.size
  have HH : Hid (Rd w.heap.size (w1.alloc (.cells #[.slice none 0 0, .slice none 0 0, .slice none 0 0, .slice ad (Pl.tokens l).length cap, .int .i64 0, .slice none 0 0] 127)) w1.heap.size (Pl.startR l) ∧ Below w.heap.size w (w1.alloc (.cells #[.slice none 0 0, .slice none 0 0, .slice none 0 0, .slice ad (Pl.tokens l).length cap, .int .i64 0, .slice none 0 0] 127))) := by
    refine ⟨⟨_, _, _, _, _, [], ⟨hs, heap_alloc_new w1 _, World.ownsRow_nil _ _ _ _, ⟨rfl, World.ownsRow_nil _ _ _ _, fun i h => by simp [Pl.startR] at h⟩, World.ownsRow_nil _ _ _ _, own_keep hown (KeepT.alloc _ _ _), World.ownsRow_nil _ _ _ _⟩⟩, hb.alloc hs _⟩
  clear hown hb hS
  go_wp2
  go_ret
  exact ⟨_, rfl, HH.out.1, HH.out.2⟩

theorem outsR_ok (n : Nat) : ∀ (any : Bool) (r : Pl.RdM), Pl.Ok 0 r → Pl.Ok 0 (Pl.outsR n any r).2 := by
  induction n with
  | zero => intro _ r h; exact h
  | succ n ih =>
    intro any r h
    rw [Pl.outsR]
    split
    · exact h
    · split
      · rename_i hp
        have hk := (Pl.namedR_keeps r.skip).ok _ h.skip
        split
        · rename_i e; rw [e] at hk; exact hk
        · rename_i e
          have h1 := h.step (by rw [hp]; decide)
          exact ih _ _ (((Pl.namedR_more h1 e).addEnt _ _ _).addOut _)
      · exact h
theorem textR_ok (r : Pl.RdM) (h : Pl.Ok 0 r) : Pl.Ok 0 (Pl.textR r).2 := by
  unfold Pl.textR
  have h1 := inputsR_ok 4 false r h
  split
  · rename_i e; rw [e] at h1; exact h1
  · rename_i r1 e
    rw [e] at h1
    have h2 := letsR_ok 16 r1 h1
    split
    · rename_i e; rw [e] at h2; exact h2
    · rename_i e; rw [e] at h2; exact outsR_ok 4 false _ h2

theorem plan_facts {w : World} {g : Nat} {x y z : Value} (h : w.heap[g]? = some (.cells #[x, y, z] 78 (0, 0))) : w.cell? ⟨g, 0, none⟩ = some x ∧ w.cell? ⟨g, 1, none⟩ = some y ∧ w.cell? ⟨g, 2, none⟩ = some z ∧ w.frozen? ⟨g, 0, none⟩ = false ∧ w.frozen? ⟨g, 1, none⟩ = false ∧ w.frozen? ⟨g, 2, none⟩ = false :=
  ⟨by rw [cellsOf h]; rfl, by rw [cellsOf h]; rfl, by rw [cellsOf h]; rfl, freeOf h 0, freeOf h 1, freeOf h 2⟩

/-- The plan's three lists, in blocks of their own. -/
def PlanOwn (w : World) (r : Pl.RdM) (vi vn vo : Value) : Prop := ∃ (B : Nat) (bvs : List Value), SpansOwn B w vi r.ins ∧ NodesOwn B w vn r.nodes bvs ∧ IntsOwn B w vo r.outs
theorem PlanOwn.keep {w w' : World} {r : Pl.RdM} {vi vn vo : Value} (h : PlanOwn w r vi vn vo) (k : ∀ e : TypeId, 78 ≠ e → KeepT e w w') : PlanOwn w' r vi vn vo := by
  obtain ⟨B, bvs, h1, h2, h3⟩ := h
  exact ⟨B, bvs, own_keep h1 (k _ (by decide)), h2.keep (k _ (by decide)) (k _ (by decide)), own_keep h3 (k _ (by decide))⟩
theorem keep_store {w : World} {g : Nat} {cs : Array Value} (hk : w.heap[g]? = some (.cells cs 78 (0, 0))) (x y z : Value) : ∀ e : TypeId, 78 ≠ e → KeepT e w (((w.setCell ⟨g, 0, none⟩ x).setCell ⟨g, 1, none⟩ y).setCell ⟨g, 2, none⟩ z) := by
  have h1 := heap_setCell_same w g 0 _ _ x hk
  have h2 := heap_setCell_same _ g 1 _ _ y h1
  exact fun e he => ((KeepT.setCell hk he 0 x).trans (KeepT.setCell h1 he 1 y)).trans (KeepT.setCell h2 he 2 z)
theorem RdAt.planOwn {B : Nat} {w : World} {b : Nat} {r : Pl.RdM} {vi vn vo vt ve : Value} {bvs : List Value} (h : RdAt B w b r vi vn vo vt ve bvs) : PlanOwn w r vi vn vo := ⟨B, bvs, h.ins, h.nodes, h.outs⟩

/-- What a reading leaves: three lists, that read as the plan if there is no error, and are nothing else. -/
structure ReadAt (w : World) (e : Int) (r : Pl.RdM) (vi vn vo : Value) : Prop where
  good : e = 0 → PlanOwn w r vi vn vo
  bad : e ≠ 0 → vi = .slice none 0 0 ∧ vn = .slice none 0 0 ∧ vo = .slice none 0 0
  si : ∃ ad n cap, vi = .slice ad n cap
  sn : ∃ ad n cap, vn = .slice ad n cap
  so : ∃ ad n cap, vo = .slice ad n cap
theorem ReadAt.none (w : World) (e : Int) (r : Pl.RdM) (h : e ≠ 0) : ReadAt w e r (.slice none 0 0) (.slice none 0 0) (.slice none 0 0) :=
  ⟨fun h' => absurd h' h, fun _ => ⟨rfl, rfl, rfl⟩, ⟨_, _, _, rfl⟩, ⟨_, _, _, rfl⟩, ⟨_, _, _, rfl⟩⟩

theorem ReadAt.keep {w w' : World} {e : Int} {r : Pl.RdM} {vi vn vo : Value} (h : ReadAt w e r vi vn vo) (k : ∀ e : TypeId, 78 ≠ e → KeepT e w w') : ReadAt w' e r vi vn vo :=
  ⟨fun h0 => (h.good h0).keep k, h.bad, h.si, h.sn, h.so⟩

set_option maxRecDepth 100000 in
set_option maxHeartbeats 2000000 in
theorem Result_any {B : Nat} {w : World} {b : Nat} {r : Pl.RdM} {s : Nat} (h : Rd B w b r) (ok : Pl.Ok s r) (hbl : ∀ n ∈ r.nodes, n.bands.length ≤ 1000) (right : Bool) :
    Calls Tryz.prog 59 #[.pointer (some ⟨b, 0, none⟩), .bool right] w fun e w' => ∃ vi vn vo, e = .returned (.tuple #[.agg #[vi, vn, vo], .int .i64 (Pl.resultR right r).1, .int .i64 (Pl.resultR right r).2]) ∧ ReadAt w' (Pl.resultR right r).1 r vi vn vo ∧ Below w.heap.size w w' := by
  have hal : Below w.heap.size w (w.alloc (.cells #[.slice none 0 0, .slice none 0 0, .slice none 0 0] 78)) := (Below.refl _ w).alloc (Nat.le_refl _) _
  have hnew := heap_alloc_new w (.cells #[.slice none 0 0, .slice none 0 0, .slice none 0 0] 78)
  have hr1 := h.below hal
  have hlt := h.bd.2.2
  cases right with
  | false =>
    have hR : Hid (Pl.resultR false r = (2, (r.pos : Int))) := by unfold Pl.resultR Hid; rw [if_neg (by simp)]
    obtain ⟨c0, c1, c2, f0, f1, f2⟩ := plan_facts hnew
    obtain ⟨vi, vn, vo, vt, ve, bvs, h3⟩ := hr1
    have d4 : (w.alloc (.cells #[.slice none 0 0, .slice none 0 0, .slice none 0 0] 78)).cell? ⟨b, 4, none⟩ = some (.int .i64 r.pos) := by rw [cellsOf h3.blk]; rfl
    have HH : Hid (Below w.heap.size w (w.alloc (.cells #[.slice none 0 0, .slice none 0 0, .slice none 0 0] 78)).drew) := below_drewN hal 1
    clear hal hnew h h3 hbl
    go_enter Tryz.func59, Tryz.ntmps59
    go_wp2
    go_region
    all_goals go_wp2
    rw [hR.out]
    exact bodyPost_ret (v := .tuple #[.agg #[.slice none 0 0, .slice none 0 0, .slice none 0 0], .int .i64 2, .int .i64 r.pos]) (by simp [results, Tryz.results59, go_sem, c0, c1, c2]) rfl ⟨_, _, _, rfl, ReadAt.none _ _ _ (by simp), HH.out⟩
  | true =>
    have hB := IsBig_any r.ins r.nodes r.outs b _ hr1.plan (sizes ok).1 hbl
    cases hbig : Pl.isBigW r.ins r.nodes with
    | true =>
      have hR : Hid (Pl.resultR true r = (3, 0)) := by unfold Pl.resultR Hid; rw [if_pos rfl, if_pos hbig]
      rw [hbig] at hB
      go_enter Tryz.func59, Tryz.ntmps59
      go_wp2_with fail
      refine hB.mono ?_
      rintro e w3 ⟨rfl, hb3⟩
      have hk := (hb3.block w.heap.size (by simp)).trans hnew
      obtain ⟨c0, c1, c2, f0, f1, f2⟩ := plan_facts hk
      have HH : Hid (∀ x y z, Below w.heap.size w (((w3.setCell ⟨w.heap.size, 0, none⟩ x).setCell ⟨w.heap.size, 1, none⟩ y).setCell ⟨w.heap.size, 2, none⟩ z)) := fun x y z =>
        (((hal.trans (hb3.mono (by simp))).setCell (p := ⟨w.heap.size, 0, none⟩) (Nat.le_refl _) x).setCell (p := ⟨w.heap.size, 1, none⟩) (Nat.le_refl _) y).setCell (p := ⟨w.heap.size, 2, none⟩) (Nat.le_refl _) z
      clear hal hnew h hbl hb3 hk hB hr1
      go_wp2_with fail
      rw [hR.out]
      exact bodyPost_ret (v := .tuple #[.agg #[.slice none 0 0, .slice none 0 0, .slice none 0 0], .int .i64 3, .int .i64 0]) (by simp [results, Tryz.results59, go_sem, c0, c1, c2]) rfl ⟨_, _, _, rfl, ReadAt.none _ _ _ (by simp), HH.out _ _ _⟩
    | false =>
      have hR : Hid (Pl.resultR true r = (0, 0)) := by unfold Pl.resultR Hid; rw [if_pos rfl, if_neg (by simp [hbig])]
      rw [hbig] at hB
      go_enter Tryz.func59, Tryz.ntmps59
      go_wp2_with fail
      refine hB.mono ?_
      rintro e w3 ⟨rfl, hb3⟩
      have hk := (hb3.block w.heap.size (by simp)).trans hnew
      obtain ⟨c0, c1, c2, f0, f1, f2⟩ := plan_facts hk
      obtain ⟨vi, vn, vo, vt, ve, bvs, h3⟩ := hr1.below hb3
      obtain ⟨ai, ci, rfl⟩ := slice_shape h3.ins
      obtain ⟨an, cn, rfl⟩ := slice_shape h3.nodes.own
      obtain ⟨ao, co, rfl⟩ := slice_shape h3.outs
      have d0 : w3.cell? ⟨b, 0, none⟩ = some (.slice ai r.ins.length ci) := by rw [cellsOf h3.blk]; rfl
      have d1 : w3.cell? ⟨b, 1, none⟩ = some (.slice an r.nodes.length cn) := by rw [cellsOf h3.blk]; rfl
      have d2 : w3.cell? ⟨b, 2, none⟩ = some (.slice ao r.outs.length co) := by rw [cellsOf h3.blk]; rfl
      have HH : Hid (∀ x y z, Below w.heap.size w (((w3.setCell ⟨w.heap.size, 0, none⟩ x).setCell ⟨w.heap.size, 1, none⟩ y).setCell ⟨w.heap.size, 2, none⟩ z)) := fun x y z =>
        (((hal.trans (hb3.mono (by simp))).setCell (p := ⟨w.heap.size, 0, none⟩) (Nat.le_refl _) x).setCell (p := ⟨w.heap.size, 1, none⟩) (Nat.le_refl _) y).setCell (p := ⟨w.heap.size, 2, none⟩) (Nat.le_refl _) z
      have HP := hide (fun x y z => h3.planOwn.keep (keep_store hk x y z))
      clear hal hnew h hbl hb3 hk hB hr1 h3
      go_wp2_with fail
      rw [hR.out]
      exact bodyPost_ret (v := .tuple #[.agg #[.slice ai r.ins.length ci, .slice an r.nodes.length cn, .slice ao r.outs.length co], .int .i64 0, .int .i64 0]) (by simp [results, Tryz.results59, go_sem, c0, c1, c2]) rfl ⟨_, _, _, rfl, ⟨fun _ => unhide HP _ _ _, fun h => absurd rfl h, ⟨_, _, _, rfl⟩, ⟨_, _, _, rfl⟩, ⟨_, _, _, rfl⟩⟩, HH.out _ _ _⟩
end Go.Proofs.YtbbdkgfdeghdfaaGreat

/-
  Contracts of high.Read and low.Read: the error, the place, and the plan in lists of its own.
-/
namespace Go.Proofs.YtbbdkgfdeghdfaaGreat
open Go.RowKit

set_option maxRecDepth 100000 in
set_option maxHeartbeats 2000000 in
theorem ReadHigh_any (l : List UInt8) (w : World) (hlm : l.length ≤ maxLen) (hbl : l.length ≤ 6000 → ∀ n ∈ (Pl.textR (Pl.startR l)).2.nodes, n.bands.length ≤ 1000) :
    Calls Tryz.prog 40 #[.string ⟨l.toArray⟩] w fun e w' => ∃ vi vn vo, e = .returned (.tuple #[.agg #[vi, vn, vo], .int .i64 (Pl.readHigh l).1, .int .i64 (Pl.readHigh l).2.1]) ∧ ReadAt w' (Pl.readHigh l).1 (Pl.readHigh l).2.2 vi vn vo ∧ Below w.heap.size w w' := by
  unfold maxLen at hlm
  have hal : Below w.heap.size w (w.alloc (.cells #[.slice none 0 0, .slice none 0 0, .slice none 0 0] 78)) := (Below.refl _ w).alloc (Nat.le_refl _) _
  have hnew := heap_alloc_new w (.cells #[.slice none 0 0, .slice none 0 0, .slice none 0 0] 78)
  by_cases hlong : 6000 < l.length
  · have hR : Hid (Pl.readHigh l = (1, 0, Pl.startR l)) := by unfold Pl.readHigh Pl.readWith Hid; rw [if_pos hlong]
    have HA := hide hal
    clear hal hnew hbl
    go_enter Tryz.func40, Tryz.ntmps40
    go_wp2_with fail
    rw [hR.out]
    exact bodyPost_ret (v := .tuple #[.agg #[.slice none 0 0, .slice none 0 0, .slice none 0 0], .int .i64 1, .int .i64 0]) (by simp [results, Tryz.results40, go_sem]) rfl ⟨_, _, _, rfl, ReadAt.none _ _ _ (by simp), unhide HA⟩
  · have hl : l.length ≤ 6000 := by omega
    have hN := New_any l (w.alloc (.cells #[.slice none 0 0, .slice none 0 0, .slice none 0 0] 78)) hl
    have hok := Pl.start_ok l hl
    have hbl' := hbl hl
    have hT := fun (B : Nat) (w1 : World) (b : Nat) (h : Rd B w1 b (Pl.startR l)) => text_any h hok
    have hTok := textR_ok (Pl.startR l) hok
    have hR : Hid (Pl.readHigh l = ((Pl.resultR (Pl.textR (Pl.startR l)).1 (Pl.textR (Pl.startR l)).2).1, (Pl.resultR (Pl.textR (Pl.startR l)).1 (Pl.textR (Pl.startR l)).2).2, (Pl.textR (Pl.startR l)).2)) := by unfold Pl.readHigh Pl.readWith Hid; rw [if_neg hlong]
    generalize Pl.textR (Pl.startR l) = T at *
    obtain ⟨o, r⟩ := T
    have hS := fun (B : Nat) (w2 : World) (b : Nat) (h : Rd B w2 b r) => Result_any h hTok hbl' o
    simp only at hR hS hT
    generalize Pl.resultR o r = q at *
    obtain ⟨en, pl⟩ := q
    clear hbl
    have hsz : (w.alloc (.cells #[.slice none 0 0, .slice none 0 0, .slice none 0 0] 78)).heap.size = w.heap.size + 1 := by simp
    rw [hsz] at hN
    go_enter Tryz.func40, Tryz.ntmps40
    go_wp2_with fail
    refine hN.mono ?_
    rintro e w1 ⟨b, rfl, hr1, hb1⟩
    go_wp2_with fail
    refine (hT _ _ _ hr1).mono ?_
    rintro e w2 ⟨rfl, hr2, hb2⟩
    have hs2 := hr2.bd.2.1
    go_wp2_with fail
    refine (hS _ _ _ hr2).mono ?_
    rintro e w3 ⟨vi, vn, vo, rfl, hra, hb3⟩
    have hbb : Below (w.heap.size + 1) (w.alloc (.cells #[.slice none 0 0, .slice none 0 0, .slice none 0 0] 78)) w3 := (hb1.trans hb2).trans (hb3.mono hs2)
    have hk := (hbb.block w.heap.size (by omega)).trans hnew
    obtain ⟨c0, c1, c2, f0, f1, f2⟩ := plan_facts hk
    have HH : Hid (∀ x y z, Below w.heap.size w (((w3.setCell ⟨w.heap.size, 0, none⟩ x).setCell ⟨w.heap.size, 1, none⟩ y).setCell ⟨w.heap.size, 2, none⟩ z)) := fun x y z =>
      (((hal.trans (hbb.mono (by omega))).setCell (p := ⟨w.heap.size, 0, none⟩) (Nat.le_refl _) x).setCell (p := ⟨w.heap.size, 1, none⟩) (Nat.le_refl _) y).setCell (p := ⟨w.heap.size, 2, none⟩) (Nat.le_refl _) z
    have HP := hide (fun x y z => hra.keep (keep_store hk x y z))
    obtain ⟨ai, ni, ci, rfl⟩ := hra.si
    obtain ⟨an, nn, cn, rfl⟩ := hra.sn
    obtain ⟨ao, no, co, rfl⟩ := hra.so
    clear hbb hk hr1 hb1 hr2 hb2 hb3 hN hT hal hnew hsz hS hra
    go_wp2_with fail
    rw [hR.out]
    exact bodyPost_ret (v := .tuple #[.agg #[.slice ai ni ci, .slice an nn cn, .slice ao no co], .int .i64 en, .int .i64 pl]) (by simp [results, Tryz.results40, go_sem, c0, c1, c2]) rfl ⟨_, _, _, rfl, unhide HP _ _ _, HH.out _ _ _⟩

end Go.Proofs.YtbbdkgfdeghdfaaGreat

/-
  Contracts of statute.told, RunHigh and RunLow: they answer as the plain functions say, in a list of their own.
-/
namespace Go.Proofs.YtbbdkgfdeghdfaaGreat
open Go.RowKit

theorem PlanOwn.at_ {w : World} {r : Pl.RdM} {vi vn vo : Value} (h : PlanOwn w r vi vn vo) : PairsAt w vi r.ins ∧ NodesAt w vn r.nodes ∧ IntsAt w vo r.outs := by
  obtain ⟨B, bvs, h1, h2, h3⟩ := h
  exact ⟨pairs_own h1, nodes_own h2, ints_own h3⟩

set_option maxRecDepth 100000 in
set_option maxHeartbeats 2000000 in
theorem told_any (r : Pl.RdM) (en : Int) (home : List Int) (vi vn vo vh : Value) (w : World) (hra : ReadAt w en r vi vn vo) (hh : IntsAt w vh home) (hsz : en = 0 → r.nodes.length ≤ 1000 ∧ r.ins.length ≤ 1000 ∧ r.outs.length ≤ 1000 ∧ ∀ n ∈ r.nodes, n.bands.length ≤ 1000) :
    Calls Tryz.prog 44 #[.agg #[vi, vn, vo], .int .i64 en, vh] w fun e w' => ∃ v, e = .returned (.tuple #[v, .int .i64 (Pl.toldR en r home).1]) ∧ IntsOwn w.heap.size w' v (Pl.toldR en r home).2 ∧ Below w.heap.size w w' := by
  have hra' := hra
  obtain ⟨ai, ni, ci, rfl⟩ := hra.si
  obtain ⟨an, nn, cn, rfl⟩ := hra.sn
  obtain ⟨ao, no, co, rfl⟩ := hra.so
  obtain ⟨adh, nh, caph, hvh⟩ : ∃ ad n cap, vh = .slice ad n cap := by obtain ⟨x, y, e, _⟩ := hh; exact ⟨_, _, _, e⟩
  subst hvh
  have hal : Below w.heap.size w (w.alloc (.cells #[.slice ai ni ci, .slice an nn cn, .slice ao no co] 78)) := (Below.refl _ w).alloc (Nat.le_refl _) _
  by_cases h0 : en = 0
  · subst h0
    obtain ⟨z1, z2, z3, hbl2⟩ := hsz rfl
    obtain ⟨hpi, hpn, hpo⟩ := (hra.good rfl).at_
    have hnew := heap_alloc_new w (.cells #[.slice ai ni ci, .slice an nn cn, .slice ao no co] 78)
    obtain ⟨c0, c1, c2, _⟩ := plan_facts hnew
    have hplan : PlanAt (w.alloc (.cells #[.slice ai ni ci, .slice an nn cn, .slice ao no co] 78)) w.heap.size r.ins r.nodes r.outs := ⟨⟨_, c0, hpi.below hal⟩, ⟨_, c1, hpn.below hal⟩, ⟨_, c2, hpo.below hal⟩⟩
    have hhome := hh.below hal
    have hIH := hide (IsHome_any r.ins home w.heap.size _ _ _ c0 (hpi.below hal) hhome z2)
    have hRn := hide (fun n => Run_any r.ins r.nodes r.outs home w.heap.size _ _ (hplan.below (below_drewN (Below.refl _ _) n)) (hhome.drewN n) z1 z3 hbl2)
    have HB := hide hal
    clear hra hra' hpi hpn hpo hal hnew c0 c1 c2 hplan hhome hsz hbl2 hh z1 z2 z3
    cases hih : Pl.isHomeB r.ins home with
    | false =>
      have hres : Hid (Pl.toldR 0 r home = (4, [])) := by unfold Pl.toldR Hid; rw [if_neg (by simp), if_neg (by simp [hih])]
      rw [hih] at hIH
      go_enter Tryz.func44, Tryz.ntmps44
      go_wp2_with fail
      refine (unhide hIH).mono ?_
      rintro e w2 ⟨rfl, n, rfl⟩
      have HH := hide (below_drewN (unhide HB) n)
      clear hIH hRn HB
      go_wp2_with fail
      go_ret2
      rw [hres.out]
      exact ⟨_, rfl, World.ownsRow_nil _ _ _ _, unhide HH⟩
    | true =>
      have hres : Hid (Pl.toldR 0 r home = (0, Pl.runW r.nodes r.outs home)) := by unfold Pl.toldR Hid; rw [if_neg (by simp), if_pos hih]
      rw [hih] at hIH
      go_enter Tryz.func44, Tryz.ntmps44
      go_wp2_with fail
      refine (unhide hIH).mono ?_
      rintro e w2 ⟨rfl, n, rfl⟩
      go_wp2_with fail
      refine (unhide hRn n).mono ?_
      rintro e w3 ⟨v, rfl, hv, hb3⟩
      have HH : Hid (IntsOwn w.heap.size w3 v (Pl.runW r.nodes r.outs home) ∧ Below w.heap.size w w3) := by
        have hb := unhide HB
        exact ⟨own_mono hv hb.size, (below_drewN hb n).trans (hb3.mono hb.size)⟩
      obtain ⟨ad, cap, rfl⟩ := slice_shape hv
      clear hIH hRn HB hv hb3
      go_wp2_with fail
      go_ret2
      rw [hres.out]
      exact ⟨_, rfl, HH.out.1, HH.out.2⟩
  · have hres : Hid (Pl.toldR en r home = (en, [])) := by unfold Pl.toldR Hid; rw [if_pos h0]
    have hne : (en != 0) = true := by simpa using h0
    have HH := hide hal
    clear hra hra' hh hsz hal h0
    go_enter Tryz.func44, Tryz.ntmps44
    go_wp2_with fail
    go_ret2
    rw [hres.out]
    exact ⟨_, rfl, World.ownsRow_nil _ _ _ _, unhide HH⟩

theorem readHigh_sizes (l : List UInt8) (h : (Pl.readHigh l).1 = 0) : (Pl.readHigh l).2.2.nodes.length ≤ 1000 ∧ (Pl.readHigh l).2.2.ins.length ≤ 1000 ∧ (Pl.readHigh l).2.2.outs.length ≤ 1000 ∧ l.length ≤ 6000 ∧ (Pl.readHigh l).2.2 = (Pl.textR (Pl.startR l)).2 := by
  obtain ⟨hl, he⟩ := Pl.readWith_zero _ _ h
  have hok := sizes (textR_ok _ (Pl.start_ok l hl))
  have he' : (Pl.readHigh l).2.2 = (Pl.textR (Pl.startR l)).2 := he
  rw [he']
  exact ⟨hok.1, hok.2.2.1, hok.2.2.2, hl, rfl⟩

set_option maxRecDepth 100000 in
set_option maxHeartbeats 2000000 in
theorem RunHigh_any (l : List UInt8) (home : List Int) (vh : Value) (w : World) (hlm : l.length ≤ maxLen) (hh : IntsAt w vh home) (hbl : l.length ≤ 6000 → ∀ n ∈ (Pl.textR (Pl.startR l)).2.nodes, n.bands.length ≤ 1000) :
    Calls Tryz.prog 20 #[.string ⟨l.toArray⟩, vh] w fun e w' => ∃ v, e = .returned (.tuple #[v, .int .i64 (Pl.runHigh l home).1]) ∧ IntsOwn w.heap.size w' v (Pl.runHigh l home).2 ∧ Below w.heap.size w w' := by
  have hRd := ReadHigh_any l w hlm hbl
  have hsz : (Pl.readHigh l).1 = 0 → (Pl.readHigh l).2.2.nodes.length ≤ 1000 ∧ (Pl.readHigh l).2.2.ins.length ≤ 1000 ∧ (Pl.readHigh l).2.2.outs.length ≤ 1000 ∧ ∀ n ∈ (Pl.readHigh l).2.2.nodes, n.bands.length ≤ 1000 := fun h0 => by
    obtain ⟨z1, z2, z3, hl6, hre⟩ := readHigh_sizes l h0
    have hbl2 := hbl hl6
    rw [← hre] at hbl2
    exact ⟨z1, z2, z3, hbl2⟩
  unfold Pl.runHigh
  generalize Pl.readHigh l = q at *
  obtain ⟨en, pl, r⟩ := q
  simp only at hRd hsz ⊢
  have hT := fun w1 (hb : Below w.heap.size w w1) vi vn vo (hra : ReadAt w1 en r vi vn vo) => hide (told_any r en home vi vn vo vh w1 hra (hh.below hb) hsz)
  generalize Pl.toldR en r home = T at *
  obtain ⟨adh, nh, caph, hvh⟩ : ∃ ad n cap, vh = .slice ad n cap := by obtain ⟨x, y, e, _⟩ := hh; exact ⟨_, _, _, e⟩
  subst hvh
  clear hbl hh hsz
  go_enter Tryz.func20, Tryz.ntmps20
  go_wp2_with fail
  refine hRd.mono ?_
  rintro e w1 ⟨vi, vn, vo, rfl, hra, hb1⟩
  have hra0 := hra
  obtain ⟨ai, ni, ci, rfl⟩ := hra.si
  obtain ⟨an, nn, cn, rfl⟩ := hra.sn
  obtain ⟨ao, no, co, rfl⟩ := hra.so
  have hb2 := hb1.alloc hb1.size (.cells #[.slice ai ni ci, .slice an nn cn, .slice ao no co] 78)
  have hT1 := hT _ hb2 _ _ _ (hra0.keep fun e _ => KeepT.alloc e w1 (.cells #[.slice ai ni ci, .slice an nn cn, .slice ao no co] 78))
  have HB := hide hb2
  clear hRd hra hra0 hb1 hT hb2
  go_wp2_with fail
  refine (unhide hT1).mono ?_
  rintro e w2 ⟨v, rfl, hv, hb2⟩
  have HH : Hid (IntsOwn w.heap.size w2 v T.2 ∧ Below w.heap.size w w2) := ⟨own_mono hv (unhide HB).size, (unhide HB).trans (hb2.mono (unhide HB).size)⟩
  obtain ⟨ad, cap, rfl⟩ := slice_shape hv
  clear hT1 HB hv hb2
  go_wp2_with fail
  go_ret2
  exact ⟨_, rfl, HH.out.1, HH.out.2⟩

end Go.Proofs.YtbbdkgfdeghdfaaGreat
