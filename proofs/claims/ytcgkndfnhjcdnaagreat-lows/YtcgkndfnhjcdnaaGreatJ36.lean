/- Joined: Read Low1. -/
import Derived.Test.YtcgkndfnhjcdnaaGreatJ35
/-
  Contracts of source.New and the reader's Result.
-/
namespace Go.Proofs.YtcgkndfnhjcdnaaGreat
open Go.RowKit

set_option maxHeartbeats 400000 in
theorem New_any (l : List UInt8) (w : World) (hl : l.length ≤ 6000) :
    Calls Tryz.prog 41 #[.string ⟨l.toArray⟩] w fun e w' => ∃ b, e = .returned (.pointer (some ⟨b, 0, none⟩)) ∧ Rd w.heap.size w' b (Pl.startR l) ∧ Below w.heap.size w w' := by
  have hS := Split_any l w hl
  go_enter Tryz.func41, Tryz.ntmps41
  go_wp2_with fail
  refine hS.mono ?_
  rintro e w1 ⟨v, rfl, hown, hb⟩
  obtain ⟨ad, cap, rfl⟩ := slice_shape hown
  have hs := hb.size
  have HH : Hid (Rd w.heap.size (w1.alloc (.cells #[.slice none 0 0, .slice none 0 0, .slice none 0 0, .slice ad (Pl.tokens l).length cap, .int .i64 0, .slice none 0 0] 95)) w1.heap.size (Pl.startR l) ∧ Below w.heap.size w (w1.alloc (.cells #[.slice none 0 0, .slice none 0 0, .slice none 0 0, .slice ad (Pl.tokens l).length cap, .int .i64 0, .slice none 0 0] 95))) := by
    refine ⟨⟨_, _, _, _, _, [], ⟨hs, heap_alloc_new w1 _, World.ownsRow_nil _ _ _ _, ⟨rfl, World.ownsRow_nil _ _ _ _, fun i h => by simp [Pl.startR] at h⟩, World.ownsRow_nil _ _ _ _, own_keep hown (KeepT.alloc _ _ _), World.ownsRow_nil _ _ _ _⟩⟩, hb.alloc hs _⟩
  clear hown hb hS
  go_wp2
  go_ret
  exact ⟨_, rfl, HH.out.1, HH.out.2⟩

theorem outsR_ok (n : Nat) : ∀ (any : Bool) (r : Pl.RdM), Pl.Ok 0 r → Pl.Ok 0 (Pl.outsR n any r).2 := by
  induction n with
  | zero => intro _ r h; exact h
  | succ n ih =>
    intro any r h
    rw [Pl.outsR]
    split
    · exact h
    · split
      · rename_i hp
        have hk := (Pl.namedR_keeps r.skip).ok _ h.skip
        split
        · rename_i e; rw [e] at hk; exact hk
        · rename_i e
          have h1 := h.step (by rw [hp]; decide)
          exact ih _ _ (((Pl.namedR_more h1 e).addEnt _ _ _).addOut _)
      · exact h
theorem textR_ok (r : Pl.RdM) (h : Pl.Ok 0 r) : Pl.Ok 0 (Pl.textR r).2 := by
  unfold Pl.textR
  have h1 := inputsR_ok 4 false r h
  split
  · rename_i e; rw [e] at h1; exact h1
  · rename_i r1 e
    rw [e] at h1
    have h2 := letsR_ok 16 r1 h1
    split
    · rename_i e; rw [e] at h2; exact h2
    · rename_i e; rw [e] at h2; exact outsR_ok 4 false _ h2

theorem plan_facts {w : World} {g : Nat} {x y z : Value} (h : w.heap[g]? = some (.cells #[x, y, z] 65 (0, 0))) : w.cell? ⟨g, 0, none⟩ = some x ∧ w.cell? ⟨g, 1, none⟩ = some y ∧ w.cell? ⟨g, 2, none⟩ = some z ∧ w.frozen? ⟨g, 0, none⟩ = false ∧ w.frozen? ⟨g, 1, none⟩ = false ∧ w.frozen? ⟨g, 2, none⟩ = false :=
  ⟨by rw [cellsOf h]; rfl, by rw [cellsOf h]; rfl, by rw [cellsOf h]; rfl, freeOf h 0, freeOf h 1, freeOf h 2⟩

/-- The plan's three lists, in blocks of their own. -/
def PlanOwn (w : World) (r : Pl.RdM) (vi vn vo : Value) : Prop := ∃ (B : Nat) (bvs : List Value), SpansOwn B w vi r.ins ∧ NodesOwn B w vn r.nodes bvs ∧ IntsOwn B w vo r.outs
theorem PlanOwn.keep {w w' : World} {r : Pl.RdM} {vi vn vo : Value} (h : PlanOwn w r vi vn vo) (k : ∀ e : TypeId, 65 ≠ e → KeepT e w w') : PlanOwn w' r vi vn vo := by
  obtain ⟨B, bvs, h1, h2, h3⟩ := h
  exact ⟨B, bvs, own_keep h1 (k _ (by decide)), h2.keep (k _ (by decide)) (k _ (by decide)), own_keep h3 (k _ (by decide))⟩
theorem keep_store {w : World} {g : Nat} {cs : Array Value} (hk : w.heap[g]? = some (.cells cs 65 (0, 0))) (x y z : Value) : ∀ e : TypeId, 65 ≠ e → KeepT e w (((w.setCell ⟨g, 0, none⟩ x).setCell ⟨g, 1, none⟩ y).setCell ⟨g, 2, none⟩ z) := by
  have h1 := heap_setCell_same w g 0 _ _ x hk
  have h2 := heap_setCell_same _ g 1 _ _ y h1
  exact fun e he => ((KeepT.setCell hk he 0 x).trans (KeepT.setCell h1 he 1 y)).trans (KeepT.setCell h2 he 2 z)
theorem RdAt.planOwn {B : Nat} {w : World} {b : Nat} {r : Pl.RdM} {vi vn vo vt ve : Value} {bvs : List Value} (h : RdAt B w b r vi vn vo vt ve bvs) : PlanOwn w r vi vn vo := ⟨B, bvs, h.ins, h.nodes, h.outs⟩

/-- What a reading leaves: three lists, that read as the plan if there is no error, and are nothing else. -/
structure ReadAt (w : World) (e : Int) (r : Pl.RdM) (vi vn vo : Value) : Prop where
  good : e = 0 → PlanOwn w r vi vn vo
  bad : e ≠ 0 → vi = .slice none 0 0 ∧ vn = .slice none 0 0 ∧ vo = .slice none 0 0
  si : ∃ ad n cap, vi = .slice ad n cap
  sn : ∃ ad n cap, vn = .slice ad n cap
  so : ∃ ad n cap, vo = .slice ad n cap
theorem ReadAt.none (w : World) (e : Int) (r : Pl.RdM) (h : e ≠ 0) : ReadAt w e r (.slice none 0 0) (.slice none 0 0) (.slice none 0 0) :=
  ⟨fun h' => absurd h' h, fun _ => ⟨rfl, rfl, rfl⟩, ⟨_, _, _, rfl⟩, ⟨_, _, _, rfl⟩, ⟨_, _, _, rfl⟩⟩

theorem ReadAt.keep {w w' : World} {e : Int} {r : Pl.RdM} {vi vn vo : Value} (h : ReadAt w e r vi vn vo) (k : ∀ e : TypeId, 65 ≠ e → KeepT e w w') : ReadAt w' e r vi vn vo :=
  ⟨fun h0 => (h.good h0).keep k, h.bad, h.si, h.sn, h.so⟩

set_option maxRecDepth 100000 in
set_option maxHeartbeats 2000000 in
theorem Result_any {B : Nat} {w : World} {b : Nat} {r : Pl.RdM} {s : Nat} (h : Rd B w b r) (ok : Pl.Ok s r) (hbl : ∀ n ∈ r.nodes, n.bands.length ≤ 1000) (right : Bool) :
    Calls Tryz.prog 43 #[.pointer (some ⟨b, 0, none⟩), .bool right] w fun e w' => ∃ vi vn vo, e = .returned (.tuple #[.agg #[vi, vn, vo], .int .i64 (Pl.resultR right r).1, .int .i64 (Pl.resultR right r).2]) ∧ ReadAt w' (Pl.resultR right r).1 r vi vn vo ∧ Below w.heap.size w w' := by
  have hal : Below w.heap.size w (w.alloc (.cells #[.slice none 0 0, .slice none 0 0, .slice none 0 0] 65)) := (Below.refl _ w).alloc (Nat.le_refl _) _
  have hnew := heap_alloc_new w (.cells #[.slice none 0 0, .slice none 0 0, .slice none 0 0] 65)
  have hr1 := h.below hal
  have hlt := h.bd.2.2
  cases right with
  | false =>
    have hR : Hid (Pl.resultR false r = (2, (r.pos : Int))) := by unfold Pl.resultR Hid; rw [if_neg (by simp)]
    obtain ⟨c0, c1, c2, f0, f1, f2⟩ := plan_facts hnew
    obtain ⟨vi, vn, vo, vt, ve, bvs, h3⟩ := hr1
    have d4 : (w.alloc (.cells #[.slice none 0 0, .slice none 0 0, .slice none 0 0] 65)).cell? ⟨b, 4, none⟩ = some (.int .i64 r.pos) := by rw [cellsOf h3.blk]; rfl
    have HH : Hid (Below w.heap.size w (w.alloc (.cells #[.slice none 0 0, .slice none 0 0, .slice none 0 0] 65)).drew) := below_drewN hal 1
    clear hal hnew h h3 hbl
    go_enter Tryz.func43, Tryz.ntmps43
    go_wp2
    go_region
    all_goals go_wp2
    rw [hR.out]
    exact bodyPost_ret (v := .tuple #[.agg #[.slice none 0 0, .slice none 0 0, .slice none 0 0], .int .i64 2, .int .i64 r.pos]) (by simp [results, Tryz.results43, go_sem, c0, c1, c2]) rfl ⟨_, _, _, rfl, ReadAt.none _ _ _ (by simp), HH.out⟩
  | true =>
    have hB := IsBig_any r.ins r.nodes r.outs b _ hr1.plan (sizes ok).1 hbl
    cases hbig : Pl.isBigW r.ins r.nodes with
    | true =>
      have hR : Hid (Pl.resultR true r = (3, 0)) := by unfold Pl.resultR Hid; rw [if_pos rfl, if_pos hbig]
      rw [hbig] at hB
      go_enter Tryz.func43, Tryz.ntmps43
      go_wp2_with fail
      refine hB.mono ?_
      rintro e w3 ⟨rfl, hb3⟩
      have hk := (hb3.block w.heap.size (by simp)).trans hnew
      obtain ⟨c0, c1, c2, f0, f1, f2⟩ := plan_facts hk
      have HH : Hid (∀ x y z, Below w.heap.size w (((w3.setCell ⟨w.heap.size, 0, none⟩ x).setCell ⟨w.heap.size, 1, none⟩ y).setCell ⟨w.heap.size, 2, none⟩ z)) := fun x y z =>
        (((hal.trans (hb3.mono (by simp))).setCell (p := ⟨w.heap.size, 0, none⟩) (Nat.le_refl _) x).setCell (p := ⟨w.heap.size, 1, none⟩) (Nat.le_refl _) y).setCell (p := ⟨w.heap.size, 2, none⟩) (Nat.le_refl _) z
      clear hal hnew h hbl hb3 hk hB hr1
      go_wp2_with fail
      rw [hR.out]
      exact bodyPost_ret (v := .tuple #[.agg #[.slice none 0 0, .slice none 0 0, .slice none 0 0], .int .i64 3, .int .i64 0]) (by simp [results, Tryz.results43, go_sem, c0, c1, c2]) rfl ⟨_, _, _, rfl, ReadAt.none _ _ _ (by simp), HH.out _ _ _⟩
    | false =>
      have hR : Hid (Pl.resultR true r = (0, 0)) := by unfold Pl.resultR Hid; rw [if_pos rfl, if_neg (by simp [hbig])]
      rw [hbig] at hB
      go_enter Tryz.func43, Tryz.ntmps43
      go_wp2_with fail
      refine hB.mono ?_
      rintro e w3 ⟨rfl, hb3⟩
      have hk := (hb3.block w.heap.size (by simp)).trans hnew
      obtain ⟨c0, c1, c2, f0, f1, f2⟩ := plan_facts hk
      obtain ⟨vi, vn, vo, vt, ve, bvs, h3⟩ := hr1.below hb3
      obtain ⟨ai, ci, rfl⟩ := slice_shape h3.ins
      obtain ⟨an, cn, rfl⟩ := slice_shape h3.nodes.own
      obtain ⟨ao, co, rfl⟩ := slice_shape h3.outs
      have d0 : w3.cell? ⟨b, 0, none⟩ = some (.slice ai r.ins.length ci) := by rw [cellsOf h3.blk]; rfl
      have d1 : w3.cell? ⟨b, 1, none⟩ = some (.slice an r.nodes.length cn) := by rw [cellsOf h3.blk]; rfl
      have d2 : w3.cell? ⟨b, 2, none⟩ = some (.slice ao r.outs.length co) := by rw [cellsOf h3.blk]; rfl
      have HH : Hid (∀ x y z, Below w.heap.size w (((w3.setCell ⟨w.heap.size, 0, none⟩ x).setCell ⟨w.heap.size, 1, none⟩ y).setCell ⟨w.heap.size, 2, none⟩ z)) := fun x y z =>
        (((hal.trans (hb3.mono (by simp))).setCell (p := ⟨w.heap.size, 0, none⟩) (Nat.le_refl _) x).setCell (p := ⟨w.heap.size, 1, none⟩) (Nat.le_refl _) y).setCell (p := ⟨w.heap.size, 2, none⟩) (Nat.le_refl _) z
      have HP := hide (fun x y z => h3.planOwn.keep (keep_store hk x y z))
      clear hal hnew h hbl hb3 hk hB hr1 h3
      go_wp2_with fail
      rw [hR.out]
      exact bodyPost_ret (v := .tuple #[.agg #[.slice ai r.ins.length ci, .slice an r.nodes.length cn, .slice ao r.outs.length co], .int .i64 0, .int .i64 0]) (by simp [results, Tryz.results43, go_sem, c0, c1, c2]) rfl ⟨_, _, _, rfl, ⟨fun _ => unhide HP _ _ _, fun h => absurd rfl h, ⟨_, _, _, rfl⟩, ⟨_, _, _, rfl⟩, ⟨_, _, _, rfl⟩⟩, HH.out _ _ _⟩
end Go.Proofs.YtcgkndfnhjcdnaaGreat

/-
  Contracts of the reader's LearnFlag and Flag, of plan.Op's IsFlag, and of package low's readers of what an operation takes.
-/
namespace Go.Proofs.YtcgkndfnhjcdnaaGreat
open Go.RowKit

set_option maxHeartbeats 400000 in
theorem LearnFlag_any {B : Nat} {w : World} {b : Nat} {r : Pl.RdM} (h : Rd B w b r) (t : List UInt8) (n : Int) (hn : r.ents.length ≤ 1000) :
    Calls Tryz.prog 132 #[.pointer (some ⟨b, 0, none⟩), .string ⟨t.toArray⟩, .int .i64 n] w fun e w' => e = .returned (.tuple #[]) ∧ Rd B w' b (r.addEnt t 1 n) ∧ Below B w w' := by
  obtain ⟨i0, hi, hz0, hz1, hz2⟩ := info_parts Tryz.infoEnt
  obtain ⟨vi, vn, vo, vt, ve, bvs, h⟩ := h
  have hB := h.base
  have hlt := lt_of_block h.blk
  have c5 : w.cell? ⟨b, 5, none⟩ = some ve := by rw [cellsOf h.blk]; rfl
  have f5 : w.frozen? ⟨b, 5, none⟩ = false := freeOf h.blk 5
  have hal := h.below ((Below.refl _ w).alloc (Nat.le_refl _) (.cells #[.string ⟨t.toArray⟩, .int .i64 1, .int .i64 n] 145))
  go_enter Tryz.func132, Tryz.ntmps132
  go_wp2_with (at_builtin; refine wpList_append_lies _ rfl _ _ 93 rfl B 145 i0 (.agg #[.string ⟨#[]⟩, .int .i64 0, .int .i64 0]) 3 32 Tryz.underlying93 hi hz0 hz1 hz2 rfl (by decide) _ _ _ rfl hal.ents ⟨_, 0, none⟩ 1 1 [strV t, intV 1, intV n] rfl rfl ?c1 (three_cell _ _ _ rfl rfl rfl) (by decide) ?c3 ?c4 ?c5 _ rfl ?_)
  case c1 => exact news_at #[strV t, intV 1, intV n] _
  case c3 => unfold maxLen; omega
  case c4 => omega
  case c5 => simp; omega
  · intro g cap w1 hown' hgrow _ _
    have hA : Hid (RdAt B (w1.setCell ⟨b, 5, none⟩ (.slice (some ⟨g, 0, none⟩) (r.ents.length + 1) cap)) b (r.addEnt t 1 n) vi vn vo vt (.slice (some ⟨g, 0, none⟩) (r.ents.length + 1) cap) bvs) := hal.addEnt hgrow hown'
    have hB1 : Hid (Below B w (w1.setCell ⟨b, 5, none⟩ (.slice (some ⟨g, 0, none⟩) (r.ents.length + 1) cap))) := (((Below.refl B w).alloc (by omega) (.cells #[.string ⟨t.toArray⟩, .int .i64 1, .int .i64 n] 145)).grown hgrow (by simp; omega) (own_base hal.ents)).setCell (p := ⟨b, 5, none⟩) hB _
    have hbk := hal.blkKept hal.ents hgrow (by decide)
    have c5' : w1.cell? ⟨b, 5, none⟩ = some ve := by rw [cellsOf (hbk.trans hal.blk)]; rfl
    have f5' : w1.frozen? ⟨b, 5, none⟩ = false := freeOf (hbk.trans hal.blk) 5
    clear hown' hgrow hbk hal h
    go_wp2
    go_end0
    exact ⟨rfl, ⟨_, _, _, _, _, _, hA.out⟩, hB1.out⟩


set_option maxHeartbeats 400000 in
theorem Flag_any {B : Nat} {w : World} {b : Nat} {r : Pl.RdM} {s : Nat} (h : Rd B w b r) (ok : Pl.Ok s r) :
    Calls Tryz.prog 158 #[.pointer (some ⟨b, 0, none⟩)] w fun e w' => e = .returned (optV r.flag.1) ∧ Rd B w' b r.flag.2 ∧ Below B w w' := by
  have hK := known_any h ok 1
  unfold Pl.RdM.flag
  generalize r.knownStep 1 = T at *
  unfold optV at hK ⊢
  clear h
  go_enter Tryz.func158, Tryz.ntmps158
  go_wp2_with fail
  refine hK.mono ?_
  rintro e w1 ⟨rfl, hr1, hb1⟩
  have HH : Hid (Rd B w1 b T.2 ∧ Below B w w1) := ⟨hr1, hb1⟩
  clear hr1 hb1 hK
  go_wp2_with fail
  go_ret2
  exact ⟨rfl, HH.out.1, HH.out.2⟩
theorem argC : ReadC 133 Pl.RdM.leaf 0 := fun _ _ _ _ _ h ok _ => Argument_any h ok
theorem flagC : ReadC 158 Pl.RdM.flag 0 := fun _ _ _ _ _ h ok _ => Flag_any h ok


set_option maxHeartbeats 1000000 in
theorem lpair_any {B : Nat} {w : World} {b : Nat} {r : Pl.RdM} {s : Nat} (h : Rd B w b r) (ok : Pl.Ok s r) (op : Int) :
    Calls Tryz.prog 149 #[.pointer (some ⟨b, 0, none⟩), .int .i64 op] w fun e w' => e = .returned (optV (Pl.pairR Pl.RdM.leaf op r).1) ∧ Rd B w' b (Pl.pairR Pl.RdM.leaf op r).2 ∧ Below B w w' := by
  unfold Pl.pairR
  cases hf1 : Pl.RdM.leaf r with
  | mk o r1 =>
  cases o with
  | none =>
    go_enter Tryz.func149, Tryz.ntmps149
    go_wp2_with fail
    refine (argC.no h ok (Nat.zero_le _) hf1).mono ?_
    rintro e w1 ⟨rfl, hrw1, hbw1⟩
    have HH : Hid (Rd B w1 b r1 ∧ Below B w w1) := ⟨hrw1, hbw1⟩
    clear hrw1 hbw1 h
    go_wp2
    go_ret2
    exact ⟨rfl, HH.out.1, HH.out.2⟩
  | some a =>
    have ok2 := (keeps_of Pl.leaf_keeps hf1).ok _ ok
    simp only [Pl.oneR]
    cases hf2 : Pl.RdM.leaf r1 with
    | mk o r2 =>
    cases o with
    | none =>
      go_enter Tryz.func149, Tryz.ntmps149
      go_wp2_with fail
      refine (argC.yes h ok (Nat.zero_le _) hf1).mono ?_
      rintro e w1 ⟨rfl, hrw1, hbw1⟩
      go_wp2_with fail
      refine (argC.no hrw1 ok2 (Nat.zero_le _) hf2).mono ?_
      rintro e w2 ⟨rfl, hrw2, hbw2⟩
      have HH : Hid (Rd B w2 b r2 ∧ Below B w w2) := ⟨hrw2, (hbw1.trans hbw2)⟩
      clear hrw1 hbw1 hrw2 hbw2 h
      go_wp2
      go_ret2
      exact ⟨rfl, HH.out.1, HH.out.2⟩
    | some c =>
      have ok3 := (keeps_of Pl.leaf_keeps hf2).ok _ ok2
      go_enter Tryz.func149, Tryz.ntmps149
      go_wp2_with fail
      refine (argC.yes h ok (Nat.zero_le _) hf1).mono ?_
      rintro e w1 ⟨rfl, hrw1, hbw1⟩
      go_wp2_with fail
      refine (argC.yes hrw1 ok2 (Nat.zero_le _) hf2).mono ?_
      rintro e w2 ⟨rfl, hrw2, hbw2⟩
      go_wp2_with fail
      refine (Append_any hrw2 ⟨op, a, c, 0, 0, []⟩ (.slice none 0 0) (World.ownsRow_nil _ _ _ _) (nodes_le ok3)).mono ?_
      rintro e w3 ⟨rfl, hrw3, hbw3⟩
      have HH : Hid (Rd B w3 b (r2.addNode ⟨op, a, c, 0, 0, []⟩) ∧ Below B w w3) := ⟨hrw3, ((hbw1.trans hbw2).trans hbw3)⟩
      clear hrw1 hbw1 hrw2 hbw2 hrw3 hbw3 h
      go_wp2
      go_ret2
      exact ⟨rfl, HH.out.1, HH.out.2⟩

set_option maxHeartbeats 1000000 in
theorem ljoint_any {B : Nat} {w : World} {b : Nat} {r : Pl.RdM} {s : Nat} (h : Rd B w b r) (ok : Pl.Ok s r) (op : Int) :
    Calls Tryz.prog 147 #[.pointer (some ⟨b, 0, none⟩), .int .i64 op] w fun e w' => e = .returned (optV (Pl.pairR Pl.RdM.flag op r).1) ∧ Rd B w' b (Pl.pairR Pl.RdM.flag op r).2 ∧ Below B w w' := by
  unfold Pl.pairR
  cases hf1 : Pl.RdM.flag r with
  | mk o r1 =>
  cases o with
  | none =>
    go_enter Tryz.func147, Tryz.ntmps147
    go_wp2_with fail
    refine (flagC.no h ok (Nat.zero_le _) hf1).mono ?_
    rintro e w1 ⟨rfl, hrw1, hbw1⟩
    have HH : Hid (Rd B w1 b r1 ∧ Below B w w1) := ⟨hrw1, hbw1⟩
    clear hrw1 hbw1 h
    go_wp2
    go_ret2
    exact ⟨rfl, HH.out.1, HH.out.2⟩
  | some a =>
    have ok2 := (keeps_of Pl.flag_keeps hf1).ok _ ok
    simp only [Pl.oneR]
    cases hf2 : Pl.RdM.flag r1 with
    | mk o r2 =>
    cases o with
    | none =>
      go_enter Tryz.func147, Tryz.ntmps147
      go_wp2_with fail
      refine (flagC.yes h ok (Nat.zero_le _) hf1).mono ?_
      rintro e w1 ⟨rfl, hrw1, hbw1⟩
      go_wp2_with fail
      refine (flagC.no hrw1 ok2 (Nat.zero_le _) hf2).mono ?_
      rintro e w2 ⟨rfl, hrw2, hbw2⟩
      have HH : Hid (Rd B w2 b r2 ∧ Below B w w2) := ⟨hrw2, (hbw1.trans hbw2)⟩
      clear hrw1 hbw1 hrw2 hbw2 h
      go_wp2
      go_ret2
      exact ⟨rfl, HH.out.1, HH.out.2⟩
    | some c =>
      have ok3 := (keeps_of Pl.flag_keeps hf2).ok _ ok2
      go_enter Tryz.func147, Tryz.ntmps147
      go_wp2_with fail
      refine (flagC.yes h ok (Nat.zero_le _) hf1).mono ?_
      rintro e w1 ⟨rfl, hrw1, hbw1⟩
      go_wp2_with fail
      refine (flagC.yes hrw1 ok2 (Nat.zero_le _) hf2).mono ?_
      rintro e w2 ⟨rfl, hrw2, hbw2⟩
      go_wp2_with fail
      refine (Append_any hrw2 ⟨op, a, c, 0, 0, []⟩ (.slice none 0 0) (World.ownsRow_nil _ _ _ _) (nodes_le ok3)).mono ?_
      rintro e w3 ⟨rfl, hrw3, hbw3⟩
      have HH : Hid (Rd B w3 b (r2.addNode ⟨op, a, c, 0, 0, []⟩) ∧ Below B w w3) := ⟨hrw3, ((hbw1.trans hbw2).trans hbw3)⟩
      clear hrw1 hbw1 hrw2 hbw2 hrw3 hbw3 h
      go_wp2
      go_ret2
      exact ⟨rfl, HH.out.1, HH.out.2⟩

set_option maxHeartbeats 1000000 in
theorem lcontrary_any {B : Nat} {w : World} {b : Nat} {r : Pl.RdM} {s : Nat} (h : Rd B w b r) (ok : Pl.Ok s r) :
    Calls Tryz.prog 148 #[.pointer (some ⟨b, 0, none⟩)] w fun e w' => e = .returned (optV (Pl.oneR Pl.RdM.flag (fun a => ⟨18, a, 0, 0, 0, []⟩) r).1) ∧ Rd B w' b (Pl.oneR Pl.RdM.flag (fun a => ⟨18, a, 0, 0, 0, []⟩) r).2 ∧ Below B w w' := by
  unfold Pl.oneR
  cases hf1 : r.flag with
  | mk o r1 =>
  cases o with
  | none =>
    go_enter Tryz.func148, Tryz.ntmps148
    go_wp2_with fail
    refine (flagC.no h ok (Nat.zero_le _) hf1).mono ?_
    rintro e w1 ⟨rfl, hrw1, hbw1⟩
    have HH : Hid (Rd B w1 b r1 ∧ Below B w w1) := ⟨hrw1, hbw1⟩
    clear hrw1 hbw1 h
    go_wp2
    go_ret2
    exact ⟨rfl, HH.out.1, HH.out.2⟩
  | some a =>
    have ok2 := (keeps_of Pl.flag_keeps hf1).ok _ ok
    go_enter Tryz.func148, Tryz.ntmps148
    go_wp2_with fail
    refine (flagC.yes h ok (Nat.zero_le _) hf1).mono ?_
    rintro e w1 ⟨rfl, hrw1, hbw1⟩
    go_wp2_with fail
    refine (Append_any hrw1 ⟨18, a, 0, 0, 0, []⟩ (.slice none 0 0) (World.ownsRow_nil _ _ _ _) (nodes_le ok2)).mono ?_
    rintro e w2 ⟨rfl, hrw2, hbw2⟩
    have HH : Hid (Rd B w2 b (r1.addNode ⟨18, a, 0, 0, 0, []⟩) ∧ Below B w w2) := ⟨hrw2, (hbw1.trans hbw2)⟩
    clear hrw1 hbw1 hrw2 hbw2 h
    go_wp2
    go_ret2
    exact ⟨rfl, HH.out.1, HH.out.2⟩

set_option maxHeartbeats 1000000 in
theorem lproduct_any {B : Nat} {w : World} {b : Nat} {r : Pl.RdM} {s : Nat} (h : Rd B w b r) (ok : Pl.Ok s r) :
    Calls Tryz.prog 144 #[.pointer (some ⟨b, 0, none⟩)] w fun e w' => e = .returned (optV (Pl.productR Pl.RdM.leaf r).1) ∧ Rd B w' b (Pl.productR Pl.RdM.leaf r).2 ∧ Below B w w' := by
  unfold Pl.productR
  cases hn : r.num (-1000) 1000 with
  | none =>
    go_enter Tryz.func144, Tryz.ntmps144
    go_wp2_with fail
    refine (RNum_no h ok.pos ok.peek_len _ _ hn).mono ?_
    rintro e w1 ⟨rfl, hrw1, hbw1⟩
    have HH : Hid (Rd B w1 b r ∧ Below B w w1) := ⟨hrw1, hbw1⟩
    clear hrw1 hbw1 h
    go_wp2
    go_ret2
    exact ⟨rfl, HH.out.1, HH.out.2⟩
  | some k =>
    have ok2 := (Pl.Keeps.skip r).ok _ ok
    simp only [Pl.oneR]
    cases hf1 : r.skip.leaf with
    | mk o r1 =>
    cases o with
    | none =>
      go_enter Tryz.func144, Tryz.ntmps144
      go_wp2_with fail
      refine (RNum_yes h ok.pos ok.peek_len _ _ k hn).mono ?_
      rintro e w1 ⟨rfl, hrw1, hbw1⟩
      go_wp2_with fail
      refine (argC.no hrw1 ok2 (Nat.zero_le _) hf1).mono ?_
      rintro e w2 ⟨rfl, hrw2, hbw2⟩
      have HH : Hid (Rd B w2 b r1 ∧ Below B w w2) := ⟨hrw2, (hbw1.trans hbw2)⟩
      clear hrw1 hbw1 hrw2 hbw2 h
      go_wp2
      go_ret2
      exact ⟨rfl, HH.out.1, HH.out.2⟩
    | some a =>
      have ok3 := (keeps_of Pl.leaf_keeps hf1).ok _ ok2
      go_enter Tryz.func144, Tryz.ntmps144
      go_wp2_with fail
      refine (RNum_yes h ok.pos ok.peek_len _ _ k hn).mono ?_
      rintro e w1 ⟨rfl, hrw1, hbw1⟩
      go_wp2_with fail
      refine (argC.yes hrw1 ok2 (Nat.zero_le _) hf1).mono ?_
      rintro e w2 ⟨rfl, hrw2, hbw2⟩
      go_wp2_with fail
      refine (Append_any hrw2 ⟨4, a, 0, 0, k, []⟩ (.slice none 0 0) (World.ownsRow_nil _ _ _ _) (nodes_le ok3)).mono ?_
      rintro e w3 ⟨rfl, hrw3, hbw3⟩
      have HH : Hid (Rd B w3 b (r1.addNode ⟨4, a, 0, 0, k, []⟩) ∧ Below B w w3) := ⟨hrw3, ((hbw1.trans hbw2).trans hbw3)⟩
      clear hrw1 hbw1 hrw2 hbw2 hrw3 hbw3 h
      go_wp2
      go_ret2
      exact ⟨rfl, HH.out.1, HH.out.2⟩

set_option maxHeartbeats 1000000 in
theorem lquotient_any {B : Nat} {w : World} {b : Nat} {r : Pl.RdM} {s : Nat} (h : Rd B w b r) (ok : Pl.Ok s r) :
    Calls Tryz.prog 145 #[.pointer (some ⟨b, 0, none⟩)] w fun e w' => e = .returned (optV (Pl.quotLR r).1) ∧ Rd B w' b (Pl.quotLR r).2 ∧ Below B w w' := by
  unfold Pl.quotLR
  cases hf1 : r.leaf with
  | mk o r1 =>
  cases o with
  | none =>
    go_enter Tryz.func145, Tryz.ntmps145
    go_wp2_with fail
    refine (argC.no h ok (Nat.zero_le _) hf1).mono ?_
    rintro e w1 ⟨rfl, hrw1, hbw1⟩
    have HH : Hid (Rd B w1 b r1 ∧ Below B w w1) := ⟨hrw1, hbw1⟩
    clear hrw1 hbw1 h
    go_wp2
    go_ret2
    exact ⟨rfl, HH.out.1, HH.out.2⟩
  | some a =>
    have ok2 := (keeps_of Pl.leaf_keeps hf1).ok _ ok
    simp only
    cases hn : r1.num 1 1000000 with
    | none =>
      go_enter Tryz.func145, Tryz.ntmps145
      go_wp2_with fail
      refine (argC.yes h ok (Nat.zero_le _) hf1).mono ?_
      rintro e w1 ⟨rfl, hrw1, hbw1⟩
      go_wp2_with fail
      refine (RNum_no hrw1 ok2.pos ok2.peek_len _ _ hn).mono ?_
      rintro e w2 ⟨rfl, hrw2, hbw2⟩
      have HH : Hid (Rd B w2 b r1 ∧ Below B w w2) := ⟨hrw2, (hbw1.trans hbw2)⟩
      clear hrw1 hbw1 hrw2 hbw2 h
      go_wp2
      go_ret2
      exact ⟨rfl, HH.out.1, HH.out.2⟩
    | some d =>
      have ok3 := (Pl.Keeps.skip r1).ok _ ok2
      have e1 : r1.skip.nodes = r1.nodes := by unfold Pl.RdM.skip; split <;> rfl
      have ha := fun w2 (hr : Rd B w2 b r1.skip) => Append_any hr ⟨8, a, 0, 0, d, []⟩ (.slice none 0 0) (World.ownsRow_nil _ _ _ _) (nodes_le ok3)
      rw [e1] at ha
      go_enter Tryz.func145, Tryz.ntmps145
      go_wp2_with fail
      refine (argC.yes h ok (Nat.zero_le _) hf1).mono ?_
      rintro e w1 ⟨rfl, hrw1, hbw1⟩
      go_wp2_with fail
      refine (RNum_yes hrw1 ok2.pos ok2.peek_len _ _ d hn).mono ?_
      rintro e w2 ⟨rfl, hrw2, hbw2⟩
      go_wp2_with fail
      refine (ha _ hrw2).mono ?_
      rintro e w3 ⟨rfl, hrw3, hbw3⟩
      have HH : Hid (Rd B w3 b (r1.skip.addNode ⟨8, a, 0, 0, d, []⟩) ∧ Below B w w3) := ⟨hrw3, ((hbw1.trans hbw2).trans hbw3)⟩
      clear hrw1 hbw1 hrw2 hbw2 hrw3 hbw3 h
      go_wp2
      go_ret2
      exact ⟨rfl, HH.out.1, HH.out.2⟩

set_option maxHeartbeats 1000000 in
theorem lchoice_any {B : Nat} {w : World} {b : Nat} {r : Pl.RdM} {s : Nat} (h : Rd B w b r) (ok : Pl.Ok s r) :
    Calls Tryz.prog 146 #[.pointer (some ⟨b, 0, none⟩)] w fun e w' => e = .returned (optV (Pl.choiceR Pl.RdM.flag Pl.RdM.leaf r).1) ∧ Rd B w' b (Pl.choiceR Pl.RdM.flag Pl.RdM.leaf r).2 ∧ Below B w w' := by
  unfold Pl.choiceR
  cases hf1 : r.flag with
  | mk o r1 =>
  cases o with
  | none =>
    go_enter Tryz.func146, Tryz.ntmps146
    go_wp2_with fail
    refine (flagC.no h ok (Nat.zero_le _) hf1).mono ?_
    rintro e w1 ⟨rfl, hrw1, hbw1⟩
    have HH : Hid (Rd B w1 b r1 ∧ Below B w w1) := ⟨hrw1, hbw1⟩
    clear hrw1 hbw1 h
    go_wp2
    go_ret2
    exact ⟨rfl, HH.out.1, HH.out.2⟩
  | some a =>
    have ok2 := (keeps_of Pl.flag_keeps hf1).ok _ ok
    simp only
    cases hf2 : r1.leaf with
    | mk o r2 =>
    cases o with
    | none =>
      go_enter Tryz.func146, Tryz.ntmps146
      go_wp2_with fail
      refine (flagC.yes h ok (Nat.zero_le _) hf1).mono ?_
      rintro e w1 ⟨rfl, hrw1, hbw1⟩
      go_wp2_with fail
      refine (argC.no hrw1 ok2 (Nat.zero_le _) hf2).mono ?_
      rintro e w2 ⟨rfl, hrw2, hbw2⟩
      have HH : Hid (Rd B w2 b r2 ∧ Below B w w2) := ⟨hrw2, (hbw1.trans hbw2)⟩
      clear hrw1 hbw1 hrw2 hbw2 h
      go_wp2
      go_ret2
      exact ⟨rfl, HH.out.1, HH.out.2⟩
    | some c =>
      have ok3 := (keeps_of Pl.leaf_keeps hf2).ok _ ok2
      simp only [Pl.oneR]
      cases hf3 : r2.leaf with
      | mk o r3 =>
      cases o with
      | none =>
        go_enter Tryz.func146, Tryz.ntmps146
        go_wp2_with fail
        refine (flagC.yes h ok (Nat.zero_le _) hf1).mono ?_
        rintro e w1 ⟨rfl, hrw1, hbw1⟩
        go_wp2_with fail
        refine (argC.yes hrw1 ok2 (Nat.zero_le _) hf2).mono ?_
        rintro e w2 ⟨rfl, hrw2, hbw2⟩
        go_wp2_with fail
        refine (argC.no hrw2 ok3 (Nat.zero_le _) hf3).mono ?_
        rintro e w3 ⟨rfl, hrw3, hbw3⟩
        have HH : Hid (Rd B w3 b r3 ∧ Below B w w3) := ⟨hrw3, ((hbw1.trans hbw2).trans hbw3)⟩
        clear hrw1 hbw1 hrw2 hbw2 hrw3 hbw3 h
        go_wp2
        go_ret2
        exact ⟨rfl, HH.out.1, HH.out.2⟩
      | some d =>
        have ok4 := (keeps_of Pl.leaf_keeps hf3).ok _ ok3
        go_enter Tryz.func146, Tryz.ntmps146
        go_wp2_with fail
        refine (flagC.yes h ok (Nat.zero_le _) hf1).mono ?_
        rintro e w1 ⟨rfl, hrw1, hbw1⟩
        go_wp2_with fail
        refine (argC.yes hrw1 ok2 (Nat.zero_le _) hf2).mono ?_
        rintro e w2 ⟨rfl, hrw2, hbw2⟩
        go_wp2_with fail
        refine (argC.yes hrw2 ok3 (Nat.zero_le _) hf3).mono ?_
        rintro e w3 ⟨rfl, hrw3, hbw3⟩
        go_wp2_with fail
        refine (Append_any hrw3 ⟨7, a, c, d, 0, []⟩ (.slice none 0 0) (World.ownsRow_nil _ _ _ _) (nodes_le ok4)).mono ?_
        rintro e w4 ⟨rfl, hrw4, hbw4⟩
        have HH : Hid (Rd B w4 b (r3.addNode ⟨7, a, c, d, 0, []⟩) ∧ Below B w w4) := ⟨hrw4, (((hbw1.trans hbw2).trans hbw3).trans hbw4)⟩
        clear hrw1 hbw1 hrw2 hbw2 hrw3 hbw3 hrw4 hbw4 h
        go_wp2
        go_ret2
        exact ⟨rfl, HH.out.1, HH.out.2⟩
end Go.Proofs.YtcgkndfnhjcdnaaGreat
