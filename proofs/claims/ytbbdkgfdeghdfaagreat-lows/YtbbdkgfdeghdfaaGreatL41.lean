/- Joined: Read2 RunHigh PlainSize. -/
import Derived.Test.YtbbdkgfdeghdfaaGreatL40
/-
  Contracts of high.Read and low.Read: the error, the place, and the plan in lists of its own.
-/
namespace Go.Proofs.YtbbdkgfdeghdfaaGreat
open Go.RowKit

theorem lowR_ok (r : Pl.RdM) (h : Pl.Ok 0 r) : Pl.Ok 0 (Pl.lowR r).2 := by
  unfold Pl.lowR
  have h1 := inputsR_ok 4 false r h
  split
  · rename_i e; rw [e] at h1; exact h1
  · rename_i r1 e
    rw [e] at h1
    have h2 := Pl.stepsR_ok 80 r1 h1
    split
    · rename_i e; rw [e] at h2; exact h2
    · rename_i e; rw [e] at h2; exact Pl.outsLR_ok 4 false _ h2

set_option maxRecDepth 100000 in
set_option maxHeartbeats 2000000 in
theorem ReadHigh_any (l : List UInt8) (w : World) (hlm : l.length ≤ maxLen) (hbl : l.length ≤ 6000 → ∀ n ∈ (Pl.textR (Pl.startR l)).2.nodes, n.bands.length ≤ 1000) :
    Calls Tryz.prog 40 #[.string ⟨l.toArray⟩] w fun e w' => ∃ vi vn vo, e = .returned (.tuple #[.agg #[vi, vn, vo], .int .i64 (Pl.readHigh l).1, .int .i64 (Pl.readHigh l).2.1]) ∧ ReadAt w' (Pl.readHigh l).1 (Pl.readHigh l).2.2 vi vn vo ∧ Below w.heap.size w w' := by
  unfold maxLen at hlm
  have hal : Below w.heap.size w (w.alloc (.cells #[.slice none 0 0, .slice none 0 0, .slice none 0 0] 78)) := (Below.refl _ w).alloc (Nat.le_refl _) _
  have hnew := heap_alloc_new w (.cells #[.slice none 0 0, .slice none 0 0, .slice none 0 0] 78)
  by_cases hlong : 6000 < l.length
  · have hR : Hid (Pl.readHigh l = (1, 0, Pl.startR l)) := by unfold Pl.readHigh Pl.readWith Hid; rw [if_pos hlong]
    have HA := hide hal
    clear hal hnew hbl
    go_enter Tryz.func40, Tryz.ntmps40
    go_wp2_with fail
    rw [hR.out]
    exact bodyPost_ret (v := .tuple #[.agg #[.slice none 0 0, .slice none 0 0, .slice none 0 0], .int .i64 1, .int .i64 0]) (by simp [results, Tryz.results40, go_sem]) rfl ⟨_, _, _, rfl, ReadAt.none _ _ _ (by simp), unhide HA⟩
  · have hl : l.length ≤ 6000 := by omega
    have hN := New_any l (w.alloc (.cells #[.slice none 0 0, .slice none 0 0, .slice none 0 0] 78)) hl
    have hok := Pl.start_ok l hl
    have hbl' := hbl hl
    have hT := fun (B : Nat) (w1 : World) (b : Nat) (h : Rd B w1 b (Pl.startR l)) => text_any h hok
    have hTok := textR_ok (Pl.startR l) hok
    have hR : Hid (Pl.readHigh l = ((Pl.resultR (Pl.textR (Pl.startR l)).1 (Pl.textR (Pl.startR l)).2).1, (Pl.resultR (Pl.textR (Pl.startR l)).1 (Pl.textR (Pl.startR l)).2).2, (Pl.textR (Pl.startR l)).2)) := by unfold Pl.readHigh Pl.readWith Hid; rw [if_neg hlong]
    generalize Pl.textR (Pl.startR l) = T at *
    obtain ⟨o, r⟩ := T
    have hS := fun (B : Nat) (w2 : World) (b : Nat) (h : Rd B w2 b r) => Result_any h hTok hbl' o
    simp only at hR hS hT
    generalize Pl.resultR o r = q at *
    obtain ⟨en, pl⟩ := q
    clear hbl
    have hsz : (w.alloc (.cells #[.slice none 0 0, .slice none 0 0, .slice none 0 0] 78)).heap.size = w.heap.size + 1 := by simp
    rw [hsz] at hN
    go_enter Tryz.func40, Tryz.ntmps40
    go_wp2_with fail
    refine hN.mono ?_
    rintro e w1 ⟨b, rfl, hr1, hb1⟩
    go_wp2_with fail
    refine (hT _ _ _ hr1).mono ?_
    rintro e w2 ⟨rfl, hr2, hb2⟩
    have hs2 := hr2.bd.2.1
    go_wp2_with fail
    refine (hS _ _ _ hr2).mono ?_
    rintro e w3 ⟨vi, vn, vo, rfl, hra, hb3⟩
    have hbb : Below (w.heap.size + 1) (w.alloc (.cells #[.slice none 0 0, .slice none 0 0, .slice none 0 0] 78)) w3 := (hb1.trans hb2).trans (hb3.mono hs2)
    have hk := (hbb.block w.heap.size (by omega)).trans hnew
    obtain ⟨c0, c1, c2, f0, f1, f2⟩ := plan_facts hk
    have HH : Hid (∀ x y z, Below w.heap.size w (((w3.setCell ⟨w.heap.size, 0, none⟩ x).setCell ⟨w.heap.size, 1, none⟩ y).setCell ⟨w.heap.size, 2, none⟩ z)) := fun x y z =>
      (((hal.trans (hbb.mono (by omega))).setCell (p := ⟨w.heap.size, 0, none⟩) (Nat.le_refl _) x).setCell (p := ⟨w.heap.size, 1, none⟩) (Nat.le_refl _) y).setCell (p := ⟨w.heap.size, 2, none⟩) (Nat.le_refl _) z
    have HP := hide (fun x y z => hra.keep (keep_store hk x y z))
    obtain ⟨ai, ni, ci, rfl⟩ := hra.si
    obtain ⟨an, nn, cn, rfl⟩ := hra.sn
    obtain ⟨ao, no, co, rfl⟩ := hra.so
    clear hbb hk hr1 hb1 hr2 hb2 hb3 hN hT hal hnew hsz hS hra
    go_wp2_with fail
    rw [hR.out]
    exact bodyPost_ret (v := .tuple #[.agg #[.slice ai ni ci, .slice an nn cn, .slice ao no co], .int .i64 en, .int .i64 pl]) (by simp [results, Tryz.results40, go_sem, c0, c1, c2]) rfl ⟨_, _, _, rfl, unhide HP _ _ _, HH.out _ _ _⟩

set_option maxRecDepth 100000 in
set_option maxHeartbeats 2000000 in
theorem ReadLow_any (l : List UInt8) (w : World) (hlm : l.length ≤ maxLen) (hbl : l.length ≤ 6000 → ∀ n ∈ (Pl.lowR (Pl.startR l)).2.nodes, n.bands.length ≤ 1000) :
    Calls Tryz.prog 48 #[.string ⟨l.toArray⟩] w fun e w' => ∃ vi vn vo, e = .returned (.tuple #[.agg #[vi, vn, vo], .int .i64 (Pl.readLow l).1, .int .i64 (Pl.readLow l).2.1]) ∧ ReadAt w' (Pl.readLow l).1 (Pl.readLow l).2.2 vi vn vo ∧ Below w.heap.size w w' := by
  unfold maxLen at hlm
  have hal : Below w.heap.size w (w.alloc (.cells #[.slice none 0 0, .slice none 0 0, .slice none 0 0] 78)) := (Below.refl _ w).alloc (Nat.le_refl _) _
  have hnew := heap_alloc_new w (.cells #[.slice none 0 0, .slice none 0 0, .slice none 0 0] 78)
  by_cases hlong : 6000 < l.length
  · have hR : Hid (Pl.readLow l = (1, 0, Pl.startR l)) := by unfold Pl.readLow Pl.readWith Hid; rw [if_pos hlong]
    have HA := hide hal
    clear hal hnew hbl
    go_enter Tryz.func48, Tryz.ntmps48
    go_wp2_with fail
    rw [hR.out]
    exact bodyPost_ret (v := .tuple #[.agg #[.slice none 0 0, .slice none 0 0, .slice none 0 0], .int .i64 1, .int .i64 0]) (by simp [results, Tryz.results48, go_sem]) rfl ⟨_, _, _, rfl, ReadAt.none _ _ _ (by simp), unhide HA⟩
  · have hl : l.length ≤ 6000 := by omega
    have hN := New_any l (w.alloc (.cells #[.slice none 0 0, .slice none 0 0, .slice none 0 0] 78)) hl
    have hok := Pl.start_ok l hl
    have hbl' := hbl hl
    have hT := fun (B : Nat) (w1 : World) (b : Nat) (h : Rd B w1 b (Pl.startR l)) => lowText_any h hok
    have hTok := lowR_ok (Pl.startR l) hok
    have hR : Hid (Pl.readLow l = ((Pl.resultR (Pl.lowR (Pl.startR l)).1 (Pl.lowR (Pl.startR l)).2).1, (Pl.resultR (Pl.lowR (Pl.startR l)).1 (Pl.lowR (Pl.startR l)).2).2, (Pl.lowR (Pl.startR l)).2)) := by unfold Pl.readLow Pl.readWith Hid; rw [if_neg hlong]
    generalize Pl.lowR (Pl.startR l) = T at *
    obtain ⟨o, r⟩ := T
    have hS := fun (B : Nat) (w2 : World) (b : Nat) (h : Rd B w2 b r) => Result_any h hTok hbl' o
    simp only at hR hS hT
    generalize Pl.resultR o r = q at *
    obtain ⟨en, pl⟩ := q
    clear hbl
    have hsz : (w.alloc (.cells #[.slice none 0 0, .slice none 0 0, .slice none 0 0] 78)).heap.size = w.heap.size + 1 := by simp
    rw [hsz] at hN
    go_enter Tryz.func48, Tryz.ntmps48
    go_wp2_with fail
    refine hN.mono ?_
    rintro e w1 ⟨b, rfl, hr1, hb1⟩
    go_wp2_with fail
    refine (hT _ _ _ hr1).mono ?_
    rintro e w2 ⟨rfl, hr2, hb2⟩
    have hs2 := hr2.bd.2.1
    go_wp2_with fail
    refine (hS _ _ _ hr2).mono ?_
    rintro e w3 ⟨vi, vn, vo, rfl, hra, hb3⟩
    have hbb : Below (w.heap.size + 1) (w.alloc (.cells #[.slice none 0 0, .slice none 0 0, .slice none 0 0] 78)) w3 := (hb1.trans hb2).trans (hb3.mono hs2)
    have hk := (hbb.block w.heap.size (by omega)).trans hnew
    obtain ⟨c0, c1, c2, f0, f1, f2⟩ := plan_facts hk
    have HH : Hid (∀ x y z, Below w.heap.size w (((w3.setCell ⟨w.heap.size, 0, none⟩ x).setCell ⟨w.heap.size, 1, none⟩ y).setCell ⟨w.heap.size, 2, none⟩ z)) := fun x y z =>
      (((hal.trans (hbb.mono (by omega))).setCell (p := ⟨w.heap.size, 0, none⟩) (Nat.le_refl _) x).setCell (p := ⟨w.heap.size, 1, none⟩) (Nat.le_refl _) y).setCell (p := ⟨w.heap.size, 2, none⟩) (Nat.le_refl _) z
    have HP := hide (fun x y z => hra.keep (keep_store hk x y z))
    obtain ⟨ai, ni, ci, rfl⟩ := hra.si
    obtain ⟨an, nn, cn, rfl⟩ := hra.sn
    obtain ⟨ao, no, co, rfl⟩ := hra.so
    clear hbb hk hr1 hb1 hr2 hb2 hb3 hN hT hal hnew hsz hS hra
    go_wp2_with fail
    rw [hR.out]
    exact bodyPost_ret (v := .tuple #[.agg #[.slice ai ni ci, .slice an nn cn, .slice ao no co], .int .i64 en, .int .i64 pl]) (by simp [results, Tryz.results48, go_sem, c0, c1, c2]) rfl ⟨_, _, _, rfl, unhide HP _ _ _, HH.out _ _ _⟩
end Go.Proofs.YtbbdkgfdeghdfaaGreat

/-
  Contracts of statute.told, RunHigh and RunLow: they answer as the plain functions say, in a list of their own.
-/
namespace Go.Proofs.YtbbdkgfdeghdfaaGreat
open Go.RowKit

theorem PlanOwn.at_ {w : World} {r : Pl.RdM} {vi vn vo : Value} (h : PlanOwn w r vi vn vo) : PairsAt w vi r.ins ∧ NodesAt w vn r.nodes ∧ IntsAt w vo r.outs := by
  obtain ⟨B, bvs, h1, h2, h3⟩ := h
  exact ⟨pairs_own h1, nodes_own h2, ints_own h3⟩

set_option maxRecDepth 100000 in
set_option maxHeartbeats 2000000 in
theorem told_any (r : Pl.RdM) (en : Int) (home : List Int) (vi vn vo vh : Value) (w : World) (hra : ReadAt w en r vi vn vo) (hh : IntsAt w vh home) (hsz : en = 0 → r.nodes.length ≤ 1000 ∧ r.ins.length ≤ 1000 ∧ r.outs.length ≤ 1000 ∧ ∀ n ∈ r.nodes, n.bands.length ≤ 1000) :
    Calls Tryz.prog 44 #[.agg #[vi, vn, vo], .int .i64 en, vh] w fun e w' => ∃ v, e = .returned (.tuple #[v, .int .i64 (Pl.toldR en r home).1]) ∧ IntsOwn w.heap.size w' v (Pl.toldR en r home).2 ∧ Below w.heap.size w w' := by
  have hra' := hra
  obtain ⟨ai, ni, ci, rfl⟩ := hra.si
  obtain ⟨an, nn, cn, rfl⟩ := hra.sn
  obtain ⟨ao, no, co, rfl⟩ := hra.so
  obtain ⟨adh, nh, caph, hvh⟩ : ∃ ad n cap, vh = .slice ad n cap := by obtain ⟨x, y, e, _⟩ := hh; exact ⟨_, _, _, e⟩
  subst hvh
  have hal : Below w.heap.size w (w.alloc (.cells #[.slice ai ni ci, .slice an nn cn, .slice ao no co] 78)) := (Below.refl _ w).alloc (Nat.le_refl _) _
  by_cases h0 : en = 0
  · subst h0
    obtain ⟨z1, z2, z3, hbl2⟩ := hsz rfl
    obtain ⟨hpi, hpn, hpo⟩ := (hra.good rfl).at_
    have hnew := heap_alloc_new w (.cells #[.slice ai ni ci, .slice an nn cn, .slice ao no co] 78)
    obtain ⟨c0, c1, c2, _⟩ := plan_facts hnew
    have hplan : PlanAt (w.alloc (.cells #[.slice ai ni ci, .slice an nn cn, .slice ao no co] 78)) w.heap.size r.ins r.nodes r.outs := ⟨⟨_, c0, hpi.below hal⟩, ⟨_, c1, hpn.below hal⟩, ⟨_, c2, hpo.below hal⟩⟩
    have hhome := hh.below hal
    have hIH := hide (IsHome_any r.ins home w.heap.size _ _ _ c0 (hpi.below hal) hhome z2)
    have hRn := hide (fun n => Run_any r.ins r.nodes r.outs home w.heap.size _ _ (hplan.below (below_drewN (Below.refl _ _) n)) (hhome.drewN n) z1 z3 hbl2)
    have HB := hide hal
    clear hra hra' hpi hpn hpo hal hnew c0 c1 c2 hplan hhome hsz hbl2 hh z1 z2 z3
    cases hih : Pl.isHomeB r.ins home with
    | false =>
      have hres : Hid (Pl.toldR 0 r home = (4, [])) := by unfold Pl.toldR Hid; rw [if_neg (by simp), if_neg (by simp [hih])]
      rw [hih] at hIH
      go_enter Tryz.func44, Tryz.ntmps44
      go_wp2_with fail
      refine (unhide hIH).mono ?_
      rintro e w2 ⟨rfl, n, rfl⟩
      have HH := hide (below_drewN (unhide HB) n)
      clear hIH hRn HB
      go_wp2_with fail
      go_ret2
      rw [hres.out]
      exact ⟨_, rfl, World.ownsRow_nil _ _ _ _, unhide HH⟩
    | true =>
      have hres : Hid (Pl.toldR 0 r home = (0, Pl.runW r.nodes r.outs home)) := by unfold Pl.toldR Hid; rw [if_neg (by simp), if_pos hih]
      rw [hih] at hIH
      go_enter Tryz.func44, Tryz.ntmps44
      go_wp2_with fail
      refine (unhide hIH).mono ?_
      rintro e w2 ⟨rfl, n, rfl⟩
      go_wp2_with fail
      refine (unhide hRn n).mono ?_
      rintro e w3 ⟨v, rfl, hv, hb3⟩
      have HH : Hid (IntsOwn w.heap.size w3 v (Pl.runW r.nodes r.outs home) ∧ Below w.heap.size w w3) := by
        have hb := unhide HB
        exact ⟨own_mono hv hb.size, (below_drewN hb n).trans (hb3.mono hb.size)⟩
      obtain ⟨ad, cap, rfl⟩ := slice_shape hv
      clear hIH hRn HB hv hb3
      go_wp2_with fail
      go_ret2
      rw [hres.out]
      exact ⟨_, rfl, HH.out.1, HH.out.2⟩
  · have hres : Hid (Pl.toldR en r home = (en, [])) := by unfold Pl.toldR Hid; rw [if_pos h0]
    have hne : (en != 0) = true := by simpa using h0
    have HH := hide hal
    clear hra hra' hh hsz hal h0
    go_enter Tryz.func44, Tryz.ntmps44
    go_wp2_with fail
    go_ret2
    rw [hres.out]
    exact ⟨_, rfl, World.ownsRow_nil _ _ _ _, unhide HH⟩

theorem readLow_sizes (l : List UInt8) (h : (Pl.readLow l).1 = 0) : (Pl.readLow l).2.2.nodes.length ≤ 1000 ∧ (Pl.readLow l).2.2.ins.length ≤ 1000 ∧ (Pl.readLow l).2.2.outs.length ≤ 1000 ∧ l.length ≤ 6000 ∧ (Pl.readLow l).2.2 = (Pl.lowR (Pl.startR l)).2 := by
  obtain ⟨hl, he⟩ := Pl.readWith_zero _ _ h
  have hok := sizes (lowR_ok _ (Pl.start_ok l hl))
  have he' : (Pl.readLow l).2.2 = (Pl.lowR (Pl.startR l)).2 := he
  rw [he']
  exact ⟨hok.1, hok.2.2.1, hok.2.2.2, hl, rfl⟩

set_option maxRecDepth 100000 in
set_option maxHeartbeats 2000000 in
theorem RunLow_any (l : List UInt8) (home : List Int) (vh : Value) (w : World) (hlm : l.length ≤ maxLen) (hh : IntsAt w vh home) (hbl : l.length ≤ 6000 → ∀ n ∈ (Pl.lowR (Pl.startR l)).2.nodes, n.bands.length ≤ 1000) :
    Calls Tryz.prog 30 #[.string ⟨l.toArray⟩, vh] w fun e w' => ∃ v, e = .returned (.tuple #[v, .int .i64 (Pl.runLow l home).1]) ∧ IntsOwn w.heap.size w' v (Pl.runLow l home).2 ∧ Below w.heap.size w w' := by
  have hRd := ReadLow_any l w hlm hbl
  have hsz : (Pl.readLow l).1 = 0 → (Pl.readLow l).2.2.nodes.length ≤ 1000 ∧ (Pl.readLow l).2.2.ins.length ≤ 1000 ∧ (Pl.readLow l).2.2.outs.length ≤ 1000 ∧ ∀ n ∈ (Pl.readLow l).2.2.nodes, n.bands.length ≤ 1000 := fun h0 => by
    obtain ⟨z1, z2, z3, hl6, hre⟩ := readLow_sizes l h0
    have hbl2 := hbl hl6
    rw [← hre] at hbl2
    exact ⟨z1, z2, z3, hbl2⟩
  unfold Pl.runLow
  generalize Pl.readLow l = q at *
  obtain ⟨en, pl, r⟩ := q
  simp only at hRd hsz ⊢
  have hT := fun w1 (hb : Below w.heap.size w w1) vi vn vo (hra : ReadAt w1 en r vi vn vo) => hide (told_any r en home vi vn vo vh w1 hra (hh.below hb) hsz)
  generalize Pl.toldR en r home = T at *
  obtain ⟨adh, nh, caph, hvh⟩ : ∃ ad n cap, vh = .slice ad n cap := by obtain ⟨x, y, e, _⟩ := hh; exact ⟨_, _, _, e⟩
  subst hvh
  clear hbl hh hsz
  go_enter Tryz.func30, Tryz.ntmps30
  go_wp2_with fail
  refine hRd.mono ?_
  rintro e w1 ⟨vi, vn, vo, rfl, hra, hb1⟩
  have hra0 := hra
  obtain ⟨ai, ni, ci, rfl⟩ := hra.si
  obtain ⟨an, nn, cn, rfl⟩ := hra.sn
  obtain ⟨ao, no, co, rfl⟩ := hra.so
  have hb2 := hb1.alloc hb1.size (.cells #[.slice ai ni ci, .slice an nn cn, .slice ao no co] 78)
  have hT1 := hT _ hb2 _ _ _ (hra0.keep fun e _ => KeepT.alloc e w1 (.cells #[.slice ai ni ci, .slice an nn cn, .slice ao no co] 78))
  have HB := hide hb2
  clear hRd hra hra0 hb1 hT hb2
  go_wp2_with fail
  refine (unhide hT1).mono ?_
  rintro e w2 ⟨v, rfl, hv, hb2⟩
  have HH : Hid (IntsOwn w.heap.size w2 v T.2 ∧ Below w.heap.size w w2) := ⟨own_mono hv (unhide HB).size, (unhide HB).trans (hb2.mono (unhide HB).size)⟩
  obtain ⟨ad, cap, rfl⟩ := slice_shape hv
  clear hT1 HB hv hb2
  go_wp2_with fail
  go_ret2
  exact ⟨_, rfl, HH.out.1, HH.out.2⟩
end Go.Proofs.YtbbdkgfdeghdfaaGreat

/-
  Of what is read: no table has more than six bands; a right text has an out.
-/
namespace Go.Proofs.YtbbdkgfdeghdfaaGreat.Pl

def Bd (r : RdM) : Prop := ∀ n ∈ r.nodes, n.bands.length ≤ 6
def Pres (f : RdM → Option Int × RdM) : Prop := ∀ r, Bd r → Bd (f r).2
theorem Bd.skip {r : RdM} (h : Bd r) : Bd r.skip := by unfold Bd at *; rw [(skip_same r).1]; exact h
theorem Bd.addNode {r : RdM} (h : Bd r) (n : NodeM) (hn : n.bands.length ≤ 6) : Bd (r.addNode n) := by
  intro m hm
  rcases List.mem_append.1 hm with hm | hm
  · exact h m hm
  · rw [List.mem_singleton] at hm; subst hm; exact hn
theorem Bd.addEnt {r : RdM} (h : Bd r) (t : List UInt8) (k n : Int) : Bd (r.addEnt t k n) := h
theorem Bd.addOut {r : RdM} (h : Bd r) (n : Int) : Bd (r.addOut n) := h
theorem Bd.addIn {r : RdM} (h : Bd r) (p : Int × Int) : Bd (r.addIn p) := h
theorem pres_of {f : RdM → Option Int × RdM} (hf : Pres f) {r r1 : RdM} {o : Option Int} (h : Bd r) (e : f r = (o, r1)) : Bd r1 := by have := hf r h; rw [e] at this; exact this

section
variable {f g : RdM → Option Int × RdM}
theorem oneR_bd (hf : Pres f) (mk : Int → NodeM) (hm : ∀ a, (mk a).bands.length ≤ 6) : Pres (oneR f mk) := by
  intro r h
  unfold oneR
  split
  · rename_i e; exact pres_of hf h e
  · rename_i e; exact (pres_of hf h e).addNode _ (hm _)
theorem pairR_bd (hf : Pres f) (op : Int) : Pres (pairR f op) := by
  intro r h
  unfold pairR
  split
  · rename_i e; exact pres_of hf h e
  · rename_i e; exact oneR_bd hf _ (fun _ => by simp) _ (pres_of hf h e)
theorem productR_bd (hf : Pres f) : Pres (productR f) := by
  intro r h
  unfold productR
  split
  · exact h
  · exact oneR_bd hf _ (fun _ => by simp) _ h.skip
theorem choiceR_bd (hg : Pres g) (hf : Pres f) : Pres (choiceR g f) := by
  intro r h
  unfold choiceR
  split
  · rename_i e; exact pres_of hg h e
  · rename_i e
    have h1 := pres_of hg h e
    split
    · rename_i e; exact pres_of hf h1 e
    · rename_i e; exact oneR_bd hf _ (fun _ => by simp) _ (pres_of hf h1 e)
theorem knownStep_bd (k : Int) : Pres (RdM.knownStep k) := by
  intro r h
  unfold RdM.knownStep
  split
  · exact h
  · exact h.skip
theorem leaf_bd : Pres RdM.leaf := by
  intro r h
  unfold RdM.leaf RdM.constant
  split
  · rename_i e
    split at e
    · cases e
    · cases e; exact h.skip.addNode _ (by simp)
  · exact knownStep_bd 0 r h
end
theorem inputR_bd (r : RdM) (h : Bd r) : Bd (inputR r).2 := by
  unfold inputR
  split
  · exact h
  · split
    · exact h.skip
    · split
      · exact h.skip.skip
      · exact ((h.skip.skip.skip.addIn _).addNode _ (by simp)).addEnt _ _ _
theorem inputsR_bd (n : Nat) : ∀ (any : Bool) (r : RdM), Bd r → Bd (inputsR n any r).2 := by
  induction n with
  | zero => intro _ r h; exact h
  | succ n ih =>
    intro any r h
    rw [inputsR]
    split
    · have hk := inputR_bd r.skip h.skip
      split
      · rename_i e; rw [e] at hk; exact hk
      · rename_i e; rw [e] at hk; exact ih _ _ hk
    · exact h
theorem quotLR_bd : Pres quotLR := by
  intro r h
  unfold quotLR
  split
  · rename_i e; exact pres_of leaf_bd h e
  · rename_i e
    have h1 := pres_of leaf_bd h e
    split
    · exact h1
    · exact h1.skip.addNode _ (by simp)
theorem resultLR_bd (op : Int) : Pres (resultLR op) := by
  intro r h
  unfold resultLR
  split
  · exact productR_bd leaf_bd r h
  split
  · exact quotLR_bd r h
  split
  · exact choiceR_bd (knownStep_bd 1) leaf_bd r h
  split
  · exact pairR_bd (knownStep_bd 1) _ r h
  split
  · exact oneR_bd (knownStep_bd 1) _ (fun _ => by simp) r h
  · exact pairR_bd leaf_bd _ r h
theorem stepR_bd (r : RdM) (h : Bd r) : Bd (stepR r).2 := by
  unfold stepR
  split
  · exact h
  · split
    · exact h.skip
    · rename_i op _
      have hk := resultLR_bd op r.skip.skip h.skip.skip
      split
      · rename_i e; rw [e] at hk; exact hk
      · rename_i e; rw [e] at hk; exact hk.addEnt _ _ _
theorem stepsR_bd (n : Nat) : ∀ (r : RdM), Bd r → Bd (stepsR n r).2 := by
  induction n with
  | zero => intro r h; exact h
  | succ n ih =>
    intro r h
    rw [stepsR]
    split
    · have hk := stepR_bd r.skip h.skip
      split
      · rename_i e; rw [e] at hk; exact hk
      · rename_i e; rw [e] at hk; exact ih _ hk
    · exact h
theorem outLR_bd (r : RdM) (h : Bd r) : Bd (outLR r).2 := by
  unfold outLR
  split
  · exact h
  · have hk := leaf_bd r.skip h.skip
    split
    · rename_i e; rw [e] at hk; exact hk
    · rename_i e; rw [e] at hk; exact (hk.addEnt _ _ _).addOut _
theorem outsLR_bd (n : Nat) : ∀ (any : Bool) (r : RdM), Bd r → Bd (outsLR n any r).2 := by
  induction n with
  | zero => intro _ r h; exact h
  | succ n ih =>
    intro any r h
    rw [outsLR]
    split
    · exact h
    · split
      · have hk := outLR_bd r.skip h.skip
        split
        · rename_i e; rw [e] at hk; exact hk
        · rename_i e; rw [e] at hk; exact ih _ _ hk
      · exact h
theorem lowR_bd (r : RdM) (h : Bd r) : Bd (lowR r).2 := by
  unfold lowR
  have h1 := inputsR_bd 4 false r h
  split
  · rename_i e; rw [e] at h1; exact h1
  · rename_i r1 e
    rw [e] at h1
    have h2 := stepsR_bd 80 r1 h1
    split
    · rename_i e; rw [e] at h2; exact h2
    · rename_i e; rw [e] at h2; exact outsLR_bd 4 false _ h2
theorem start_bd (l : List UInt8) : Bd (startR l) := by intro n hn; simp [startR] at hn
theorem text_bands (l : List UInt8) : ∀ n ∈ (textR (startR l)).2.nodes, n.bands.length ≤ 1000 := fun n hn => by have := textR_bd _ (start_bd l) n hn; omega
theorem low_bands (l : List UInt8) : ∀ n ∈ (lowR (startR l)).2.nodes, n.bands.length ≤ 1000 := fun n hn => by have := lowR_bd _ (start_bd l) n hn; omega

end Go.Proofs.YtbbdkgfdeghdfaaGreat.Pl
