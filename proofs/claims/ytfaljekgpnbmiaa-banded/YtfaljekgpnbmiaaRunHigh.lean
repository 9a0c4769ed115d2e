/-
  Contracts of statute.told, RunHigh and RunLow: they answer as the plain functions say, in a list of their own.
-/
import Derived.Test.YtfaljekgpnbmiaaRead2
namespace Go.Proofs.Ytfaljekgpnbmiaa
open Go.RowKit

theorem PlanOwn.at_ {w : World} {r : Pl.RdM} {vi vn vo vx vy : Value} (h : PlanOwn w r vi vn vo vx vy) : PairsAt w vi r.ins ∧ NodesAt w vn r.nodes ∧ IntsAt w vo r.outs := by
  obtain ⟨B, bvs, lx, ly, h1, h2, h3, _⟩ := h
  exact ⟨pairs_own h1, nodes_own h2, ints_own h3⟩

set_option maxRecDepth 100000 in
set_option maxHeartbeats 2000000 in
theorem told_any (r : Pl.RdM) (en : Int) (home : List Int) (vi vn vo vx vy vh : Value) (w : World) (hra : ReadAt w en r vi vn vo vx vy) (hh : IntsAt w vh home) (hsz : en = 0 → r.nodes.length ≤ 1000 ∧ r.ins.length ≤ 1000 ∧ r.outs.length ≤ 1000 ∧ ∀ n ∈ r.nodes, n.bands.length ≤ 1000) :
    Calls Try.prog 24 #[.agg #[vi, vn, vo, vx, vy], .int .i64 en, vh] w fun e w' => ∃ v, e = .returned (.tuple #[v, .int .i64 (Pl.toldR en r home).1]) ∧ IntsOwn w.heap.size w' v (Pl.toldR en r home).2 ∧ Below w.heap.size w w' := by
  have hra' := hra
  obtain ⟨ai, ni, ci, rfl⟩ := hra.si
  obtain ⟨an, nn, cn, rfl⟩ := hra.sn
  obtain ⟨ao, no, co, rfl⟩ := hra.so
  obtain ⟨ax, nx, cx, rfl⟩ := hra.sx
  obtain ⟨ay, ny, cy, rfl⟩ := hra.sy
  obtain ⟨adh, nh, caph, hvh⟩ : ∃ ad n cap, vh = .slice ad n cap := by obtain ⟨x, y, e, _⟩ := hh; exact ⟨_, _, _, e⟩
  subst hvh
  have hal : Below w.heap.size w (w.alloc (.cells #[.slice ai ni ci, .slice an nn cn, .slice ao no co, .slice ax nx cx, .slice ay ny cy] 50)) := (Below.refl _ w).alloc (Nat.le_refl _) _
  by_cases h0 : en = 0
  · subst h0
    obtain ⟨z1, z2, z3, hbl2⟩ := hsz rfl
    obtain ⟨hpi, hpn, hpo⟩ := (hra.good rfl).at_
    have hnew := heap_alloc_new w (.cells #[.slice ai ni ci, .slice an nn cn, .slice ao no co, .slice ax nx cx, .slice ay ny cy] 50)
    obtain ⟨c0, c1, c2, _⟩ := plan_facts hnew
    have hplan : PlanAt (w.alloc (.cells #[.slice ai ni ci, .slice an nn cn, .slice ao no co, .slice ax nx cx, .slice ay ny cy] 50)) w.heap.size r.ins r.nodes r.outs := ⟨⟨_, c0, hpi.below hal⟩, ⟨_, c1, hpn.below hal⟩, ⟨_, c2, hpo.below hal⟩⟩
    have hhome := hh.below hal
    have hIH := hide (IsHome_any r.ins home w.heap.size _ _ _ c0 (hpi.below hal) hhome z2)
    have hRn := hide (fun n => Run_any r.ins r.nodes r.outs home w.heap.size _ _ (hplan.below (below_drewN (Below.refl _ _) n)) (hhome.drewN n) z1 z3 hbl2)
    have HB := hide hal
    clear hra hra' hpi hpn hpo hal hnew c0 c1 c2 hplan hhome hsz hbl2 hh z1 z2 z3
    cases hih : Pl.isHomeB r.ins home with
    | false =>
      have hres : Hid (Pl.toldR 0 r home = (4, [])) := by unfold Pl.toldR Hid; rw [if_neg (by simp), if_neg (by simp [hih])]
      rw [hih] at hIH
      go_enter Try.func24, Try.ntmps24
      go_wp2_with fail
      refine (unhide hIH).mono ?_
      rintro e w2 ⟨rfl, n, rfl⟩
      have HH := hide (below_drewN (unhide HB) n)
      clear hIH hRn HB
      go_wp2_with fail
      go_ret2
      rw [hres.out]
      exact ⟨_, rfl, World.ownsRow_nil _ _ _ _, unhide HH⟩
    | true =>
      have hres : Hid (Pl.toldR 0 r home = (0, Pl.runW r.nodes r.outs home)) := by unfold Pl.toldR Hid; rw [if_neg (by simp), if_pos hih]
      rw [hih] at hIH
      go_enter Try.func24, Try.ntmps24
      go_wp2_with fail
      refine (unhide hIH).mono ?_
      rintro e w2 ⟨rfl, n, rfl⟩
      go_wp2_with fail
      refine (unhide hRn n).mono ?_
      rintro e w3 ⟨v, rfl, hv, hb3⟩
      have HH : Hid (IntsOwn w.heap.size w3 v (Pl.runW r.nodes r.outs home) ∧ Below w.heap.size w w3) := by
        have hb := unhide HB
        exact ⟨own_mono hv hb.size, (below_drewN hb n).trans (hb3.mono hb.size)⟩
      obtain ⟨ad, cap, rfl⟩ := slice_shape hv
      clear hIH hRn HB hv hb3
      go_wp2_with fail
      go_ret2
      rw [hres.out]
      exact ⟨_, rfl, HH.out.1, HH.out.2⟩
  · have hres : Hid (Pl.toldR en r home = (en, [])) := by unfold Pl.toldR Hid; rw [if_pos h0]
    have hne : (en != 0) = true := by simpa using h0
    have HH := hide hal
    clear hra hra' hh hsz hal h0
    go_enter Try.func24, Try.ntmps24
    go_wp2_with fail
    go_ret2
    rw [hres.out]
    exact ⟨_, rfl, World.ownsRow_nil _ _ _ _, unhide HH⟩

theorem readHigh_sizes (l : List UInt8) (h : (Pl.readHigh l).1 = 0) : (Pl.readHigh l).2.2.nodes.length ≤ 1000 ∧ (Pl.readHigh l).2.2.ins.length ≤ 1000 ∧ (Pl.readHigh l).2.2.outs.length ≤ 1000 ∧ l.length ≤ 6000 ∧ (Pl.readHigh l).2.2 = (Pl.textR (Pl.startR l)).2 := by
  obtain ⟨hl, he⟩ := Pl.readWith_zero _ _ h
  have hok := sizes (textR_ok _ (Pl.start_ok l hl))
  have he' : (Pl.readHigh l).2.2 = (Pl.textR (Pl.startR l)).2 := he
  rw [he']
  exact ⟨hok.1, hok.2.2.1, hok.2.2.2, hl, rfl⟩

set_option maxRecDepth 100000 in
set_option maxHeartbeats 2000000 in
theorem RunHigh_any (l : List UInt8) (home : List Int) (vh : Value) (w : World) (hlm : l.length ≤ maxLen) (hh : IntsAt w vh home) (hbl : l.length ≤ 6000 → ∀ n ∈ (Pl.textR (Pl.startR l)).2.nodes, n.bands.length ≤ 1000) :
    Calls Try.prog 10 #[.string ⟨l.toArray⟩, vh] w fun e w' => ∃ v, e = .returned (.tuple #[v, .int .i64 (Pl.runHigh l home).1]) ∧ IntsOwn w.heap.size w' v (Pl.runHigh l home).2 ∧ Below w.heap.size w w' := by
  have hRd := ReadHigh_any l w hlm hbl
  have hsz : (Pl.readHigh l).1 = 0 → (Pl.readHigh l).2.2.nodes.length ≤ 1000 ∧ (Pl.readHigh l).2.2.ins.length ≤ 1000 ∧ (Pl.readHigh l).2.2.outs.length ≤ 1000 ∧ ∀ n ∈ (Pl.readHigh l).2.2.nodes, n.bands.length ≤ 1000 := fun h0 => by
    obtain ⟨z1, z2, z3, hl6, hre⟩ := readHigh_sizes l h0
    have hbl2 := hbl hl6
    rw [← hre] at hbl2
    exact ⟨z1, z2, z3, hbl2⟩
  unfold Pl.runHigh
  generalize Pl.readHigh l = q at *
  obtain ⟨en, pl, r⟩ := q
  simp only at hRd hsz ⊢
  have hT := fun w1 (hb : Below w.heap.size w w1) vi vn vo vx vy (hra : ReadAt w1 en r vi vn vo vx vy) => hide (told_any r en home vi vn vo vx vy vh w1 hra (hh.below hb) hsz)
  generalize Pl.toldR en r home = T at *
  obtain ⟨adh, nh, caph, hvh⟩ : ∃ ad n cap, vh = .slice ad n cap := by obtain ⟨x, y, e, _⟩ := hh; exact ⟨_, _, _, e⟩
  subst hvh
  clear hbl hh hsz
  go_enter Try.func10, Try.ntmps10
  go_wp2_with fail
  refine hRd.mono ?_
  rintro e w1 ⟨vi, vn, vo, vx, vy, rfl, hra, hb1⟩
  have hra0 := hra
  obtain ⟨ai, ni, ci, rfl⟩ := hra.si
  obtain ⟨an, nn, cn, rfl⟩ := hra.sn
  obtain ⟨ao, no, co, rfl⟩ := hra.so
  obtain ⟨ax, nx, cx, rfl⟩ := hra.sx
  obtain ⟨ay, ny, cy, rfl⟩ := hra.sy
  have hb2 := hb1.alloc hb1.size (.cells #[.slice ai ni ci, .slice an nn cn, .slice ao no co, .slice ax nx cx, .slice ay ny cy] 50)
  have hT1 := hT _ hb2 _ _ _ _ _ (hra0.keep fun e _ => KeepT.alloc e w1 (.cells #[.slice ai ni ci, .slice an nn cn, .slice ao no co, .slice ax nx cx, .slice ay ny cy] 50))
  have HB := hide hb2
  clear hRd hra hra0 hb1 hT hb2
  go_wp2_with fail
  refine (unhide hT1).mono ?_
  rintro e w2 ⟨v, rfl, hv, hb2⟩
  have HH : Hid (IntsOwn w.heap.size w2 v T.2 ∧ Below w.heap.size w w2) := ⟨own_mono hv (unhide HB).size, (unhide HB).trans (hb2.mono (unhide HB).size)⟩
  obtain ⟨ad, cap, rfl⟩ := slice_shape hv
  clear hT1 HB hv hb2
  go_wp2_with fail
  go_ret2
  exact ⟨_, rfl, HH.out.1, HH.out.2⟩

theorem readLow_sizes (l : List UInt8) (h : (Pl.readLow l).1 = 0) : (Pl.readLow l).2.2.nodes.length ≤ 1000 ∧ (Pl.readLow l).2.2.ins.length ≤ 1000 ∧ (Pl.readLow l).2.2.outs.length ≤ 1000 ∧ l.length ≤ 6000 ∧ (Pl.readLow l).2.2 = (Pl.lowR (Pl.startR l)).2 := by
  obtain ⟨hl, he⟩ := Pl.readWith_zero _ _ h
  have hok := sizes (lowR_ok _ (Pl.start_ok l hl))
  have he' : (Pl.readLow l).2.2 = (Pl.lowR (Pl.startR l)).2 := he
  rw [he']
  exact ⟨hok.1, hok.2.2.1, hok.2.2.2, hl, rfl⟩

set_option maxRecDepth 100000 in
set_option maxHeartbeats 2000000 in
theorem RunLow_any (l : List UInt8) (home : List Int) (vh : Value) (w : World) (hlm : l.length ≤ maxLen) (hh : IntsAt w vh home) (hbl : l.length ≤ 6000 → ∀ n ∈ (Pl.lowR (Pl.startR l)).2.nodes, n.bands.length ≤ 1000) :
    Calls Try.prog 11 #[.string ⟨l.toArray⟩, vh] w fun e w' => ∃ v, e = .returned (.tuple #[v, .int .i64 (Pl.runLow l home).1]) ∧ IntsOwn w.heap.size w' v (Pl.runLow l home).2 ∧ Below w.heap.size w w' := by
  have hRd := ReadLow_any l w hlm hbl
  have hsz : (Pl.readLow l).1 = 0 → (Pl.readLow l).2.2.nodes.length ≤ 1000 ∧ (Pl.readLow l).2.2.ins.length ≤ 1000 ∧ (Pl.readLow l).2.2.outs.length ≤ 1000 ∧ ∀ n ∈ (Pl.readLow l).2.2.nodes, n.bands.length ≤ 1000 := fun h0 => by
    obtain ⟨z1, z2, z3, hl6, hre⟩ := readLow_sizes l h0
    have hbl2 := hbl hl6
    rw [← hre] at hbl2
    exact ⟨z1, z2, z3, hbl2⟩
  unfold Pl.runLow
  generalize Pl.readLow l = q at *
  obtain ⟨en, pl, r⟩ := q
  simp only at hRd hsz ⊢
  have hT := fun w1 (hb : Below w.heap.size w w1) vi vn vo vx vy (hra : ReadAt w1 en r vi vn vo vx vy) => hide (told_any r en home vi vn vo vx vy vh w1 hra (hh.below hb) hsz)
  generalize Pl.toldR en r home = T at *
  obtain ⟨adh, nh, caph, hvh⟩ : ∃ ad n cap, vh = .slice ad n cap := by obtain ⟨x, y, e, _⟩ := hh; exact ⟨_, _, _, e⟩
  subst hvh
  clear hbl hh hsz
  go_enter Try.func11, Try.ntmps11
  go_wp2_with fail
  refine hRd.mono ?_
  rintro e w1 ⟨vi, vn, vo, vx, vy, rfl, hra, hb1⟩
  have hra0 := hra
  obtain ⟨ai, ni, ci, rfl⟩ := hra.si
  obtain ⟨an, nn, cn, rfl⟩ := hra.sn
  obtain ⟨ao, no, co, rfl⟩ := hra.so
  obtain ⟨ax, nx, cx, rfl⟩ := hra.sx
  obtain ⟨ay, ny, cy, rfl⟩ := hra.sy
  have hb2 := hb1.alloc hb1.size (.cells #[.slice ai ni ci, .slice an nn cn, .slice ao no co, .slice ax nx cx, .slice ay ny cy] 50)
  have hT1 := hT _ hb2 _ _ _ _ _ (hra0.keep fun e _ => KeepT.alloc e w1 (.cells #[.slice ai ni ci, .slice an nn cn, .slice ao no co, .slice ax nx cx, .slice ay ny cy] 50))
  have HB := hide hb2
  clear hRd hra hra0 hb1 hT hb2
  go_wp2_with fail
  refine (unhide hT1).mono ?_
  rintro e w2 ⟨v, rfl, hv, hb2⟩
  have HH : Hid (IntsOwn w.heap.size w2 v T.2 ∧ Below w.heap.size w w2) := ⟨own_mono hv (unhide HB).size, (unhide HB).trans (hb2.mono (unhide HB).size)⟩
  obtain ⟨ad, cap, rfl⟩ := slice_shape hv
  clear hT1 HB hv hb2
  go_wp2_with fail
  go_ret2
  exact ⟨_, rfl, HH.out.1, HH.out.2⟩
end Go.Proofs.Ytfaljekgpnbmiaa
