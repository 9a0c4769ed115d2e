/-
  The contract of statute.RunHigh: it answers as the plain function says, in a list of its own.
-/
import Derived.Test.YtbfibgmeiikngaaRead
namespace Go.Proofs.Ytbfibgmeiikngaa
open Go.RowKit

/-- The error and the values. -/
def Pl.runHigh (l : List UInt8) (home : List Int) : Int × List Int :=
  if (Pl.readHigh l).1 ≠ 0 then ((Pl.readHigh l).1, [])
  else if Pl.isHomeB (Pl.readHigh l).2.2.ins home = true then (0, Pl.runW (Pl.readHigh l).2.2.nodes (Pl.readHigh l).2.2.outs home)
  else (4, [])
theorem readHigh_sizes (l : List UInt8) (h : (Pl.readHigh l).1 = 0) : (Pl.readHigh l).2.2.nodes.length ≤ 1000 ∧ (Pl.readHigh l).2.2.ins.length ≤ 1000 ∧ (Pl.readHigh l).2.2.outs.length ≤ 1000 ∧ l.length ≤ 6000 ∧ (Pl.readHigh l).2.2 = (Pl.textR (Pl.startR l)).2 := by
  unfold Pl.readHigh at *
  split at h
  · simp at h
  · rename_i hl
    have hok := sizes (textR_ok _ (Pl.start_ok l (by omega)))
    rw [if_neg hl]
    split at h
    · split at h
      · simp at h
      · rename_i h1 h2; rw [if_pos h1, if_neg h2]; exact ⟨hok.1, hok.2.2.1, hok.2.2.2, by omega, rfl⟩
    · simp at h

set_option maxRecDepth 100000 in
set_option maxHeartbeats 2000000 in
theorem RunHigh_any (l : List UInt8) (home : List Int) (vh : Value) (w : World) (hlm : l.length ≤ maxLen) (hh : IntsAt w vh home) (hbl : l.length ≤ 6000 → ∀ n ∈ (Pl.textR (Pl.startR l)).2.nodes, n.bands.length ≤ 1000) :
    Calls Try.prog 7 #[.string ⟨l.toArray⟩, vh] w fun e w' => ∃ v, e = .returned (.tuple #[v, .int .i64 (Pl.runHigh l home).1]) ∧ IntsOwn w.heap.size w' v (Pl.runHigh l home).2 ∧ Below w.heap.size w w' := by
  have hRd := Read_any l w hlm hbl
  by_cases h0 : (Pl.readHigh l).1 = 0
  · obtain ⟨z1, z2, z3, hl6, hre⟩ := readHigh_sizes l h0
    have hbl2 := hbl hl6
    rw [← hre] at hbl2
    have hrun : Pl.runHigh l home = if Pl.isHomeB (Pl.readHigh l).2.2.ins home = true then (0, Pl.runW (Pl.readHigh l).2.2.nodes (Pl.readHigh l).2.2.outs home) else (4, []) := by unfold Pl.runHigh; rw [if_neg (by simp [h0])]
    rw [h0] at hRd
    generalize (Pl.readHigh l).2.2 = r at *
    generalize (Pl.readHigh l).2.1 = pl at *
    have HR := hide hrun
    have HS : Hid (IntsAt w vh home ∧ r.nodes.length ≤ 1000 ∧ r.ins.length ≤ 1000 ∧ r.outs.length ≤ 1000 ∧ ∀ n ∈ r.nodes, n.bands.length ≤ 1000) := ⟨hh, z1, z2, z3, hbl2⟩
    obtain ⟨adh, nh, caph, hvh⟩ : ∃ ad n cap, vh = .slice ad n cap := by obtain ⟨x, y, e, _⟩ := hh; exact ⟨_, _, _, e⟩
    subst hvh
    clear h0 hbl hre hh z1 z2 z3 hbl2 hrun
    go_enter Try.func7, Try.ntmps7
    go_wp2_with fail
    refine hRd.mono ?_
    rintro e w1 ⟨vi, vn, vo, rfl, hra, hb1⟩
    obtain ⟨hpi, hpn, hpo⟩ := hra.good rfl
    obtain ⟨ai, ni, ci, rfl⟩ := hra.si
    obtain ⟨an, nn, cn, rfl⟩ := hra.sn
    obtain ⟨ao, no, co, rfl⟩ := hra.so
    have hal : Below w1.heap.size w1 (w1.alloc (.cells #[.slice ai ni ci, .slice an nn cn, .slice ao no co] 33)) := (Below.refl _ w1).alloc (Nat.le_refl _) _
    have hnew := heap_alloc_new w1 (.cells #[.slice ai ni ci, .slice an nn cn, .slice ao no co] 33)
    obtain ⟨c0, c1, c2, _⟩ := plan_facts hnew
    have hplan : PlanAt (w1.alloc (.cells #[.slice ai ni ci, .slice an nn cn, .slice ao no co] 33)) w1.heap.size r.ins r.nodes r.outs := ⟨⟨_, c0, hpi.below hal⟩, ⟨_, c1, hpn.below hal⟩, ⟨_, c2, hpo.below hal⟩⟩
    have hb2 : Below w.heap.size w (w1.alloc (.cells #[.slice ai ni ci, .slice an nn cn, .slice ao no co] 33)) := hb1.trans (hal.mono hb1.size)
    have hhome := HS.out.1.below hb2
    have hIH := hide (IsHome_any r.ins home w1.heap.size _ _ _ c0 (hpi.below hal) hhome HS.out.2.2.1)
    have hRn := hide (fun n => Run_any r.ins r.nodes r.outs home w1.heap.size _ _ (hplan.below (below_drewN (Below.refl _ _) n)) (hhome.drewN n) HS.out.2.1 HS.out.2.2.2.1 HS.out.2.2.2.2)
    have HB := hide hb2
    clear hRd hra hpi hpn hpo hal hnew c0 c1 c2 hplan hb2 hhome hb1
    cases hih : Pl.isHomeB r.ins home with
    | false =>
      have hres : Hid (Pl.runHigh l home = (4, [])) := by have := unhide HR; rw [hih] at this; simpa [Hid] using this
      rw [hih] at hIH
      go_wp2_with fail
      refine (unhide hIH).mono ?_
      rintro e w2 ⟨rfl, n, rfl⟩
      have HH := hide (below_drewN (unhide HB) n)
      clear hIH hRn HB HR
      go_wp2_with fail
      go_ret2
      rw [hres.out]
      exact ⟨_, rfl, World.ownsRow_nil _ _ _ _, unhide HH⟩
    | true =>
      have hres : Hid (Pl.runHigh l home = (0, Pl.runW r.nodes r.outs home)) := by have := unhide HR; rw [hih] at this; simpa [Hid] using this
      rw [hih] at hIH
      go_wp2_with fail
      refine (unhide hIH).mono ?_
      rintro e w2 ⟨rfl, n, rfl⟩
      go_wp2_with fail
      refine (unhide hRn n).mono ?_
      rintro e w3 ⟨v, rfl, hv, hb3⟩
      have HH : Hid (IntsOwn w.heap.size w3 v (Pl.runW r.nodes r.outs home) ∧ Below w.heap.size w w3) := by
        have hb := unhide HB
        exact ⟨own_mono hv hb.size, (below_drewN hb n).trans (hb3.mono hb.size)⟩
      obtain ⟨ad, cap, rfl⟩ := slice_shape hv
      clear hIH hRn HB HR hv hb3
      go_wp2_with fail
      go_ret2
      rw [hres.out]
      exact ⟨_, rfl, HH.out.1, HH.out.2⟩
  · have hres : Hid (Pl.runHigh l home = ((Pl.readHigh l).1, [])) := by unfold Pl.runHigh Hid; rw [if_pos h0]
    have hne : ((Pl.readHigh l).1 != 0) = true := by simpa using h0
    generalize (Pl.readHigh l).1 = en at *
    generalize (Pl.readHigh l).2.1 = pl at *
    generalize (Pl.readHigh l).2.2 = r at *
    clear hbl hh h0
    go_enter Try.func7, Try.ntmps7
    go_wp2_with fail
    refine hRd.mono ?_
    rintro e w1 ⟨vi, vn, vo, rfl, hra, hb1⟩
    obtain ⟨ai, ni, ci, rfl⟩ := hra.si
    obtain ⟨an, nn, cn, rfl⟩ := hra.sn
    obtain ⟨ao, no, co, rfl⟩ := hra.so
    have HH := hide (hb1.alloc hb1.size (.cells #[.slice ai ni ci, .slice an nn cn, .slice ao no co] 33))
    clear hRd hra hb1
    go_wp2_with fail
    go_ret2
    rw [hres.out]
    exact ⟨_, rfl, World.ownsRow_nil _ _ _ _, unhide HH⟩
end Go.Proofs.Ytbfibgmeiikngaa
