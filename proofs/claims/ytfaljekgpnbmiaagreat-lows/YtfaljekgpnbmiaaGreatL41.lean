/- Joined: RunHigh PlainSize Print2 Eq13. -/
import Derived.Test.YtfaljekgpnbmiaaGreatL40
/-
  Contracts of statute.told, RunHigh and RunLow: they answer as the plain functions say, in a list of their own.
-/
namespace Go.Proofs.YtfaljekgpnbmiaaGreat
open Go.RowKit

theorem PlanOwn.at_ {w : World} {r : Pl.RdM} {vi vn vo vx vy : Value} (h : PlanOwn w r vi vn vo vx vy) : PairsAt w vi r.ins ∧ NodesAt w vn r.nodes ∧ IntsAt w vo r.outs := by
  obtain ⟨B, bvs, lx, ly, h1, h2, h3, _⟩ := h
  exact ⟨pairs_own h1, nodes_own h2, ints_own h3⟩

set_option maxRecDepth 100000 in
set_option maxHeartbeats 2000000 in
theorem told_any (r : Pl.RdM) (en : Int) (home : List Int) (vi vn vo vx vy vh : Value) (w : World) (hra : ReadAt w en r vi vn vo vx vy) (hh : IntsAt w vh home) (hsz : en = 0 → r.nodes.length ≤ 1000 ∧ r.ins.length ≤ 1000 ∧ r.outs.length ≤ 1000 ∧ ∀ n ∈ r.nodes, n.bands.length ≤ 1000) :
    Calls Tryz.prog 65 #[.agg #[vi, vn, vo, vx, vy], .int .i64 en, vh] w fun e w' => ∃ v, e = .returned (.tuple #[v, .int .i64 (Pl.toldR en r home).1]) ∧ IntsOwn w.heap.size w' v (Pl.toldR en r home).2 ∧ Below w.heap.size w w' := by
  have hra' := hra
  obtain ⟨ai, ni, ci, rfl⟩ := hra.si
  obtain ⟨an, nn, cn, rfl⟩ := hra.sn
  obtain ⟨ao, no, co, rfl⟩ := hra.so
  obtain ⟨ax, nx, cx, rfl⟩ := hra.sx
  obtain ⟨ay, ny, cy, rfl⟩ := hra.sy
  obtain ⟨adh, nh, caph, hvh⟩ : ∃ ad n cap, vh = .slice ad n cap := by obtain ⟨x, y, e, _⟩ := hh; exact ⟨_, _, _, e⟩
  subst hvh
  have hal : Below w.heap.size w (w.alloc (.cells #[.slice ai ni ci, .slice an nn cn, .slice ao no co, .slice ax nx cx, .slice ay ny cy] 104)) := (Below.refl _ w).alloc (Nat.le_refl _) _
  by_cases h0 : en = 0
  · subst h0
    obtain ⟨z1, z2, z3, hbl2⟩ := hsz rfl
    obtain ⟨hpi, hpn, hpo⟩ := (hra.good rfl).at_
    have hnew := heap_alloc_new w (.cells #[.slice ai ni ci, .slice an nn cn, .slice ao no co, .slice ax nx cx, .slice ay ny cy] 104)
    obtain ⟨c0, c1, c2, _⟩ := plan_facts hnew
    have hplan : PlanAt (w.alloc (.cells #[.slice ai ni ci, .slice an nn cn, .slice ao no co, .slice ax nx cx, .slice ay ny cy] 104)) w.heap.size r.ins r.nodes r.outs := ⟨⟨_, c0, hpi.below hal⟩, ⟨_, c1, hpn.below hal⟩, ⟨_, c2, hpo.below hal⟩⟩
    have hhome := hh.below hal
    have hIH := hide (IsHome_any r.ins home w.heap.size _ _ _ c0 (hpi.below hal) hhome z2)
    have hRn := hide (fun n => Run_any r.ins r.nodes r.outs home w.heap.size _ _ (hplan.below (below_drewN (Below.refl _ _) n)) (hhome.drewN n) z1 z3 hbl2)
    have HB := hide hal
    clear hra hra' hpi hpn hpo hal hnew c0 c1 c2 hplan hhome hsz hbl2 hh z1 z2 z3
    cases hih : Pl.isHomeB r.ins home with
    | false =>
      have hres : Hid (Pl.toldR 0 r home = (4, [])) := by unfold Pl.toldR Hid; rw [if_neg (by simp), if_neg (by simp [hih])]
      rw [hih] at hIH
      go_enter Tryz.func65, Tryz.ntmps65
      go_wp2_with fail
      refine (unhide hIH).mono ?_
      rintro e w2 ⟨rfl, n, rfl⟩
      have HH := hide (below_drewN (unhide HB) n)
      clear hIH hRn HB
      go_wp2_with fail
      go_ret2
      rw [hres.out]
      exact ⟨_, rfl, World.ownsRow_nil _ _ _ _, unhide HH⟩
    | true =>
      have hres : Hid (Pl.toldR 0 r home = (0, Pl.runW r.nodes r.outs home)) := by unfold Pl.toldR Hid; rw [if_neg (by simp), if_pos hih]
      rw [hih] at hIH
      go_enter Tryz.func65, Tryz.ntmps65
      go_wp2_with fail
      refine (unhide hIH).mono ?_
      rintro e w2 ⟨rfl, n, rfl⟩
      go_wp2_with fail
      refine (unhide hRn n).mono ?_
      rintro e w3 ⟨v, rfl, hv, hb3⟩
      have HH : Hid (IntsOwn w.heap.size w3 v (Pl.runW r.nodes r.outs home) ∧ Below w.heap.size w w3) := by
        have hb := unhide HB
        exact ⟨own_mono hv hb.size, (below_drewN hb n).trans (hb3.mono hb.size)⟩
      obtain ⟨ad, cap, rfl⟩ := slice_shape hv
      clear hIH hRn HB hv hb3
      go_wp2_with fail
      go_ret2
      rw [hres.out]
      exact ⟨_, rfl, HH.out.1, HH.out.2⟩
  · have hres : Hid (Pl.toldR en r home = (en, [])) := by unfold Pl.toldR Hid; rw [if_pos h0]
    have hne : (en != 0) = true := by simpa using h0
    have HH := hide hal
    clear hra hra' hh hsz hal h0
    go_enter Tryz.func65, Tryz.ntmps65
    go_wp2_with fail
    go_ret2
    rw [hres.out]
    exact ⟨_, rfl, World.ownsRow_nil _ _ _ _, unhide HH⟩

theorem readLow_sizes (l : List UInt8) (h : (Pl.readLow l).1 = 0) : (Pl.readLow l).2.2.nodes.length ≤ 1000 ∧ (Pl.readLow l).2.2.ins.length ≤ 1000 ∧ (Pl.readLow l).2.2.outs.length ≤ 1000 ∧ l.length ≤ 6000 ∧ (Pl.readLow l).2.2 = (Pl.lowR (Pl.startR l)).2 := by
  obtain ⟨hl, he⟩ := Pl.readWith_zero _ _ h
  have hok := sizes (lowR_ok _ (Pl.start_ok l hl))
  have he' : (Pl.readLow l).2.2 = (Pl.lowR (Pl.startR l)).2 := he
  rw [he']
  exact ⟨hok.1, hok.2.2.1, hok.2.2.2, hl, rfl⟩

set_option maxRecDepth 100000 in
set_option maxHeartbeats 2000000 in
theorem RunLow_any (l : List UInt8) (home : List Int) (vh : Value) (w : World) (hlm : l.length ≤ maxLen) (hh : IntsAt w vh home) (hbl : l.length ≤ 6000 → ∀ n ∈ (Pl.lowR (Pl.startR l)).2.nodes, n.bands.length ≤ 1000) :
    Calls Tryz.prog 26 #[.string ⟨l.toArray⟩, vh] w fun e w' => ∃ v, e = .returned (.tuple #[v, .int .i64 (Pl.runLow l home).1]) ∧ IntsOwn w.heap.size w' v (Pl.runLow l home).2 ∧ Below w.heap.size w w' := by
  have hRd := ReadLow_any l w hlm hbl
  have hsz : (Pl.readLow l).1 = 0 → (Pl.readLow l).2.2.nodes.length ≤ 1000 ∧ (Pl.readLow l).2.2.ins.length ≤ 1000 ∧ (Pl.readLow l).2.2.outs.length ≤ 1000 ∧ ∀ n ∈ (Pl.readLow l).2.2.nodes, n.bands.length ≤ 1000 := fun h0 => by
    obtain ⟨z1, z2, z3, hl6, hre⟩ := readLow_sizes l h0
    have hbl2 := hbl hl6
    rw [← hre] at hbl2
    exact ⟨z1, z2, z3, hbl2⟩
  unfold Pl.runLow
  generalize Pl.readLow l = q at *
  obtain ⟨en, pl, r⟩ := q
  simp only at hRd hsz ⊢
  have hT := fun w1 (hb : Below w.heap.size w w1) vi vn vo vx vy (hra : ReadAt w1 en r vi vn vo vx vy) => hide (told_any r en home vi vn vo vx vy vh w1 hra (hh.below hb) hsz)
  generalize Pl.toldR en r home = T at *
  obtain ⟨adh, nh, caph, hvh⟩ : ∃ ad n cap, vh = .slice ad n cap := by obtain ⟨x, y, e, _⟩ := hh; exact ⟨_, _, _, e⟩
  subst hvh
  clear hbl hh hsz
  go_enter Tryz.func26, Tryz.ntmps26
  go_wp2_with fail
  refine hRd.mono ?_
  rintro e w1 ⟨vi, vn, vo, vx, vy, rfl, hra, hb1⟩
  have hra0 := hra
  obtain ⟨ai, ni, ci, rfl⟩ := hra.si
  obtain ⟨an, nn, cn, rfl⟩ := hra.sn
  obtain ⟨ao, no, co, rfl⟩ := hra.so
  obtain ⟨ax, nx, cx, rfl⟩ := hra.sx
  obtain ⟨ay, ny, cy, rfl⟩ := hra.sy
  have hb2 := hb1.alloc hb1.size (.cells #[.slice ai ni ci, .slice an nn cn, .slice ao no co, .slice ax nx cx, .slice ay ny cy] 104)
  have hT1 := hT _ hb2 _ _ _ _ _ (hra0.keep fun e _ => KeepT.alloc e w1 (.cells #[.slice ai ni ci, .slice an nn cn, .slice ao no co, .slice ax nx cx, .slice ay ny cy] 104))
  have HB := hide hb2
  clear hRd hra hra0 hb1 hT hb2
  go_wp2_with fail
  refine (unhide hT1).mono ?_
  rintro e w2 ⟨v, rfl, hv, hb2⟩
  have HH : Hid (IntsOwn w.heap.size w2 v T.2 ∧ Below w.heap.size w w2) := ⟨own_mono hv (unhide HB).size, (unhide HB).trans (hb2.mono (unhide HB).size)⟩
  obtain ⟨ad, cap, rfl⟩ := slice_shape hv
  clear hT1 HB hv hb2
  go_wp2_with fail
  go_ret2
  exact ⟨_, rfl, HH.out.1, HH.out.2⟩
end Go.Proofs.YtfaljekgpnbmiaaGreat

/-
  Of what is read: no table has more than six bands; a right text has an out.
-/
namespace Go.Proofs.YtfaljekgpnbmiaaGreat.Pl

def Bd (r : RdM) : Prop := ∀ n ∈ r.nodes, n.bands.length ≤ 6
def Pres (f : RdM → Option Int × RdM) : Prop := ∀ r, Bd r → Bd (f r).2
theorem Bd.skip {r : RdM} (h : Bd r) : Bd r.skip := by unfold Bd at *; rw [(skip_same r).1]; exact h
theorem Bd.addNode {r : RdM} (h : Bd r) (n : NodeM) (hn : n.bands.length ≤ 6) : Bd (r.addNode n) := by
  intro m hm
  rcases List.mem_append.1 hm with hm | hm
  · exact h m hm
  · rw [List.mem_singleton] at hm; subst hm; exact hn
theorem Bd.addEnt {r : RdM} (h : Bd r) (t : List UInt8) (k n : Int) : Bd (r.addEnt t k n) := h
theorem Bd.addOut {r : RdM} (h : Bd r) (n : Int) : Bd (r.addOut n) := h
theorem Bd.addIn {r : RdM} (h : Bd r) (p : Int × Int) : Bd (r.addIn p) := h
theorem pres_of {f : RdM → Option Int × RdM} (hf : Pres f) {r r1 : RdM} {o : Option Int} (h : Bd r) (e : f r = (o, r1)) : Bd r1 := by have := hf r h; rw [e] at this; exact this

section
variable {f g : RdM → Option Int × RdM}
theorem oneR_bd (hf : Pres f) (mk : Int → NodeM) (hm : ∀ a, (mk a).bands.length ≤ 6) : Pres (oneR f mk) := by
  intro r h
  unfold oneR
  split
  · rename_i e; exact pres_of hf h e
  · rename_i e; exact (pres_of hf h e).addNode _ (hm _)
theorem pairR_bd (hf : Pres f) (op : Int) : Pres (pairR f op) := by
  intro r h
  unfold pairR
  split
  · rename_i e; exact pres_of hf h e
  · rename_i e; exact oneR_bd hf _ (fun _ => by simp) _ (pres_of hf h e)
theorem productR_bd (hf : Pres f) : Pres (productR f) := by
  intro r h
  unfold productR
  split
  · exact h
  · exact oneR_bd hf _ (fun _ => by simp) _ h.skip
theorem choiceR_bd (hg : Pres g) (hf : Pres f) : Pres (choiceR g f) := by
  intro r h
  unfold choiceR
  split
  · rename_i e; exact pres_of hg h e
  · rename_i e
    have h1 := pres_of hg h e
    split
    · rename_i e; exact pres_of hf h1 e
    · rename_i e; exact oneR_bd hf _ (fun _ => by simp) _ (pres_of hf h1 e)
theorem knownStep_bd (k : Int) : Pres (RdM.knownStep k) := by
  intro r h
  unfold RdM.knownStep
  split
  · exact h
  · exact h.skip
theorem leaf_bd : Pres RdM.leaf := by
  intro r h
  unfold RdM.leaf RdM.constant
  split
  · rename_i e
    split at e
    · cases e
    · cases e; exact h.skip.addNode _ (by simp)
  · exact knownStep_bd 0 r h
end
theorem inputR_bd (r : RdM) (h : Bd r) : Bd (inputR r).2 := by
  unfold inputR
  split
  · exact h
  · split
    · exact h.skip
    · split
      · exact h.skip.skip
      · exact ((h.skip.skip.skip.addIn _).addNode _ (by simp)).addEnt _ _ _
theorem inputsR_bd (n : Nat) : ∀ (any : Bool) (r : RdM), Bd r → Bd (inputsR n any r).2 := by
  induction n with
  | zero => intro _ r h; exact h
  | succ n ih =>
    intro any r h
    rw [inputsR]
    split
    · have hk := inputR_bd r.skip h.skip
      split
      · rename_i e; rw [e] at hk; exact hk
      · rename_i e; rw [e] at hk; exact ih _ _ hk
    · exact h
theorem quotLR_bd : Pres quotLR := by
  intro r h
  unfold quotLR
  split
  · rename_i e; exact pres_of leaf_bd h e
  · rename_i e
    have h1 := pres_of leaf_bd h e
    split
    · exact h1
    · exact h1.skip.addNode _ (by simp)
theorem resultLR_bd (op : Int) : Pres (resultLR op) := by
  intro r h
  unfold resultLR
  split
  · exact productR_bd leaf_bd r h
  split
  · exact quotLR_bd r h
  split
  · exact choiceR_bd (knownStep_bd 1) leaf_bd r h
  split
  · exact pairR_bd (knownStep_bd 1) _ r h
  split
  · exact oneR_bd (knownStep_bd 1) _ (fun _ => by simp) r h
  · exact pairR_bd leaf_bd _ r h
theorem stepR_bd (r : RdM) (h : Bd r) : Bd (stepR r).2 := by
  unfold stepR
  split
  · exact h
  · split
    · exact h.skip
    · rename_i op _
      have hk := resultLR_bd op r.skip.skip h.skip.skip
      split
      · rename_i e; rw [e] at hk; exact hk
      · rename_i e; rw [e] at hk; exact hk.addEnt _ _ _
theorem stepsR_bd (n : Nat) : ∀ (r : RdM), Bd r → Bd (stepsR n r).2 := by
  induction n with
  | zero => intro r h; exact h
  | succ n ih =>
    intro r h
    rw [stepsR]
    split
    · have hk := stepR_bd r.skip h.skip
      split
      · rename_i e; rw [e] at hk; exact hk
      · rename_i e; rw [e] at hk; exact ih _ hk
    · exact h
theorem outLR_bd (r : RdM) (h : Bd r) : Bd (outLR r).2 := by
  unfold outLR
  split
  · exact h
  · have hk := leaf_bd r.skip h.skip
    split
    · rename_i e; rw [e] at hk; exact hk
    · rename_i e; rw [e] at hk; exact (hk.addEnt _ _ _).addOut _
theorem outsLR_bd (n : Nat) : ∀ (any : Bool) (r : RdM), Bd r → Bd (outsLR n any r).2 := by
  induction n with
  | zero => intro _ r h; exact h
  | succ n ih =>
    intro any r h
    rw [outsLR]
    split
    · exact h
    · split
      · have hk := outLR_bd r.skip h.skip
        split
        · rename_i e; rw [e] at hk; exact hk
        · rename_i e; rw [e] at hk; exact ih _ _ hk
      · exact h
theorem lowR_bd (r : RdM) (h : Bd r) : Bd (lowR r).2 := by
  unfold lowR
  have h1 := inputsR_bd 4 false r h
  split
  · rename_i e; rw [e] at h1; exact h1
  · rename_i r1 e
    rw [e] at h1
    have h2 := stepsR_bd 80 r1 h1
    split
    · rename_i e; rw [e] at h2; exact h2
    · rename_i e; rw [e] at h2; exact outsLR_bd 4 false _ h2
theorem start_bd (l : List UInt8) : Bd (startR l) := by intro n hn; simp [startR] at hn
theorem low_bands (l : List UInt8) : ∀ n ∈ (lowR (startR l)).2.nodes, n.bands.length ≤ 1000 := fun n hn => by have := lowR_bd _ (start_bd l) n hn; omega

end Go.Proofs.YtfaljekgpnbmiaaGreat.Pl

/-
  Contracts of CheckHigh, CheckLow, statute.printed, PrintHigh, PrintLow; RunHigh and RunLow with nothing asked of the text.
-/
namespace Go.Proofs.YtfaljekgpnbmiaaGreat
open Go.RowKit

theorem tokens_some (f : Pl.RdM → Bool × Pl.RdM) (l : List UInt8) (hf : ∀ r, r.toks = [] → (f r).1 = false) (h : (Pl.readWith (f (Pl.startR l)) l).1 = 0) : Pl.tokens l ≠ [] ∧ l.length ≤ 6000 := by
  have hl := (Pl.readWith_zero _ _ h).1
  refine ⟨?_, hl⟩
  intro e
  have := hf (Pl.startR l) e
  unfold Pl.readWith Pl.resultR at h
  rw [if_neg (by omega), this] at h
  simp at h
theorem inputs_empty (r : Pl.RdM) (h : r.toks = []) : (Pl.inputsR 4 false r).1 = false := by
  have hp : r.peek = [] := by unfold Pl.RdM.peek; rw [if_pos (by simp [h])]
  rw [Pl.inputsR, hp, if_neg (by decide)]
theorem low_empty (r : Pl.RdM) (h : r.toks = []) : (Pl.lowR r).1 = false := by
  have := inputs_empty r h
  unfold Pl.lowR
  split
  · rfl
  · rename_i e; rw [e] at this; cases this

set_option maxRecDepth 100000 in
set_option maxHeartbeats 2000000 in
theorem sprinted_any (l : List UInt8) (en : Int) (w : World) (h : en = 0 → Pl.tokens l ≠ [] ∧ l.length ≤ 6000) :
    Calls Tryz.prog 74 #[.string ⟨l.toArray⟩, .int .i64 en] w fun e w' => e = .returned (.tuple #[strV (if en ≠ 0 then [] else Pl.linesOf (Pl.tokens l)), .int .i64 en]) ∧ Below w.heap.size w w' := by
  by_cases h0 : en = 0
  · subst h0
    obtain ⟨h1, h2⟩ := h rfl
    rw [if_neg (by simp)]
    have hS := Split_any l w h2
    have hg : ∀ t ∈ Pl.tokens l, t ≠ [] := fun t ht => (Pl.tokens_good l t ht).1
    have hw : Pl.wide (Pl.tokens l) ≤ 10000 := by have := Pl.scan_wide l [] false; unfold Pl.tokens; simp at this; omega
    have hL := hide (fun w1 v (h : StrsOwn w.heap.size w1 v (Pl.tokens l)) => Lines_any (Pl.tokens l) _ v w1 h hg h1 hw)
    generalize Pl.linesOf (Pl.tokens l) = P at *
    generalize Pl.tokens l = K at *
    clear hg hw h h1
    unfold strV at hL ⊢
    go_enter Tryz.func74, Tryz.ntmps74
    go_wp2_with fail
    refine hS.mono ?_
    rintro e w1 ⟨v, rfl, hown, hb1⟩
    have hL1 := hide (unhide hL w1 v hown)
    obtain ⟨ad, cap, rfl⟩ := slice_shape hown
    clear hown hL hS
    go_wp2_with fail
    refine (unhide hL1).mono ?_
    rintro e w2 ⟨rfl, hb2⟩
    have HH := hide (hb1.trans (hb2.mono hb1.size))
    clear hL1 hb1 hb2
    go_wp2_with fail
    go_ret2
    exact ⟨rfl, unhide HH⟩
  · have hne : (en != 0) = true := by simpa using h0
    rw [if_pos h0]
    clear h h0
    go_enter Tryz.func74, Tryz.ntmps74
    go_wp2_with fail
    go_ret2
    exact ⟨rfl, Below.refl _ _⟩

set_option maxRecDepth 100000 in
set_option maxHeartbeats 2000000 in
theorem CheckLow_any (l : List UInt8) (w : World) (hlm : l.length ≤ maxLen) :
    Calls Tryz.prog 23 #[.string ⟨l.toArray⟩] w fun e w' => e = .returned (.tuple #[.int .i64 (Pl.readLow l).1, .int .i64 (Pl.readLow l).2.1]) ∧ Below w.heap.size w w' := by
  have hRd := ReadLow_any l w hlm (fun _ => Pl.low_bands l)
  generalize Pl.readLow l = q at *
  obtain ⟨en, pl, r⟩ := q
  go_enter Tryz.func23, Tryz.ntmps23
  go_wp2_with fail
  refine hRd.mono ?_
  rintro e w1 ⟨vi, vn, vo, vx, vy, rfl, hra, hb1⟩
  obtain ⟨ai, ni, ci, rfl⟩ := hra.si
  obtain ⟨an, nn, cn, rfl⟩ := hra.sn
  obtain ⟨ao, no, co, rfl⟩ := hra.so
  obtain ⟨ax, nx, cx, rfl⟩ := hra.sx
  obtain ⟨ay, ny, cy, rfl⟩ := hra.sy
  have HB := hide hb1
  have HB2 := hide (hb1.alloc hb1.size (.cells #[.slice ai ni ci, .slice an nn cn, .slice ao no co, .slice ax nx cx, .slice ay ny cy] 104))
  clear hRd hra hb1
  go_wp2_with fail
  go_ret2
  exact ⟨rfl, by first | exact unhide HB | exact unhide HB2⟩
set_option maxRecDepth 100000 in
set_option maxHeartbeats 2000000 in
theorem PrintLow_any (l : List UInt8) (w : World) (hlm : l.length ≤ maxLen) :
    Calls Tryz.prog 47 #[.string ⟨l.toArray⟩] w fun e w' => e = .returned (.tuple #[strV (Pl.printLow l).1, .int .i64 (Pl.printLow l).2]) ∧ Below w.heap.size w w' := by
  have hRd := ReadLow_any l w hlm (fun _ => Pl.low_bands l)
  have hP := fun w1 => sprinted_any l (Pl.readLow l).1 w1 (fun h0 => tokens_some Pl.lowR l low_empty h0)
  have e1 : Pl.printLow l = (if (Pl.readLow l).1 ≠ 0 then [] else Pl.linesOf (Pl.tokens l), (Pl.readLow l).1) := by
    unfold Pl.printLow Pl.printWith
    by_cases h0 : (Pl.readLow l).1 = 0
    · rw [if_neg (by simp [h0]), if_neg (by simp [h0]), h0]
    · rw [if_pos h0, if_pos h0]
  rw [e1]
  clear e1
  simp only
  generalize (if (Pl.readLow l).1 ≠ 0 then [] else Pl.linesOf (Pl.tokens l)) = P at *
  generalize Pl.readLow l = q at *
  obtain ⟨en, pl, r⟩ := q
  simp only at hP hRd ⊢
  unfold strV at hP ⊢
  have HP := hide hP
  clear hP
  go_enter Tryz.func47, Tryz.ntmps47
  go_wp2_with fail
  refine hRd.mono ?_
  rintro e w1 ⟨vi, vn, vo, vx, vy, rfl, hra, hb1⟩
  obtain ⟨ai, ni, ci, rfl⟩ := hra.si
  obtain ⟨an, nn, cn, rfl⟩ := hra.sn
  obtain ⟨ao, no, co, rfl⟩ := hra.so
  obtain ⟨ax, nx, cx, rfl⟩ := hra.sx
  obtain ⟨ay, ny, cy, rfl⟩ := hra.sy
  clear hRd hra
  have HB := hide (hb1.alloc hb1.size (.cells #[.slice ai ni ci, .slice an nn cn, .slice ao no co, .slice ax nx cx, .slice ay ny cy] 104))
  have HB1 := hide hb1
  clear hb1
  go_wp2_with fail
  refine (unhide HP _).mono ?_
  rintro e w2 ⟨rfl, hb2⟩
  have HH : Hid (Below w.heap.size w w2) := by first | exact (unhide HB).trans (hb2.mono (unhide HB).size) | exact (unhide HB1).trans (hb2.mono (unhide HB1).size)
  clear HP hb2
  go_wp2_with fail
  go_ret2
  exact ⟨rfl, HH.out⟩
theorem RunLow_all (l : List UInt8) (home : List Int) (vh : Value) (w : World) (hlm : l.length ≤ maxLen) (hh : IntsAt w vh home) :
    Calls Tryz.prog 26 #[.string ⟨l.toArray⟩, vh] w fun e w' => ∃ v, e = .returned (.tuple #[v, .int .i64 (Pl.runLow l home).1]) ∧ IntsOwn w.heap.size w' v (Pl.runLow l home).2 ∧ Below w.heap.size w w' :=
  RunLow_any l home vh w hlm hh (fun _ => Pl.low_bands l)
end Go.Proofs.YtfaljekgpnbmiaaGreat

/-
  The whole low form: the program answers as the reference.
-/
namespace Go.Proofs.YtfaljekgpnbmiaaGreat.Pl
open Go.RowKit

theorem tells_eq {toks : List (List UInt8)} {home : List Int} {names : List DeclM} {K : List Int} (hl : K.length = names.length) (h : ∀ j, (hj : j < names.length) → (hk : j < K.length) → K[j] = tellOf toks names home j names[j] (K.take j)) : ∀ (l pre : List DeclM) (os : List Int), pre ++ l = names → tellsFrom toks names home l pre.length (K.take pre.length) os = os ++ outVals l (K.drop pre.length) := by
  intro l
  induction l with
  | nil => intro pre os _; rw [tellsFrom, outVals, List.append_nil]; simp
  | cons d l ih =>
    intro pre os hp
    have hpl : pre.length < names.length := by rw [← hp]; simp
    have hd : names[pre.length] = d := by subst hp; simp
    have e := h pre.length hpl (by omega)
    rw [hd] at e
    rw [tellsFrom, ← e, List.take_append_getElem (by omega), List.drop_eq_getElem_cons (show pre.length < K.length by omega), outVals]
    have := ih (pre ++ [d]) (if d.kind = 111 then os ++ [K[pre.length]] else os) (by rw [List.append_assoc]; exact hp)
    simp only [List.length_append, List.length_singleton] at this
    rw [this]
    by_cases hk : d.kind = 111
    · rw [if_pos hk, if_pos hk, List.append_assoc]; rfl
    · rw [if_neg hk, if_neg hk]
theorem safe_eq {toks : List (List UInt8)} {home : List Int} {names : List DeclM} {K : List Int} (hl : K.length = names.length) (h : ∀ j, (hj : j < names.length) → (hk : j < K.length) → K[j] = tellOf toks names home j names[j] (K.take j)) (hs : ∀ j, (hj : j < names.length) → SafeAt toks names home j names[j] (K.take j)) : ∀ (l pre : List DeclM), pre ++ l = names → SafeFrom toks names home l pre.length (K.take pre.length) := by
  intro l
  induction l with
  | nil => intro pre _; trivial
  | cons d l ih =>
    intro pre hp
    have hpl : pre.length < names.length := by rw [← hp]; simp
    have hd : names[pre.length] = d := by subst hp; simp
    have e := h pre.length hpl (by omega)
    have s := hs pre.length hpl
    rw [hd] at e s
    have := ih (pre ++ [d]) (by rw [List.append_assoc]; exact hp)
    simp only [List.length_append, List.length_singleton] at this
    rw [SafeFrom]
    refine ⟨s.1, s.2, ?_⟩
    rw [← e, List.take_append_getElem (by omega)]
    exact this
/-- What comes out. -/
theorem Built.run {toks : List (List UInt8)} {names : List DeclM} {r : RdM} (h : Built toks names r) (home : List Int) (hb : isBigW r.ins r.nodes = false) (hh : isHomeB r.ins home = true) : tellsFrom toks names home names 0 [] [] = runW r.nodes r.outs home ∧ SafeFrom toks names home names 0 [] := by
  unfold isHomeB at hh
  simp only [Bool.and_eq_true, decide_eq_true_eq] at hh
  obtain ⟨bs, KB, hS, hV⟩ := h.values home (HomeOk.of _ _ hh.1 hh.2)
  have e2 : isBigW r.ins r.nodes = bs.any over := by
    unfold isBigW
    exact bigFrom_eq _ _ _ [] bs (by rw [List.nil_append]; exact hS.bounds.symm)
  obtain ⟨vs, K, hVS⟩ := hV (by rw [← e2]; exact hb)
  have t1 := tells_eq hVS.env.len hVS.told names [] [] rfl
  have t2 := safe_eq hVS.env.len hVS.told hVS.safe names [] rfl
  simp only [List.length_nil, List.take_zero, List.drop_zero, List.nil_append] at t1 t2
  refine ⟨?_, t2⟩
  rw [t1, ← hVS.outv]
  unfold runW
  rw [valuesFrom_eq, ← hVS.vals]
theorem set_kind {toks : List (List UInt8)} {names : List DeclM} {i : Nat} {d : DeclM} (h : setD toks names i = .inl d) : d.kind ≠ 105 ∧ d.kind ≠ 111 := by
  unfold setD at h
  split at h
  · cases h
  split at h
  · cases h
  rename_i hne
  split at h
  · cases h
  cases h
  simp only
  rcases formsR_cases (atR toks (i + 2)) with ⟨e, _⟩ | ⟨e, _⟩ | ⟨e, _⟩ | ⟨e, _⟩ | ⟨e, _⟩ | ⟨e, _⟩ | ⟨e, _⟩ | e
  · rw [e]; decide
  · rw [e]; decide
  · rw [e]; decide
  · rw [e]; decide
  · rw [e]; decide
  · rw [e]; decide
  · rw [e]; decide
  · exact absurd e hne
theorem input_kind {toks : List (List UInt8)} {names : List DeclM} {i : Nat} {d : DeclM} (h : inputD toks names i = .inl d) : d.kind = 105 := by
  unfold inputD at h
  split at h
  · cases h
  split at h
  · cases h
  split at h
  · cases h
  cases h; rfl
theorem out_kind {toks : List (List UInt8)} {names : List DeclM} {i : Nat} {d : DeclM} (h : outD toks names i = .inl d) : d.kind = 111 := by
  unfold outD at h
  split at h
  · cases h
  split at h
  · cases h
  cases h; rfl
theorem lowD_len (toks : List (List UInt8)) (f : Nat) : ∀ (names : List DeclM) (i : Nat) (ds : List DeclM), countD names 105 ≤ 4 → countD names 111 ≤ 4 → names.length ≤ countD names 105 + countD names 111 + 80 → lowD toks f names i = .inl ds → ds.length ≤ 88 := by
  induction f with
  | zero => intro names i ds _ _ _ h; rw [lowD] at h; cases h
  | succ f ih =>
    intro names i ds h1 h2 h3 h
    by_cases hi : i < toks.length
    · rw [lowD_in hi] at h
      cases hd : declaredD toks names i with
      | inr p => rw [hd] at h; cases h
      | inl d =>
        rw [hd] at h
        simp only at h
        have key : countD (names ++ [d]) 105 ≤ 4 ∧ countD (names ++ [d]) 111 ≤ 4 ∧ (names ++ [d]).length ≤ countD (names ++ [d]) 105 + countD (names ++ [d]) 111 + 80 := by
          rw [countD_snoc, countD_snoc, List.length_append, List.length_singleton]
          unfold declaredD at hd
          split at hd
          · rename_i hc
            have hk := input_kind hd
            rw [if_pos hk, if_neg (by omega)]; omega
          split at hd
          · rename_i hc
            have hk := set_kind hd
            rw [if_neg hk.1, if_neg hk.2]; omega
          split at hd
          · rename_i hc
            have hk := out_kind hd
            rw [if_neg (by omega), if_pos hk]; omega
          · cases hd
        exact ih _ _ _ key.1 key.2.1 key.2.2 h
    · rw [lowD_end hi] at h
      split at h
      · cases h
      · cases h; omega
theorem low_fine (l : List UInt8) : LowFine l := by
  intro ds h
  rcases low_eq (tokens l) with ⟨p, h1, _⟩ | ⟨ds', r', h1, _, hB⟩
  · rw [h1] at h; cases h
  · rw [h1] at h; cases h
    exact ⟨hB.wf, by have := lowD_len (tokens l) _ [] 0 _ (by simp [countD]) (by simp [countD]) (by simp) h1; omega⟩
/-- Reading. -/
theorem low_read (l : List UInt8) : (refLow l).1 = (readLow l).1 ∧ (refLow l).2.1 = (readLow l).2.1 ∧ ((refLow l).1 = 0 → Built (tokens l) (refLow l).2.2 (readLow l).2.2 ∧ isBigW (readLow l).2.2.ins (readLow l).2.2.nodes = false) := by
  unfold refLow readLow readWith resultR startR
  by_cases hl : 6000 < l.length
  · rw [if_pos hl, if_pos hl]; exact ⟨rfl, rfl, fun h => by simp at h⟩
  · rw [if_neg hl, if_neg hl]
    rcases low_eq (tokens l) with ⟨p, h1, h2, h3⟩ | ⟨ds, r', h1, h2, hB⟩
    · rw [h1, h2]
      simp only
      rw [if_neg (by simp), h3]
      exact ⟨rfl, rfl, fun h => by simp at h⟩
    · rw [h1, h2]
      simp only
      rw [if_pos trivial, hB.big]
      by_cases hb : isBigW r'.ins r'.nodes = true
      · rw [if_pos hb, if_pos hb]; exact ⟨rfl, rfl, fun h => by simp at h⟩
      · rw [if_neg hb, if_neg hb]; exact ⟨rfl, rfl, fun _ => ⟨hB, by simpa using hb⟩⟩
theorem low_print (l : List UInt8) : refPrintLow l = printLow l := by
  unfold refPrintLow printLow printWith
  rw [(low_read l).1]
theorem low_run (l : List UInt8) (home : List Int) : refRunLow l home = runLow l home := by
  obtain ⟨h1, _, h3⟩ := low_read l
  unfold refRunLow runLow toldR
  rw [← h1]
  by_cases h0 : (refLow l).1 = 0
  · obtain ⟨hB, hb⟩ := h3 h0
    have hn : ¬ (refLow l).1 ≠ 0 := fun h => h h0
    rw [if_neg hn, if_neg hn, hB.fits]
    by_cases hh : isHomeB (readLow l).2.2.ins home = true
    · rw [if_pos hh, if_pos hh, (hB.run home hb hh).1]
    · rw [if_neg hh, if_neg hh]
  · rw [if_pos h0, if_pos h0]
theorem low_safe (l : List UInt8) (home : List Int) (h0 : (refLow l).1 = 0) (hf : fitsD (refLow l).2.2 home = true) : SafeFrom (tokens l) (refLow l).2.2 home (refLow l).2.2 0 [] := by
  obtain ⟨hB, hb⟩ := (low_read l).2.2 h0
  rw [hB.fits] at hf
  exact (hB.run home hb hf).2
theorem low_some (l : List UInt8) (h0 : (refLow l).1 = 0) : tokens l ≠ [] := by
  rw [(low_read l).1] at h0
  exact (tokens_some lowR l low_empty h0).1
end Go.Proofs.YtfaljekgpnbmiaaGreat.Pl
