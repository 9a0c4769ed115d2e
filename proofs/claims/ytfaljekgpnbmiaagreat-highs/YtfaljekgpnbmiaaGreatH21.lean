/- Joined: Read2 RunHigh PlainSize Print2 Law4. -/
import Derived.Test.YtfaljekgpnbmiaaGreatH20
/-
  Contracts of high.Read and low.Read: the error, the place, and the plan in lists of its own.
-/
namespace Go.Proofs.YtfaljekgpnbmiaaGreat
open Go.RowKit

set_option maxRecDepth 100000 in
set_option maxHeartbeats 2000000 in
theorem ReadHigh_any (l : List UInt8) (w : World) (hlm : l.length ≤ maxLen) (hbl : l.length ≤ 6000 → ∀ n ∈ (Pl.textR (Pl.startR l)).2.nodes, n.bands.length ≤ 1000) :
    Calls Tryz.prog 63 #[.string ⟨l.toArray⟩] w fun e w' => ∃ vi vn vo vx vy, e = .returned (.tuple #[.agg #[vi, vn, vo, vx, vy], .int .i64 (Pl.readHigh l).1, .int .i64 (Pl.readHigh l).2.1]) ∧ ReadAt w' (Pl.readHigh l).1 (Pl.readHigh l).2.2 vi vn vo vx vy ∧ Below w.heap.size w w' := by
  unfold maxLen at hlm
  have hal : Below w.heap.size w (w.alloc (.cells #[.slice none 0 0, .slice none 0 0, .slice none 0 0, .slice none 0 0, .slice none 0 0] 104)) := (Below.refl _ w).alloc (Nat.le_refl _) _
  have hnew := heap_alloc_new w (.cells #[.slice none 0 0, .slice none 0 0, .slice none 0 0, .slice none 0 0, .slice none 0 0] 104)
  by_cases hlong : 6000 < l.length
  · have hR : Hid (Pl.readHigh l = (1, 0, Pl.startR l)) := by unfold Pl.readHigh Pl.readWith Hid; rw [if_pos hlong]
    have HA := hide hal
    clear hal hnew hbl
    go_enter Tryz.func63, Tryz.ntmps63
    go_wp2_with fail
    rw [hR.out]
    exact bodyPost_ret (v := .tuple #[.agg #[.slice none 0 0, .slice none 0 0, .slice none 0 0, .slice none 0 0, .slice none 0 0], .int .i64 1, .int .i64 0]) (by simp [results, Tryz.results63, go_sem]) rfl ⟨_, _, _, _, _, rfl, ReadAt.none _ _ _ (by simp), unhide HA⟩
  · have hl : l.length ≤ 6000 := by omega
    have hN := New_any l (w.alloc (.cells #[.slice none 0 0, .slice none 0 0, .slice none 0 0, .slice none 0 0, .slice none 0 0] 104)) hl
    have hok := Pl.start_ok l hl
    have hbl' := hbl hl
    have hT := fun (B : Nat) (w1 : World) (b : Nat) (h : Rd B w1 b (Pl.startR l)) => text_any h hok rfl
    have hTok := textR_ok (Pl.startR l) hok
    have hR : Hid (Pl.readHigh l = ((Pl.resultR (Pl.textR (Pl.startR l)).1 (Pl.textR (Pl.startR l)).2).1, (Pl.resultR (Pl.textR (Pl.startR l)).1 (Pl.textR (Pl.startR l)).2).2, (Pl.textR (Pl.startR l)).2)) := by unfold Pl.readHigh Pl.readWith Hid; rw [if_neg hlong]
    generalize Pl.textR (Pl.startR l) = T at *
    obtain ⟨o, r⟩ := T
    have hS := fun (B : Nat) (w2 : World) (b : Nat) (h : Rd B w2 b r) => Result_any h hTok hbl' o
    simp only at hR hS hT
    generalize Pl.resultR o r = q at *
    obtain ⟨en, pl⟩ := q
    clear hbl
    have hsz : (w.alloc (.cells #[.slice none 0 0, .slice none 0 0, .slice none 0 0, .slice none 0 0, .slice none 0 0] 104)).heap.size = w.heap.size + 1 := by simp
    rw [hsz] at hN
    go_enter Tryz.func63, Tryz.ntmps63
    go_wp2_with fail
    refine hN.mono ?_
    rintro e w1 ⟨b, rfl, hr1, hb1⟩
    go_wp2_with fail
    refine (hT _ _ _ hr1).mono ?_
    rintro e w2 ⟨rfl, hr2, hb2⟩
    have hs2 := hr2.bd.2.1
    go_wp2_with fail
    refine (hS _ _ _ hr2).mono ?_
    rintro e w3 ⟨vi, vn, vo, vx, vy, rfl, hra, hb3⟩
    have hbb : Below (w.heap.size + 1) (w.alloc (.cells #[.slice none 0 0, .slice none 0 0, .slice none 0 0, .slice none 0 0, .slice none 0 0] 104)) w3 := (hb1.trans hb2).trans (hb3.mono hs2)
    have hk := (hbb.block w.heap.size (by omega)).trans hnew
    obtain ⟨c0, c1, c2, c3, c4, f0, f1, f2, f3, f4⟩ := plan_facts hk
    have HH : Hid (∀ x y z u v, Below w.heap.size w (((((w3.setCell ⟨w.heap.size, 0, none⟩ x).setCell ⟨w.heap.size, 1, none⟩ y).setCell ⟨w.heap.size, 2, none⟩ z).setCell ⟨w.heap.size, 3, none⟩ u).setCell ⟨w.heap.size, 4, none⟩ v)) := fun x y z u v =>
      (((((hal.trans (hbb.mono (by omega))).setCell (p := ⟨w.heap.size, 0, none⟩) (Nat.le_refl _) x).setCell (p := ⟨w.heap.size, 1, none⟩) (Nat.le_refl _) y).setCell (p := ⟨w.heap.size, 2, none⟩) (Nat.le_refl _) z).setCell (p := ⟨w.heap.size, 3, none⟩) (Nat.le_refl _) u).setCell (p := ⟨w.heap.size, 4, none⟩) (Nat.le_refl _) v
    have HP := hide (fun x y z u v => hra.keep (keep_store hk x y z u v))
    obtain ⟨ai, ni, ci, rfl⟩ := hra.si
    obtain ⟨an, nn, cn, rfl⟩ := hra.sn
    obtain ⟨ao, no, co, rfl⟩ := hra.so
    obtain ⟨ax, nx, cx, rfl⟩ := hra.sx
    obtain ⟨ay, ny, cy, rfl⟩ := hra.sy
    clear hbb hk hr1 hb1 hr2 hb2 hb3 hN hT hal hnew hsz hS hra
    go_wp2_with fail
    rw [hR.out]
    exact bodyPost_ret (v := .tuple #[.agg #[.slice ai ni ci, .slice an nn cn, .slice ao no co, .slice ax nx cx, .slice ay ny cy], .int .i64 en, .int .i64 pl]) (by simp [results, Tryz.results63, go_sem, c0, c1, c2, c3, c4]) rfl ⟨_, _, _, _, _, rfl, unhide HP _ _ _ _ _, HH.out _ _ _ _ _⟩

end Go.Proofs.YtfaljekgpnbmiaaGreat

/-
  Contracts of statute.told, RunHigh and RunLow: they answer as the plain functions say, in a list of their own.
-/
namespace Go.Proofs.YtfaljekgpnbmiaaGreat
open Go.RowKit

theorem PlanOwn.at_ {w : World} {r : Pl.RdM} {vi vn vo vx vy : Value} (h : PlanOwn w r vi vn vo vx vy) : PairsAt w vi r.ins ∧ NodesAt w vn r.nodes ∧ IntsAt w vo r.outs := by
  obtain ⟨B, bvs, lx, ly, h1, h2, h3, _⟩ := h
  exact ⟨pairs_own h1, nodes_own h2, ints_own h3⟩

set_option maxRecDepth 100000 in
set_option maxHeartbeats 2000000 in
theorem told_any (r : Pl.RdM) (en : Int) (home : List Int) (vi vn vo vx vy vh : Value) (w : World) (hra : ReadAt w en r vi vn vo vx vy) (hh : IntsAt w vh home) (hsz : en = 0 → r.nodes.length ≤ 1000 ∧ r.ins.length ≤ 1000 ∧ r.outs.length ≤ 1000 ∧ ∀ n ∈ r.nodes, n.bands.length ≤ 1000) :
    Calls Tryz.prog 65 #[.agg #[vi, vn, vo, vx, vy], .int .i64 en, vh] w fun e w' => ∃ v, e = .returned (.tuple #[v, .int .i64 (Pl.toldR en r home).1]) ∧ IntsOwn w.heap.size w' v (Pl.toldR en r home).2 ∧ Below w.heap.size w w' := by
  have hra' := hra
  obtain ⟨ai, ni, ci, rfl⟩ := hra.si
  obtain ⟨an, nn, cn, rfl⟩ := hra.sn
  obtain ⟨ao, no, co, rfl⟩ := hra.so
  obtain ⟨ax, nx, cx, rfl⟩ := hra.sx
  obtain ⟨ay, ny, cy, rfl⟩ := hra.sy
  obtain ⟨adh, nh, caph, hvh⟩ : ∃ ad n cap, vh = .slice ad n cap := by obtain ⟨x, y, e, _⟩ := hh; exact ⟨_, _, _, e⟩
  subst hvh
  have hal : Below w.heap.size w (w.alloc (.cells #[.slice ai ni ci, .slice an nn cn, .slice ao no co, .slice ax nx cx, .slice ay ny cy] 104)) := (Below.refl _ w).alloc (Nat.le_refl _) _
  by_cases h0 : en = 0
  · subst h0
    obtain ⟨z1, z2, z3, hbl2⟩ := hsz rfl
    obtain ⟨hpi, hpn, hpo⟩ := (hra.good rfl).at_
    have hnew := heap_alloc_new w (.cells #[.slice ai ni ci, .slice an nn cn, .slice ao no co, .slice ax nx cx, .slice ay ny cy] 104)
    obtain ⟨c0, c1, c2, _⟩ := plan_facts hnew
    have hplan : PlanAt (w.alloc (.cells #[.slice ai ni ci, .slice an nn cn, .slice ao no co, .slice ax nx cx, .slice ay ny cy] 104)) w.heap.size r.ins r.nodes r.outs := ⟨⟨_, c0, hpi.below hal⟩, ⟨_, c1, hpn.below hal⟩, ⟨_, c2, hpo.below hal⟩⟩
    have hhome := hh.below hal
    have hIH := hide (IsHome_any r.ins home w.heap.size _ _ _ c0 (hpi.below hal) hhome z2)
    have hRn := hide (fun n => Run_any r.ins r.nodes r.outs home w.heap.size _ _ (hplan.below (below_drewN (Below.refl _ _) n)) (hhome.drewN n) z1 z3 hbl2)
    have HB := hide hal
    clear hra hra' hpi hpn hpo hal hnew c0 c1 c2 hplan hhome hsz hbl2 hh z1 z2 z3
    cases hih : Pl.isHomeB r.ins home with
    | false =>
      have hres : Hid (Pl.toldR 0 r home = (4, [])) := by unfold Pl.toldR Hid; rw [if_neg (by simp), if_neg (by simp [hih])]
      rw [hih] at hIH
      go_enter Tryz.func65, Tryz.ntmps65
      go_wp2_with fail
      refine (unhide hIH).mono ?_
      rintro e w2 ⟨rfl, n, rfl⟩
      have HH := hide (below_drewN (unhide HB) n)
      clear hIH hRn HB
      go_wp2_with fail
      go_ret2
      rw [hres.out]
      exact ⟨_, rfl, World.ownsRow_nil _ _ _ _, unhide HH⟩
    | true =>
      have hres : Hid (Pl.toldR 0 r home = (0, Pl.runW r.nodes r.outs home)) := by unfold Pl.toldR Hid; rw [if_neg (by simp), if_pos hih]
      rw [hih] at hIH
      go_enter Tryz.func65, Tryz.ntmps65
      go_wp2_with fail
      refine (unhide hIH).mono ?_
      rintro e w2 ⟨rfl, n, rfl⟩
      go_wp2_with fail
      refine (unhide hRn n).mono ?_
      rintro e w3 ⟨v, rfl, hv, hb3⟩
      have HH : Hid (IntsOwn w.heap.size w3 v (Pl.runW r.nodes r.outs home) ∧ Below w.heap.size w w3) := by
        have hb := unhide HB
        exact ⟨own_mono hv hb.size, (below_drewN hb n).trans (hb3.mono hb.size)⟩
      obtain ⟨ad, cap, rfl⟩ := slice_shape hv
      clear hIH hRn HB hv hb3
      go_wp2_with fail
      go_ret2
      rw [hres.out]
      exact ⟨_, rfl, HH.out.1, HH.out.2⟩
  · have hres : Hid (Pl.toldR en r home = (en, [])) := by unfold Pl.toldR Hid; rw [if_pos h0]
    have hne : (en != 0) = true := by simpa using h0
    have HH := hide hal
    clear hra hra' hh hsz hal h0
    go_enter Tryz.func65, Tryz.ntmps65
    go_wp2_with fail
    go_ret2
    rw [hres.out]
    exact ⟨_, rfl, World.ownsRow_nil _ _ _ _, unhide HH⟩

theorem readHigh_sizes (l : List UInt8) (h : (Pl.readHigh l).1 = 0) : (Pl.readHigh l).2.2.nodes.length ≤ 1000 ∧ (Pl.readHigh l).2.2.ins.length ≤ 1000 ∧ (Pl.readHigh l).2.2.outs.length ≤ 1000 ∧ l.length ≤ 6000 ∧ (Pl.readHigh l).2.2 = (Pl.textR (Pl.startR l)).2 := by
  obtain ⟨hl, he⟩ := Pl.readWith_zero _ _ h
  have hok := sizes (textR_ok _ (Pl.start_ok l hl))
  have he' : (Pl.readHigh l).2.2 = (Pl.textR (Pl.startR l)).2 := he
  rw [he']
  exact ⟨hok.1, hok.2.2.1, hok.2.2.2, hl, rfl⟩

set_option maxRecDepth 100000 in
set_option maxHeartbeats 2000000 in
theorem RunHigh_any (l : List UInt8) (home : List Int) (vh : Value) (w : World) (hlm : l.length ≤ maxLen) (hh : IntsAt w vh home) (hbl : l.length ≤ 6000 → ∀ n ∈ (Pl.textR (Pl.startR l)).2.nodes, n.bands.length ≤ 1000) :
    Calls Tryz.prog 25 #[.string ⟨l.toArray⟩, vh] w fun e w' => ∃ v, e = .returned (.tuple #[v, .int .i64 (Pl.runHigh l home).1]) ∧ IntsOwn w.heap.size w' v (Pl.runHigh l home).2 ∧ Below w.heap.size w w' := by
  have hRd := ReadHigh_any l w hlm hbl
  have hsz : (Pl.readHigh l).1 = 0 → (Pl.readHigh l).2.2.nodes.length ≤ 1000 ∧ (Pl.readHigh l).2.2.ins.length ≤ 1000 ∧ (Pl.readHigh l).2.2.outs.length ≤ 1000 ∧ ∀ n ∈ (Pl.readHigh l).2.2.nodes, n.bands.length ≤ 1000 := fun h0 => by
    obtain ⟨z1, z2, z3, hl6, hre⟩ := readHigh_sizes l h0
    have hbl2 := hbl hl6
    rw [← hre] at hbl2
    exact ⟨z1, z2, z3, hbl2⟩
  unfold Pl.runHigh
  generalize Pl.readHigh l = q at *
  obtain ⟨en, pl, r⟩ := q
  simp only at hRd hsz ⊢
  have hT := fun w1 (hb : Below w.heap.size w w1) vi vn vo vx vy (hra : ReadAt w1 en r vi vn vo vx vy) => hide (told_any r en home vi vn vo vx vy vh w1 hra (hh.below hb) hsz)
  generalize Pl.toldR en r home = T at *
  obtain ⟨adh, nh, caph, hvh⟩ : ∃ ad n cap, vh = .slice ad n cap := by obtain ⟨x, y, e, _⟩ := hh; exact ⟨_, _, _, e⟩
  subst hvh
  clear hbl hh hsz
  go_enter Tryz.func25, Tryz.ntmps25
  go_wp2_with fail
  refine hRd.mono ?_
  rintro e w1 ⟨vi, vn, vo, vx, vy, rfl, hra, hb1⟩
  have hra0 := hra
  obtain ⟨ai, ni, ci, rfl⟩ := hra.si
  obtain ⟨an, nn, cn, rfl⟩ := hra.sn
  obtain ⟨ao, no, co, rfl⟩ := hra.so
  obtain ⟨ax, nx, cx, rfl⟩ := hra.sx
  obtain ⟨ay, ny, cy, rfl⟩ := hra.sy
  have hb2 := hb1.alloc hb1.size (.cells #[.slice ai ni ci, .slice an nn cn, .slice ao no co, .slice ax nx cx, .slice ay ny cy] 104)
  have hT1 := hT _ hb2 _ _ _ _ _ (hra0.keep fun e _ => KeepT.alloc e w1 (.cells #[.slice ai ni ci, .slice an nn cn, .slice ao no co, .slice ax nx cx, .slice ay ny cy] 104))
  have HB := hide hb2
  clear hRd hra hra0 hb1 hT hb2
  go_wp2_with fail
  refine (unhide hT1).mono ?_
  rintro e w2 ⟨v, rfl, hv, hb2⟩
  have HH : Hid (IntsOwn w.heap.size w2 v T.2 ∧ Below w.heap.size w w2) := ⟨own_mono hv (unhide HB).size, (unhide HB).trans (hb2.mono (unhide HB).size)⟩
  obtain ⟨ad, cap, rfl⟩ := slice_shape hv
  clear hT1 HB hv hb2
  go_wp2_with fail
  go_ret2
  exact ⟨_, rfl, HH.out.1, HH.out.2⟩

end Go.Proofs.YtfaljekgpnbmiaaGreat

/-
  Of what is read: no table has more than six bands; a right text has an out.
-/
namespace Go.Proofs.YtfaljekgpnbmiaaGreat.Pl

def Bd (r : RdM) : Prop := ∀ n ∈ r.nodes, n.bands.length ≤ 6
def Pres (f : RdM → Option Int × RdM) : Prop := ∀ r, Bd r → Bd (f r).2
theorem Bd.skip {r : RdM} (h : Bd r) : Bd r.skip := by unfold Bd at *; rw [(skip_same r).1]; exact h
theorem Bd.addNode {r : RdM} (h : Bd r) (n : NodeM) (hn : n.bands.length ≤ 6) : Bd (r.addNode n) := by
  intro m hm
  rcases List.mem_append.1 hm with hm | hm
  · exact h m hm
  · rw [List.mem_singleton] at hm; subst hm; exact hn
theorem Bd.addEnt {r : RdM} (h : Bd r) (t : List UInt8) (k n : Int) : Bd (r.addEnt t k n) := h
theorem Bd.addOut {r : RdM} (h : Bd r) (n : Int) : Bd (r.addOut n) := h
theorem Bd.addIn {r : RdM} (h : Bd r) (p : Int × Int) : Bd (r.addIn p) := h
theorem pres_of {f : RdM → Option Int × RdM} (hf : Pres f) {r r1 : RdM} {o : Option Int} (h : Bd r) (e : f r = (o, r1)) : Bd r1 := by have := hf r h; rw [e] at this; exact this

section
variable {f g : RdM → Option Int × RdM}
theorem oneR_bd (hf : Pres f) (mk : Int → NodeM) (hm : ∀ a, (mk a).bands.length ≤ 6) : Pres (oneR f mk) := by
  intro r h
  unfold oneR
  split
  · rename_i e; exact pres_of hf h e
  · rename_i e; exact (pres_of hf h e).addNode _ (hm _)
theorem pairR_bd (hf : Pres f) (op : Int) : Pres (pairR f op) := by
  intro r h
  unfold pairR
  split
  · rename_i e; exact pres_of hf h e
  · rename_i e; exact oneR_bd hf _ (fun _ => by simp) _ (pres_of hf h e)
theorem productR_bd (hf : Pres f) : Pres (productR f) := by
  intro r h
  unfold productR
  split
  · exact h
  · exact oneR_bd hf _ (fun _ => by simp) _ h.skip
theorem choiceR_bd (hg : Pres g) (hf : Pres f) : Pres (choiceR g f) := by
  intro r h
  unfold choiceR
  split
  · rename_i e; exact pres_of hg h e
  · rename_i e
    have h1 := pres_of hg h e
    split
    · rename_i e; exact pres_of hf h1 e
    · rename_i e; exact oneR_bd hf _ (fun _ => by simp) _ (pres_of hf h1 e)
theorem quotientR_bd (hf : Pres f) : Pres (quotientR f) := by
  intro r h
  unfold quotientR
  split
  · exact h
  · split
    · rename_i e; exact pres_of hf h.skip e
    · rename_i e
      have h1 := pres_of hf h.skip e
      split
      · exact h1
      · exact h1.skip.addNode _ (by simp)
theorem bandR_nodes (least : Int) (r : RdM) : (bandR least r).2.nodes = r.nodes := by
  unfold bandR
  split
  · rfl
  · split
    · exact (skip_same r).1
    · exact ((skip_same _).1).trans (skip_same r).1
theorem bandsR_nodes (n : Nat) : ∀ (least : Int) (acc : List (Int × Int)) (r : RdM), (bandsR n least acc r).2.nodes = r.nodes ∧ ∀ l, (bandsR n least acc r).1 = some l → l.length = acc.length + n := by
  induction n with
  | zero => intro least acc r; exact ⟨rfl, fun l h => by cases h; rfl⟩
  | succ n ih =>
    intro least acc r
    have hb := bandR_nodes least r
    unfold bandsR
    split
    · rename_i e; rw [e] at hb; exact ⟨hb, fun l h => by cases h⟩
    · rename_i p r1 e
      rw [e] at hb
      have h2 := ih (p.1 + 1) (acc ++ [p]) r1
      exact ⟨h2.1.trans hb, fun l h => by have := h2.2 l h; simp at this; omega⟩
theorem tableR_bd (hf : Pres f) : Pres (tableR f) := by
  intro r h
  unfold tableR
  split
  · rename_i e; exact pres_of hf h e
  · rename_i e
    have h1 := pres_of hf h e
    split
    · exact h1
    · rename_i n hn
      have hn6 := num_some hn
      split
      · rename_i r2 e2
        have h3 : ∀ r1 : RdM, Bd r1 → bandsR n.toNat (-1000000000) [] r1.skip = (none, r2) → Bd r2 := fun r1 hr e => by
          have hb := bandsR_nodes n.toNat (-1000000000) [] r1.skip
          rw [e] at hb
          unfold Bd; rw [hb.1]; exact hr.skip
        exact h3 _ h1 e2
      · rename_i l r2 e2
        have h3 : ∀ r1 : RdM, Bd r1 → bandsR n.toNat (-1000000000) [] r1.skip = (some l, r2) → Bd r2 ∧ l.length ≤ 6 := fun r1 hr e => by
          have hb := bandsR_nodes n.toNat (-1000000000) [] r1.skip
          rw [e] at hb
          refine ⟨by unfold Bd; rw [hb.1]; exact hr.skip, ?_⟩
          have := hb.2 l rfl
          simp at this; omega
        have h4 := h3 _ h1 e2
        exact h4.1.addNode _ h4.2
theorem knownStep_bd (k : Int) : Pres (RdM.knownStep k) := by
  intro r h
  unfold RdM.knownStep
  split
  · exact h
  · exact h.skip
theorem leaf_bd : Pres RdM.leaf := by
  intro r h
  unfold RdM.leaf RdM.constant
  split
  · rename_i e
    split at e
    · cases e
    · cases e; exact h.skip.addNode _ (by simp)
  · exact knownStep_bd 0 r h
theorem exprR_bd (hg : Pres g) (hf : Pres f) : Pres (exprR g f) := by
  intro r h
  unfold exprR
  split
  · exact pairR_bd hf _ _ h.skip
  split
  · exact pairR_bd hf _ _ h.skip
  split
  · exact pairR_bd hf _ _ h.skip
  split
  · exact pairR_bd hf _ _ h.skip
  split
  · exact productR_bd hf _ h.skip
  split
  · exact choiceR_bd hg hf _ h.skip
  split
  · exact quotientR_bd hf _ h.skip
  split
  · exact tableR_bd hf _ h.skip
  · exact leaf_bd r h
theorem condR_bd (hg : Pres g) (hf : Pres f) : Pres (condR g f) := by
  intro r h
  unfold condR
  split
  · exact pairR_bd hf _ _ h.skip
  split
  · exact pairR_bd hf _ _ h.skip
  split
  · exact pairR_bd hf _ _ h.skip
  split
  · exact pairR_bd hg _ _ h.skip
  split
  · exact pairR_bd hg _ _ h.skip
  split
  · exact oneR_bd hg _ (fun _ => by simp) _ h.skip
  · exact h
end
theorem read_bd (m : Nat) : ∀ tag, Pres (read m tag) := by
  induction m with
  | zero =>
    intro tag
    cases tag
    · exact leaf_bd
    · exact fun r h => h
  | succ m ih =>
    intro tag
    cases tag
    · exact exprR_bd (ih true) (ih false)
    · exact condR_bd (ih true) (ih false)
theorem inputR_bd (r : RdM) (h : Bd r) : Bd (inputR r).2 := by
  unfold inputR
  split
  · exact h
  · split
    · exact h.skip
    · split
      · exact h.skip.skip
      · exact ((h.skip.skip.skip.addIn _).addNode _ (by simp)).addEnt _ _ _
theorem inputsR_bd (n : Nat) : ∀ (any : Bool) (r : RdM), Bd r → Bd (inputsR n any r).2 := by
  induction n with
  | zero => intro _ r h; exact h
  | succ n ih =>
    intro any r h
    rw [inputsR]
    split
    · have hk := inputR_bd r.skip h.skip
      split
      · rename_i e; rw [e] at hk; exact hk
      · rename_i e; rw [e] at hk; exact ih _ _ hk
    · exact h
theorem namedR_bd (r : RdM) (h : Bd r) : Bd (namedR r).2 := by
  unfold namedR
  split
  · exact h
  · have hk := read_bd 600 false r.skip h.skip
    split
    · rename_i e; rw [e] at hk; exact hk
    · rename_i e; rw [e] at hk; exact hk
theorem letsR_bd (n : Nat) : ∀ (r : RdM), Bd r → Bd (letsR n r).2 := by
  induction n with
  | zero => intro r h; exact h
  | succ n ih =>
    intro r h
    rw [letsR]
    split
    · have hk := namedR_bd r.skip h.skip
      split
      · rename_i e; rw [e] at hk; exact hk
      · rename_i e; rw [e] at hk; exact ih _ (hk.addEnt _ _ _)
    · exact h
theorem outsR_bd (n : Nat) : ∀ (any : Bool) (r : RdM), Bd r → Bd (outsR n any r).2 := by
  induction n with
  | zero => intro _ r h; exact h
  | succ n ih =>
    intro any r h
    rw [outsR]
    split
    · exact h
    · split
      · have hk := namedR_bd r.skip h.skip
        split
        · rename_i e; rw [e] at hk; exact hk
        · rename_i e; rw [e] at hk; exact ih _ _ ((hk.addEnt _ _ _).addOut _)
      · exact h
theorem textR_bd (r : RdM) (h : Bd r) : Bd (textR r).2 := by
  unfold textR
  have h1 := inputsR_bd 4 false r h
  split
  · rename_i e; rw [e] at h1; exact h1
  · rename_i r1 e
    rw [e] at h1
    have h2 := letsR_bd 16 r1 h1
    split
    · rename_i e; rw [e] at h2; exact h2
    · rename_i e; rw [e] at h2; exact outsR_bd 4 false _ h2
theorem start_bd (l : List UInt8) : Bd (startR l) := by intro n hn; simp [startR] at hn
theorem text_bands (l : List UInt8) : ∀ n ∈ (textR (startR l)).2.nodes, n.bands.length ≤ 1000 := fun n hn => by have := textR_bd _ (start_bd l) n hn; omega
end Go.Proofs.YtfaljekgpnbmiaaGreat.Pl

/-
  Contracts of CheckHigh, CheckLow, statute.printed, PrintHigh, PrintLow; RunHigh and RunLow with nothing asked of the text.
-/
namespace Go.Proofs.YtfaljekgpnbmiaaGreat
open Go.RowKit

theorem tokens_some (f : Pl.RdM → Bool × Pl.RdM) (l : List UInt8) (hf : ∀ r, r.toks = [] → (f r).1 = false) (h : (Pl.readWith (f (Pl.startR l)) l).1 = 0) : Pl.tokens l ≠ [] ∧ l.length ≤ 6000 := by
  have hl := (Pl.readWith_zero _ _ h).1
  refine ⟨?_, hl⟩
  intro e
  have := hf (Pl.startR l) e
  unfold Pl.readWith Pl.resultR at h
  rw [if_neg (by omega), this] at h
  simp at h
theorem inputs_empty (r : Pl.RdM) (h : r.toks = []) : (Pl.inputsR 4 false r).1 = false := by
  have hp : r.peek = [] := by unfold Pl.RdM.peek; rw [if_pos (by simp [h])]
  rw [Pl.inputsR, hp, if_neg (by decide)]
theorem text_empty (r : Pl.RdM) (h : r.toks = []) : (Pl.textR r).1 = false := by
  have := inputs_empty r h
  unfold Pl.textR
  split
  · rfl
  · rename_i e; rw [e] at this; cases this
set_option maxRecDepth 100000 in
set_option maxHeartbeats 2000000 in
theorem sprinted_any (l : List UInt8) (en : Int) (w : World) (h : en = 0 → Pl.tokens l ≠ [] ∧ l.length ≤ 6000) :
    Calls Tryz.prog 74 #[.string ⟨l.toArray⟩, .int .i64 en] w fun e w' => e = .returned (.tuple #[strV (if en ≠ 0 then [] else Pl.linesOf (Pl.tokens l)), .int .i64 en]) ∧ Below w.heap.size w w' := by
  by_cases h0 : en = 0
  · subst h0
    obtain ⟨h1, h2⟩ := h rfl
    rw [if_neg (by simp)]
    have hS := Split_any l w h2
    have hg : ∀ t ∈ Pl.tokens l, t ≠ [] := fun t ht => (Pl.tokens_good l t ht).1
    have hw : Pl.wide (Pl.tokens l) ≤ 10000 := by have := Pl.scan_wide l [] false; unfold Pl.tokens; simp at this; omega
    have hL := hide (fun w1 v (h : StrsOwn w.heap.size w1 v (Pl.tokens l)) => Lines_any (Pl.tokens l) _ v w1 h hg h1 hw)
    generalize Pl.linesOf (Pl.tokens l) = P at *
    generalize Pl.tokens l = K at *
    clear hg hw h h1
    unfold strV at hL ⊢
    go_enter Tryz.func74, Tryz.ntmps74
    go_wp2_with fail
    refine hS.mono ?_
    rintro e w1 ⟨v, rfl, hown, hb1⟩
    have hL1 := hide (unhide hL w1 v hown)
    obtain ⟨ad, cap, rfl⟩ := slice_shape hown
    clear hown hL hS
    go_wp2_with fail
    refine (unhide hL1).mono ?_
    rintro e w2 ⟨rfl, hb2⟩
    have HH := hide (hb1.trans (hb2.mono hb1.size))
    clear hL1 hb1 hb2
    go_wp2_with fail
    go_ret2
    exact ⟨rfl, unhide HH⟩
  · have hne : (en != 0) = true := by simpa using h0
    rw [if_pos h0]
    clear h h0
    go_enter Tryz.func74, Tryz.ntmps74
    go_wp2_with fail
    go_ret2
    exact ⟨rfl, Below.refl _ _⟩

set_option maxRecDepth 100000 in
set_option maxHeartbeats 2000000 in
theorem CheckHigh_any (l : List UInt8) (w : World) (hlm : l.length ≤ maxLen) :
    Calls Tryz.prog 22 #[.string ⟨l.toArray⟩] w fun e w' => e = .returned (.tuple #[.int .i64 (Pl.readHigh l).1, .int .i64 (Pl.readHigh l).2.1]) ∧ Below w.heap.size w w' := by
  have hRd := ReadHigh_any l w hlm (fun _ => Pl.text_bands l)
  generalize Pl.readHigh l = q at *
  obtain ⟨en, pl, r⟩ := q
  go_enter Tryz.func22, Tryz.ntmps22
  go_wp2_with fail
  refine hRd.mono ?_
  rintro e w1 ⟨vi, vn, vo, vx, vy, rfl, hra, hb1⟩
  obtain ⟨ai, ni, ci, rfl⟩ := hra.si
  obtain ⟨an, nn, cn, rfl⟩ := hra.sn
  obtain ⟨ao, no, co, rfl⟩ := hra.so
  obtain ⟨ax, nx, cx, rfl⟩ := hra.sx
  obtain ⟨ay, ny, cy, rfl⟩ := hra.sy
  have HB := hide hb1
  have HB2 := hide (hb1.alloc hb1.size (.cells #[.slice ai ni ci, .slice an nn cn, .slice ao no co, .slice ax nx cx, .slice ay ny cy] 104))
  clear hRd hra hb1
  go_wp2_with fail
  go_ret2
  exact ⟨rfl, by first | exact unhide HB | exact unhide HB2⟩
set_option maxRecDepth 100000 in
set_option maxHeartbeats 2000000 in
theorem PrintHigh_any (l : List UInt8) (w : World) (hlm : l.length ≤ maxLen) :
    Calls Tryz.prog 38 #[.string ⟨l.toArray⟩] w fun e w' => e = .returned (.tuple #[strV (Pl.printHigh l).1, .int .i64 (Pl.printHigh l).2]) ∧ Below w.heap.size w w' := by
  have hRd := ReadHigh_any l w hlm (fun _ => Pl.text_bands l)
  have hP := fun w1 => sprinted_any l (Pl.readHigh l).1 w1 (fun h0 => tokens_some Pl.textR l text_empty h0)
  have e1 : Pl.printHigh l = (if (Pl.readHigh l).1 ≠ 0 then [] else Pl.linesOf (Pl.tokens l), (Pl.readHigh l).1) := by
    unfold Pl.printHigh Pl.printWith
    by_cases h0 : (Pl.readHigh l).1 = 0
    · rw [if_neg (by simp [h0]), if_neg (by simp [h0]), h0]
    · rw [if_pos h0, if_pos h0]
  rw [e1]
  clear e1
  simp only
  generalize (if (Pl.readHigh l).1 ≠ 0 then [] else Pl.linesOf (Pl.tokens l)) = P at *
  generalize Pl.readHigh l = q at *
  obtain ⟨en, pl, r⟩ := q
  simp only at hP hRd ⊢
  unfold strV at hP ⊢
  have HP := hide hP
  clear hP
  go_enter Tryz.func38, Tryz.ntmps38
  go_wp2_with fail
  refine hRd.mono ?_
  rintro e w1 ⟨vi, vn, vo, vx, vy, rfl, hra, hb1⟩
  obtain ⟨ai, ni, ci, rfl⟩ := hra.si
  obtain ⟨an, nn, cn, rfl⟩ := hra.sn
  obtain ⟨ao, no, co, rfl⟩ := hra.so
  obtain ⟨ax, nx, cx, rfl⟩ := hra.sx
  obtain ⟨ay, ny, cy, rfl⟩ := hra.sy
  clear hRd hra
  have HB := hide (hb1.alloc hb1.size (.cells #[.slice ai ni ci, .slice an nn cn, .slice ao no co, .slice ax nx cx, .slice ay ny cy] 104))
  have HB1 := hide hb1
  clear hb1
  go_wp2_with fail
  refine (unhide HP _).mono ?_
  rintro e w2 ⟨rfl, hb2⟩
  have HH : Hid (Below w.heap.size w w2) := by first | exact (unhide HB).trans (hb2.mono (unhide HB).size) | exact (unhide HB1).trans (hb2.mono (unhide HB1).size)
  clear HP hb2
  go_wp2_with fail
  go_ret2
  exact ⟨rfl, HH.out⟩
theorem RunHigh_all (l : List UInt8) (home : List Int) (vh : Value) (w : World) (hlm : l.length ≤ maxLen) (hh : IntsAt w vh home) :
    Calls Tryz.prog 25 #[.string ⟨l.toArray⟩, vh] w fun e w' => ∃ v, e = .returned (.tuple #[v, .int .i64 (Pl.runHigh l home).1]) ∧ IntsOwn w.heap.size w' v (Pl.runHigh l home).2 ∧ Below w.heap.size w w' :=
  RunHigh_any l home vh w hlm hh (fun _ => Pl.text_bands l)

end Go.Proofs.YtfaljekgpnbmiaaGreat

/-
  Contracts of the statement's own mark; where held lists lie.
-/
namespace Go.Proofs.YtfaljekgpnbmiaaGreat
open Go.RowKit

set_option maxHeartbeats 400000 in
theorem mark_law (b : Nat) (N : Nat) (v1 v2 v3 : Value) (w : World) (hb : w.heap[b]? = some (.cells #[.int .i64 N, v1, v2, v3] 28 (0, 0))) (hN : N ≤ 1000) :
    Calls Tryz.prog 78 #[.pointer (some ⟨b, 0, none⟩)] w fun e w' => e = .returned (.int .i64 (1099511627783 + (N + 1 : Int))) ∧ w' = w.setCell ⟨b, 0, none⟩ (.int .i64 (N + 1 : Int)) := by
  have c0 : w.cell? ⟨b, 0, none⟩ = some (.int .i64 N) := by rw [cellsOf hb]; rfl
  have f0 : w.frozen? ⟨b, 0, none⟩ = false := freeOf hb 0
  have c0' : (w.setCell ⟨b, 0, none⟩ (.int .i64 (N + 1 : Int))).cell? ⟨b, 0, none⟩ = some (.int .i64 (N + 1 : Int)) := by
    rw [cellsOf (heap_setCell_same w b 0 _ _ _ hb)]; rfl
  have f0' : (w.setCell ⟨b, 0, none⟩ (.int .i64 (N + 1 : Int))).frozen? ⟨b, 0, none⟩ = false := freeOf (heap_setCell_same w b 0 _ _ _ hb) 0
  go_enter Tryz.func78, Tryz.ntmps78
  go_wp2
  go_ret
  exact ⟨rfl, rfl⟩
end Go.Proofs.YtfaljekgpnbmiaaGreat
