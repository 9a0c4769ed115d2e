/- Joined: PlainSize Print2 Law4 Law5 Law6. -/
import Derived.Test.YtbbdkgfdeghdfaaGreatJ22
/-
  Of what is read: no table has more than six bands; a right text has an out.
-/
namespace Go.Proofs.YtbbdkgfdeghdfaaGreat.Pl

def Bd (r : RdM) : Prop := ∀ n ∈ r.nodes, n.bands.length ≤ 6
def Pres (f : RdM → Option Int × RdM) : Prop := ∀ r, Bd r → Bd (f r).2
theorem Bd.skip {r : RdM} (h : Bd r) : Bd r.skip := by unfold Bd at *; rw [(skip_same r).1]; exact h
theorem Bd.addNode {r : RdM} (h : Bd r) (n : NodeM) (hn : n.bands.length ≤ 6) : Bd (r.addNode n) := by
  intro m hm
  rcases List.mem_append.1 hm with hm | hm
  · exact h m hm
  · rw [List.mem_singleton] at hm; subst hm; exact hn
theorem Bd.addEnt {r : RdM} (h : Bd r) (t : List UInt8) (k n : Int) : Bd (r.addEnt t k n) := h
theorem Bd.addOut {r : RdM} (h : Bd r) (n : Int) : Bd (r.addOut n) := h
theorem Bd.addIn {r : RdM} (h : Bd r) (p : Int × Int) : Bd (r.addIn p) := h
theorem pres_of {f : RdM → Option Int × RdM} (hf : Pres f) {r r1 : RdM} {o : Option Int} (h : Bd r) (e : f r = (o, r1)) : Bd r1 := by have := hf r h; rw [e] at this; exact this

section
variable {f g : RdM → Option Int × RdM}
theorem oneR_bd (hf : Pres f) (mk : Int → NodeM) (hm : ∀ a, (mk a).bands.length ≤ 6) : Pres (oneR f mk) := by
  intro r h
  unfold oneR
  split
  · rename_i e; exact pres_of hf h e
  · rename_i e; exact (pres_of hf h e).addNode _ (hm _)
theorem pairR_bd (hf : Pres f) (op : Int) : Pres (pairR f op) := by
  intro r h
  unfold pairR
  split
  · rename_i e; exact pres_of hf h e
  · rename_i e; exact oneR_bd hf _ (fun _ => by simp) _ (pres_of hf h e)
theorem productR_bd (hf : Pres f) : Pres (productR f) := by
  intro r h
  unfold productR
  split
  · exact h
  · exact oneR_bd hf _ (fun _ => by simp) _ h.skip
theorem choiceR_bd (hg : Pres g) (hf : Pres f) : Pres (choiceR g f) := by
  intro r h
  unfold choiceR
  split
  · rename_i e; exact pres_of hg h e
  · rename_i e
    have h1 := pres_of hg h e
    split
    · rename_i e; exact pres_of hf h1 e
    · rename_i e; exact oneR_bd hf _ (fun _ => by simp) _ (pres_of hf h1 e)
theorem quotientR_bd (hf : Pres f) : Pres (quotientR f) := by
  intro r h
  unfold quotientR
  split
  · exact h
  · split
    · rename_i e; exact pres_of hf h.skip e
    · rename_i e
      have h1 := pres_of hf h.skip e
      split
      · exact h1
      · exact h1.skip.addNode _ (by simp)
theorem bandR_nodes (least : Int) (r : RdM) : (bandR least r).2.nodes = r.nodes := by
  unfold bandR
  split
  · rfl
  · split
    · exact (skip_same r).1
    · exact ((skip_same _).1).trans (skip_same r).1
theorem bandsR_nodes (n : Nat) : ∀ (least : Int) (acc : List (Int × Int)) (r : RdM), (bandsR n least acc r).2.nodes = r.nodes ∧ ∀ l, (bandsR n least acc r).1 = some l → l.length = acc.length + n := by
  induction n with
  | zero => intro least acc r; exact ⟨rfl, fun l h => by cases h; rfl⟩
  | succ n ih =>
    intro least acc r
    have hb := bandR_nodes least r
    unfold bandsR
    split
    · rename_i e; rw [e] at hb; exact ⟨hb, fun l h => by cases h⟩
    · rename_i p r1 e
      rw [e] at hb
      have h2 := ih (p.1 + 1) (acc ++ [p]) r1
      exact ⟨h2.1.trans hb, fun l h => by have := h2.2 l h; simp at this; omega⟩
theorem tableR_bd (hf : Pres f) : Pres (tableR f) := by
  intro r h
  unfold tableR
  split
  · rename_i e; exact pres_of hf h e
  · rename_i e
    have h1 := pres_of hf h e
    split
    · exact h1
    · rename_i n hn
      have hn6 := num_some hn
      split
      · rename_i r2 e2
        have h3 : ∀ r1 : RdM, Bd r1 → bandsR n.toNat (-1000000000) [] r1.skip = (none, r2) → Bd r2 := fun r1 hr e => by
          have hb := bandsR_nodes n.toNat (-1000000000) [] r1.skip
          rw [e] at hb
          unfold Bd; rw [hb.1]; exact hr.skip
        exact h3 _ h1 e2
      · rename_i l r2 e2
        have h3 : ∀ r1 : RdM, Bd r1 → bandsR n.toNat (-1000000000) [] r1.skip = (some l, r2) → Bd r2 ∧ l.length ≤ 6 := fun r1 hr e => by
          have hb := bandsR_nodes n.toNat (-1000000000) [] r1.skip
          rw [e] at hb
          refine ⟨by unfold Bd; rw [hb.1]; exact hr.skip, ?_⟩
          have := hb.2 l rfl
          simp at this; omega
        have h4 := h3 _ h1 e2
        exact h4.1.addNode _ h4.2
theorem knownStep_bd (k : Int) : Pres (RdM.knownStep k) := by
  intro r h
  unfold RdM.knownStep
  split
  · exact h
  · exact h.skip
theorem leaf_bd : Pres RdM.leaf := by
  intro r h
  unfold RdM.leaf RdM.constant
  split
  · rename_i e
    split at e
    · cases e
    · cases e; exact h.skip.addNode _ (by simp)
  · exact knownStep_bd 0 r h
theorem exprR_bd (hg : Pres g) (hf : Pres f) : Pres (exprR g f) := by
  intro r h
  unfold exprR
  split
  · exact pairR_bd hf _ _ h.skip
  split
  · exact pairR_bd hf _ _ h.skip
  split
  · exact pairR_bd hf _ _ h.skip
  split
  · exact pairR_bd hf _ _ h.skip
  split
  · exact productR_bd hf _ h.skip
  split
  · exact choiceR_bd hg hf _ h.skip
  split
  · exact quotientR_bd hf _ h.skip
  split
  · exact tableR_bd hf _ h.skip
  · exact leaf_bd r h
theorem condR_bd (hg : Pres g) (hf : Pres f) : Pres (condR g f) := by
  intro r h
  unfold condR
  split
  · exact pairR_bd hf _ _ h.skip
  split
  · exact pairR_bd hf _ _ h.skip
  split
  · exact pairR_bd hf _ _ h.skip
  split
  · exact pairR_bd hg _ _ h.skip
  split
  · exact pairR_bd hg _ _ h.skip
  split
  · exact oneR_bd hg _ (fun _ => by simp) _ h.skip
  · exact h
end
theorem read_bd (m : Nat) : ∀ tag, Pres (read m tag) := by
  induction m with
  | zero =>
    intro tag
    cases tag
    · exact leaf_bd
    · exact fun r h => h
  | succ m ih =>
    intro tag
    cases tag
    · exact exprR_bd (ih true) (ih false)
    · exact condR_bd (ih true) (ih false)
theorem inputR_bd (r : RdM) (h : Bd r) : Bd (inputR r).2 := by
  unfold inputR
  split
  · exact h
  · split
    · exact h.skip
    · split
      · exact h.skip.skip
      · exact ((h.skip.skip.skip.addIn _).addNode _ (by simp)).addEnt _ _ _
theorem inputsR_bd (n : Nat) : ∀ (any : Bool) (r : RdM), Bd r → Bd (inputsR n any r).2 := by
  induction n with
  | zero => intro _ r h; exact h
  | succ n ih =>
    intro any r h
    rw [inputsR]
    split
    · have hk := inputR_bd r.skip h.skip
      split
      · rename_i e; rw [e] at hk; exact hk
      · rename_i e; rw [e] at hk; exact ih _ _ hk
    · exact h
theorem namedR_bd (r : RdM) (h : Bd r) : Bd (namedR r).2 := by
  unfold namedR
  split
  · exact h
  · have hk := read_bd 600 false r.skip h.skip
    split
    · rename_i e; rw [e] at hk; exact hk
    · rename_i e; rw [e] at hk; exact hk
theorem letsR_bd (n : Nat) : ∀ (r : RdM), Bd r → Bd (letsR n r).2 := by
  induction n with
  | zero => intro r h; exact h
  | succ n ih =>
    intro r h
    rw [letsR]
    split
    · have hk := namedR_bd r.skip h.skip
      split
      · rename_i e; rw [e] at hk; exact hk
      · rename_i e; rw [e] at hk; exact ih _ (hk.addEnt _ _ _)
    · exact h
theorem outsR_bd (n : Nat) : ∀ (any : Bool) (r : RdM), Bd r → Bd (outsR n any r).2 := by
  induction n with
  | zero => intro _ r h; exact h
  | succ n ih =>
    intro any r h
    rw [outsR]
    split
    · exact h
    · split
      · have hk := namedR_bd r.skip h.skip
        split
        · rename_i e; rw [e] at hk; exact hk
        · rename_i e; rw [e] at hk; exact ih _ _ ((hk.addEnt _ _ _).addOut _)
      · exact h
theorem textR_bd (r : RdM) (h : Bd r) : Bd (textR r).2 := by
  unfold textR
  have h1 := inputsR_bd 4 false r h
  split
  · rename_i e; rw [e] at h1; exact h1
  · rename_i r1 e
    rw [e] at h1
    have h2 := letsR_bd 16 r1 h1
    split
    · rename_i e; rw [e] at h2; exact h2
    · rename_i e; rw [e] at h2; exact outsR_bd 4 false _ h2
theorem start_bd (l : List UInt8) : Bd (startR l) := by intro n hn; simp [startR] at hn
theorem text_bands (l : List UInt8) : ∀ n ∈ (textR (startR l)).2.nodes, n.bands.length ≤ 1000 := fun n hn => by have := textR_bd _ (start_bd l) n hn; omega
end Go.Proofs.YtbbdkgfdeghdfaaGreat.Pl

/-
  Contracts of CheckHigh, CheckLow, statute.printed, PrintHigh, PrintLow; RunHigh and RunLow with nothing asked of the text.
-/
namespace Go.Proofs.YtbbdkgfdeghdfaaGreat
open Go.RowKit

theorem tokens_some (f : Pl.RdM → Bool × Pl.RdM) (l : List UInt8) (hf : ∀ r, r.toks = [] → (f r).1 = false) (h : (Pl.readWith (f (Pl.startR l)) l).1 = 0) : Pl.tokens l ≠ [] ∧ l.length ≤ 6000 := by
  have hl := (Pl.readWith_zero _ _ h).1
  refine ⟨?_, hl⟩
  intro e
  have := hf (Pl.startR l) e
  unfold Pl.readWith Pl.resultR at h
  rw [if_neg (by omega), this] at h
  simp at h
theorem inputs_empty (r : Pl.RdM) (h : r.toks = []) : (Pl.inputsR 4 false r).1 = false := by
  have hp : r.peek = [] := by unfold Pl.RdM.peek; rw [if_pos (by simp [h])]
  rw [Pl.inputsR, hp, if_neg (by decide)]
theorem text_empty (r : Pl.RdM) (h : r.toks = []) : (Pl.textR r).1 = false := by
  have := inputs_empty r h
  unfold Pl.textR
  split
  · rfl
  · rename_i e; rw [e] at this; cases this
set_option maxRecDepth 100000 in
set_option maxHeartbeats 2000000 in
theorem sprinted_any (l : List UInt8) (en : Int) (w : World) (h : en = 0 → Pl.tokens l ≠ [] ∧ l.length ≤ 6000) :
    Calls Tryz.prog 42 #[.string ⟨l.toArray⟩, .int .i64 en] w fun e w' => e = .returned (.tuple #[strV (if en ≠ 0 then [] else Pl.linesOf (Pl.tokens l)), .int .i64 en]) ∧ Below w.heap.size w w' := by
  by_cases h0 : en = 0
  · subst h0
    obtain ⟨h1, h2⟩ := h rfl
    rw [if_neg (by simp)]
    have hS := Split_any l w h2
    have hg : ∀ t ∈ Pl.tokens l, t ≠ [] := fun t ht => (Pl.tokens_good l t ht).1
    have hw : Pl.wide (Pl.tokens l) ≤ 10000 := by have := Pl.scan_wide l [] false; unfold Pl.tokens; simp at this; omega
    have hL := hide (fun w1 v (h : StrsOwn w.heap.size w1 v (Pl.tokens l)) => Lines_any (Pl.tokens l) _ v w1 h hg h1 hw)
    generalize Pl.linesOf (Pl.tokens l) = P at *
    generalize Pl.tokens l = K at *
    clear hg hw h h1
    unfold strV at hL ⊢
    go_enter Tryz.func42, Tryz.ntmps42
    go_wp2_with fail
    refine hS.mono ?_
    rintro e w1 ⟨v, rfl, hown, hb1⟩
    have hL1 := hide (unhide hL w1 v hown)
    obtain ⟨ad, cap, rfl⟩ := slice_shape hown
    clear hown hL hS
    go_wp2_with fail
    refine (unhide hL1).mono ?_
    rintro e w2 ⟨rfl, hb2⟩
    have HH := hide (hb1.trans (hb2.mono hb1.size))
    clear hL1 hb1 hb2
    go_wp2_with fail
    go_ret2
    exact ⟨rfl, unhide HH⟩
  · have hne : (en != 0) = true := by simpa using h0
    rw [if_pos h0]
    clear h h0
    go_enter Tryz.func42, Tryz.ntmps42
    go_wp2_with fail
    go_ret2
    exact ⟨rfl, Below.refl _ _⟩

set_option maxRecDepth 100000 in
set_option maxHeartbeats 2000000 in
theorem CheckHigh_any (l : List UInt8) (w : World) (hlm : l.length ≤ maxLen) :
    Calls Tryz.prog 14 #[.string ⟨l.toArray⟩] w fun e w' => e = .returned (.tuple #[.int .i64 (Pl.readHigh l).1, .int .i64 (Pl.readHigh l).2.1]) ∧ Below w.heap.size w w' := by
  have hRd := ReadHigh_any l w hlm (fun _ => Pl.text_bands l)
  generalize Pl.readHigh l = q at *
  obtain ⟨en, pl, r⟩ := q
  go_enter Tryz.func14, Tryz.ntmps14
  go_wp2_with fail
  refine hRd.mono ?_
  rintro e w1 ⟨vi, vn, vo, rfl, hra, hb1⟩
  obtain ⟨ai, ni, ci, rfl⟩ := hra.si
  obtain ⟨an, nn, cn, rfl⟩ := hra.sn
  obtain ⟨ao, no, co, rfl⟩ := hra.so
  have HB := hide hb1
  have HB2 := hide (hb1.alloc hb1.size (.cells #[.slice ai ni ci, .slice an nn cn, .slice ao no co] 78))
  clear hRd hra hb1
  go_wp2_with fail
  go_ret2
  exact ⟨rfl, by first | exact unhide HB | exact unhide HB2⟩
set_option maxRecDepth 100000 in
set_option maxHeartbeats 2000000 in
theorem PrintHigh_any (l : List UInt8) (w : World) (hlm : l.length ≤ maxLen) :
    Calls Tryz.prog 17 #[.string ⟨l.toArray⟩] w fun e w' => e = .returned (.tuple #[strV (Pl.printHigh l).1, .int .i64 (Pl.printHigh l).2]) ∧ Below w.heap.size w w' := by
  have hRd := ReadHigh_any l w hlm (fun _ => Pl.text_bands l)
  have hP := fun w1 => sprinted_any l (Pl.readHigh l).1 w1 (fun h0 => tokens_some Pl.textR l text_empty h0)
  have e1 : Pl.printHigh l = (if (Pl.readHigh l).1 ≠ 0 then [] else Pl.linesOf (Pl.tokens l), (Pl.readHigh l).1) := by
    unfold Pl.printHigh Pl.printWith
    by_cases h0 : (Pl.readHigh l).1 = 0
    · rw [if_neg (by simp [h0]), if_neg (by simp [h0]), h0]
    · rw [if_pos h0, if_pos h0]
  rw [e1]
  clear e1
  simp only
  generalize (if (Pl.readHigh l).1 ≠ 0 then [] else Pl.linesOf (Pl.tokens l)) = P at *
  generalize Pl.readHigh l = q at *
  obtain ⟨en, pl, r⟩ := q
  simp only at hP hRd ⊢
  unfold strV at hP ⊢
  have HP := hide hP
  clear hP
  go_enter Tryz.func17, Tryz.ntmps17
  go_wp2_with fail
  refine hRd.mono ?_
  rintro e w1 ⟨vi, vn, vo, rfl, hra, hb1⟩
  obtain ⟨ai, ni, ci, rfl⟩ := hra.si
  obtain ⟨an, nn, cn, rfl⟩ := hra.sn
  obtain ⟨ao, no, co, rfl⟩ := hra.so
  clear hRd hra
  have HB := hide (hb1.alloc hb1.size (.cells #[.slice ai ni ci, .slice an nn cn, .slice ao no co] 78))
  have HB1 := hide hb1
  clear hb1
  go_wp2_with fail
  refine (unhide HP _).mono ?_
  rintro e w2 ⟨rfl, hb2⟩
  have HH : Hid (Below w.heap.size w w2) := by first | exact (unhide HB).trans (hb2.mono (unhide HB).size) | exact (unhide HB1).trans (hb2.mono (unhide HB1).size)
  clear HP hb2
  go_wp2_with fail
  go_ret2
  exact ⟨rfl, HH.out⟩
theorem RunHigh_all (l : List UInt8) (home : List Int) (vh : Value) (w : World) (hlm : l.length ≤ maxLen) (hh : IntsAt w vh home) :
    Calls Tryz.prog 20 #[.string ⟨l.toArray⟩, vh] w fun e w' => ∃ v, e = .returned (.tuple #[v, .int .i64 (Pl.runHigh l home).1]) ∧ IntsOwn w.heap.size w' v (Pl.runHigh l home).2 ∧ Below w.heap.size w w' :=
  RunHigh_any l home vh w hlm hh (fun _ => Pl.text_bands l)

end Go.Proofs.YtbbdkgfdeghdfaaGreat

/-
  Contracts of the statement's own mark; where held lists lie.
-/
namespace Go.Proofs.YtbbdkgfdeghdfaaGreat
open Go.RowKit

set_option maxHeartbeats 400000 in
theorem mark_law (b : Nat) (N : Nat) (v1 v2 v3 : Value) (w : World) (hb : w.heap[b]? = some (.cells #[.int .i64 N, v1, v2, v3] 28 (0, 0))) (hN : N ≤ 1000) :
    Calls Tryz.prog 47 #[.pointer (some ⟨b, 0, none⟩)] w fun e w' => e = .returned (.int .i64 (1099511627783 + (N + 1 : Int))) ∧ w' = w.setCell ⟨b, 0, none⟩ (.int .i64 (N + 1 : Int)) := by
  have c0 : w.cell? ⟨b, 0, none⟩ = some (.int .i64 N) := by rw [cellsOf hb]; rfl
  have f0 : w.frozen? ⟨b, 0, none⟩ = false := freeOf hb 0
  have c0' : (w.setCell ⟨b, 0, none⟩ (.int .i64 (N + 1 : Int))).cell? ⟨b, 0, none⟩ = some (.int .i64 (N + 1 : Int)) := by
    rw [cellsOf (heap_setCell_same w b 0 _ _ _ hb)]; rfl
  have f0' : (w.setCell ⟨b, 0, none⟩ (.int .i64 (N + 1 : Int))).frozen? ⟨b, 0, none⟩ = false := freeOf (heap_setCell_same w b 0 _ _ _ hb) 0
  go_enter Tryz.func47, Tryz.ntmps47
  go_wp2
  go_ret
  exact ⟨rfl, rfl⟩
end Go.Proofs.YtbbdkgfdeghdfaaGreat

/-
  An append writes in place, or lays a new block and leaves all old ones as they were.
-/
namespace Go.Proofs.YtbbdkgfdeghdfaaGreat
open Go.RowKit

section
variable {P : Program} (w : World)
theorem run_append_two (t ty : TypeId) (base : Nat) (e : TypeId) (i : TypeInfo) (z : Value) (size bytes : Nat) (ht : P.underlying t = some (.slice e)) (hi : P.info? e = some i) (hz : i.zero = some z)
    (hsize : i.size = size) (hby : i.bytes = bytes) (hzs : z.cells.size = size) (hsz : 0 < size)
    (v : Value) (n : Nat) (xs : List Value) (hown : w.ownsRow base e size v n xs)
    (ad : Addr) (m c : Nat) (news : List Value) (hl : news.length = m * size) (hnews : ∀ j u, news[j]? = some u → w.cell? (ad.add j) = some u) (h1 : ∀ u ∈ news, u.oneCell' = true)
    (hm : 0 < m) (h63 : n + m ≤ maxLen) (hbytes : (n + m) * bytes ≤ 140737488355328) (hbase : base ≤ w.heap.size) :
    ∃ g cap w', (Builtin.append_ #[t, t] ty #[v, .slice (some ad) m c]).run P w = .ok (.slice (some ⟨g, 0, none⟩) (n + m) cap) w' ∧
      w'.ownsRow base e size (.slice (some ⟨g, 0, none⟩) (n + m) cap) (n + m) (xs ++ news) ∧ ((v = .slice (some ⟨g, 0, none⟩) n cap ∧ w.grownBy w' (some g)) ∨ (g = w.heap.size ∧ w.grownBy w' none)) ∧ g < w'.heap.size := by
  obtain ⟨g, cap, w', hr, h2, h3, h4, h5⟩ := run_append_lies (P := P) w t ty base e i z size bytes ht hi hz hsize hby hzs hsz v n xs hown ad m c news hl hnews h1 hm h63 hbytes hbase _ rfl
  refine ⟨g, cap, w', hr, h2, ?_, h5⟩
  subst hsize
  subst hby
  have hown0 := hown
  rcases hown.2 with ⟨rfl, rfl⟩ | ⟨g0, cap0, cur, rfl, hbg, hg, hnc, hcm, hcs, htake⟩
  · right
    rcases h4 with h4 | h4
    · simp [Value.ownBlock] at h4
    · exact ⟨h4, h3⟩
  · by_cases hroom : n + m ≤ cap0
    · have hfit : n * i.size + news.length ≤ cur.size := by rw [hl, hcs, ← Nat.add_mul]; exact Nat.mul_le_mul_right _ hroom
      have hr2 := run_append_room (P := P) w t ty e i ht hi g0 n cap0 cur hg ad m c news hl hnews h1 hroom hfit
      rw [hr2] at hr
      injection hr with hr _
      injection hr with hr _ hc
      injection hr with hr
      injection hr with hr _ _
      subst hr
      subst hc
      exact .inl ⟨rfl, h3⟩
    · right
      have holds : ∀ j u, xs[j]? = some u → w.cell? ((⟨g0, 0, none⟩ : Addr).add j) = some u := hown0.cells (g := g0) rfl
      have hr2 := run_append_grow (P := P) w t ty e i z ht hi hz ⟨g0, 0, none⟩ n cap0 xs hown0.1 holds ad m c news hl hnews (by omega) (by simp only [maxLen] at h63; omega) (growslice_fits (by simp only [maxLen] at h63; omega) hbytes)
      rw [hr2] at hr
      injection hr with hr hw
      have e1 : w.heap.size = g := by injection hr with hr _ _; injection hr with hr; injection hr
      subst e1
      subst hw
      exact ⟨rfl, rfl, rfl, rfl, by simp, fun k hk _ => Below.heap_alloc w.drew _ k hk⟩
theorem wpList_append_two {ops : Array Oper} {rest : List Oper} {o : Oper} {a : Act} {Q : Exit → Act → World → Prop} (hgd : o.guard = none) (s x : Operand) (t : TypeId)
    (ho : o.op = .call { callee := .builtin .append, args := #[s, x], argTypes := #[t, t] })
    (base : Nat) (e : TypeId) (i : TypeInfo) (z : Value) (size bytes : Nat) (ht : P.underlying t = some (.slice e)) (hi : P.info? e = some i) (hz : i.zero = some z)
    (hsize : i.size = size) (hby : i.bytes = bytes) (hzs : z.cells.size = size) (hsz : 0 < size)
    (v : Value) (n : Nat) (xs : List Value) (hs : a.eval s = v) (hown : w.ownsRow base e size v n xs)
    (ad : Addr) (m c : Nat) (news : List Value) (hx : a.eval x = .slice (some ad) m c) (hl : news.length = m * size) (hnews : ∀ j u, news[j]? = some u → w.cell? (ad.add j) = some u) (h1 : ∀ u ∈ news, u.oneCell' = true)
    (hm : 0 < m) (h63 : n + m ≤ maxLen) (hbytes : (n + m) * bytes ≤ 140737488355328) (hbase : base ≤ w.heap.size)
    (h : ∀ g cap w', w'.ownsRow base e size (.slice (some ⟨g, 0, none⟩) (n + m) cap) (n + m) (xs ++ news) → ((v = .slice (some ⟨g, 0, none⟩) n cap ∧ w.grownBy w' (some g)) ∨ (g = w.heap.size ∧ w.grownBy w' none)) → g < w'.heap.size → wpList P ops Q rest (a.put o.dst (.slice (some ⟨g, 0, none⟩) (n + m) cap)) w') : wpList P ops Q (o :: rest) a w := by
  refine wpList_plain hgd fun _ hK => ?_
  obtain ⟨g, cap, w', hr, h2, h3, h4⟩ := run_append_two (P := P) w t o.type base e i z size bytes ht hi hz hsize hby hzs hsz v n xs hown ad m c news hl hnews h1 hm h63 hbytes hbase
  unfold Oper.wp execOp
  simp only [ho, resolve, invoke, builtin, Sem.run_bind, Sem.run_pure, Result.andThen_ok, List.map_toArray, List.map_cons, List.map_nil, hs, hx, hr]
  exact hK _ _ (h g cap w' h2 h3 h4)
end
end Go.Proofs.YtbbdkgfdeghdfaaGreat

/-
  Where held lists lie, and what keeps them.
-/
namespace Go.Proofs.YtbbdkgfdeghdfaaGreat
open Go.RowKit

/-- The rows of ints but that in block g are as they were. -/
def KeepX (g : Option Nat) (w w' : World) : Prop := ∀ (k : Nat) (cur : Array Value), w.heap[k]? = some (Obj.cells cur 3 (0, 0)) → g ≠ some k → w'.heap[k]? = w.heap[k]?
theorem KeepX.trans {g : Option Nat} {w w' w2 : World} (h : KeepX g w w') (h2 : KeepX g w' w2) : KeepX g w w2 := fun k cur hk hne => by
  have e1 := h k cur hk hne
  rw [h2 k cur (e1.trans hk) hne, e1]
theorem KeepX.of {g : Option Nat} {w w' : World} (h : KeepT 3 w w') : KeepX g w w' := fun k cur hk _ => h k cur hk
theorem KeepX.setCell (w : World) (g o : Nat) (u : Value) : KeepX (some g) w (w.setCell ⟨g, o, none⟩ u) := fun k _ _ hne => Below.heap_setCell _ _ _ _ (fun h => hne (by rw [h]))
theorem KeepX.grown {w w' : World} {g : Option Nat} (h : w.grownBy w' g) : KeepX g w w' := fun k _ hk hne => h.block k (lt_of_block hk) (fun h => hne h.symm)
theorem ints_keepX {B : Nat} {w w' : World} {v : Value} {l : List Int} {g : Option Nat} (h : IntsOwn B w v l) (hg : ∀ k, v.ownBlock = some k → g ≠ some k) (hk : KeepX g w w') : IntsOwn B w' v l := by
  refine ⟨h.1, ?_⟩
  rcases h.2 with hn | ⟨k, cap, cur, rfl, hb, hgg, rest⟩
  · exact .inl hn
  · exact .inr ⟨k, cap, cur, rfl, hb, by rw [hk k cur hgg (hg k rfl)]; exact hgg, rest⟩
theorem ints_write {B : Nat} {w : World} {g n cap : Nat} {l : List Int} (h : IntsOwn B w (.slice (some ⟨g, 0, none⟩) n cap) l) (k : Nat) (_ : k < l.length) (x : Int) : IntsOwn B (w.setCell ⟨g, k, none⟩ (.int .i64 x)) (.slice (some ⟨g, 0, none⟩) n cap) (l.set k x) := by
  refine ⟨by have := h.1; simp at this ⊢, ?_⟩
  rcases h.2 with ⟨hn, _⟩ | ⟨g', cap', cur, he, hb, hgg, hle, hm, hcs, htk⟩
  · cases hn
  · injection he with e1 e2 e3
    injection e1 with e1
    injection e1 with e1 _ _
    subst e1
    subst e3
    refine .inr ⟨g, cap, _, by rw [List.length_set, e2], hb, heap_setCell_same w g k _ _ _ hgg, by rw [List.length_set]; exact hle, hm, by simpa using hcs, ?_⟩
    rw [List.length_set, List.map_set, ← htk]
    simp [List.take_set, intV]
def entCellsH (ents : List (Value × Int)) : List Value := (ents.map fun e => [e.1, intV e.2]).flatten
structure HeldAt (B : Nat) (w : World) (b N : Nat) (ents : List (Value × Int)) (v : Value) : Prop where
  base : B ≤ b
  blk : w.heap[b]? = some (.cells #[.int .i64 N, v, .slice none 0 0, .slice none 0 0] 28 (0, 0))
  own : w.ownsRow B 53 2 v ents.length (entCellsH ents)
theorem HeldAt.keep {B : Nat} {w w' : World} {b N : Nat} {ents : List (Value × Int)} {v : Value} (h : HeldAt B w b N ents v) (h1 : KeepT 28 w w') (h2 : KeepT 53 w w') : HeldAt B w' b N ents v :=
  ⟨h.base, by rw [h1 b _ h.blk]; exact h.blk, own_keep h.own h2⟩
theorem HeldAt.mark {B : Nat} {w : World} {b N : Nat} {ents : List (Value × Int)} {v : Value} (h : HeldAt B w b N ents v) : HeldAt B (w.setCell ⟨b, 0, none⟩ (.int .i64 (N + 1 : Int))) b (N + 1) ents v :=
  ⟨h.base, by rw [heap_setCell_same w b 0 _ _ _ h.blk]; rfl, own_keep h.own (.setCell h.blk (by decide) _ _)⟩
/-- A held list reads as its mark. -/
def EntOk (w : World) (e : Value × Int) : Prop := ∃ k, IntsOwn 0 w e.1 (List.replicate k e.2)
theorem EntOk.keep {w w' : World} {e : Value × Int} {g : Option Nat} (h : EntOk w e) (hg : ∀ k, e.1.ownBlock = some k → g ≠ some k) (hk : KeepX g w w') : EntOk w' e := by
  obtain ⟨k, h⟩ := h; exact ⟨k, ints_keepX h hg hk⟩
theorem EntOk.keepT {w w' : World} {e : Value × Int} (h : EntOk w e) (hk : KeepT 3 w w') : EntOk w' e := by
  obtain ⟨k, h⟩ := h; exact ⟨k, own_keep h hk⟩
theorem EntOk.lt {w : World} {e : Value × Int} (h : EntOk w e) {k : Nat} (hk : e.1.ownBlock = some k) : k < w.heap.size := by
  obtain ⟨m, h⟩ := h
  rcases h.2 with ⟨hn, _⟩ | ⟨g, cap, cur, he, hb, hgg, _⟩
  · rw [hn] at hk; simp [Value.ownBlock] at hk
  · rw [he] at hk; simp [Value.ownBlock] at hk; subst hk; exact lt_of_block hgg
theorem ent_of_g {B : Nat} {w : World} {k glen gcap : Nat} {n : Int} (h : IntsOwn B w (.slice (some ⟨k, 0, none⟩) glen gcap) (List.replicate glen n)) (m : Nat) (hm : m ≤ glen) : EntOk w (.slice (some ⟨k, 0, none⟩) m gcap, n) := by
  refine ⟨m, by simp, ?_⟩
  rcases h.2 with ⟨hn, _⟩ | ⟨g', cap', cur, he, hb, hgg, hle, hmx, hcs, htk⟩
  · cases hn
  · injection he with e1 e2 e3
    injection e1 with e1
    injection e1 with e1 _ _
    subst e1
    subst e3
    refine .inr ⟨k, gcap, cur, by simp, Nat.zero_le _, hgg, by simp at hle ⊢; omega, hmx, hcs, ?_⟩
    have := congrArg (List.take m) htk
    simp only [List.take_take, List.length_replicate, Nat.mul_one] at this ⊢
    rw [Nat.min_eq_left hm] at this
    rw [this]
    simp [Nat.min_eq_left hm]
/-- A held list, while the list g is being written on: it is a front of g, or it lies elsewhere. -/
def EntG (w : World) (gad : Option Addr) (glen gcap : Nat) (n : Int) (e : Value × Int) : Prop :=
  (e.2 = n ∧ ∃ k m, gad = some ⟨k, 0, none⟩ ∧ e.1 = .slice (some ⟨k, 0, none⟩) m gcap ∧ m ≤ glen) ∨ (EntOk w e ∧ ∀ a, gad = some a → e.1.ownBlock ≠ some a.block)
theorem EntG.ok {B : Nat} {w : World} {gad : Option Addr} {glen gcap : Nat} {n : Int} {e : Value × Int} (h : EntG w gad glen gcap n e) (hg : IntsOwn B w (.slice gad glen gcap) (List.replicate glen n)) : EntOk w e := by
  rcases h with ⟨rfl, k, m, rfl, he, hm⟩ | ⟨h, _⟩
  · obtain ⟨e1, e2⟩ := e
    simp only at he
    subst he
    exact ent_of_g hg m hm
  · exact h
end Go.Proofs.YtbbdkgfdeghdfaaGreat
