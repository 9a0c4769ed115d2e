/- Joined: Print2 Eq13 Law3 Law4 Law5. -/
import Derived.Test.YtbbdkgfdeghdfaaGreatL41
/-
  Contracts of CheckHigh, CheckLow, statute.printed, PrintHigh, PrintLow; RunHigh and RunLow with nothing asked of the text.
-/
namespace Go.Proofs.YtbbdkgfdeghdfaaGreat
open Go.RowKit

theorem tokens_some (f : Pl.RdM → Bool × Pl.RdM) (l : List UInt8) (hf : ∀ r, r.toks = [] → (f r).1 = false) (h : (Pl.readWith (f (Pl.startR l)) l).1 = 0) : Pl.tokens l ≠ [] ∧ l.length ≤ 6000 := by
  have hl := (Pl.readWith_zero _ _ h).1
  refine ⟨?_, hl⟩
  intro e
  have := hf (Pl.startR l) e
  unfold Pl.readWith Pl.resultR at h
  rw [if_neg (by omega), this] at h
  simp at h
theorem inputs_empty (r : Pl.RdM) (h : r.toks = []) : (Pl.inputsR 4 false r).1 = false := by
  have hp : r.peek = [] := by unfold Pl.RdM.peek; rw [if_pos (by simp [h])]
  rw [Pl.inputsR, hp, if_neg (by decide)]
theorem low_empty (r : Pl.RdM) (h : r.toks = []) : (Pl.lowR r).1 = false := by
  have := inputs_empty r h
  unfold Pl.lowR
  split
  · rfl
  · rename_i e; rw [e] at this; cases this

set_option maxRecDepth 100000 in
set_option maxHeartbeats 2000000 in
theorem sprinted_any (l : List UInt8) (en : Int) (w : World) (h : en = 0 → Pl.tokens l ≠ [] ∧ l.length ≤ 6000) :
    Calls Tryz.prog 42 #[.string ⟨l.toArray⟩, .int .i64 en] w fun e w' => e = .returned (.tuple #[strV (if en ≠ 0 then [] else Pl.linesOf (Pl.tokens l)), .int .i64 en]) ∧ Below w.heap.size w w' := by
  by_cases h0 : en = 0
  · subst h0
    obtain ⟨h1, h2⟩ := h rfl
    rw [if_neg (by simp)]
    have hS := Split_any l w h2
    have hg : ∀ t ∈ Pl.tokens l, t ≠ [] := fun t ht => (Pl.tokens_good l t ht).1
    have hw : Pl.wide (Pl.tokens l) ≤ 10000 := by have := Pl.scan_wide l [] false; unfold Pl.tokens; simp at this; omega
    have hL := hide (fun w1 v (h : StrsOwn w.heap.size w1 v (Pl.tokens l)) => Lines_any (Pl.tokens l) _ v w1 h hg h1 hw)
    generalize Pl.linesOf (Pl.tokens l) = P at *
    generalize Pl.tokens l = K at *
    clear hg hw h h1
    unfold strV at hL ⊢
    go_enter Tryz.func42, Tryz.ntmps42
    go_wp2_with fail
    refine hS.mono ?_
    rintro e w1 ⟨v, rfl, hown, hb1⟩
    have hL1 := hide (unhide hL w1 v hown)
    obtain ⟨ad, cap, rfl⟩ := slice_shape hown
    clear hown hL hS
    go_wp2_with fail
    refine (unhide hL1).mono ?_
    rintro e w2 ⟨rfl, hb2⟩
    have HH := hide (hb1.trans (hb2.mono hb1.size))
    clear hL1 hb1 hb2
    go_wp2_with fail
    go_ret2
    exact ⟨rfl, unhide HH⟩
  · have hne : (en != 0) = true := by simpa using h0
    rw [if_pos h0]
    clear h h0
    go_enter Tryz.func42, Tryz.ntmps42
    go_wp2_with fail
    go_ret2
    exact ⟨rfl, Below.refl _ _⟩

set_option maxRecDepth 100000 in
set_option maxHeartbeats 2000000 in
theorem CheckLow_any (l : List UInt8) (w : World) (hlm : l.length ≤ maxLen) :
    Calls Tryz.prog 26 #[.string ⟨l.toArray⟩] w fun e w' => e = .returned (.tuple #[.int .i64 (Pl.readLow l).1, .int .i64 (Pl.readLow l).2.1]) ∧ Below w.heap.size w w' := by
  have hRd := ReadLow_any l w hlm (fun _ => Pl.low_bands l)
  generalize Pl.readLow l = q at *
  obtain ⟨en, pl, r⟩ := q
  go_enter Tryz.func26, Tryz.ntmps26
  go_wp2_with fail
  refine hRd.mono ?_
  rintro e w1 ⟨vi, vn, vo, rfl, hra, hb1⟩
  obtain ⟨ai, ni, ci, rfl⟩ := hra.si
  obtain ⟨an, nn, cn, rfl⟩ := hra.sn
  obtain ⟨ao, no, co, rfl⟩ := hra.so
  have HB := hide hb1
  have HB2 := hide (hb1.alloc hb1.size (.cells #[.slice ai ni ci, .slice an nn cn, .slice ao no co] 78))
  clear hRd hra hb1
  go_wp2_with fail
  go_ret2
  exact ⟨rfl, by first | exact unhide HB | exact unhide HB2⟩
set_option maxRecDepth 100000 in
set_option maxHeartbeats 2000000 in
theorem PrintLow_any (l : List UInt8) (w : World) (hlm : l.length ≤ maxLen) :
    Calls Tryz.prog 28 #[.string ⟨l.toArray⟩] w fun e w' => e = .returned (.tuple #[strV (Pl.printLow l).1, .int .i64 (Pl.printLow l).2]) ∧ Below w.heap.size w w' := by
  have hRd := ReadLow_any l w hlm (fun _ => Pl.low_bands l)
  have hP := fun w1 => sprinted_any l (Pl.readLow l).1 w1 (fun h0 => tokens_some Pl.lowR l low_empty h0)
  have e1 : Pl.printLow l = (if (Pl.readLow l).1 ≠ 0 then [] else Pl.linesOf (Pl.tokens l), (Pl.readLow l).1) := by
    unfold Pl.printLow Pl.printWith
    by_cases h0 : (Pl.readLow l).1 = 0
    · rw [if_neg (by simp [h0]), if_neg (by simp [h0]), h0]
    · rw [if_pos h0, if_pos h0]
  rw [e1]
  clear e1
  simp only
  generalize (if (Pl.readLow l).1 ≠ 0 then [] else Pl.linesOf (Pl.tokens l)) = P at *
  generalize Pl.readLow l = q at *
  obtain ⟨en, pl, r⟩ := q
  simp only at hP hRd ⊢
  unfold strV at hP ⊢
  have HP := hide hP
  clear hP
  go_enter Tryz.func28, Tryz.ntmps28
  go_wp2_with fail
  refine hRd.mono ?_
  rintro e w1 ⟨vi, vn, vo, rfl, hra, hb1⟩
  obtain ⟨ai, ni, ci, rfl⟩ := hra.si
  obtain ⟨an, nn, cn, rfl⟩ := hra.sn
  obtain ⟨ao, no, co, rfl⟩ := hra.so
  clear hRd hra
  have HB := hide (hb1.alloc hb1.size (.cells #[.slice ai ni ci, .slice an nn cn, .slice ao no co] 78))
  have HB1 := hide hb1
  clear hb1
  go_wp2_with fail
  refine (unhide HP _).mono ?_
  rintro e w2 ⟨rfl, hb2⟩
  have HH : Hid (Below w.heap.size w w2) := by first | exact (unhide HB).trans (hb2.mono (unhide HB).size) | exact (unhide HB1).trans (hb2.mono (unhide HB1).size)
  clear HP hb2
  go_wp2_with fail
  go_ret2
  exact ⟨rfl, HH.out⟩
theorem RunLow_all (l : List UInt8) (home : List Int) (vh : Value) (w : World) (hlm : l.length ≤ maxLen) (hh : IntsAt w vh home) :
    Calls Tryz.prog 30 #[.string ⟨l.toArray⟩, vh] w fun e w' => ∃ v, e = .returned (.tuple #[v, .int .i64 (Pl.runLow l home).1]) ∧ IntsOwn w.heap.size w' v (Pl.runLow l home).2 ∧ Below w.heap.size w w' :=
  RunLow_any l home vh w hlm hh (fun _ => Pl.low_bands l)
end Go.Proofs.YtbbdkgfdeghdfaaGreat

/-
  The whole low form: the program answers as the reference.
-/
namespace Go.Proofs.YtbbdkgfdeghdfaaGreat.Pl
open Go.RowKit

theorem tells_eq {toks : List (List UInt8)} {home : List Int} {names : List DeclM} {K : List Int} (hl : K.length = names.length) (h : ∀ j, (hj : j < names.length) → (hk : j < K.length) → K[j] = tellOf toks names home j names[j] (K.take j)) : ∀ (l pre : List DeclM) (os : List Int), pre ++ l = names → tellsFrom toks names home l pre.length (K.take pre.length) os = os ++ outVals l (K.drop pre.length) := by
  intro l
  induction l with
  | nil => intro pre os _; rw [tellsFrom, outVals, List.append_nil]; simp
  | cons d l ih =>
    intro pre os hp
    have hpl : pre.length < names.length := by rw [← hp]; simp
    have hd : names[pre.length] = d := by subst hp; simp
    have e := h pre.length hpl (by omega)
    rw [hd] at e
    rw [tellsFrom, ← e, List.take_append_getElem (by omega), List.drop_eq_getElem_cons (show pre.length < K.length by omega), outVals]
    have := ih (pre ++ [d]) (if d.kind = 111 then os ++ [K[pre.length]] else os) (by rw [List.append_assoc]; exact hp)
    simp only [List.length_append, List.length_singleton] at this
    rw [this]
    by_cases hk : d.kind = 111
    · rw [if_pos hk, if_pos hk, List.append_assoc]; rfl
    · rw [if_neg hk, if_neg hk]
theorem safe_eq {toks : List (List UInt8)} {home : List Int} {names : List DeclM} {K : List Int} (hl : K.length = names.length) (h : ∀ j, (hj : j < names.length) → (hk : j < K.length) → K[j] = tellOf toks names home j names[j] (K.take j)) (hs : ∀ j, (hj : j < names.length) → SafeAt toks names home j names[j] (K.take j)) : ∀ (l pre : List DeclM), pre ++ l = names → SafeFrom toks names home l pre.length (K.take pre.length) := by
  intro l
  induction l with
  | nil => intro pre _; trivial
  | cons d l ih =>
    intro pre hp
    have hpl : pre.length < names.length := by rw [← hp]; simp
    have hd : names[pre.length] = d := by subst hp; simp
    have e := h pre.length hpl (by omega)
    have s := hs pre.length hpl
    rw [hd] at e s
    have := ih (pre ++ [d]) (by rw [List.append_assoc]; exact hp)
    simp only [List.length_append, List.length_singleton] at this
    rw [SafeFrom]
    refine ⟨s.1, s.2, ?_⟩
    rw [← e, List.take_append_getElem (by omega)]
    exact this
/-- What comes out. -/
theorem Built.run {toks : List (List UInt8)} {names : List DeclM} {r : RdM} (h : Built toks names r) (home : List Int) (hb : isBigW r.ins r.nodes = false) (hh : isHomeB r.ins home = true) : tellsFrom toks names home names 0 [] [] = runW r.nodes r.outs home ∧ SafeFrom toks names home names 0 [] := by
  unfold isHomeB at hh
  simp only [Bool.and_eq_true, decide_eq_true_eq] at hh
  obtain ⟨bs, KB, hS, hV⟩ := h.values home (HomeOk.of _ _ hh.1 hh.2)
  have e2 : isBigW r.ins r.nodes = bs.any over := by
    unfold isBigW
    exact bigFrom_eq _ _ _ [] bs (by rw [List.nil_append]; exact hS.bounds.symm)
  obtain ⟨vs, K, hVS⟩ := hV (by rw [← e2]; exact hb)
  have t1 := tells_eq hVS.env.len hVS.told names [] [] rfl
  have t2 := safe_eq hVS.env.len hVS.told hVS.safe names [] rfl
  simp only [List.length_nil, List.take_zero, List.drop_zero, List.nil_append] at t1 t2
  refine ⟨?_, t2⟩
  rw [t1, ← hVS.outv]
  unfold runW
  rw [valuesFrom_eq, ← hVS.vals]
theorem set_kind {toks : List (List UInt8)} {names : List DeclM} {i : Nat} {d : DeclM} (h : setD toks names i = .inl d) : d.kind ≠ 105 ∧ d.kind ≠ 111 := by
  unfold setD at h
  split at h
  · cases h
  split at h
  · cases h
  rename_i hne
  split at h
  · cases h
  cases h
  simp only
  rcases formsR_cases (atR toks (i + 2)) with ⟨e, _⟩ | ⟨e, _⟩ | ⟨e, _⟩ | ⟨e, _⟩ | ⟨e, _⟩ | ⟨e, _⟩ | ⟨e, _⟩ | e
  · rw [e]; decide
  · rw [e]; decide
  · rw [e]; decide
  · rw [e]; decide
  · rw [e]; decide
  · rw [e]; decide
  · rw [e]; decide
  · exact absurd e hne
theorem input_kind {toks : List (List UInt8)} {names : List DeclM} {i : Nat} {d : DeclM} (h : inputD toks names i = .inl d) : d.kind = 105 := by
  unfold inputD at h
  split at h
  · cases h
  split at h
  · cases h
  split at h
  · cases h
  cases h; rfl
theorem out_kind {toks : List (List UInt8)} {names : List DeclM} {i : Nat} {d : DeclM} (h : outD toks names i = .inl d) : d.kind = 111 := by
  unfold outD at h
  split at h
  · cases h
  split at h
  · cases h
  cases h; rfl
theorem lowD_len (toks : List (List UInt8)) (f : Nat) : ∀ (names : List DeclM) (i : Nat) (ds : List DeclM), countD names 105 ≤ 4 → countD names 111 ≤ 4 → names.length ≤ countD names 105 + countD names 111 + 80 → lowD toks f names i = .inl ds → ds.length ≤ 88 := by
  induction f with
  | zero => intro names i ds _ _ _ h; rw [lowD] at h; cases h
  | succ f ih =>
    intro names i ds h1 h2 h3 h
    by_cases hi : i < toks.length
    · rw [lowD_in hi] at h
      cases hd : declaredD toks names i with
      | inr p => rw [hd] at h; cases h
      | inl d =>
        rw [hd] at h
        simp only at h
        have key : countD (names ++ [d]) 105 ≤ 4 ∧ countD (names ++ [d]) 111 ≤ 4 ∧ (names ++ [d]).length ≤ countD (names ++ [d]) 105 + countD (names ++ [d]) 111 + 80 := by
          rw [countD_snoc, countD_snoc, List.length_append, List.length_singleton]
          unfold declaredD at hd
          split at hd
          · rename_i hc
            have hk := input_kind hd
            rw [if_pos hk, if_neg (by omega)]; omega
          split at hd
          · rename_i hc
            have hk := set_kind hd
            rw [if_neg hk.1, if_neg hk.2]; omega
          split at hd
          · rename_i hc
            have hk := out_kind hd
            rw [if_neg (by omega), if_pos hk]; omega
          · cases hd
        exact ih _ _ _ key.1 key.2.1 key.2.2 h
    · rw [lowD_end hi] at h
      split at h
      · cases h
      · cases h; omega
theorem low_fine (l : List UInt8) : LowFine l := by
  intro ds h
  rcases low_eq (tokens l) with ⟨p, h1, _⟩ | ⟨ds', r', h1, _, hB⟩
  · rw [h1] at h; cases h
  · rw [h1] at h; cases h
    exact ⟨hB.wf, by have := lowD_len (tokens l) _ [] 0 _ (by simp [countD]) (by simp [countD]) (by simp) h1; omega⟩
/-- Reading. -/
theorem low_read (l : List UInt8) : (refLow l).1 = (readLow l).1 ∧ (refLow l).2.1 = (readLow l).2.1 ∧ ((refLow l).1 = 0 → Built (tokens l) (refLow l).2.2 (readLow l).2.2 ∧ isBigW (readLow l).2.2.ins (readLow l).2.2.nodes = false) := by
  unfold refLow readLow readWith resultR startR
  by_cases hl : 6000 < l.length
  · rw [if_pos hl, if_pos hl]; exact ⟨rfl, rfl, fun h => by simp at h⟩
  · rw [if_neg hl, if_neg hl]
    rcases low_eq (tokens l) with ⟨p, h1, h2, h3⟩ | ⟨ds, r', h1, h2, hB⟩
    · rw [h1, h2]
      simp only
      rw [if_neg (by simp), h3]
      exact ⟨rfl, rfl, fun h => by simp at h⟩
    · rw [h1, h2]
      simp only
      rw [if_pos trivial, hB.big]
      by_cases hb : isBigW r'.ins r'.nodes = true
      · rw [if_pos hb, if_pos hb]; exact ⟨rfl, rfl, fun h => by simp at h⟩
      · rw [if_neg hb, if_neg hb]; exact ⟨rfl, rfl, fun _ => ⟨hB, by simpa using hb⟩⟩
theorem low_print (l : List UInt8) : refPrintLow l = printLow l := by
  unfold refPrintLow printLow printWith
  rw [(low_read l).1]
theorem low_run (l : List UInt8) (home : List Int) : refRunLow l home = runLow l home := by
  obtain ⟨h1, _, h3⟩ := low_read l
  unfold refRunLow runLow toldR
  rw [← h1]
  by_cases h0 : (refLow l).1 = 0
  · obtain ⟨hB, hb⟩ := h3 h0
    have hn : ¬ (refLow l).1 ≠ 0 := fun h => h h0
    rw [if_neg hn, if_neg hn, hB.fits]
    by_cases hh : isHomeB (readLow l).2.2.ins home = true
    · rw [if_pos hh, if_pos hh, (hB.run home hb hh).1]
    · rw [if_neg hh, if_neg hh]
  · rw [if_pos h0, if_pos h0]
theorem low_safe (l : List UInt8) (home : List Int) (h0 : (refLow l).1 = 0) (hf : fitsD (refLow l).2.2 home = true) : SafeFrom (tokens l) (refLow l).2.2 home (refLow l).2.2 0 [] := by
  obtain ⟨hB, hb⟩ := (low_read l).2.2 h0
  rw [hB.fits] at hf
  exact (hB.run home hb hf).2
theorem low_some (l : List UInt8) (h0 : (refLow l).1 = 0) : tokens l ≠ [] := by
  rw [(low_read l).1] at h0
  exact (tokens_some lowR l low_empty h0).1
end Go.Proofs.YtbbdkgfdeghdfaaGreat.Pl

/-
  Contracts of the statement's own checkLow, printLow.
-/
namespace Go.Proofs.YtbbdkgfdeghdfaaGreat
open Go.RowKit

set_option maxRecDepth 100000 in
set_option maxHeartbeats 1000000 in
theorem checkLow_law (l : List UInt8) (w : World) (hlm : l.length ≤ maxLen) :
    Calls Tryz.prog 10 #[.string ⟨l.toArray⟩] w fun e w' => e = .returned (.bool true) ∧ Below w.heap.size w w' := by
  have hP := hide (CheckLow_any l w hlm)
  have hRf := hide (fun w1 => CheckLow_ref l w1 hlm (Pl.low_fine l))
  have hE := hide (Pl.low_read l)
  go_enter Tryz.func10, Tryz.ntmps10
  go_wp2_with fail
  refine (unhide hP).mono ?_
  rintro e w1 ⟨rfl, hb1⟩
  have HB1 := hide hb1
  clear hP hb1
  go_wp2_with fail
  refine ((unhide hRf) w1).mono ?_
  rintro e w2 ⟨rfl, hb2⟩
  have HB2 := hide ((unhide HB1).trans (hb2.mono (unhide HB1).size))
  clear hb2
  rw [(unhide hE).1, (unhide hE).2.1]
  go_wp2_with (go_at_call 16; refine (num_law _ _).mono ?_; rintro e w' ⟨rfl, rfl⟩)
  go_ret
  exact ⟨by simp, unhide HB2⟩

set_option maxRecDepth 100000 in
set_option maxHeartbeats 1000000 in
theorem printLow_law (l : List UInt8) (w : World) (hlm : l.length ≤ maxLen) :
    Calls Tryz.prog 11 #[.string ⟨l.toArray⟩] w fun e w' => e = .returned (.bool true) ∧ Below w.heap.size w w' := by
  have hP := hide (PrintLow_any l w hlm)
  have hRf := hide (fun w1 => PrintLow_ref l w1 hlm (Pl.low_fine l) (Pl.low_some l))
  have hE := hide (Pl.low_print l)
  go_enter Tryz.func11, Tryz.ntmps11
  go_wp2_with fail
  refine (unhide hP).mono ?_
  rintro e w1 ⟨rfl, hb1⟩
  have HB1 := hide hb1
  clear hP hb1
  go_wp2_with fail
  refine ((unhide hRf) w1).mono ?_
  rintro e w2 ⟨rfl, hb2⟩
  have HB2 := hide ((unhide HB1).trans (hb2.mono (unhide HB1).size))
  clear hb2
  rw [unhide hE]
  unfold strV
  go_wp2_with (go_at_call 16; refine (num_law _ _).mono ?_; rintro e w' ⟨rfl, rfl⟩)
  go_ret
  exact ⟨by simp, unhide HB2⟩
end Go.Proofs.YtbbdkgfdeghdfaaGreat

/-
  Contracts of the statement's own mark; where held lists lie.
-/
namespace Go.Proofs.YtbbdkgfdeghdfaaGreat
open Go.RowKit

set_option maxHeartbeats 400000 in
theorem mark_law (b : Nat) (N : Nat) (v1 v2 v3 : Value) (w : World) (hb : w.heap[b]? = some (.cells #[.int .i64 N, v1, v2, v3] 28 (0, 0))) (hN : N ≤ 1000) :
    Calls Tryz.prog 47 #[.pointer (some ⟨b, 0, none⟩)] w fun e w' => e = .returned (.int .i64 (1099511627783 + (N + 1 : Int))) ∧ w' = w.setCell ⟨b, 0, none⟩ (.int .i64 (N + 1 : Int)) := by
  have c0 : w.cell? ⟨b, 0, none⟩ = some (.int .i64 N) := by rw [cellsOf hb]; rfl
  have f0 : w.frozen? ⟨b, 0, none⟩ = false := freeOf hb 0
  have c0' : (w.setCell ⟨b, 0, none⟩ (.int .i64 (N + 1 : Int))).cell? ⟨b, 0, none⟩ = some (.int .i64 (N + 1 : Int)) := by
    rw [cellsOf (heap_setCell_same w b 0 _ _ _ hb)]; rfl
  have f0' : (w.setCell ⟨b, 0, none⟩ (.int .i64 (N + 1 : Int))).frozen? ⟨b, 0, none⟩ = false := freeOf (heap_setCell_same w b 0 _ _ _ hb) 0
  go_enter Tryz.func47, Tryz.ntmps47
  go_wp2
  go_ret
  exact ⟨rfl, rfl⟩
end Go.Proofs.YtbbdkgfdeghdfaaGreat

/-
  An append writes in place, or lays a new block and leaves all old ones as they were.
-/
namespace Go.Proofs.YtbbdkgfdeghdfaaGreat
open Go.RowKit

section
variable {P : Program} (w : World)
theorem run_append_two (t ty : TypeId) (base : Nat) (e : TypeId) (i : TypeInfo) (z : Value) (size bytes : Nat) (ht : P.underlying t = some (.slice e)) (hi : P.info? e = some i) (hz : i.zero = some z)
    (hsize : i.size = size) (hby : i.bytes = bytes) (hzs : z.cells.size = size) (hsz : 0 < size)
    (v : Value) (n : Nat) (xs : List Value) (hown : w.ownsRow base e size v n xs)
    (ad : Addr) (m c : Nat) (news : List Value) (hl : news.length = m * size) (hnews : ∀ j u, news[j]? = some u → w.cell? (ad.add j) = some u) (h1 : ∀ u ∈ news, u.oneCell' = true)
    (hm : 0 < m) (h63 : n + m ≤ maxLen) (hbytes : (n + m) * bytes ≤ 140737488355328) (hbase : base ≤ w.heap.size) :
    ∃ g cap w', (Builtin.append_ #[t, t] ty #[v, .slice (some ad) m c]).run P w = .ok (.slice (some ⟨g, 0, none⟩) (n + m) cap) w' ∧
      w'.ownsRow base e size (.slice (some ⟨g, 0, none⟩) (n + m) cap) (n + m) (xs ++ news) ∧ ((v = .slice (some ⟨g, 0, none⟩) n cap ∧ w.grownBy w' (some g)) ∨ (g = w.heap.size ∧ w.grownBy w' none)) ∧ g < w'.heap.size := by
  obtain ⟨g, cap, w', hr, h2, h3, h4, h5⟩ := run_append_lies (P := P) w t ty base e i z size bytes ht hi hz hsize hby hzs hsz v n xs hown ad m c news hl hnews h1 hm h63 hbytes hbase _ rfl
  refine ⟨g, cap, w', hr, h2, ?_, h5⟩
  subst hsize
  subst hby
  have hown0 := hown
  rcases hown.2 with ⟨rfl, rfl⟩ | ⟨g0, cap0, cur, rfl, hbg, hg, hnc, hcm, hcs, htake⟩
  · right
    rcases h4 with h4 | h4
    · simp [Value.ownBlock] at h4
    · exact ⟨h4, h3⟩
  · by_cases hroom : n + m ≤ cap0
    · have hfit : n * i.size + news.length ≤ cur.size := by rw [hl, hcs, ← Nat.add_mul]; exact Nat.mul_le_mul_right _ hroom
      have hr2 := run_append_room (P := P) w t ty e i ht hi g0 n cap0 cur hg ad m c news hl hnews h1 hroom hfit
      rw [hr2] at hr
      injection hr with hr _
      injection hr with hr _ hc
      injection hr with hr
      injection hr with hr _ _
      subst hr
      subst hc
      exact .inl ⟨rfl, h3⟩
    · right
      have holds : ∀ j u, xs[j]? = some u → w.cell? ((⟨g0, 0, none⟩ : Addr).add j) = some u := hown0.cells (g := g0) rfl
      have hr2 := run_append_grow (P := P) w t ty e i z ht hi hz ⟨g0, 0, none⟩ n cap0 xs hown0.1 holds ad m c news hl hnews (by omega) (by simp only [maxLen] at h63; omega) (growslice_fits (by simp only [maxLen] at h63; omega) hbytes)
      rw [hr2] at hr
      injection hr with hr hw
      have e1 : w.heap.size = g := by injection hr with hr _ _; injection hr with hr; injection hr
      subst e1
      subst hw
      exact ⟨rfl, rfl, rfl, rfl, by simp, fun k hk _ => Below.heap_alloc w.drew _ k hk⟩
theorem wpList_append_two {ops : Array Oper} {rest : List Oper} {o : Oper} {a : Act} {Q : Exit → Act → World → Prop} (hgd : o.guard = none) (s x : Operand) (t : TypeId)
    (ho : o.op = .call { callee := .builtin .append, args := #[s, x], argTypes := #[t, t] })
    (base : Nat) (e : TypeId) (i : TypeInfo) (z : Value) (size bytes : Nat) (ht : P.underlying t = some (.slice e)) (hi : P.info? e = some i) (hz : i.zero = some z)
    (hsize : i.size = size) (hby : i.bytes = bytes) (hzs : z.cells.size = size) (hsz : 0 < size)
    (v : Value) (n : Nat) (xs : List Value) (hs : a.eval s = v) (hown : w.ownsRow base e size v n xs)
    (ad : Addr) (m c : Nat) (news : List Value) (hx : a.eval x = .slice (some ad) m c) (hl : news.length = m * size) (hnews : ∀ j u, news[j]? = some u → w.cell? (ad.add j) = some u) (h1 : ∀ u ∈ news, u.oneCell' = true)
    (hm : 0 < m) (h63 : n + m ≤ maxLen) (hbytes : (n + m) * bytes ≤ 140737488355328) (hbase : base ≤ w.heap.size)
    (h : ∀ g cap w', w'.ownsRow base e size (.slice (some ⟨g, 0, none⟩) (n + m) cap) (n + m) (xs ++ news) → ((v = .slice (some ⟨g, 0, none⟩) n cap ∧ w.grownBy w' (some g)) ∨ (g = w.heap.size ∧ w.grownBy w' none)) → g < w'.heap.size → wpList P ops Q rest (a.put o.dst (.slice (some ⟨g, 0, none⟩) (n + m) cap)) w') : wpList P ops Q (o :: rest) a w := by
  refine wpList_plain hgd fun _ hK => ?_
  obtain ⟨g, cap, w', hr, h2, h3, h4⟩ := run_append_two (P := P) w t o.type base e i z size bytes ht hi hz hsize hby hzs hsz v n xs hown ad m c news hl hnews h1 hm h63 hbytes hbase
  unfold Oper.wp execOp
  simp only [ho, resolve, invoke, builtin, Sem.run_bind, Sem.run_pure, Result.andThen_ok, List.map_toArray, List.map_cons, List.map_nil, hs, hx, hr]
  exact hK _ _ (h g cap w' h2 h3 h4)
end
end Go.Proofs.YtbbdkgfdeghdfaaGreat
