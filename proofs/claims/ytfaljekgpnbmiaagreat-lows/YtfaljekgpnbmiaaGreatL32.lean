/- Joined: Ref20 Eq6. -/
import Derived.Test.YtfaljekgpnbmiaaGreatL31
/-
  Contracts of the reference's CheckLow, PrintLow, RunLow.
-/
namespace Go.Proofs.YtfaljekgpnbmiaaGreat
open Go.RowKit

/-- The reference never panics on this text: what reading leaves is in order. -/
def Pl.LowFine (l : List UInt8) : Prop := ∀ ds, Pl.lowD (Pl.tokens l) ((Pl.tokens l).length + 1) [] 0 = .inl ds → Pl.WF (Pl.tokens l) ds ∧ ds.length ≤ 10000
def Pl.refPrintLow (l : List UInt8) : List UInt8 × Int := if (Pl.refLow l).1 ≠ 0 then ([], (Pl.refLow l).1) else (Pl.linesOf (Pl.tokens l), 0)
def Pl.refRunLow (l : List UInt8) (home : List Int) : Int × List Int :=
  if (Pl.refLow l).1 ≠ 0 then ((Pl.refLow l).1, [])
  else if Pl.fitsD (Pl.refLow l).2.2 home = true then (0, Pl.tellsFrom (Pl.tokens l) (Pl.refLow l).2.2 home (Pl.refLow l).2.2 0 [] [])
  else (4, [])
theorem refLow_zero (l : List UInt8) (h : (Pl.refLow l).1 = 0) : l.length ≤ 6000 ∧ Pl.lowD (Pl.tokens l) ((Pl.tokens l).length + 1) [] 0 = .inl (Pl.refLow l).2.2 ∧ Pl.wideFrom (Pl.tokens l) (Pl.refLow l).2.2 (Pl.refLow l).2.2 [] = false := by
  unfold Pl.refLow at *
  split at h
  · simp at h
  · rename_i hl
    rw [if_neg hl]
    split at h
    · simp at h
    · rename_i ds hd
      split at h
      · simp at h
      · rename_i hw
        rw [hd]
        first
          | (rw [if_neg hw]; exact ⟨by omega, rfl, by simpa using hw⟩)
          | (simp only [if_neg hw]; exact ⟨by omega, rfl, by simpa using hw⟩)

set_option maxRecDepth 100000 in
set_option maxHeartbeats 2000000 in
theorem CheckLow_ref (l : List UInt8) (w : World) (hlm : l.length ≤ maxLen) (hf : Pl.LowFine l) :
    Calls Tryz.prog 46 #[.string ⟨l.toArray⟩] w fun e w' => e = .returned (.tuple #[.int .i64 (Pl.refLow l).1, .int .i64 (Pl.refLow l).2.1]) ∧ Below w.heap.size w w' := by
  have hRd := ReadLow_ref l w hlm hf
  generalize Pl.refLow l = q at *
  obtain ⟨en, pl, ds⟩ := q
  go_enter Tryz.func46, Tryz.ntmps46
  go_wp2_with fail
  refine hRd.mono ?_
  rintro e w1 ⟨vi, vn, vo, rfl, hra, hb1⟩
  obtain ⟨ai, ni, ci, rfl⟩ := hra.st
  obtain ⟨an, nn, cn, rfl⟩ := hra.sn
  obtain ⟨ao, no, co, rfl⟩ := hra.sk
  have HB := hide hb1
  have HB2 := hide (hb1.alloc hb1.size (.cells #[.slice ai ni ci, .slice an nn cn, .slice ao no co] 124))
  clear hRd hra hb1
  go_wp2_with fail
  go_ret2
  exact ⟨rfl, by first | exact unhide HB | exact unhide HB2⟩

set_option maxRecDepth 100000 in
set_option maxHeartbeats 2000000 in
theorem PrintLow_ref (l : List UInt8) (w : World) (hlm : l.length ≤ maxLen) (hf : Pl.LowFine l) (hne : (Pl.refLow l).1 = 0 → Pl.tokens l ≠ []) :
    Calls Tryz.prog 48 #[.string ⟨l.toArray⟩] w fun e w' => e = .returned (.tuple #[strV (Pl.refPrintLow l).1, .int .i64 (Pl.refPrintLow l).2]) ∧ Below w.heap.size w w' := by
  have hRd := ReadLow_ref l w hlm hf
  have hz := refLow_zero l
  unfold Pl.refPrintLow
  generalize Pl.refLow l = q at *
  obtain ⟨en, pl, ds⟩ := q
  simp only at hRd hz hne ⊢
  by_cases h0 : en = 0
  · subst h0
    obtain ⟨hl6, _⟩ := hz rfl
    have hw : Pl.wide (Pl.tokens l) ≤ 10000 := by have := Pl.scan_wide l [] false; unfold Pl.tokens; simp at this; omega
    have hP := hide (fun w1 vt B (h : StrsOwn B w1 vt (Pl.tokens l)) => Print_ref (Pl.tokens l) vt w1 (strs_at h) (fun t ht => Pl.noSp_of_good (Pl.tokens_good l t ht).2) (hne rfl) hw)
    rw [if_neg (by simp)]
    simp only
    generalize Pl.linesOf (Pl.tokens l) = P at *
    generalize Pl.tokens l = K at *
    unfold strV at hP ⊢
    clear hz hne hw hf
    go_enter Tryz.func48, Tryz.ntmps48
    go_wp2_with fail
    refine hRd.mono ?_
    rintro e w1 ⟨vi, vn, vo, rfl, hra, hb1⟩
    obtain ⟨B, hst, hdn, rfl⟩ := hra.good rfl
    obtain ⟨ai, ni, rfl⟩ := slice_shape hst
    obtain ⟨an, nn, rfl⟩ := slice_shape hdn
    have hnew := heap_alloc_new w1 (.cells #[.slice ai K.length ni, .slice an ds.length nn, .slice none 0 0] 124)
    obtain ⟨x0, x1, x2, _⟩ := text_facts hnew
    have hP1 := hide (unhide hP _ _ B (World.ownsRow.alloc hst (.cells #[.slice ai K.length ni, .slice an ds.length nn, .slice none 0 0] 124)))
    have HB2 := hide (hb1.alloc hb1.size (.cells #[.slice ai K.length ni, .slice an ds.length nn, .slice none 0 0] 124))
    clear hRd hra hb1 hst hdn hP hnew
    go_wp2_with fail
    refine (unhide hP1).mono ?_
    rintro e w2 ⟨rfl, hw2⟩
    rw [hw2]
    clear hw2 w2 hP1
    go_wp2_with fail
    go_ret2
    exact ⟨rfl, unhide HB2⟩
  · rw [if_pos h0]
    have hne2 : (en != 0) = true := by simpa using h0
    clear hz hne h0 hf
    go_enter Tryz.func48, Tryz.ntmps48
    go_wp2_with fail
    refine hRd.mono ?_
    rintro e w1 ⟨vi, vn, vo, rfl, hra, hb1⟩
    obtain ⟨ai, ni, ci, rfl⟩ := hra.st
    obtain ⟨an, nn, cn, rfl⟩ := hra.sn
    obtain ⟨ao, no, co, rfl⟩ := hra.sk
    have HB2 := hide (hb1.alloc hb1.size (.cells #[.slice ai ni ci, .slice an nn cn, .slice ao no co] 124))
    clear hRd hra hb1
    go_wp2_with fail
    go_ret2
    exact ⟨rfl, unhide HB2⟩

set_option maxRecDepth 100000 in
set_option maxHeartbeats 2000000 in
theorem RunLow_ref (l : List UInt8) (home : List Int) (vh : Value) (w : World) (hlm : l.length ≤ maxLen) (hf : Pl.LowFine l) (hh : IntsAt w vh home) (hhl : home.length ≤ maxLen) (hsf : (Pl.refLow l).1 = 0 → Pl.fitsD (Pl.refLow l).2.2 home = true → Pl.SafeFrom (Pl.tokens l) (Pl.refLow l).2.2 home (Pl.refLow l).2.2 0 []) :
    Calls Tryz.prog 49 #[.string ⟨l.toArray⟩, vh] w fun e w' => ∃ v, e = .returned (.tuple #[v, .int .i64 (Pl.refRunLow l home).1]) ∧ IntsOwn w.heap.size w' v (Pl.refRunLow l home).2 ∧ Below w.heap.size w w' := by
  have hRd := ReadLow_ref l w hlm hf
  have hz := refLow_zero l
  have hHM := hide hh
  obtain ⟨a8, p8, rfl, _⟩ := hh
  by_cases h0 : (Pl.refLow l).1 = 0
  · obtain ⟨hl6, hlow, hwide⟩ := hz h0
    obtain ⟨hwf, hdl⟩ := hf _ hlow
    obtain ⟨hts, ht6⟩ := toks_small l hl6
    have hrun : Pl.refRunLow l home = if Pl.fitsD (Pl.refLow l).2.2 home = true then (0, Pl.tellsFrom (Pl.tokens l) (Pl.refLow l).2.2 home (Pl.refLow l).2.2 0 [] []) else (4, []) := by unfold Pl.refRunLow; rw [if_neg (by simp [h0])]
    have hsf2 := hsf h0
    rw [h0] at hRd
    generalize (Pl.refLow l).2.2 = ds at *
    generalize (Pl.refLow l).2.1 = pl at *
    generalize Pl.tokens l = toks at *
    rw [hrun]
    have hFi := hide (fun w1 vn (hb : Below w.heap.size w w1) (h : DeclsAt w1 vn ds) => Fits_ref ds home vn (.slice a8 home.length p8) w1 h ((unhide hHM).below hb) hdl hhl)
    have hTe := hide (fun w1 vt vn (hb : Below w.heap.size w w1) (h1 : StrsAt w1 vt toks) (h2 : DeclsAt w1 vn ds) (hfit : Pl.fitsD ds home = true) => Tells_ref toks ds home vt vn (.slice none 0 0) (.slice a8 home.length p8) w1 h1 h2 ((unhide hHM).below hb) ⟨_, _, _, rfl⟩ hwf (hsf2 hfit) (by omega) hdl ht6)
    clear hf hsf hz hrun hsf2 hlow hwide hwf ht6 h0 hHM
    cases hfit : Pl.fitsD ds home with
    | false =>
      rw [if_neg (by simp)]
      rw [hfit] at hFi
      clear hTe
      go_enter Tryz.func49, Tryz.ntmps49
      go_wp2_with fail
      refine hRd.mono ?_
      rintro e w1 ⟨vi, vn, vo, rfl, hra, hb1⟩
      obtain ⟨B, hst, hdn, rfl⟩ := hra.good rfl
      obtain ⟨ai, ni, rfl⟩ := slice_shape hst
      obtain ⟨an, nn, rfl⟩ := slice_shape hdn
      have hb2 := hb1.alloc hb1.size (.cells #[.slice ai toks.length ni, .slice an ds.length nn, .slice none 0 0] 124)
      have hnew := heap_alloc_new w1 (.cells #[.slice ai toks.length ni, .slice an ds.length nn, .slice none 0 0] 124)
      obtain ⟨x0, x1, x2, _⟩ := text_facts hnew
      have hF1 := hide (unhide hFi _ (.slice an ds.length nn) hb2 (decls_at (B := B) (World.ownsRow.alloc hdn _)))
      have HB2 := hide hb2
      clear hRd hra hb1 hst hdn hFi hnew hb2
      go_wp2_with fail
      refine (unhide hF1).mono ?_
      rintro e w2 ⟨rfl, m, hw2⟩
      rw [hw2]
      clear hw2 w2 hF1
      go_wp2_with fail
      go_ret2
      exact ⟨_, rfl, World.ownsRow_nil _ _ _ _, below_drewN (unhide HB2) m⟩
    | true =>
      rw [if_pos rfl]
      rw [hfit] at hFi
      go_enter Tryz.func49, Tryz.ntmps49
      go_wp2_with fail
      refine hRd.mono ?_
      rintro e w1 ⟨vi, vn, vo, rfl, hra, hb1⟩
      obtain ⟨B, hst, hdn, rfl⟩ := hra.good rfl
      obtain ⟨ai, ni, rfl⟩ := slice_shape hst
      obtain ⟨an, nn, rfl⟩ := slice_shape hdn
      have hb2 := hb1.alloc hb1.size (.cells #[.slice ai toks.length ni, .slice an ds.length nn, .slice none 0 0] 124)
      have hnew := heap_alloc_new w1 (.cells #[.slice ai toks.length ni, .slice an ds.length nn, .slice none 0 0] 124)
      obtain ⟨x0, x1, x2, _⟩ := text_facts hnew
      have hdx : DeclsAt (w1.alloc (.cells #[.slice ai toks.length ni, .slice an ds.length nn, .slice none 0 0] 124)) (.slice an ds.length nn) ds := decls_at (B := B) (World.ownsRow.alloc hdn _)
      have hsx : StrsAt (w1.alloc (.cells #[.slice ai toks.length ni, .slice an ds.length nn, .slice none 0 0] 124)) (.slice ai toks.length ni) toks := strs_at (B := B) (World.ownsRow.alloc hst _)
      have hF1 := hide (unhide hFi _ (.slice an ds.length nn) hb2 hdx)
      have hT1 := hide (fun m => unhide hTe _ _ _ (below_drewN hb2 m) (hsx.drewN m) (hdx.drewN m) hfit)
      have HB2 := hide hb2
      clear hRd hra hb1 hst hdn hFi hnew hb2 hTe hdx hsx
      go_wp2_with fail
      refine (unhide hF1).mono ?_
      rintro e w2 ⟨rfl, m, hw2⟩
      rw [hw2]
      clear hw2 w2 hF1
      go_wp2_with fail
      refine (unhide hT1 m).mono ?_
      rintro e w3 ⟨v, rfl, hv, hb3⟩
      have HH : Hid (IntsOwn w.heap.size w3 v (Pl.tellsFrom toks ds home ds 0 [] []) ∧ Below w.heap.size w w3) := by
        have hb := below_drewN (unhide HB2) m
        exact ⟨own_mono hv hb.size, hb.trans (hb3.mono hb.size)⟩
      obtain ⟨av, cv, rfl⟩ := slice_shape hv
      clear hT1 hv hb3 HB2
      go_wp2_with fail
      go_ret2
      exact ⟨_, rfl, HH.out.1, HH.out.2⟩
  · have hres : Hid (Pl.refRunLow l home = ((Pl.refLow l).1, [])) := by unfold Pl.refRunLow Hid; rw [if_pos h0]
    rw [hres.out]
    have hne2 : ((Pl.refLow l).1 != 0) = true := by simpa using h0
    generalize (Pl.refLow l).1 = en at *
    generalize (Pl.refLow l).2.1 = pl at *
    generalize (Pl.refLow l).2.2 = ds at *
    clear hz h0 hf hsf hHM hres
    go_enter Tryz.func49, Tryz.ntmps49
    go_wp2_with fail
    refine hRd.mono ?_
    rintro e w1 ⟨vi, vn, vo, rfl, hra, hb1⟩
    obtain ⟨ai, ni, ci, rfl⟩ := hra.st
    obtain ⟨an, nn, cn, rfl⟩ := hra.sn
    obtain ⟨ao, no, co, rfl⟩ := hra.sk
    have HB2 := hide (hb1.alloc hb1.size (.cells #[.slice ai ni ci, .slice an nn cn, .slice ao no co] 124))
    clear hRd hra hb1
    go_wp2_with fail
    go_ret2
    exact ⟨_, rfl, World.ownsRow_nil _ _ _ _, unhide HB2⟩
end Go.Proofs.YtfaljekgpnbmiaaGreat

/-
  What was built is in order: every argument has been told; the inputs are those of the plan.
-/
namespace Go.Proofs.YtfaljekgpnbmiaaGreat.Pl

theorem findFrom_append (a b : List DeclM) (t : List UInt8) : ∀ i : Int, 0 ≤ i → 0 ≤ findFrom a t i → findFrom (a ++ b) t i = findFrom a t i := by
  induction a with
  | nil => intro i hi h; rw [findFrom] at h; omega
  | cons d a ih =>
    intro i hi h
    rw [List.cons_append, findFrom]
    rw [findFrom] at h ⊢
    by_cases hn : d.name = t
    · rw [if_pos hn, if_pos hn]
    · rw [if_neg hn] at h ⊢
      rw [if_neg hn]
      exact ih (i + 1) (by omega) h
theorem Told.more {toks : List (List UInt8)} {names : List DeclM} {n i : Nat} (h : Told toks names n i) (b : List DeclM) : Told toks (names ++ b) n i := by
  refine ⟨h.1, ?_⟩
  rcases h.2 with h | ⟨k, h1, h2⟩
  · exact .inl h
  · refine .inr ⟨k, ?_, h2⟩
    unfold findD at *
    rw [findFrom_append _ _ _ 0 (by omega) (by omega), h1]
theorem StepOk.more {toks : List (List UInt8)} {names : List DeclM} {n p kind : Nat} (h : StepOk toks names n p kind) (b : List DeclM) : StepOk toks (names ++ b) n p kind := by
  refine ⟨h.1, ?_⟩
  rcases h.2 with ⟨h1, h2, h3, h4⟩ | ⟨h1, h2, h3, h4, h5⟩ | ⟨h1, h2, h3, h4⟩ | ⟨h1, h2, h3⟩
  · exact .inl ⟨h1, h2, h3.more b, h4.more b⟩
  · exact .inr (.inl ⟨h1, h2, h3.more b, h4.more b, h5.more b⟩)
  · exact .inr (.inr (.inl ⟨h1, h2, h3.more b, h4.more b⟩))
  · exact .inr (.inr (.inr ⟨h1, h2, h3.more b⟩))
theorem DeclOk.more {toks : List (List UInt8)} {names : List DeclM} {n : Nat} {d : DeclM} (h : DeclOk toks names n d) (b : List DeclM) : DeclOk toks (names ++ b) n d := by
  rcases h with h | ⟨h, p, h1, h2⟩ | ⟨h, p, h1, h2⟩
  · exact .inl h
  · exact .inr (.inl ⟨h, p, h1, h2.more b⟩)
  · exact .inr (.inr ⟨h, p, h1, h2.more b⟩)
theorem WF.snoc {toks : List (List UInt8)} {names : List DeclM} {d : DeclM} (h : WF toks names) (hd : DeclOk toks names names.length d) : WF toks (names ++ [d]) := by
  intro j hj
  by_cases hl : j < names.length
  · rw [List.getElem_append_left hl]; exact (h j hl).more [d]
  · have : j = names.length := by simp at hj; omega
    subst this
    simp only [List.getElem_concat_length]
    exact hd.more [d]
theorem getD_atR {toks : List (List UInt8)} {p : Nat} (h1 : p < toks.length) (h2 : p < 600) : toks.getD p [] = atR toks p := by unfold atR; rw [if_pos ⟨h1, h2⟩]
theorem known_told {toks : List (List UInt8)} {names : List DeclM} {es : List (List UInt8 × Int × Int)} (hR : RelL names es) {p : Nat} (h1 : p < toks.length) (h2 : p < 600) {kd a : Int} (hk : knownOf es (atR toks p) kd = some a) : Told toks names names.length p := by
  refine ⟨h1, .inr ?_⟩
  rw [getD_atR h1 h2]
  unfold knownOf at hk
  split at hk
  · cases hk
  · rename_i e he
    have hl : findEnt es (atR toks p) < es.length := (List.getElem?_eq_some_iff.1 he).1
    refine ⟨findEnt es (atR toks p), ?_, by rw [hR.len]; exact hl⟩
    unfold findD
    rw [hR.find, if_pos hl]; omega
theorem arg_told {toks : List (List UInt8)} {names : List DeclM} {es : List (List UInt8 × Int × Int)} (hR : RelL names es) {p : Nat} (h1 : p < toks.length) (h2 : p < 600) {nodes m : List NodeM} {a : Int} (h : ArgN es nodes (atR toks p) a m) : Told toks names names.length p := by
  rcases h with ⟨hn, _, _⟩ | ⟨_, _, hk⟩
  · exact ⟨h1, .inl (by rw [getD_atR h1 h2]; exact hn)⟩
  · exact known_told hR h1 h2 hk
theorem num_told {toks : List (List UInt8)} (names : List DeclM) (n : Nat) {p : Nat} (h1 : p < toks.length) (h2 : p < 600) {lo hi : Int} (h : within (atR toks p) lo hi = true) : Told toks names n p :=
  ⟨h1, .inl (by rw [getD_atR h1 h2]; unfold within at h; simp at h; exact h.1.1)⟩
theorem opOf_word {t : List UInt8} {op : Int} (h : opOf t = some op) : (op = 2 → t = kAdd) ∧ (op = 3 → t = kSub) ∧ (op = 4 → t = kMul) ∧ (op = 8 → t = kFlr) ∧ (op = 7 → t = kSel) ∧ (op = 13 → t = kLt) ∧ (op = 14 → t = kLe) ∧ (op = 15 → t = kEq) ∧ (op = 16 → t = kAnd) ∧ (op = 17 → t = kOr) ∧ (op = 18 → t = kNot) := by
  unfold opOf at h
  repeat' split at h
  all_goals first
    | (cases h; refine ⟨?_, ?_, ?_, ?_, ?_, ?_, ?_, ?_, ?_, ?_, ?_⟩ <;> intro hc <;> first | assumption | exact absurd hc (by decide))
    | cases h
theorem step_ok {toks : List (List UInt8)} {names : List DeclM} {es : List (List UInt8 × Int × Int)} {nodes more : List NodeM} {i : Nat} {op : Int} {ws : List UInt8} {k : UInt8} (name : List UInt8) (hR : RelL names es) (hw : WordOp (atR toks (i + 2)) op ws k) (hs : StepN es nodes toks (i + 3) op more) (hl : i + 3 + ws.length ≤ toks.length) (hl6 : i + 3 + ws.length ≤ 600) : DeclOk toks names names.length ⟨name, k.toNat, 0, 0, (i : Int) + 2⟩ := by
  refine .inr (.inr ?_)
  have hkw := kind_of_word hw
  have hp : i + 2 < toks.length ∧ i + 2 < 600 := by omega
  have hg := getD_atR hp.1 hp.2
  obtain ⟨ho, hfm, hcs⟩ := hw
  have hwd := opOf_word ho
  refine ⟨?_, i + 2, by simp, hp.1, ?_⟩
  · rcases hcs with ⟨_, _, rfl⟩ | ⟨_, _, rfl⟩ | ⟨_, _, rfl⟩ | ⟨_, _, rfl⟩ | ⟨_, _, rfl⟩ | ⟨_, _, rfl⟩ | ⟨_, _, rfl⟩ <;> simp
  · rw [hg]
    rcases hcs with ⟨hop, rfl, rfl⟩ | ⟨rfl, rfl, rfl⟩ | ⟨rfl, rfl, rfl⟩ | ⟨rfl, rfl, rfl⟩ | ⟨hop, rfl, rfl⟩ | ⟨hop, rfl, rfl⟩ | ⟨rfl, rfl, rfl⟩
    · rcases hs with ⟨_, a, m, b, m', h1, h2, _⟩ | ⟨h, _⟩ | ⟨h, _⟩ | ⟨h, _⟩ | ⟨h, _⟩ | ⟨h, _⟩ <;> try omega
      refine .inl ⟨?_, rfl, arg_told hR (by simp at hl; omega) (by simp at hl6; omega) h1, arg_told hR (by simp at hl; omega) (by simp at hl6; omega) h2⟩
      rcases hop with hop | hop
      · exact .inl (hwd.1 hop)
      · exact .inr (.inl (hwd.2.1 hop))
    · rcases hs with ⟨h, _⟩ | ⟨_, hwi, a, m, h1, _⟩ | ⟨h, _⟩ | ⟨h, _⟩ | ⟨h, _⟩ | ⟨h, _⟩ <;> try omega
      exact .inl ⟨.inr (.inr (.inl (hwd.2.2.1 rfl))), rfl, num_told _ _ (by simp at hl; omega) (by simp at hl6; omega) hwi, arg_told hR (by simp at hl; omega) (by simp at hl6; omega) h1⟩
    · rcases hs with ⟨h, _⟩ | ⟨h, _⟩ | ⟨_, hwi, a, m, h1, _⟩ | ⟨h, _⟩ | ⟨h, _⟩ | ⟨h, _⟩ <;> try omega
      exact .inl ⟨.inr (.inr (.inr (hwd.2.2.2.1 rfl))), rfl, arg_told hR (by simp at hl; omega) (by simp at hl6; omega) h1, num_told _ _ (by simp at hl; omega) (by simp at hl6; omega) hwi⟩
    · rcases hs with ⟨h, _⟩ | ⟨h, _⟩ | ⟨h, _⟩ | ⟨_, a, m, b, m', d, m'', h1, h2, h3, _⟩ | ⟨h, _⟩ | ⟨h, _⟩ <;> try omega
      exact .inr (.inl ⟨hwd.2.2.2.2.1 rfl, rfl, known_told hR (by simp at hl; omega) (by simp at hl6; omega) h1.2, arg_told hR (by simp at hl; omega) (by simp at hl6; omega) h2, arg_told hR (by simp at hl; omega) (by simp at hl6; omega) h3⟩)
    · rcases hs with ⟨_, a, m, b, m', h1, h2, _⟩ | ⟨h, _⟩ | ⟨h, _⟩ | ⟨h, _⟩ | ⟨h, _⟩ | ⟨h, _⟩ <;> try omega
      refine .inr (.inr (.inl ⟨?_, rfl, arg_told hR (by simp at hl; omega) (by simp at hl6; omega) h1, arg_told hR (by simp at hl; omega) (by simp at hl6; omega) h2⟩))
      rcases hop with hop | hop | hop
      · exact .inl (hwd.2.2.2.2.2.1 hop)
      · exact .inr (.inl (hwd.2.2.2.2.2.2.1 hop))
      · exact .inr (.inr (.inl (hwd.2.2.2.2.2.2.2.1 hop)))
    · rcases hs with ⟨h, _⟩ | ⟨h, _⟩ | ⟨h, _⟩ | ⟨h, _⟩ | ⟨_, a, m, b, m', h1, h2, _⟩ | ⟨h, _⟩ <;> try omega
      refine .inr (.inr (.inl ⟨?_, rfl, known_told hR (by simp at hl; omega) (by simp at hl6; omega) h1.2, known_told hR (by simp at hl; omega) (by simp at hl6; omega) h2.2⟩))
      rcases hop with hop | hop
      · exact .inr (.inr (.inr (.inl (hwd.2.2.2.2.2.2.2.2.1 hop))))
      · exact .inr (.inr (.inr (.inr (hwd.2.2.2.2.2.2.2.2.2.1 hop))))
    · rcases hs with ⟨h, _⟩ | ⟨h, _⟩ | ⟨h, _⟩ | ⟨h, _⟩ | ⟨h, _⟩ | ⟨_, a, m, h1, _⟩ <;> try omega
      exact .inr (.inr (.inr ⟨hwd.2.2.2.2.2.2.2.2.2.2 rfl, rfl, known_told hR (by simp at hl; omega) (by simp at hl6; omega) h1.2⟩))
theorem Built.wf {toks : List (List UInt8)} {names : List DeclM} {r : RdM} (h : Built toks names r) : WF toks names := by
  induction h using Built.ind with
  | start => intro j hj; simp at hj
  | input h d i hk hn h1 h2 h3 hne hfr ih => exact ih.snoc (.inl ⟨hk, h1, by omega, by omega, h3⟩)
  | @step names r h i op ws k more name hw hs hm hne hl hl6 hfr ih => exact ih.snoc (step_ok name h.rel.1 hw hs hl hl6)
  | @out names r h i a m name ha hne hl hl6 hfr ih =>
    obtain ⟨hR, _, _⟩ := h.rel
    exact ih.snoc (.inr (.inl ⟨rfl, i + 2, by simp, arg_told hR (by omega) (by omega) ha⟩))
/-- The inputs stand first, and are those of the plan. -/
theorem Built.inputs {toks : List (List UInt8)} {names : List DeclM} {r : RdM} (h : Built toks names r) : (names.take r.ins.length).map (fun d => (d.lo, d.hi)) = r.ins ∧ r.ins.length ≤ names.length ∧ countD names 105 = r.ins.length ∧ ∀ j, (hj : j < names.length) → (names[j].kind = 105 ↔ j < r.ins.length) := by
  have keep : ∀ {names : List DeclM} {ins : List (Int × Int)} (d : DeclM), d.kind ≠ 105 → ((names.take ins.length).map (fun d => (d.lo, d.hi)) = ins ∧ ins.length ≤ names.length ∧ countD names 105 = ins.length ∧ ∀ j, (hj : j < names.length) → (names[j].kind = 105 ↔ j < ins.length)) →
      (((names ++ [d]).take ins.length).map (fun d => (d.lo, d.hi)) = ins ∧ ins.length ≤ (names ++ [d]).length ∧ countD (names ++ [d]) 105 = ins.length ∧ ∀ j, (hj : j < (names ++ [d]).length) → ((names ++ [d])[j].kind = 105 ↔ j < ins.length)) := by
    intro names ins d hd ⟨h1, h2, h3, h4⟩
    refine ⟨by rw [List.take_append_of_le_length h2]; exact h1, by simp; omega, by rw [countD_snoc, if_neg hd]; omega, fun j hj => ?_⟩
    by_cases hl : j < names.length
    · rw [List.getElem_append_left hl]; exact h4 j hl
    · have : j = names.length := by simp at hj; omega
      subst this
      simp only [List.getElem_concat_length]
      exact ⟨fun h => absurd h hd, fun h => by omega⟩
  induction h using Built.ind with
  | start => exact ⟨rfl, Nat.le_refl _, rfl, fun j hj => by simp at hj⟩
  | @input names r h d i hk hn h1 h2 h3 hne hfr ih =>
    obtain ⟨q1, q2, q3, q4⟩ := ih
    refine ⟨?_, by simp; omega, by rw [countD_snoc, if_pos hk]; simp; omega, fun j hj => ?_⟩
    · simp only [List.length_append, List.length_singleton]
      rw [List.take_of_length_le (by simp; omega), List.map_append]
      rw [List.take_of_length_le (by omega)] at q1
      rw [q1]; rfl
    · by_cases hl : j < names.length
      · rw [List.getElem_append_left hl]; have := q4 j hl; simp; omega
      · have : j = names.length := by simp at hj; omega
        subst this
        simp only [List.getElem_concat_length]
        exact ⟨fun _ => by simp; omega, fun _ => hk⟩
  | step h i op ws k more name hw hs hm hne hl hl6 hfr ih => exact keep _ (kind_of_word hw).2.1 ih
  | out h i a m name ha hne hl hl6 hfr ih => exact keep _ (by simp) ih
theorem fitsF_home (n : Nat) : ∀ (names : List DeclM) (home : List Int), n ≤ names.length → home.length = n → fitsF n names home = homeFrom ((names.take n).map fun d => (d.lo, d.hi)) home := by
  induction n with
  | zero => intro names home _ _; cases home <;> rfl
  | succ n ih =>
    intro names home h1 h2
    cases names with
    | nil => simp at h1
    | cons d names =>
      cases home with
      | nil => simp at h2
      | cons x home =>
        rw [fitsF, ih names home (by simpa using h1) (by simpa using h2)]
        rfl
theorem Built.fits {toks : List (List UInt8)} {names : List DeclM} {r : RdM} (h : Built toks names r) (home : List Int) : fitsD names home = isHomeB r.ins home := by
  obtain ⟨h1, h2, h3, _⟩ := h.inputs
  unfold fitsD isHomeB
  rw [h3]
  by_cases hl : home.length = r.ins.length
  · rw [fitsF_home _ names home h2 hl, h1]
  · rw [decide_eq_false hl, Bool.false_and, Bool.false_and]

end Go.Proofs.YtfaljekgpnbmiaaGreat.Pl
