/- Joined: Ref35. -/
import Derived.Test.YtfaljekgpnbmiaaGreatH43
/-
  The contract of the reference's Outs: the values of the outs.
-/
namespace Go.Proofs.YtfaljekgpnbmiaaGreat
open Go.RowKit
set_option linter.unusedVariables false
set_option linter.unusedSimpArgs false

def Pl.outH (home : List Int) : List Pl.DeclM → List Pl.Ex → List Int → List Int → List Int
  | d :: ds, e :: es, K, os => Pl.outH home ds es (K ++ [Pl.stepV home K e]) (if d.kind = 111 then os ++ [Pl.stepV home K e] else os)
  | _, _, _, os => os
theorem Pl.vH_len (home : List Int) (es : List Pl.Ex) : ∀ K, ∃ t, Pl.vH home es K = K ++ t ∧ t.length = es.length := by
  induction es with
  | nil => intro K; exact ⟨[], by simp [Pl.vH], rfl⟩
  | cons e es ih => intro K; obtain ⟨t, h1, h2⟩ := ih (K ++ [Pl.stepV home K e]); exact ⟨Pl.stepV home K e :: t, by rw [Pl.vH, h1]; simp, by simp [h2]⟩
theorem Pl.outH_eq (home : List Int) (ds : List Pl.DeclM) : ∀ (es : List Pl.Ex) (K os t : List Int), ds.length = es.length → Pl.vH home es K = K ++ t → Pl.outH home ds es K os = os ++ Pl.outVals ds t := by
  induction ds with
  | nil => intro es K os t _ _; rw [Pl.outH, Pl.outVals, List.append_nil] <;> intros <;> contradiction
  | cons d ds ih =>
    intro es K os t hl hv
    cases es with
    | nil => simp at hl
    | cons e es =>
      rw [Pl.vH] at hv
      obtain ⟨t', h1, _⟩ := Pl.vH_len home es (K ++ [Pl.stepV home K e])
      have ht : t = Pl.stepV home K e :: t' := by
        rw [h1, List.append_assoc] at hv
        exact (List.append_cancel_left hv).symm
      rw [Pl.outH, ih es _ _ t' (by simpa using hl) h1, ht, Pl.outVals]
      split
      · rw [List.append_assoc]; rfl
      · rfl
theorem Pl.outH_all (home : List Int) (names : List Pl.DeclM) (exs : List Pl.Ex) (h : exs.length = names.length) : Pl.outH home names exs [] [] = Pl.outVals names (Pl.vH home exs []) := by
  obtain ⟨t, h1, _⟩ := Pl.vH_len home exs []
  rw [Pl.outH_eq home names exs [] [] t h.symm h1, h1]; rfl
theorem Pl.outH_drop {home : List Int} {names : List Pl.DeclM} {exs : List Pl.Ex} {k : Nat} {K os : List Int} (h1 : k < names.length) (h2 : k < exs.length) : Pl.outH home (names.drop k) (exs.drop k) K os = Pl.outH home (names.drop (k + 1)) (exs.drop (k + 1)) (K ++ [Pl.stepV home K exs[k]]) (if names[k].kind = 111 then os ++ [Pl.stepV home K exs[k]] else os) := by
  rw [List.drop_eq_getElem_cons h1, List.drop_eq_getElem_cons h2, Pl.outH]
theorem Pl.fineH_drop {home : List Int} {exs : List Pl.Ex} {k : Nat} {K : List Int} (h2 : k < exs.length) (h : Pl.fineH home (exs.drop k) K) : (home.length ≤ K.length → Pl.Fine K exs[k]) ∧ Pl.fineH home (exs.drop (k + 1)) (K ++ [Pl.stepV home K exs[k]]) := by
  rw [List.drop_eq_getElem_cons h2, Pl.fineH] at h
  exact h
theorem Pl.outH_end {home : List Int} {names : List Pl.DeclM} {exs : List Pl.Ex} {k : Nat} {K os : List Int} (h1 : names.length ≤ k) : Pl.outH home (names.drop k) (exs.drop k) K os = os := by
  rw [List.drop_eq_nil_of_le h1, Pl.outH]
  intro d ds e es h; cases h
set_option maxRecDepth 100000 in
set_option maxHeartbeats 8000000 in
theorem Outs_ref (toks : List (List UInt8)) (names : List Pl.DeclM) (exs : List Pl.Ex) (home : List Int) (vt vn vk vh : Value) (w : World) (ht : StrsAt w vt toks) (hn : DeclsAt w vn names) (hhm : IntsAt w vh home) (hvk : ∃ ad n cap, vk = .slice ad n cap) (hwf : Pl.Trees toks names exs) (hin : ∀ j, (hj : j < names.length) → home.length ≤ j → names[j].kind ≠ 105) (hsf : Pl.fineH home exs []) (hl : toks.length ≤ 9000) (hnl : names.length ≤ 10000) (ht6 : ∀ t ∈ toks, t.length ≤ 6000) :
    Calls Tryz.prog 77 #[.agg #[vt, vn, vk], vh] w fun e w' => ∃ v, e = .returned v ∧ IntsOwn w.heap.size w' v (Pl.outVals names (Pl.vH home exs [])) ∧ Below w.heap.size w w' := by
  rw [← Pl.outH_all home names exs hwf.len]
  obtain ⟨j0, hj, hy0, hy1, hy2⟩ := info_parts Tryz.infoInt
  have HT := hide ht
  have HN := hide hn
  have HM := hide hhm
  have HW := hide hwf
  have HI := hide hin
  have H6 := hide ht6
  have HEL := hide hwf.len
  obtain ⟨a1, p1, rfl⟩ := ht.shape
  obtain ⟨a2, p2, rfl⟩ := hn.shape
  obtain ⟨a9, n9, p9, rfl⟩ := hvk
  obtain ⟨a8, n8, p8, hvh⟩ : ∃ ad n cap, vh = .slice ad n cap := by obtain ⟨x, y, e, _⟩ := hhm; exact ⟨_, _, _, e⟩
  subst hvh
  have hn8 : n8 = home.length := by obtain ⟨x, y, e, _⟩ := unhide HM; simp only [Value.slice.injEq] at e; exact e.2.1
  subst hn8
  generalize hq : Pl.outH home names exs [] [] = T
  have HQ0 := hide hq
  have HS0 := hide hsf
  obtain ⟨W0, hW0⟩ : ∃ W0, W0 = (w.alloc (.cells #[.slice a1 toks.length p1, .slice a2 names.length p2, .slice none 0 0] 124)) := ⟨_, rfl⟩
  have H0 : Hid (W0.heap[w.heap.size]? = some (.cells #[.slice a1 toks.length p1, .slice a2 names.length p2, .slice none 0 0] 124 (0, 0)) ∧ Below w.heap.size w W0) := by rw [hW0]; exact ⟨heap_alloc_new w _, (Below.refl _ _).alloc (Nat.le_refl _) _⟩
  clear ht hn hwf ht6 hq hsf hhm hin
  go_enter Tryz.func77, Tryz.ntmps77
  go_wp2
  go_loopw [5, 6] (fun lv i wr => ∃ (k : Nat) (a3 : Option Addr) (n3 p3 : Nat) (a4 : Option Addr) (n4 p4 : Nat) (known outs : List Int), k ≤ names.length ∧ known.length = k ∧ outs.length ≤ k ∧ i = .int .i64 k ∧ lv = .slice a4 n4 p4 ∧ Hid (wr.heap[w.heap.size]? = some (.cells #[.slice a1 toks.length p1, .slice a2 names.length p2, .slice a3 n3 p3] 124 (0, 0)) ∧ IntsOwn w.heap.size wr (.slice a3 n3 p3) known ∧ IntsOwn w.heap.size wr (.slice a4 n4 p4) outs ∧ Apart2 (.slice a3 n3 p3) (.slice a4 n4 p4) ∧ Below w.heap.size w wr) ∧ Pl.outH home (names.drop k) (exs.drop k) known outs = T ∧ Pl.fineH home (exs.drop k) known) (fun _ i _ => names.length - (intOf i).toNat)
  case atStart => exact ⟨0, none, 0, 0, none, 0, 0, [], [], by omega, rfl, by simp, rfl, rfl, ⟨by have := (unhide H0).1; rw [hW0] at this; exact this, World.ownsRow_nil _ _ _ _, World.ownsRow_nil _ _ _ _, Apart2.nil _, by have := (unhide H0).2; rw [hW0] at this; exact this⟩, unhide HQ0, unhide HS0⟩
  case round =>
    obtain ⟨k, a3, n3, p3, a4, n4, p4, known, outs, hk, hkn, hol, rfl, rfl, hh, hstep, hsafe⟩ := hrel
    have HKN := hide hkn
    have x1 : wr.cell? ⟨w.heap.size, 1, none⟩ = some (.slice a2 names.length p2) := by rw [cellsOf (unhide hh).1]; rfl
    clear H0 HQ0 HS0 hkn hW0
    by_cases hlt : k < names.length
    · have hlt2 : k < exs.length := by rw [unhide HEL]; exact hlt
      rw [Pl.outH_drop hlt hlt2] at hstep
      obtain ⟨hf1, hf2⟩ := Pl.fineH_drop hlt2 hsafe
      obtain ⟨g2, rfl, e0, e1, e2, e3, e4⟩ := decls_get (unhide HN) k hlt
      have hbel := (unhide hh).2.2.2.2
      have d4 := cell_low hbel (lt_of_cell e4) e4
      have htr := (unhide HW).tree k hlt hlt2
      have hni := unhide HI k hlt
      generalize exs[k] = ex at *
      generalize names[k] = d at *
      obtain ⟨dn, dk, dl, dh, dp⟩ := d
      simp only at d4 htr hni hstep e1
      have HX := hh
      clear e0 e2 e3 e4 hbel hh hlt2 hsafe
      by_cases hkh : k < home.length
      · obtain ⟨b8, o8, rfl, hc8⟩ := ints_get (unhide HM) k hkh
        have hst : Pl.stepV home known ex = home[k] := by unfold Pl.stepV; rw [unhide HKN, if_pos hkh, List.getD_eq_getElem?_getD, List.getElem?_eq_getElem hkh]; rfl
        rw [hst] at hstep hf2
        have hc9 := cell_low (unhide HX).2.2.2.2 (lt_of_cell hc8) hc8
        generalize home[k] = hv at *
        have HSf := hide hf2
        clear hst hf1 hf2 htr hni hc8 d4
        by_cases hk1 : dk = 111
        · rw [if_pos hk1] at hstep
          have hkt : ((dk : Int) == 111) = true := by simp [hk1]
          have HQ := hide hstep
          clear hstep hk1
          obtain ⟨qb, qk, ql, qa, qw⟩ := unhide HX
          have z2 : wr.cell? ⟨w.heap.size, 2, none⟩ = some (.slice a3 n3 p3) := by rw [cellsOf qb]; rfl
          have f2 : wr.frozen? ⟨w.heap.size, 2, none⟩ = false := freeOf qb 2
          have qs := qw.size
          have own2 : IntsOwn w.heap.size (wr.alloc (.cells #[.int .i64 hv] 3)) (.slice a3 n3 p3) known := World.ownsRow.alloc qk _
          have HX2 : Hid ((wr.alloc (.cells #[.int .i64 hv] 3)).heap[w.heap.size]? = some (.cells #[.slice a1 toks.length p1, .slice (some ⟨g2, 0, none⟩) names.length p2, .slice a3 n3 p3] 124 (0, 0)) ∧ IntsOwn w.heap.size (wr.alloc (.cells #[.int .i64 hv] 3)) (.slice a4 n4 p4) outs ∧ Apart2 (.slice a3 n3 p3) (.slice a4 n4 p4) ∧ Below w.heap.size w (wr.alloc (.cells #[.int .i64 hv] 3))) := ⟨by rw [Below.heap_alloc _ _ _ (lt_of_block qb)]; exact qb, World.ownsRow.alloc ql _, qa, qw.alloc qw.size _⟩
          clear qb qk ql qa qw HX
          go_wp2_with (at_builtin; refine wpList_append_lies _ rfl _ _ 22 rfl w.heap.size 3 j0 (.int .i64 0) 1 8 Tryz.underlying22 hj hy0 hy1 hy2 rfl (by decide) _ _ _ rfl own2 ⟨_, 0, none⟩ 1 1 [intV hv] rfl rfl ?c1 ?c2 (by decide) ?c3 ?c4 ?c5 _ rfl ?_)
          case c1 => exact news_far _ #[intV hv] 3 (by have := heap_alloc_new wr (.cells #[.int .i64 hv] 3); simpa [intV] using this) rfl
          case c2 => intro u hu; simp at hu; subst hu; rfl
          case c3 => have := unhide HKN; unfold maxLen; omega
          case c4 => have := unhide HKN; omega
          case c5 => simp at qs ⊢; omega
          · intro g cp w3 hown' hgrow hgor hglt
            have hblk3 : w3.heap[w.heap.size]? = some (.cells #[.slice a1 toks.length p1, .slice (some ⟨g2, 0, none⟩) names.length p2, .slice a3 n3 p3] 124 (0, 0)) := (KeepT.grown own2 hgrow (show 3 ≠ 124 by decide) _ _ (unhide HX2).1).trans (unhide HX2).1
            have c2' : w3.cell? ⟨w.heap.size, 2, none⟩ = some (.slice a3 n3 p3) := by rw [cellsOf hblk3]; rfl
            have f2' : w3.frozen? ⟨w.heap.size, 2, none⟩ = false := freeOf hblk3 2
            have HR : Hid ((w3.setCell ⟨w.heap.size, 2, none⟩ (.slice (some ⟨g, 0, none⟩) (known.length + 1) cp)).heap[w.heap.size]? = some (.cells #[.slice a1 toks.length p1, .slice (some ⟨g2, 0, none⟩) names.length p2, .slice (some ⟨g, 0, none⟩) (known.length + 1) cp] 124 (0, 0)) ∧ IntsOwn w.heap.size (w3.setCell ⟨w.heap.size, 2, none⟩ (.slice (some ⟨g, 0, none⟩) (known.length + 1) cp)) (.slice (some ⟨g, 0, none⟩) (known.length + 1) cp) (known ++ [hv]) ∧ IntsOwn w.heap.size (w3.setCell ⟨w.heap.size, 2, none⟩ (.slice (some ⟨g, 0, none⟩) (known.length + 1) cp)) (.slice a4 n4 p4) outs ∧ Apart2 (.slice (some ⟨g, 0, none⟩) (known.length + 1) cp) (.slice a4 n4 p4) ∧ Below w.heap.size w (w3.setCell ⟨w.heap.size, 2, none⟩ (.slice (some ⟨g, 0, none⟩) (known.length + 1) cp))) := by
              have hap : Apart2 (.slice (some ⟨g, 0, none⟩) (known.length + 1) cp) (.slice a4 n4 p4) := by
                intro x hx
                simp only [Value.ownBlock, Option.some.injEq] at hx
                subst hx
                intro hl2
                rcases hgor with h1 | h1
                · exact (unhide HX2).2.2.1 _ h1 hl2
                · have hlt2 := own_lt2 (unhide HX2).2.1 _ hl2
                  simp at hlt2 h1
                  omega
              refine ⟨by rw [heap_setCell_same w3 _ 2 _ _ _ hblk3]; rfl, ?_, own_keep (own_other (unhide HX2).2.1 hgrow ?_) (.setCell hblk3 (by decide) 2 _), hap, (((unhide HX2).2.2.2.grown hgrow (by simp at qs ⊢; omega) (own_base own2)).setCell (p := ⟨w.heap.size, 2, none⟩) (Nat.le_refl _) _)⟩
              · unfold IntsOwn
                rw [List.map_append, List.length_append]
                exact own_keep hown' (.setCell hblk3 (by decide) 2 _)
              · intro x hx hy
                exact (unhide HX2).2.2.1 x hy hx
            clear hown' hgrow own2 HX2 hblk3 z2 f2 hgor hglt
            have r1 : (w3.setCell ⟨w.heap.size, 2, none⟩ (.slice (some ⟨g, 0, none⟩) (known.length + 1) cp)).cell? ⟨w.heap.size, 1, none⟩ = some (.slice (some ⟨g2, 0, none⟩) names.length p2) := by rw [cellsOf (unhide HR).1]; rfl
            have r2 := cell_low (unhide HR).2.2.2.2 (lt_of_cell e1) e1
            obtain ⟨rb, rk, rl, ra, rw'⟩ := unhide HR
            have rs := rw'.size
            have ownl : IntsOwn w.heap.size ((w3.setCell ⟨w.heap.size, 2, none⟩ (.slice (some ⟨g, 0, none⟩) (known.length + 1) cp)).alloc (.cells #[.int .i64 hv] 3)) (.slice a4 n4 p4) outs := World.ownsRow.alloc rl _
            have HY : Hid (((w3.setCell ⟨w.heap.size, 2, none⟩ (.slice (some ⟨g, 0, none⟩) (known.length + 1) cp)).alloc (.cells #[.int .i64 hv] 3)).heap[w.heap.size]? = some (.cells #[.slice a1 toks.length p1, .slice (some ⟨g2, 0, none⟩) names.length p2, .slice (some ⟨g, 0, none⟩) (known.length + 1) cp] 124 (0, 0)) ∧ IntsOwn w.heap.size ((w3.setCell ⟨w.heap.size, 2, none⟩ (.slice (some ⟨g, 0, none⟩) (known.length + 1) cp)).alloc (.cells #[.int .i64 hv] 3)) (.slice (some ⟨g, 0, none⟩) (known.length + 1) cp) (known ++ [hv]) ∧ Apart2 (.slice (some ⟨g, 0, none⟩) (known.length + 1) cp) (.slice a4 n4 p4) ∧ Below w.heap.size w ((w3.setCell ⟨w.heap.size, 2, none⟩ (.slice (some ⟨g, 0, none⟩) (known.length + 1) cp)).alloc (.cells #[.int .i64 hv] 3))) := ⟨by rw [Below.heap_alloc _ _ _ (lt_of_block rb)]; exact rb, World.ownsRow.alloc rk _, ra, rw'.alloc rw'.size _⟩
            clear rb rk rl ra rw' HR
            go_wp2_with (at_builtin; refine wpList_append_lies _ rfl _ _ 22 rfl w.heap.size 3 j0 (.int .i64 0) 1 8 Tryz.underlying22 hj hy0 hy1 hy2 rfl (by decide) _ _ _ rfl ownl ⟨_, 0, none⟩ 1 1 [intV hv] rfl rfl ?b1 ?b2 (by decide) ?b3 ?b4 ?b5 _ rfl ?_)
            case b1 => exact news_far _ #[intV hv] 3 (by have := heap_alloc_new (w3.setCell ⟨w.heap.size, 2, none⟩ (.slice (some ⟨g, 0, none⟩) (known.length + 1) cp)) (.cells #[.int .i64 hv] 3); simpa [intV] using this) rfl
            case b2 => intro u hu; simp at hu; subst hu; rfl
            case b3 => unfold maxLen; omega
            case b4 => omega
            case b5 => simp at rs ⊢; omega
            · intro gl cl wl hownl hgrowl hgorl _
              have HZ : Hid (wl.heap[w.heap.size]? = some (.cells #[.slice a1 toks.length p1, .slice (some ⟨g2, 0, none⟩) names.length p2, .slice (some ⟨g, 0, none⟩) (known.length + 1) cp] 124 (0, 0)) ∧ IntsOwn w.heap.size wl (.slice (some ⟨g, 0, none⟩) (known.length + 1) cp) (known ++ [hv]) ∧ IntsOwn w.heap.size wl (.slice (some ⟨gl, 0, none⟩) (outs.length + 1) cl) (outs ++ [hv]) ∧ Apart2 (.slice (some ⟨g, 0, none⟩) (known.length + 1) cp) (.slice (some ⟨gl, 0, none⟩) (outs.length + 1) cl) ∧ Below w.heap.size w wl) := by
                have hap : Apart2 (.slice (some ⟨g, 0, none⟩) (known.length + 1) cp) (.slice (some ⟨gl, 0, none⟩) (outs.length + 1) cl) := by
                  intro x hx hy
                  simp only [Value.ownBlock, Option.some.injEq] at hy
                  subst hy
                  rcases hgorl with h1 | h1
                  · exact (unhide HY).2.2.1 _ hx h1
                  · have hlt2 := own_lt2 (unhide HY).2.1 _ hx
                    simp at hlt2 h1
                    omega
                refine ⟨(KeepT.grown ownl hgrowl (show 3 ≠ 124 by decide) _ _ (unhide HY).1).trans (unhide HY).1, own_other (unhide HY).2.1 hgrowl (fun x hx hy => (unhide HY).2.2.1 x hx hy), ?_, hap, (unhide HY).2.2.2.grown hgrowl (by simp at rs ⊢; omega) (own_base ownl)⟩
                unfold IntsOwn
                rw [List.map_append, List.length_append]
                exact hownl
              clear hownl hgrowl hgorl ownl HY
              go_wp2
              go_roundw
              case rel => exact ⟨k + 1, _, _, _, _, _, _, known ++ [hv], (outs ++ [hv]), by omega, by have := unhide HKN; simp [this], by simp; omega, by go_num, rfl, HZ, unhide HQ, unhide HSf⟩
              case measure => simp [intOf]; omega
        · rw [if_neg hk1] at hstep
          have hkt : ((dk : Int) == 111) = false := by rw [beq_eq_false_iff_ne]; omega
          have HQ := hide hstep
          clear hstep hk1
          obtain ⟨qb, qk, ql, qa, qw⟩ := unhide HX
          have z2 : wr.cell? ⟨w.heap.size, 2, none⟩ = some (.slice a3 n3 p3) := by rw [cellsOf qb]; rfl
          have f2 : wr.frozen? ⟨w.heap.size, 2, none⟩ = false := freeOf qb 2
          have qs := qw.size
          have own2 : IntsOwn w.heap.size (wr.alloc (.cells #[.int .i64 hv] 3)) (.slice a3 n3 p3) known := World.ownsRow.alloc qk _
          have HX2 : Hid ((wr.alloc (.cells #[.int .i64 hv] 3)).heap[w.heap.size]? = some (.cells #[.slice a1 toks.length p1, .slice (some ⟨g2, 0, none⟩) names.length p2, .slice a3 n3 p3] 124 (0, 0)) ∧ IntsOwn w.heap.size (wr.alloc (.cells #[.int .i64 hv] 3)) (.slice a4 n4 p4) outs ∧ Apart2 (.slice a3 n3 p3) (.slice a4 n4 p4) ∧ Below w.heap.size w (wr.alloc (.cells #[.int .i64 hv] 3))) := ⟨by rw [Below.heap_alloc _ _ _ (lt_of_block qb)]; exact qb, World.ownsRow.alloc ql _, qa, qw.alloc qw.size _⟩
          clear qb qk ql qa qw HX
          go_wp2_with (at_builtin; refine wpList_append_lies _ rfl _ _ 22 rfl w.heap.size 3 j0 (.int .i64 0) 1 8 Tryz.underlying22 hj hy0 hy1 hy2 rfl (by decide) _ _ _ rfl own2 ⟨_, 0, none⟩ 1 1 [intV hv] rfl rfl ?c1 ?c2 (by decide) ?c3 ?c4 ?c5 _ rfl ?_)
          case c1 => exact news_far _ #[intV hv] 3 (by have := heap_alloc_new wr (.cells #[.int .i64 hv] 3); simpa [intV] using this) rfl
          case c2 => intro u hu; simp at hu; subst hu; rfl
          case c3 => have := unhide HKN; unfold maxLen; omega
          case c4 => have := unhide HKN; omega
          case c5 => simp at qs ⊢; omega
          · intro g cp w3 hown' hgrow hgor hglt
            have hblk3 : w3.heap[w.heap.size]? = some (.cells #[.slice a1 toks.length p1, .slice (some ⟨g2, 0, none⟩) names.length p2, .slice a3 n3 p3] 124 (0, 0)) := (KeepT.grown own2 hgrow (show 3 ≠ 124 by decide) _ _ (unhide HX2).1).trans (unhide HX2).1
            have c2' : w3.cell? ⟨w.heap.size, 2, none⟩ = some (.slice a3 n3 p3) := by rw [cellsOf hblk3]; rfl
            have f2' : w3.frozen? ⟨w.heap.size, 2, none⟩ = false := freeOf hblk3 2
            have HR : Hid ((w3.setCell ⟨w.heap.size, 2, none⟩ (.slice (some ⟨g, 0, none⟩) (known.length + 1) cp)).heap[w.heap.size]? = some (.cells #[.slice a1 toks.length p1, .slice (some ⟨g2, 0, none⟩) names.length p2, .slice (some ⟨g, 0, none⟩) (known.length + 1) cp] 124 (0, 0)) ∧ IntsOwn w.heap.size (w3.setCell ⟨w.heap.size, 2, none⟩ (.slice (some ⟨g, 0, none⟩) (known.length + 1) cp)) (.slice (some ⟨g, 0, none⟩) (known.length + 1) cp) (known ++ [hv]) ∧ IntsOwn w.heap.size (w3.setCell ⟨w.heap.size, 2, none⟩ (.slice (some ⟨g, 0, none⟩) (known.length + 1) cp)) (.slice a4 n4 p4) outs ∧ Apart2 (.slice (some ⟨g, 0, none⟩) (known.length + 1) cp) (.slice a4 n4 p4) ∧ Below w.heap.size w (w3.setCell ⟨w.heap.size, 2, none⟩ (.slice (some ⟨g, 0, none⟩) (known.length + 1) cp))) := by
              have hap : Apart2 (.slice (some ⟨g, 0, none⟩) (known.length + 1) cp) (.slice a4 n4 p4) := by
                intro x hx
                simp only [Value.ownBlock, Option.some.injEq] at hx
                subst hx
                intro hl2
                rcases hgor with h1 | h1
                · exact (unhide HX2).2.2.1 _ h1 hl2
                · have hlt2 := own_lt2 (unhide HX2).2.1 _ hl2
                  simp at hlt2 h1
                  omega
              refine ⟨by rw [heap_setCell_same w3 _ 2 _ _ _ hblk3]; rfl, ?_, own_keep (own_other (unhide HX2).2.1 hgrow ?_) (.setCell hblk3 (by decide) 2 _), hap, (((unhide HX2).2.2.2.grown hgrow (by simp at qs ⊢; omega) (own_base own2)).setCell (p := ⟨w.heap.size, 2, none⟩) (Nat.le_refl _) _)⟩
              · unfold IntsOwn
                rw [List.map_append, List.length_append]
                exact own_keep hown' (.setCell hblk3 (by decide) 2 _)
              · intro x hx hy
                exact (unhide HX2).2.2.1 x hy hx
            clear hown' hgrow own2 HX2 hblk3 z2 f2 hgor hglt
            have r1 : (w3.setCell ⟨w.heap.size, 2, none⟩ (.slice (some ⟨g, 0, none⟩) (known.length + 1) cp)).cell? ⟨w.heap.size, 1, none⟩ = some (.slice (some ⟨g2, 0, none⟩) names.length p2) := by rw [cellsOf (unhide HR).1]; rfl
            have r2 := cell_low (unhide HR).2.2.2.2 (lt_of_cell e1) e1
            go_wp2
            go_roundw
            case rel => exact ⟨k + 1, _, _, _, _, _, _, known ++ [hv], outs, by omega, by have := unhide HKN; simp [this], by omega, by go_num, rfl, HR, unhide HQ, unhide HSf⟩
            case measure => simp [intOf]; omega
      · obtain ⟨p, q, rfl, hpar⟩ := htr (hni (by omega))
        have hst : Pl.stepV home known ex = Pl.exV known ex := by unfold Pl.stepV; rw [unhide HKN, if_neg hkh]
        rw [hst] at hstep hf2
        have hkl : (names.take k).length = k := by simp; omega
        have hnl2 : (names.take k ++ names.drop k).length ≤ 10000 := by rw [List.take_append_drop]; exact hnl
        have HVa := hide (fun (w1 : World) (h1 : TextAt w1 (.slice a1 toks.length p1) (.slice (some ⟨g2, 0, none⟩) names.length p2) (.slice a3 n3 p3) toks names known) => ((tree_value (rest := names.drop k) hl hnl2 (unhide H6) (by rw [hkl, unhide HKN]; exact Nat.le_refl _) hpar (hf1 (by rw [unhide HKN]; omega))).1 rfl) w1 (by rw [List.take_append_drop]; exact h1))
        have HVb := hide (fun m => unhide HVa (wr.drewN m) ⟨(unhide HT).below (below_drewN (unhide HX).2.2.2.2 m), (unhide HN).below (below_drewN (unhide HX).2.2.2.2 m), (ints_own (unhide HX).2.1).below (below_drewN (Below.refl _ wr) m)⟩)
        generalize Pl.exV known ex = v at *
        have HSf := hide hf2
        have y0 : wr.cell? ⟨w.heap.size, 0, none⟩ = some (.slice a1 toks.length p1) := by rw [cellsOf (unhide HX).1]; rfl
        have y2 : wr.cell? ⟨w.heap.size, 2, none⟩ = some (.slice a3 n3 p3) := by rw [cellsOf (unhide HX).1]; rfl
        clear hst hf1 hf2 htr hni HVa hpar hkl hnl2
        go_wp2_with fail
        go_region_with (go_at_call 114; refine (unhide HVb 1).mono ?_; rintro e w2 ⟨rfl, hb2⟩)
        all_goals
          have hb3 := (below_drewN (Below.refl _ wr) 1).trans (hb2.mono (Nat.le_refl _))
          have HXn : Hid (w2.heap[w.heap.size]? = some (.cells #[.slice a1 toks.length p1, .slice (some ⟨g2, 0, none⟩) names.length p2, .slice a3 n3 p3] 124 (0, 0)) ∧ IntsOwn w.heap.size w2 (.slice a3 n3 p3) known ∧ IntsOwn w.heap.size w2 (.slice a4 n4 p4) outs ∧ Apart2 (.slice a3 n3 p3) (.slice a4 n4 p4) ∧ Below w.heap.size w w2) := ⟨(hb3.block _ (lt_of_block (unhide HX).1)).trans (unhide HX).1, own_keep (unhide HX).2.1 (.of_below hb3), own_keep (unhide HX).2.2.1 (.of_below hb3), (unhide HX).2.2.2.1, (unhide HX).2.2.2.2.trans (hb3.mono (unhide HX).2.2.2.2.size)⟩
          clear hb2 hb3 HX HVb y0 y2 d4 x1
          have HX := HXn
          clear HXn
          by_cases hk1 : dk = 111
          · rw [if_pos hk1] at hstep
            have hkt : ((dk : Int) == 111) = true := by simp [hk1]
            have HQ := hide hstep
            clear hstep hk1
            obtain ⟨qb, qk, ql, qa, qw⟩ := unhide HX
            have z2 : w2.cell? ⟨w.heap.size, 2, none⟩ = some (.slice a3 n3 p3) := by rw [cellsOf qb]; rfl
            have f2 : w2.frozen? ⟨w.heap.size, 2, none⟩ = false := freeOf qb 2
            have qs := qw.size
            have own2 : IntsOwn w.heap.size (w2.alloc (.cells #[.int .i64 v] 3)) (.slice a3 n3 p3) known := World.ownsRow.alloc qk _
            have HX2 : Hid ((w2.alloc (.cells #[.int .i64 v] 3)).heap[w.heap.size]? = some (.cells #[.slice a1 toks.length p1, .slice (some ⟨g2, 0, none⟩) names.length p2, .slice a3 n3 p3] 124 (0, 0)) ∧ IntsOwn w.heap.size (w2.alloc (.cells #[.int .i64 v] 3)) (.slice a4 n4 p4) outs ∧ Apart2 (.slice a3 n3 p3) (.slice a4 n4 p4) ∧ Below w.heap.size w (w2.alloc (.cells #[.int .i64 v] 3))) := ⟨by rw [Below.heap_alloc _ _ _ (lt_of_block qb)]; exact qb, World.ownsRow.alloc ql _, qa, qw.alloc qw.size _⟩
            clear qb qk ql qa qw HX
            go_wp2_with (at_builtin; refine wpList_append_lies _ rfl _ _ 22 rfl w.heap.size 3 j0 (.int .i64 0) 1 8 Tryz.underlying22 hj hy0 hy1 hy2 rfl (by decide) _ _ _ rfl own2 ⟨_, 0, none⟩ 1 1 [intV v] rfl rfl ?c1 ?c2 (by decide) ?c3 ?c4 ?c5 _ rfl ?_)
            case c1 => exact news_far _ #[intV v] 3 (by have := heap_alloc_new w2 (.cells #[.int .i64 v] 3); simpa [intV] using this) rfl
            case c2 => intro u hu; simp at hu; subst hu; rfl
            case c3 => have := unhide HKN; unfold maxLen; omega
            case c4 => have := unhide HKN; omega
            case c5 => simp at qs ⊢; omega
            · intro g cp w3 hown' hgrow hgor hglt
              have hblk3 : w3.heap[w.heap.size]? = some (.cells #[.slice a1 toks.length p1, .slice (some ⟨g2, 0, none⟩) names.length p2, .slice a3 n3 p3] 124 (0, 0)) := (KeepT.grown own2 hgrow (show 3 ≠ 124 by decide) _ _ (unhide HX2).1).trans (unhide HX2).1
              have c2' : w3.cell? ⟨w.heap.size, 2, none⟩ = some (.slice a3 n3 p3) := by rw [cellsOf hblk3]; rfl
              have f2' : w3.frozen? ⟨w.heap.size, 2, none⟩ = false := freeOf hblk3 2
              have HR : Hid ((w3.setCell ⟨w.heap.size, 2, none⟩ (.slice (some ⟨g, 0, none⟩) (known.length + 1) cp)).heap[w.heap.size]? = some (.cells #[.slice a1 toks.length p1, .slice (some ⟨g2, 0, none⟩) names.length p2, .slice (some ⟨g, 0, none⟩) (known.length + 1) cp] 124 (0, 0)) ∧ IntsOwn w.heap.size (w3.setCell ⟨w.heap.size, 2, none⟩ (.slice (some ⟨g, 0, none⟩) (known.length + 1) cp)) (.slice (some ⟨g, 0, none⟩) (known.length + 1) cp) (known ++ [v]) ∧ IntsOwn w.heap.size (w3.setCell ⟨w.heap.size, 2, none⟩ (.slice (some ⟨g, 0, none⟩) (known.length + 1) cp)) (.slice a4 n4 p4) outs ∧ Apart2 (.slice (some ⟨g, 0, none⟩) (known.length + 1) cp) (.slice a4 n4 p4) ∧ Below w.heap.size w (w3.setCell ⟨w.heap.size, 2, none⟩ (.slice (some ⟨g, 0, none⟩) (known.length + 1) cp))) := by
                have hap : Apart2 (.slice (some ⟨g, 0, none⟩) (known.length + 1) cp) (.slice a4 n4 p4) := by
                  intro x hx
                  simp only [Value.ownBlock, Option.some.injEq] at hx
                  subst hx
                  intro hl2
                  rcases hgor with h1 | h1
                  · exact (unhide HX2).2.2.1 _ h1 hl2
                  · have hlt2 := own_lt2 (unhide HX2).2.1 _ hl2
                    simp at hlt2 h1
                    omega
                refine ⟨by rw [heap_setCell_same w3 _ 2 _ _ _ hblk3]; rfl, ?_, own_keep (own_other (unhide HX2).2.1 hgrow ?_) (.setCell hblk3 (by decide) 2 _), hap, (((unhide HX2).2.2.2.grown hgrow (by simp at qs ⊢; omega) (own_base own2)).setCell (p := ⟨w.heap.size, 2, none⟩) (Nat.le_refl _) _)⟩
                · unfold IntsOwn
                  rw [List.map_append, List.length_append]
                  exact own_keep hown' (.setCell hblk3 (by decide) 2 _)
                · intro x hx hy
                  exact (unhide HX2).2.2.1 x hy hx
              clear hown' hgrow own2 HX2 hblk3 z2 f2 hgor hglt
              have r1 : (w3.setCell ⟨w.heap.size, 2, none⟩ (.slice (some ⟨g, 0, none⟩) (known.length + 1) cp)).cell? ⟨w.heap.size, 1, none⟩ = some (.slice (some ⟨g2, 0, none⟩) names.length p2) := by rw [cellsOf (unhide HR).1]; rfl
              have r2 := cell_low (unhide HR).2.2.2.2 (lt_of_cell e1) e1
              obtain ⟨rb, rk, rl, ra, rw'⟩ := unhide HR
              have rs := rw'.size
              have ownl : IntsOwn w.heap.size ((w3.setCell ⟨w.heap.size, 2, none⟩ (.slice (some ⟨g, 0, none⟩) (known.length + 1) cp)).alloc (.cells #[.int .i64 v] 3)) (.slice a4 n4 p4) outs := World.ownsRow.alloc rl _
              have HY : Hid (((w3.setCell ⟨w.heap.size, 2, none⟩ (.slice (some ⟨g, 0, none⟩) (known.length + 1) cp)).alloc (.cells #[.int .i64 v] 3)).heap[w.heap.size]? = some (.cells #[.slice a1 toks.length p1, .slice (some ⟨g2, 0, none⟩) names.length p2, .slice (some ⟨g, 0, none⟩) (known.length + 1) cp] 124 (0, 0)) ∧ IntsOwn w.heap.size ((w3.setCell ⟨w.heap.size, 2, none⟩ (.slice (some ⟨g, 0, none⟩) (known.length + 1) cp)).alloc (.cells #[.int .i64 v] 3)) (.slice (some ⟨g, 0, none⟩) (known.length + 1) cp) (known ++ [v]) ∧ Apart2 (.slice (some ⟨g, 0, none⟩) (known.length + 1) cp) (.slice a4 n4 p4) ∧ Below w.heap.size w ((w3.setCell ⟨w.heap.size, 2, none⟩ (.slice (some ⟨g, 0, none⟩) (known.length + 1) cp)).alloc (.cells #[.int .i64 v] 3))) := ⟨by rw [Below.heap_alloc _ _ _ (lt_of_block rb)]; exact rb, World.ownsRow.alloc rk _, ra, rw'.alloc rw'.size _⟩
              clear rb rk rl ra rw' HR
              go_wp2_with (at_builtin; refine wpList_append_lies _ rfl _ _ 22 rfl w.heap.size 3 j0 (.int .i64 0) 1 8 Tryz.underlying22 hj hy0 hy1 hy2 rfl (by decide) _ _ _ rfl ownl ⟨_, 0, none⟩ 1 1 [intV v] rfl rfl ?b1 ?b2 (by decide) ?b3 ?b4 ?b5 _ rfl ?_)
              case b1 => exact news_far _ #[intV v] 3 (by have := heap_alloc_new (w3.setCell ⟨w.heap.size, 2, none⟩ (.slice (some ⟨g, 0, none⟩) (known.length + 1) cp)) (.cells #[.int .i64 v] 3); simpa [intV] using this) rfl
              case b2 => intro u hu; simp at hu; subst hu; rfl
              case b3 => unfold maxLen; omega
              case b4 => omega
              case b5 => simp at rs ⊢; omega
              · intro gl cl wl hownl hgrowl hgorl _
                have HZ : Hid (wl.heap[w.heap.size]? = some (.cells #[.slice a1 toks.length p1, .slice (some ⟨g2, 0, none⟩) names.length p2, .slice (some ⟨g, 0, none⟩) (known.length + 1) cp] 124 (0, 0)) ∧ IntsOwn w.heap.size wl (.slice (some ⟨g, 0, none⟩) (known.length + 1) cp) (known ++ [v]) ∧ IntsOwn w.heap.size wl (.slice (some ⟨gl, 0, none⟩) (outs.length + 1) cl) (outs ++ [v]) ∧ Apart2 (.slice (some ⟨g, 0, none⟩) (known.length + 1) cp) (.slice (some ⟨gl, 0, none⟩) (outs.length + 1) cl) ∧ Below w.heap.size w wl) := by
                  have hap : Apart2 (.slice (some ⟨g, 0, none⟩) (known.length + 1) cp) (.slice (some ⟨gl, 0, none⟩) (outs.length + 1) cl) := by
                    intro x hx hy
                    simp only [Value.ownBlock, Option.some.injEq] at hy
                    subst hy
                    rcases hgorl with h1 | h1
                    · exact (unhide HY).2.2.1 _ hx h1
                    · have hlt2 := own_lt2 (unhide HY).2.1 _ hx
                      simp at hlt2 h1
                      omega
                  refine ⟨(KeepT.grown ownl hgrowl (show 3 ≠ 124 by decide) _ _ (unhide HY).1).trans (unhide HY).1, own_other (unhide HY).2.1 hgrowl (fun x hx hy => (unhide HY).2.2.1 x hx hy), ?_, hap, (unhide HY).2.2.2.grown hgrowl (by simp at rs ⊢; omega) (own_base ownl)⟩
                  unfold IntsOwn
                  rw [List.map_append, List.length_append]
                  exact hownl
                clear hownl hgrowl hgorl ownl HY
                go_wp2
                go_roundw
                case rel => exact ⟨k + 1, _, _, _, _, _, _, known ++ [v], (outs ++ [v]), by omega, by have := unhide HKN; simp [this], by simp; omega, by go_num, rfl, HZ, unhide HQ, unhide HSf⟩
                case measure => simp [intOf]; omega
          · rw [if_neg hk1] at hstep
            have hkt : ((dk : Int) == 111) = false := by rw [beq_eq_false_iff_ne]; omega
            have HQ := hide hstep
            clear hstep hk1
            obtain ⟨qb, qk, ql, qa, qw⟩ := unhide HX
            have z2 : w2.cell? ⟨w.heap.size, 2, none⟩ = some (.slice a3 n3 p3) := by rw [cellsOf qb]; rfl
            have f2 : w2.frozen? ⟨w.heap.size, 2, none⟩ = false := freeOf qb 2
            have qs := qw.size
            have own2 : IntsOwn w.heap.size (w2.alloc (.cells #[.int .i64 v] 3)) (.slice a3 n3 p3) known := World.ownsRow.alloc qk _
            have HX2 : Hid ((w2.alloc (.cells #[.int .i64 v] 3)).heap[w.heap.size]? = some (.cells #[.slice a1 toks.length p1, .slice (some ⟨g2, 0, none⟩) names.length p2, .slice a3 n3 p3] 124 (0, 0)) ∧ IntsOwn w.heap.size (w2.alloc (.cells #[.int .i64 v] 3)) (.slice a4 n4 p4) outs ∧ Apart2 (.slice a3 n3 p3) (.slice a4 n4 p4) ∧ Below w.heap.size w (w2.alloc (.cells #[.int .i64 v] 3))) := ⟨by rw [Below.heap_alloc _ _ _ (lt_of_block qb)]; exact qb, World.ownsRow.alloc ql _, qa, qw.alloc qw.size _⟩
            clear qb qk ql qa qw HX
            go_wp2_with (at_builtin; refine wpList_append_lies _ rfl _ _ 22 rfl w.heap.size 3 j0 (.int .i64 0) 1 8 Tryz.underlying22 hj hy0 hy1 hy2 rfl (by decide) _ _ _ rfl own2 ⟨_, 0, none⟩ 1 1 [intV v] rfl rfl ?c1 ?c2 (by decide) ?c3 ?c4 ?c5 _ rfl ?_)
            case c1 => exact news_far _ #[intV v] 3 (by have := heap_alloc_new w2 (.cells #[.int .i64 v] 3); simpa [intV] using this) rfl
            case c2 => intro u hu; simp at hu; subst hu; rfl
            case c3 => have := unhide HKN; unfold maxLen; omega
            case c4 => have := unhide HKN; omega
            case c5 => simp at qs ⊢; omega
            · intro g cp w3 hown' hgrow hgor hglt
              have hblk3 : w3.heap[w.heap.size]? = some (.cells #[.slice a1 toks.length p1, .slice (some ⟨g2, 0, none⟩) names.length p2, .slice a3 n3 p3] 124 (0, 0)) := (KeepT.grown own2 hgrow (show 3 ≠ 124 by decide) _ _ (unhide HX2).1).trans (unhide HX2).1
              have c2' : w3.cell? ⟨w.heap.size, 2, none⟩ = some (.slice a3 n3 p3) := by rw [cellsOf hblk3]; rfl
              have f2' : w3.frozen? ⟨w.heap.size, 2, none⟩ = false := freeOf hblk3 2
              have HR : Hid ((w3.setCell ⟨w.heap.size, 2, none⟩ (.slice (some ⟨g, 0, none⟩) (known.length + 1) cp)).heap[w.heap.size]? = some (.cells #[.slice a1 toks.length p1, .slice (some ⟨g2, 0, none⟩) names.length p2, .slice (some ⟨g, 0, none⟩) (known.length + 1) cp] 124 (0, 0)) ∧ IntsOwn w.heap.size (w3.setCell ⟨w.heap.size, 2, none⟩ (.slice (some ⟨g, 0, none⟩) (known.length + 1) cp)) (.slice (some ⟨g, 0, none⟩) (known.length + 1) cp) (known ++ [v]) ∧ IntsOwn w.heap.size (w3.setCell ⟨w.heap.size, 2, none⟩ (.slice (some ⟨g, 0, none⟩) (known.length + 1) cp)) (.slice a4 n4 p4) outs ∧ Apart2 (.slice (some ⟨g, 0, none⟩) (known.length + 1) cp) (.slice a4 n4 p4) ∧ Below w.heap.size w (w3.setCell ⟨w.heap.size, 2, none⟩ (.slice (some ⟨g, 0, none⟩) (known.length + 1) cp))) := by
                have hap : Apart2 (.slice (some ⟨g, 0, none⟩) (known.length + 1) cp) (.slice a4 n4 p4) := by
                  intro x hx
                  simp only [Value.ownBlock, Option.some.injEq] at hx
                  subst hx
                  intro hl2
                  rcases hgor with h1 | h1
                  · exact (unhide HX2).2.2.1 _ h1 hl2
                  · have hlt2 := own_lt2 (unhide HX2).2.1 _ hl2
                    simp at hlt2 h1
                    omega
                refine ⟨by rw [heap_setCell_same w3 _ 2 _ _ _ hblk3]; rfl, ?_, own_keep (own_other (unhide HX2).2.1 hgrow ?_) (.setCell hblk3 (by decide) 2 _), hap, (((unhide HX2).2.2.2.grown hgrow (by simp at qs ⊢; omega) (own_base own2)).setCell (p := ⟨w.heap.size, 2, none⟩) (Nat.le_refl _) _)⟩
                · unfold IntsOwn
                  rw [List.map_append, List.length_append]
                  exact own_keep hown' (.setCell hblk3 (by decide) 2 _)
                · intro x hx hy
                  exact (unhide HX2).2.2.1 x hy hx
              clear hown' hgrow own2 HX2 hblk3 z2 f2 hgor hglt
              have r1 : (w3.setCell ⟨w.heap.size, 2, none⟩ (.slice (some ⟨g, 0, none⟩) (known.length + 1) cp)).cell? ⟨w.heap.size, 1, none⟩ = some (.slice (some ⟨g2, 0, none⟩) names.length p2) := by rw [cellsOf (unhide HR).1]; rfl
              have r2 := cell_low (unhide HR).2.2.2.2 (lt_of_cell e1) e1
              go_wp2
              go_roundw
              case rel => exact ⟨k + 1, _, _, _, _, _, _, known ++ [v], outs, by omega, by have := unhide HKN; simp [this], by omega, by go_num, rfl, HR, unhide HQ, unhide HSf⟩
              case measure => simp [intOf]; omega
    · rw [Pl.outH_end (by omega)] at hstep
      obtain ⟨_, _, ql, _, qw⟩ := unhide hh
      have HB := hide qw
      rw [hstep] at ql
      have HL := hide ql
      clear hh hstep ql qw
      go_wp2
      go_ret
      exact ⟨_, rfl, unhide HL, unhide HB⟩
end Go.Proofs.YtfaljekgpnbmiaaGreat
