/- Joined: Ref34. -/
import Derived.Test.YtfaljekgpnbmiaaGreatH42
/-
  The contract of the reference's big: is a bound of the text above the limit?
-/
namespace Go.Proofs.YtfaljekgpnbmiaaGreat
open Go.RowKit
set_option linter.unusedVariables false
set_option linter.unusedSimpArgs false

def Pl.Bds (known : List Int) : Prop := ∀ j, j < known.length → 0 ≤ known.getD j 0 ∧ known.getD j 0 ≤ 1000000000000000
theorem Pl.Bds.snoc {known : List Int} (h : Pl.Bds known) {b : Int} (h0 : 0 ≤ b) (h1 : b ≤ 1000000000000000) : Pl.Bds (known ++ [b]) := by
  intro j hj
  by_cases hl : j < known.length
  · rw [Pl.getD_snoc_lt hl]; exact h j hl
  · have : j = known.length := by simp at hj; omega
    subst this; rw [Pl.getD_snoc_last]; exact ⟨h0, h1⟩
theorem Pl.bigH_drop {names : List Pl.DeclM} {exs : List Pl.Ex} {k : Nat} {K : List Int} (h1 : k < names.length) (h2 : k < exs.length) : Pl.bigH (names.drop k) (exs.drop k) K = if Pl.hB K names[k] exs[k] = 1000000000000001 then true else Pl.bigH (names.drop (k + 1)) (exs.drop (k + 1)) (K ++ [Pl.hB K names[k] exs[k]]) := by
  rw [List.drop_eq_getElem_cons h1, List.drop_eq_getElem_cons h2, Pl.bigH]
theorem Pl.bigH_end {names : List Pl.DeclM} {exs : List Pl.Ex} {k : Nat} {K : List Int} (h1 : names.length ≤ k) : Pl.bigH (names.drop k) (exs.drop k) K = false := by
  rw [List.drop_eq_nil_of_le h1, Pl.bigH]
  intro d ds e es h; cases h
set_option maxRecDepth 100000 in
set_option maxHeartbeats 4000000 in
theorem big_ref (toks : List (List UInt8)) (names : List Pl.DeclM) (exs : List Pl.Ex) (vt vn : Value) (w : World) (ht : StrsAt w vt toks) (hn : DeclsAt w vn names) (hwf : Pl.Trees toks names exs) (hl : toks.length ≤ 9000) (hnl : names.length ≤ 10000) (ht6 : ∀ t ∈ toks, t.length ≤ 6000) :
    Calls Tryz.prog 109 #[.agg #[vt, vn, .slice none 0 0]] w fun e w' => e = .returned (.bool (Pl.bigH names exs [])) ∧ Below w.heap.size w w' := by
  obtain ⟨j0, hj, hy0, hy1, hy2⟩ := info_parts Tryz.infoInt
  have HT := hide ht
  have HN := hide hn
  have HW := hide hwf
  have H6 := hide ht6
  have hel := hwf.len
  obtain ⟨a1, p1, rfl⟩ := ht.shape
  obtain ⟨a2, p2, rfl⟩ := hn.shape
  generalize hq : Pl.bigH names exs [] = T
  have HQ := hide hq
  have H0 : Hid ((w.alloc (.cells #[.slice a1 toks.length p1, .slice a2 names.length p2, .slice none 0 0] 124)).heap[w.heap.size]? = some (.cells #[.slice a1 toks.length p1, .slice a2 names.length p2, .slice none 0 0] 124 (0, 0)) ∧ Below w.heap.size w (w.alloc (.cells #[.slice a1 toks.length p1, .slice a2 names.length p2, .slice none 0 0] 124))) := ⟨heap_alloc_new w _, (Below.refl _ w).alloc (Nat.le_refl _) _⟩
  have HEL := hide hel
  clear ht hn hwf ht6 hq hel
  go_enter Tryz.func109, Tryz.ntmps109
  go_wp2
  go_loopw [3] (fun i wr => ∃ (k : Nat) (a3 : Option Addr) (n3 p3 : Nat) (known : List Int), k ≤ names.length ∧ known.length = k ∧ i = .int .i64 k ∧ Hid (wr.heap[w.heap.size]? = some (.cells #[.slice a1 toks.length p1, .slice a2 names.length p2, .slice a3 n3 p3] 124 (0, 0)) ∧ IntsOwn w.heap.size wr (.slice a3 n3 p3) known ∧ Below w.heap.size w wr ∧ Pl.bigH (names.drop k) (exs.drop k) known = T ∧ Pl.Bds known)) (fun i _ => names.length - (intOf i).toNat)
  case atStart => exact ⟨0, none, 0, 0, [], by omega, rfl, rfl, (unhide H0).1, World.ownsRow_nil _ _ _ _, (unhide H0).2, unhide HQ, fun j hj => by simp at hj⟩
  case round =>
    obtain ⟨k, a3, n3, p3, known, hk, hkn, rfl, hh⟩ := hrel
    obtain ⟨hblk, hown, hbel, hstep, hkb⟩ := unhide hh
    have HKN := hide hkn
    have HKB := hide hkb
    clear H0 HQ hh hkn hkb
    have x1 : wr.cell? ⟨w.heap.size, 1, none⟩ = some (.slice a2 names.length p2) := by rw [cellsOf hblk]; rfl
    by_cases hlt : k < names.length
    · have hlt2 : k < exs.length := by rw [unhide HEL]; exact hlt
      rw [Pl.bigH_drop hlt hlt2] at hstep
      obtain ⟨g2, rfl, e0, e1, e2, e3, e4⟩ := decls_get (unhide HN) k hlt
      have d0 := cell_low hbel (lt_of_cell e0) e0
      have d1 := cell_low hbel (lt_of_cell e1) e1
      have d2 := cell_low hbel (lt_of_cell e2) e2
      have d3 := cell_low hbel (lt_of_cell e3) e3
      have d4 := cell_low hbel (lt_of_cell e4) e4
      have hlim := (unhide HW).inp k hlt
      have htr := (unhide HW).tree k hlt hlt2
      generalize exs[k] = ex at *
      generalize names[k] = d at *
      obtain ⟨dn, dk, dl, dh, dp⟩ := d
      simp only at d0 d1 d2 d3 d4 hlim htr
      clear e0 e1 e2 e3 e4 hlt2
      have hb1 := hbel.alloc hbel.size (.cells #[.string ⟨dn.toArray⟩, .int .u8 dk, .int .i64 dl, .int .i64 dh, .int .i64 dp] 155)
      have hblk1 : (wr.alloc (.cells #[.string ⟨dn.toArray⟩, .int .u8 dk, .int .i64 dl, .int .i64 dh, .int .i64 dp] 155)).heap[w.heap.size]? = some (.cells #[.slice a1 toks.length p1, .slice (some ⟨g2, 0, none⟩) names.length p2, .slice a3 n3 p3] 124 (0, 0)) := by rw [Below.heap_alloc _ _ _ (lt_of_block hblk)]; exact hblk
      have hown1 : IntsOwn w.heap.size (wr.alloc (.cells #[.string ⟨dn.toArray⟩, .int .u8 dk, .int .i64 dl, .int .i64 dh, .int .i64 dp] 155)) (.slice a3 n3 p3) known := World.ownsRow.alloc hown _
      have H1 : Hid ((wr.alloc (.cells #[.string ⟨dn.toArray⟩, .int .u8 dk, .int .i64 dl, .int .i64 dh, .int .i64 dp] 155)).heap[w.heap.size]? = some (.cells #[.slice a1 toks.length p1, .slice (some ⟨g2, 0, none⟩) names.length p2, .slice a3 n3 p3] 124 (0, 0)) ∧ IntsOwn w.heap.size (wr.alloc (.cells #[.string ⟨dn.toArray⟩, .int .u8 dk, .int .i64 dl, .int .i64 dh, .int .i64 dp] 155)) (.slice a3 n3 p3) known ∧ Below w.heap.size w (wr.alloc (.cells #[.string ⟨dn.toArray⟩, .int .u8 dk, .int .i64 dl, .int .i64 dh, .int .i64 dp] 155))) := ⟨hblk1, hown1, hb1⟩
      have HQ := hide hstep
      have HTR := hide htr
      clear hblk hown hbel hstep hb1 hblk1 hown1 htr
      have y0 : (wr.alloc (.cells #[.string ⟨dn.toArray⟩, .int .u8 dk, .int .i64 dl, .int .i64 dh, .int .i64 dp] 155)).cell? ⟨w.heap.size, 0, none⟩ = some (.slice a1 toks.length p1) := by rw [cellsOf (unhide H1).1]; rfl
      have y1 : (wr.alloc (.cells #[.string ⟨dn.toArray⟩, .int .u8 dk, .int .i64 dl, .int .i64 dh, .int .i64 dp] 155)).cell? ⟨w.heap.size, 1, none⟩ = some (.slice (some ⟨g2, 0, none⟩) names.length p2) := by rw [cellsOf (unhide H1).1]; rfl
      have y2 : (wr.alloc (.cells #[.string ⟨dn.toArray⟩, .int .u8 dk, .int .i64 dl, .int .i64 dh, .int .i64 dp] 155)).cell? ⟨w.heap.size, 2, none⟩ = some (.slice a3 n3 p3) := by rw [cellsOf (unhide H1).1]; rfl
      have hA := hide (fun m => apart_any dl ((wr.alloc (.cells #[.string ⟨dn.toArray⟩, .int .u8 dk, .int .i64 dl, .int .i64 dh, .int .i64 dp] 155)).drewN m) (by omega) (by omega))
      have hA2 := hide (fun m => apart_any dh ((wr.alloc (.cells #[.string ⟨dn.toArray⟩, .int .u8 dk, .int .i64 dl, .int .i64 dh, .int .i64 dp] 155)).drewN m) (by omega) (by omega))
      have hM := hide (fun m => most_any (Pl.absv dl) (Pl.absv dh) ((wr.alloc (.cells #[.string ⟨dn.toArray⟩, .int .u8 dk, .int .i64 dl, .int .i64 dh, .int .i64 dp] 155)).drewN m))
      have hmb : 0 ≤ Pl.most (Pl.absv dl) (Pl.absv dh) ∧ Pl.most (Pl.absv dl) (Pl.absv dh) ≤ 1000000000 := by unfold Pl.most Pl.absv; split <;> split <;> omega
      have HH : Hid (Pl.hB known ⟨dn, dk, dl, dh, dp⟩ ex = if dk = 105 then Pl.most (Pl.absv dl) (Pl.absv dh) else Pl.refB known ex) := rfl
      generalize Pl.most (Pl.absv dl) (Pl.absv dh) = mm at *
      generalize Pl.absv dl = al at *
      generalize Pl.absv dh = ah at *
      obtain ⟨hmb0, hmb1⟩ := hmb
      clear hlim
      by_cases hk1 : dk = 105
      · subst hk1
        have e5 := (unhide HH).trans (if_pos rfl)
        rw [e5, if_neg (by omega)] at HQ
        have Hb : Hid (0 ≤ mm ∧ mm ≤ 1000000000000000) := ⟨hmb0, by omega⟩
        have hmL : (mm == 1000000000000001) = false := by rw [beq_eq_false_iff_ne]; omega
        clear e5 HH HTR
        go_wp2_with fail
        go_quiet (first | (go_at_call_of 145 dl; exact Calls.quiet_of_same (unhide hA _)) | (go_at_call_of 145 dh; exact Calls.quiet_of_same (unhide hA2 _)) | (go_at_call 144; exact Calls.quiet_of_same (unhide hM _)))
        have HX : Hid (((wr.alloc (.cells #[.string ⟨dn.toArray⟩, .int .u8 105, .int .i64 dl, .int .i64 dh, .int .i64 dp] 155)).drewN nq).heap[w.heap.size]? = some (.cells #[.slice a1 toks.length p1, .slice (some ⟨g2, 0, none⟩) names.length p2, .slice a3 n3 p3] 124 (0, 0)) ∧ IntsOwn w.heap.size ((wr.alloc (.cells #[.string ⟨dn.toArray⟩, .int .u8 105, .int .i64 dl, .int .i64 dh, .int .i64 dp] 155)).drewN nq) (.slice a3 n3 p3) known ∧ Below w.heap.size w ((wr.alloc (.cells #[.string ⟨dn.toArray⟩, .int .u8 105, .int .i64 dl, .int .i64 dh, .int .i64 dp] 155)).drewN nq)) := ⟨(unhide H1).1, (unhide H1).2.1, below_drewN (unhide H1).2.2 nq⟩
        clear hA hA2 hM H1 y0 y1 y2
        obtain ⟨qb, qo, qw⟩ := unhide HX
        have y2 : ((wr.alloc (.cells #[.string ⟨dn.toArray⟩, .int .u8 105, .int .i64 dl, .int .i64 dh, .int .i64 dp] 155)).drewN nq).cell? ⟨w.heap.size, 2, none⟩ = some (.slice a3 n3 p3) := by rw [cellsOf qb]; rfl
        have f2 : ((wr.alloc (.cells #[.string ⟨dn.toArray⟩, .int .u8 105, .int .i64 dl, .int .i64 dh, .int .i64 dp] 155)).drewN nq).frozen? ⟨w.heap.size, 2, none⟩ = false := freeOf qb 2
        have qs := qw.size
        have own2 : IntsOwn w.heap.size (((wr.alloc (.cells #[.string ⟨dn.toArray⟩, .int .u8 105, .int .i64 dl, .int .i64 dh, .int .i64 dp] 155)).drewN nq).alloc (.cells #[.int .i64 mm] 3)) (.slice a3 n3 p3) known := World.ownsRow.alloc qo _
        have HX2 : Hid ((((wr.alloc (.cells #[.string ⟨dn.toArray⟩, .int .u8 105, .int .i64 dl, .int .i64 dh, .int .i64 dp] 155)).drewN nq).alloc (.cells #[.int .i64 mm] 3)).heap[w.heap.size]? = some (.cells #[.slice a1 toks.length p1, .slice (some ⟨g2, 0, none⟩) names.length p2, .slice a3 n3 p3] 124 (0, 0)) ∧ Below w.heap.size w (((wr.alloc (.cells #[.string ⟨dn.toArray⟩, .int .u8 105, .int .i64 dl, .int .i64 dh, .int .i64 dp] 155)).drewN nq).alloc (.cells #[.int .i64 mm] 3))) := ⟨by rw [Below.heap_alloc _ _ _ (lt_of_block qb)]; exact qb, qw.alloc qw.size _⟩
        clear qb qo qw HX
        go_wp2_with (at_builtin; refine wpList_append_lies _ rfl _ _ 22 rfl w.heap.size 3 j0 (.int .i64 0) 1 8 Tryz.underlying22 hj hy0 hy1 hy2 rfl (by decide) _ _ _ rfl own2 ⟨_, 0, none⟩ 1 1 [intV mm] rfl rfl ?c1 ?c2 (by decide) ?c3 ?c4 ?c5 _ rfl ?_)
        case c1 => exact news_far _ #[intV mm] 3 (by have := heap_alloc_new ((wr.alloc (.cells #[.string ⟨dn.toArray⟩, .int .u8 105, .int .i64 dl, .int .i64 dh, .int .i64 dp] 155)).drewN nq) (.cells #[.int .i64 mm] 3); simpa [intV] using this) rfl
        case c2 => intro u hu; simp at hu; subst hu; rfl
        case c3 => have := unhide HKN; unfold maxLen; omega
        case c4 => have := unhide HKN; omega
        case c5 => simp at qs ⊢; omega
        · intro g cp w3 hown' hgrow _ _
          have hblk3 : w3.heap[w.heap.size]? = some (.cells #[.slice a1 toks.length p1, .slice (some ⟨g2, 0, none⟩) names.length p2, .slice a3 n3 p3] 124 (0, 0)) := (KeepT.grown own2 hgrow (show 3 ≠ 124 by decide) _ _ (unhide HX2).1).trans (unhide HX2).1
          have c2' : w3.cell? ⟨w.heap.size, 2, none⟩ = some (.slice a3 n3 p3) := by rw [cellsOf hblk3]; rfl
          have f2' : w3.frozen? ⟨w.heap.size, 2, none⟩ = false := freeOf hblk3 2
          have HR : Hid ((w3.setCell ⟨w.heap.size, 2, none⟩ (.slice (some ⟨g, 0, none⟩) (known.length + 1) cp)).heap[w.heap.size]? = some (.cells #[.slice a1 toks.length p1, .slice (some ⟨g2, 0, none⟩) names.length p2, (.slice (some ⟨g, 0, none⟩) (known.length + 1) cp)] 124 (0, 0)) ∧ IntsOwn w.heap.size (w3.setCell ⟨w.heap.size, 2, none⟩ (.slice (some ⟨g, 0, none⟩) (known.length + 1) cp)) (.slice (some ⟨g, 0, none⟩) (known.length + 1) cp) (known ++ [mm]) ∧ Below w.heap.size w (w3.setCell ⟨w.heap.size, 2, none⟩ (.slice (some ⟨g, 0, none⟩) (known.length + 1) cp)) ∧ Pl.bigH (names.drop (k + 1)) (exs.drop (k + 1)) (known ++ [mm]) = T ∧ Pl.Bds (known ++ [mm])) := by
            refine ⟨by rw [heap_setCell_same w3 _ 2 _ _ _ hblk3]; rfl, ?_, (((unhide HX2).2.grown hgrow (by simp at qs ⊢; omega) (own_base own2)).setCell (p := ⟨w.heap.size, 2, none⟩) (Nat.le_refl _) _), unhide HQ, (unhide HKB).snoc (unhide Hb).1 (unhide Hb).2⟩
            unfold IntsOwn
            rw [List.map_append, List.length_append]
            exact own_keep hown' (.setCell hblk3 (by decide) 2 _)
          clear hown' hgrow own2 HX2 hblk3 HQ y2 f2
          go_wp2
          go_roundw
          case rel => exact ⟨k + 1, _, _, _, known ++ [mm], by omega, by have := unhide HKN; simp [this], by go_num, HR⟩
          case measure => simp [intOf]; omega
      · have n1 : ((dk : Int) != 105) = true := by simp; omega
        obtain ⟨p, q, rfl, hpar⟩ := unhide HTR hk1
        have e5 := (unhide HH).trans (if_neg hk1)
        rw [e5] at HQ
        have hkl : (names.take k).length = k := by simp; omega
        have hrb := hpar.refB (K := known) (fun j hj => unhide HKB j (by rw [unhide HKN]; omega))
        have hnl2 : (names.take k ++ names.drop k).length ≤ 10000 := by rw [List.take_append_drop]; exact hnl
        have HBo := hide (fun (w1 : World) (h1 : TextAt w1 (.slice a1 toks.length p1) (.slice (some ⟨g2, 0, none⟩) names.length p2) (.slice a3 n3 p3) toks names known) => tree_bound (rest := names.drop k) hl hnl2 (unhide H6) (by rw [hkl, unhide HKN]; exact Nat.le_refl _) (fun j hj => unhide HKB j (by rw [unhide HKN]; omega)) hpar w1 (by rw [List.take_append_drop]; exact h1))
        have Hrb : Hid (0 ≤ Pl.refB known ex ∧ Pl.refB known ex ≤ 1000000000000001) := ⟨hrb.nn, hrb.le⟩
        generalize Pl.refB known ex = b at *
        clear e5 HH HTR hpar hrb hk1 hkl hnl2
        go_wp2_with fail
        go_quiet (first | (go_at_call_of 145 dl; exact Calls.quiet_of_same (unhide hA _)) | (go_at_call_of 145 dh; exact Calls.quiet_of_same (unhide hA2 _)) | (go_at_call 144; exact Calls.quiet_of_same (unhide hM _)))
        have HX0 : Hid (((wr.alloc (.cells #[.string ⟨dn.toArray⟩, .int .u8 dk, .int .i64 dl, .int .i64 dh, .int .i64 p] 155)).drewN nq).heap[w.heap.size]? = some (.cells #[.slice a1 toks.length p1, .slice (some ⟨g2, 0, none⟩) names.length p2, .slice a3 n3 p3] 124 (0, 0)) ∧ IntsOwn w.heap.size ((wr.alloc (.cells #[.string ⟨dn.toArray⟩, .int .u8 dk, .int .i64 dl, .int .i64 dh, .int .i64 p] 155)).drewN nq) (.slice a3 n3 p3) known ∧ Below w.heap.size w ((wr.alloc (.cells #[.string ⟨dn.toArray⟩, .int .u8 dk, .int .i64 dl, .int .i64 dh, .int .i64 p] 155)).drewN nq)) := ⟨(unhide H1).1, (unhide H1).2.1, below_drewN (unhide H1).2.2 nq⟩
        clear hA hA2 hM H1 y0 y1 y2
        have y0 : ((wr.alloc (.cells #[.string ⟨dn.toArray⟩, .int .u8 dk, .int .i64 dl, .int .i64 dh, .int .i64 p] 155)).drewN nq).cell? ⟨w.heap.size, 0, none⟩ = some (.slice a1 toks.length p1) := by rw [cellsOf (unhide HX0).1]; rfl
        have y1 : ((wr.alloc (.cells #[.string ⟨dn.toArray⟩, .int .u8 dk, .int .i64 dl, .int .i64 dh, .int .i64 p] 155)).drewN nq).cell? ⟨w.heap.size, 1, none⟩ = some (.slice (some ⟨g2, 0, none⟩) names.length p2) := by rw [cellsOf (unhide HX0).1]; rfl
        have y2 : ((wr.alloc (.cells #[.string ⟨dn.toArray⟩, .int .u8 dk, .int .i64 dl, .int .i64 dh, .int .i64 p] 155)).drewN nq).cell? ⟨w.heap.size, 2, none⟩ = some (.slice a3 n3 p3) := by rw [cellsOf (unhide HX0).1]; rfl
        have hCB := hide (unhide HBo _ ⟨(unhide HT).below (unhide HX0).2.2, (unhide HN).below (unhide HX0).2.2, ints_own (unhide HX0).2.1⟩)
        clear HBo
        go_wp2_with fail
        refine (unhide hCB).mono ?_
        rintro e w2 ⟨rfl, hb2⟩
        have hs0 := lt_of_block (unhide HX0).1
        have HX : Hid (w2.heap[w.heap.size]? = some (.cells #[.slice a1 toks.length p1, .slice (some ⟨g2, 0, none⟩) names.length p2, .slice a3 n3 p3] 124 (0, 0)) ∧ IntsOwn w.heap.size w2 (.slice a3 n3 p3) known ∧ Below w.heap.size w w2) := ⟨(hb2.block _ hs0).trans (unhide HX0).1, own_keep (unhide HX0).2.1 (.of_below hb2), (unhide HX0).2.2.trans (hb2.mono (unhide HX0).2.2.size)⟩
        clear hCB hb2 y0 y1 y2 hs0 HX0
        by_cases hbig : b = 1000000000000001
        · rw [if_pos hbig] at HQ
          have hbL : (b == 1000000000000001) = true := by simp [hbig]
          have HB := hide (unhide HX).2.2
          clear HX hbig Hrb
          go_wp2
          go_ret
          exact ⟨ret_bool (unhide HQ), unhide HB⟩
        · rw [if_neg hbig] at HQ
          have hbL : (b == 1000000000000001) = false := by simpa using hbig
          have Hb : Hid (0 ≤ b ∧ b ≤ 1000000000000000) := ⟨(unhide Hrb).1, by have := (unhide Hrb).2; omega⟩
          clear hbig Hrb
          obtain ⟨qb, qo, qw⟩ := unhide HX
          have y2 : w2.cell? ⟨w.heap.size, 2, none⟩ = some (.slice a3 n3 p3) := by rw [cellsOf qb]; rfl
          have f2 : w2.frozen? ⟨w.heap.size, 2, none⟩ = false := freeOf qb 2
          have qs := qw.size
          have own2 : IntsOwn w.heap.size (w2.alloc (.cells #[.int .i64 b] 3)) (.slice a3 n3 p3) known := World.ownsRow.alloc qo _
          have HX2 : Hid ((w2.alloc (.cells #[.int .i64 b] 3)).heap[w.heap.size]? = some (.cells #[.slice a1 toks.length p1, .slice (some ⟨g2, 0, none⟩) names.length p2, .slice a3 n3 p3] 124 (0, 0)) ∧ Below w.heap.size w (w2.alloc (.cells #[.int .i64 b] 3))) := ⟨by rw [Below.heap_alloc _ _ _ (lt_of_block qb)]; exact qb, qw.alloc qw.size _⟩
          clear qb qo qw HX
          go_wp2_with (at_builtin; refine wpList_append_lies _ rfl _ _ 22 rfl w.heap.size 3 j0 (.int .i64 0) 1 8 Tryz.underlying22 hj hy0 hy1 hy2 rfl (by decide) _ _ _ rfl own2 ⟨_, 0, none⟩ 1 1 [intV b] rfl rfl ?c1 ?c2 (by decide) ?c3 ?c4 ?c5 _ rfl ?_)
          case c1 => exact news_far _ #[intV b] 3 (by have := heap_alloc_new w2 (.cells #[.int .i64 b] 3); simpa [intV] using this) rfl
          case c2 => intro u hu; simp at hu; subst hu; rfl
          case c3 => have := unhide HKN; unfold maxLen; omega
          case c4 => have := unhide HKN; omega
          case c5 => simp at qs ⊢; omega
          · intro g cp w3 hown' hgrow _ _
            have hblk3 : w3.heap[w.heap.size]? = some (.cells #[.slice a1 toks.length p1, .slice (some ⟨g2, 0, none⟩) names.length p2, .slice a3 n3 p3] 124 (0, 0)) := (KeepT.grown own2 hgrow (show 3 ≠ 124 by decide) _ _ (unhide HX2).1).trans (unhide HX2).1
            have c2' : w3.cell? ⟨w.heap.size, 2, none⟩ = some (.slice a3 n3 p3) := by rw [cellsOf hblk3]; rfl
            have f2' : w3.frozen? ⟨w.heap.size, 2, none⟩ = false := freeOf hblk3 2
            have HR : Hid ((w3.setCell ⟨w.heap.size, 2, none⟩ (.slice (some ⟨g, 0, none⟩) (known.length + 1) cp)).heap[w.heap.size]? = some (.cells #[.slice a1 toks.length p1, .slice (some ⟨g2, 0, none⟩) names.length p2, (.slice (some ⟨g, 0, none⟩) (known.length + 1) cp)] 124 (0, 0)) ∧ IntsOwn w.heap.size (w3.setCell ⟨w.heap.size, 2, none⟩ (.slice (some ⟨g, 0, none⟩) (known.length + 1) cp)) (.slice (some ⟨g, 0, none⟩) (known.length + 1) cp) (known ++ [b]) ∧ Below w.heap.size w (w3.setCell ⟨w.heap.size, 2, none⟩ (.slice (some ⟨g, 0, none⟩) (known.length + 1) cp)) ∧ Pl.bigH (names.drop (k + 1)) (exs.drop (k + 1)) (known ++ [b]) = T ∧ Pl.Bds (known ++ [b])) := by
              refine ⟨by rw [heap_setCell_same w3 _ 2 _ _ _ hblk3]; rfl, ?_, (((unhide HX2).2.grown hgrow (by simp at qs ⊢; omega) (own_base own2)).setCell (p := ⟨w.heap.size, 2, none⟩) (Nat.le_refl _) _), unhide HQ, (unhide HKB).snoc (unhide Hb).1 (unhide Hb).2⟩
              unfold IntsOwn
              rw [List.map_append, List.length_append]
              exact own_keep hown' (.setCell hblk3 (by decide) 2 _)
            clear hown' hgrow own2 HX2 hblk3 HQ y2 f2
            go_wp2
            go_roundw
            case rel => exact ⟨k + 1, _, _, _, known ++ [b], by omega, by have := unhide HKN; simp [this], by go_num, HR⟩
            case measure => simp [intOf]; omega
    · rw [Pl.bigH_end (by omega)] at hstep
      have HQ := hide hstep
      have HB := hide hbel
      clear hblk hown hbel hstep
      go_wp2
      go_ret
      exact ⟨ret_bool (unhide HQ), unhide HB⟩
end Go.Proofs.YtfaljekgpnbmiaaGreat
