/- Joined: Ref18 Ref19. -/
import Derived.Test.YtfaljekgpnbmiaaGreatL30
/-
  Contracts of the reference's Fits and ReadLow.
-/
namespace Go.Proofs.YtfaljekgpnbmiaaGreat
open Go.RowKit

def Pl.fitsF : Nat → List Pl.DeclM → List Int → Bool
  | 0, _, _ => true
  | n + 1, d :: ds, x :: xs => decide (d.lo ≤ x ∧ x ≤ d.hi) && Pl.fitsF n ds xs
  | _, _, _ => true
def Pl.fitsD (names : List Pl.DeclM) (home : List Int) : Bool := decide (home.length = Pl.countD names 105) && Pl.fitsF (Pl.countD names 105) names home
theorem fitsF_step (names : List Pl.DeclM) (home : List Int) (n k : Nat) (h1 : k < names.length) (h2 : k < home.length) (hk : k < n) : Pl.fitsF (n - k) (names.drop k) (home.drop k) = (decide (names[k].lo ≤ home[k] ∧ home[k] ≤ names[k].hi) && Pl.fitsF (n - (k + 1)) (names.drop (k + 1)) (home.drop (k + 1))) := by
  rw [show n - k = (n - (k + 1)) + 1 by omega, List.drop_eq_getElem_cons h1, List.drop_eq_getElem_cons h2, Pl.fitsF]

set_option maxRecDepth 100000 in
set_option maxHeartbeats 1000000 in
theorem Fits_ref (names : List Pl.DeclM) (home : List Int) (vn vh : Value) (w : World) (hn : DeclsAt w vn names) (hh : IntsAt w vh home) (hnl : names.length ≤ 10000) (hhl : home.length ≤ maxLen) :
    Calls Tryz.prog 76 #[vn, vh] w fun e w' => e = .returned (.bool (Pl.fitsD names home)) ∧ ∃ n, w' = w.drewN n := by
  unfold maxLen at hhl
  have hC := hide (count_ref names vn 105 w hn hnl)
  have HN := hide hn
  have HH := hide hh
  have hcl := Pl.countD_le names 105
  obtain ⟨a2, p2, rfl⟩ := hn.shape
  obtain ⟨a3, p3, rfl, _⟩ := hh
  unfold Pl.fitsD
  generalize Pl.countD names 105 = n at *
  clear hn
  by_cases hne : home.length = n
  · have hd : decide (home.length = n) = true := by simp [hne]
    rw [hd, Bool.true_and]
    have hne1 : home.length ≤ n := by omega
    have hne2 : n ≤ home.length := by omega
    have hne0 : ((home.length : Int) != n) = false := by simp; omega
    clear hd hne
    generalize hq : Pl.fitsF n names home = T
    have HQ := hide hq
    clear hq
    go_enter Tryz.func76, Tryz.ntmps76
    go_wp2_with fail
    refine (unhide hC).mono ?_
    rintro e w1 ⟨rfl, hw1⟩
    rw [hw1]
    clear hw1 w1 hC
    go_wp2
    go_loopw [6] (fun i wr => ∃ (k m : Nat), k ≤ n ∧ i = .int .i64 k ∧ wr = w.drewN m ∧ Hid (Pl.fitsF (n - k) (names.drop k) (home.drop k) = T)) (fun i _ => n - (intOf i).toNat)
    case atStart => exact ⟨0, 0, by omega, rfl, rfl, unhide HQ⟩
    case round =>
      obtain ⟨k, m, hk, rfl, rfl, hr⟩ := hrel
      clear HQ
      by_cases hlt : k < n
      · have hst := fitsF_step names home n k (by omega) (by omega) hlt
        obtain ⟨g2, rfl, _, _, e2, e3, _⟩ := decls_get (unhide HN) k (by omega)
        obtain ⟨b3, o3, rfl, c3⟩ := ints_get (unhide HH) k (by omega)
        have hr2 := hr.out
        rw [hst] at hr2
        clear hst hr
        generalize (names[k]'(by omega)).lo = lo at *
        generalize (names[k]'(by omega)).hi = hi at *
        generalize (home[k]'(by omega)) = x at *
        have hkh : k < home.length := by omega
        have hkn : k < names.length := by omega
        by_cases h1 : x < lo
        · have hT : Hid (T = false) := by rw [← hr2, decide_eq_false (by omega)]; rfl
          clear hr2
          go_wp2
          go_quiet (fail)
          go_wp2
          go_ret
          exact ⟨ret_bool hT.out.symm, _, World.drewN_drewN _ _ _⟩
        · by_cases h2 : hi < x
          · have hT : Hid (T = false) := by rw [← hr2, decide_eq_false (by omega)]; rfl
            clear hr2
            go_wp2
            go_quiet (fail)
            go_wp2
            go_ret
            exact ⟨ret_bool hT.out.symm, _, World.drewN_drewN _ _ _⟩
          · have hr3 : Hid (Pl.fitsF (n - (k + 1)) (names.drop (k + 1)) (home.drop (k + 1)) = T) := by rw [decide_eq_true (by omega), Bool.true_and] at hr2; exact hr2
            clear hr2
            go_wp2
            go_quiet (fail)
            go_wp2
            go_roundw
            case rel => exact ⟨k + 1, _, by omega, by go_num, rfl, hr3.out⟩
            case measure => simp [intOf]; omega
      · have hT : Hid (T = true) := by have := hr.out; rw [show n - k = 0 by omega, Pl.fitsF] at this; exact this.symm
        clear hr
        go_wp2
        go_ret
        exact ⟨ret_bool hT.out.symm, _, rfl⟩
  · have hd : decide (home.length = n) = false := by simp [hne]
    rw [hd, Bool.false_and]
    have hne2 : ((home.length : Int) != n) = true := by simp; omega
    clear hd
    go_enter Tryz.func76, Tryz.ntmps76
    go_wp2_with fail
    refine (unhide hC).mono ?_
    rintro e w1 ⟨rfl, hw1⟩
    rw [hw1]
    clear hw1 w1 hC
    go_wp2
    go_ret
    exact ⟨rfl, 0, rfl⟩
end Go.Proofs.YtfaljekgpnbmiaaGreat

/-
  Contracts of the reference's ReadLow, CheckLow, PrintLow, RunLow.
-/
namespace Go.Proofs.YtfaljekgpnbmiaaGreat
open Go.RowKit

/-- The error, the place, the names. -/
def Pl.refLow (l : List UInt8) : Int × Int × List Pl.DeclM :=
  if 6000 < l.length then (1, 0, [])
  else match Pl.lowD (Pl.tokens l) ((Pl.tokens l).length + 1) [] 0 with
    | .inr p => (2, p, [])
    | .inl ds => if Pl.wideFrom (Pl.tokens l) ds ds [] = true then (3, 0, []) else (0, 0, ds)
/-- What a reading of the reference leaves. -/
structure TextOwn (w : World) (e : Int) (toks : List (List UInt8)) (names : List Pl.DeclM) (vt vn vk : Value) : Prop where
  good : e = 0 → ∃ B, StrsOwn B w vt toks ∧ DeclsOwn B w vn names ∧ vk = .slice none 0 0
  st : ∃ ad n cap, vt = .slice ad n cap
  sn : ∃ ad n cap, vn = .slice ad n cap
  sk : ∃ ad n cap, vk = .slice ad n cap
theorem TextOwn.none (w : World) (e : Int) (toks : List (List UInt8)) (names : List Pl.DeclM) (h : e ≠ 0) : TextOwn w e toks names (.slice none 0 0) (.slice none 0 0) (.slice none 0 0) :=
  ⟨fun h' => absurd h' h, ⟨_, _, _, rfl⟩, ⟨_, _, _, rfl⟩, ⟨_, _, _, rfl⟩⟩
theorem TextOwn.keep {w w' : World} {e : Int} {toks : List (List UInt8)} {names : List Pl.DeclM} {vt vn vk : Value} (h : TextOwn w e toks names vt vn vk) (k : ∀ e : TypeId, 124 ≠ e → KeepT e w w') : TextOwn w' e toks names vt vn vk :=
  ⟨fun h0 => by obtain ⟨B, h1, h2, h3⟩ := h.good h0; exact ⟨B, own_keep h1 (k _ (by decide)), own_keep h2 (k _ (by decide)), h3⟩, h.st, h.sn, h.sk⟩
theorem keep_text {w : World} {g : Nat} {cs : Array Value} (hk : w.heap[g]? = some (.cells cs 124 (0, 0))) (x y z : Value) : ∀ e : TypeId, 124 ≠ e → KeepT e w (((w.setCell ⟨g, 0, none⟩ x).setCell ⟨g, 1, none⟩ y).setCell ⟨g, 2, none⟩ z) := by
  have h1 := heap_setCell_same w g 0 _ _ x hk
  have h2 := heap_setCell_same _ g 1 _ _ y h1
  exact fun e he => ((KeepT.setCell hk he 0 x).trans (KeepT.setCell h1 he 1 y)).trans (KeepT.setCell h2 he 2 z)
theorem text_facts {w : World} {g : Nat} {x y z : Value} {T : TypeId} (h : w.heap[g]? = some (.cells #[x, y, z] T (0, 0))) : w.cell? ⟨g, 0, none⟩ = some x ∧ w.cell? ⟨g, 1, none⟩ = some y ∧ w.cell? ⟨g, 2, none⟩ = some z ∧ w.frozen? ⟨g, 0, none⟩ = false ∧ w.frozen? ⟨g, 1, none⟩ = false ∧ w.frozen? ⟨g, 2, none⟩ = false :=
  ⟨by rw [cellsOf h]; rfl, by rw [cellsOf h]; rfl, by rw [cellsOf h]; rfl, freeOf h 0, freeOf h 1, freeOf h 2⟩
theorem toks_small (l : List UInt8) (hl : l.length ≤ 6000) : (Pl.tokens l).length ≤ 6001 ∧ ∀ t ∈ Pl.tokens l, t.length ≤ 6000 := by
  refine ⟨?_, fun t ht => by have := Pl.tokens_len_aux l [] false t ht; simp at this; omega⟩
  have h1 := Pl.scan_wide l [] false
  have h2 : (Pl.tokens l).length ≤ Pl.wide (Pl.tokens l) := by
    unfold Pl.wide
    generalize Pl.tokens l = K
    induction K with
    | nil => simp
    | cons t r ih => simp; omega
  unfold Pl.tokens at h2 ⊢
  simp at h1; omega

set_option maxRecDepth 100000 in
set_option maxHeartbeats 3000000 in
theorem ReadLow_ref (l : List UInt8) (w : World) (hlm : l.length ≤ maxLen) (hwf : ∀ ds, Pl.lowD (Pl.tokens l) ((Pl.tokens l).length + 1) [] 0 = .inl ds → Pl.WF (Pl.tokens l) ds ∧ ds.length ≤ 10000) :
    Calls Tryz.prog 79 #[.string ⟨l.toArray⟩] w fun e w' => ∃ vt vn vk, e = .returned (.tuple #[.agg #[vt, vn, vk], .int .i64 (Pl.refLow l).1, .int .i64 (Pl.refLow l).2.1]) ∧ TextOwn w' (Pl.refLow l).1 (Pl.tokens l) (Pl.refLow l).2.2 vt vn vk ∧ Below w.heap.size w w' := by
  unfold maxLen at hlm
  have hal : Below w.heap.size w (w.alloc (.cells #[.slice none 0 0, .slice none 0 0, .slice none 0 0] 124)) := (Below.refl _ w).alloc (Nat.le_refl _) _
  have hnew := heap_alloc_new w (.cells #[.slice none 0 0, .slice none 0 0, .slice none 0 0] 124)
  by_cases hlong : 6000 < l.length
  · have hR : Hid (Pl.refLow l = (1, 0, [])) := by unfold Pl.refLow Hid; rw [if_pos hlong]
    have HA := hide hal
    clear hal hnew hwf
    go_enter Tryz.func79, Tryz.ntmps79
    go_wp2_with fail
    rw [hR.out]
    exact bodyPost_ret (v := .tuple #[.agg #[.slice none 0 0, .slice none 0 0, .slice none 0 0], .int .i64 1, .int .i64 0]) (by simp [results, Tryz.results79, go_sem]) rfl ⟨_, _, _, rfl, TextOwn.none _ _ _ _ (by simp), unhide HA⟩
  · have hl6 : l.length ≤ 6000 := by omega
    obtain ⟨hts, ht6⟩ := toks_small l hl6
    have hTk := hide (Tokens_ref l (w.alloc (.cells #[.slice none 0 0, .slice none 0 0, .slice none 0 0] 124)) hl6)
    have hLo := hide (fun w1 vt B (h : StrsOwn B w1 vt (Pl.tokens l)) => Low_ref (Pl.tokens l) vt w1 (strs_at h) (by omega) ht6)
    have hR : Hid (Pl.refLow l = match Pl.lowD (Pl.tokens l) ((Pl.tokens l).length + 1) [] 0 with | .inr p => ((2 : Int), (p : Int), []) | .inl ds => if Pl.wideFrom (Pl.tokens l) ds ds [] = true then (3, 0, []) else (0, 0, ds)) := by unfold Pl.refLow Hid; rw [if_neg hlong]
    have H6 := hide ht6
    generalize Pl.tokens l = toks at *
    clear ht6
    cases hq : Pl.lowD toks (toks.length + 1) [] 0 with
    | inr p =>
      rw [hq] at hR hLo
      clear hwf
      go_enter Tryz.func79, Tryz.ntmps79
      go_wp2_with fail
      refine (unhide hTk).mono ?_
      rintro e w1 ⟨vt, rfl, hst, hb1⟩
      have hL1 := hide (unhide hLo _ _ _ hst)
      obtain ⟨a1, p1, rfl⟩ := slice_shape hst
      clear hst
      go_wp2_with fail
      refine (unhide hL1).mono ?_
      rintro e w2 ⟨rfl, hb2⟩
      have hb12 := hb1.trans (hb2.mono hb1.size)
      have hk := (hb12.block w.heap.size (by simp)).trans hnew
      obtain ⟨c0, c1, c2, f0, f1, f2⟩ := text_facts hk
      have HH := hide (fun x y z => (((hal.trans (hb12.mono (by simp))).setCell (p := ⟨w.heap.size, 0, none⟩) (Nat.le_refl _) x).setCell (p := ⟨w.heap.size, 1, none⟩) (Nat.le_refl _) y).setCell (p := ⟨w.heap.size, 2, none⟩) (Nat.le_refl _) z)
      clear hb1 hb2 hb12 hk hal hnew hTk hLo hL1
      go_wp2_with fail
      rw [hR.out]
      exact bodyPost_ret (v := .tuple #[.agg #[.slice none 0 0, .slice none 0 0, .slice none 0 0], .int .i64 2, .int .i64 p]) (by simp [results, Tryz.results79, go_sem, c0, c1, c2]) rfl ⟨_, _, _, rfl, TextOwn.none _ _ _ _ (by simp), unhide HH _ _ _⟩
    | inl ds =>
      rw [hq] at hR hLo
      obtain ⟨hw1, hw2⟩ := hwf ds hq
      clear hwf hq
      cases hwd : Pl.wideFrom toks ds ds [] with
      | true =>
        have hR' : Hid (Pl.refLow l = (3, 0, [])) := by have := hR.out; simp only [hwd, if_true] at this; exact this
        clear hR
        go_enter Tryz.func79, Tryz.ntmps79
        go_wp2_with fail
        refine (unhide hTk).mono ?_
        rintro e w1 ⟨vt, rfl, hst, hb1⟩
        have hL1 := hide (unhide hLo _ _ _ hst)
        have HST := hide hst
        obtain ⟨a1, p1, rfl⟩ := slice_shape hst
        clear hst
        go_wp2_with fail
        refine (unhide hL1).mono ?_
        rintro e w2 ⟨⟨vn, rfl, hdn⟩, hb2⟩
        have hb12 := hb1.trans (hb2.mono hb1.size)
        obtain ⟨a2, p2, rfl⟩ := slice_shape hdn
        have hbx := hb12.alloc hb12.size (.cells #[.slice a1 toks.length p1, .slice a2 ds.length p2, .slice none 0 0] 124)
        have hstx : StrsOwn (w.alloc (.cells #[.slice none 0 0, .slice none 0 0, .slice none 0 0] 124)).heap.size (w2.alloc (.cells #[.slice a1 toks.length p1, .slice a2 ds.length p2, .slice none 0 0] 124)) (.slice a1 toks.length p1) toks := World.ownsRow.alloc (own_keep (unhide HST) (.of_below hb2)) _
        have hdnx : DeclsOwn (w.alloc (.cells #[.slice none 0 0, .slice none 0 0, .slice none 0 0] 124)).heap.size (w2.alloc (.cells #[.slice a1 toks.length p1, .slice a2 ds.length p2, .slice none 0 0] 124)) (.slice a2 ds.length p2) ds := World.ownsRow.alloc (own_mono hdn hb1.size) _
        have hWd := hide (wide_ref toks ds (.slice a1 toks.length p1) (.slice a2 ds.length p2) (w2.alloc (.cells #[.slice a1 toks.length p1, .slice a2 ds.length p2, .slice none 0 0] 124)) (strs_at hstx) (decls_at hdnx) hw1 (by omega) hw2 (unhide H6))
        rw [hwd] at hWd
        have hxn := heap_alloc_new w2 (.cells #[.slice a1 toks.length p1, .slice a2 ds.length p2, .slice none 0 0] 124)
        obtain ⟨x0, x1, x2, _⟩ := text_facts hxn
        clear hb1 hb2 hdn HST hL1 hLo hTk
        go_wp2_with fail
        refine (unhide hWd).mono ?_
        rintro e w3 ⟨rfl, hb3⟩
        have hbb := hbx.trans (hb3.mono hbx.size)
        have hk := (hbb.block w.heap.size (by simp)).trans hnew
        obtain ⟨c0, c1, c2, f0, f1, f2⟩ := text_facts hk
        have hkx := (hb3.block w2.heap.size (by simp)).trans hxn
        obtain ⟨z0, z1, z2, _⟩ := text_facts hkx
        have HH := hide (fun x y z => (((hal.trans (hbb.mono (by simp))).setCell (p := ⟨w.heap.size, 0, none⟩) (Nat.le_refl _) x).setCell (p := ⟨w.heap.size, 1, none⟩) (Nat.le_refl _) y).setCell (p := ⟨w.heap.size, 2, none⟩) (Nat.le_refl _) z)
        clear hbx hstx hdnx hWd hxn x0 x1 x2 hb3 hbb hk hkx hb12 hal hnew z0 z1 z2 hw1
        go_wp2_with fail
        rw [hR'.out]
        exact bodyPost_ret (v := .tuple #[.agg #[.slice none 0 0, .slice none 0 0, .slice none 0 0], .int .i64 3, .int .i64 0]) (by simp [results, Tryz.results79, go_sem, c0, c1, c2]) rfl ⟨_, _, _, rfl, TextOwn.none _ _ _ _ (by simp), unhide HH _ _ _⟩
      | false =>
        have hR' : Hid (Pl.refLow l = (0, 0, ds)) := by have := hR.out; simp only [hwd, Bool.false_eq_true, if_false] at this; exact this
        clear hR
        go_enter Tryz.func79, Tryz.ntmps79
        go_wp2_with fail
        refine (unhide hTk).mono ?_
        rintro e w1 ⟨vt, rfl, hst, hb1⟩
        have hL1 := hide (unhide hLo _ _ _ hst)
        have HST := hide hst
        obtain ⟨a1, p1, rfl⟩ := slice_shape hst
        clear hst
        go_wp2_with fail
        refine (unhide hL1).mono ?_
        rintro e w2 ⟨⟨vn, rfl, hdn⟩, hb2⟩
        have hb12 := hb1.trans (hb2.mono hb1.size)
        obtain ⟨a2, p2, rfl⟩ := slice_shape hdn
        have hbx := hb12.alloc hb12.size (.cells #[.slice a1 toks.length p1, .slice a2 ds.length p2, .slice none 0 0] 124)
        have hstx : StrsOwn (w.alloc (.cells #[.slice none 0 0, .slice none 0 0, .slice none 0 0] 124)).heap.size (w2.alloc (.cells #[.slice a1 toks.length p1, .slice a2 ds.length p2, .slice none 0 0] 124)) (.slice a1 toks.length p1) toks := World.ownsRow.alloc (own_keep (unhide HST) (.of_below hb2)) _
        have hdnx : DeclsOwn (w.alloc (.cells #[.slice none 0 0, .slice none 0 0, .slice none 0 0] 124)).heap.size (w2.alloc (.cells #[.slice a1 toks.length p1, .slice a2 ds.length p2, .slice none 0 0] 124)) (.slice a2 ds.length p2) ds := World.ownsRow.alloc (own_mono hdn hb1.size) _
        have hWd := hide (wide_ref toks ds (.slice a1 toks.length p1) (.slice a2 ds.length p2) (w2.alloc (.cells #[.slice a1 toks.length p1, .slice a2 ds.length p2, .slice none 0 0] 124)) (strs_at hstx) (decls_at hdnx) hw1 (by omega) hw2 (unhide H6))
        rw [hwd] at hWd
        have hxn := heap_alloc_new w2 (.cells #[.slice a1 toks.length p1, .slice a2 ds.length p2, .slice none 0 0] 124)
        obtain ⟨x0, x1, x2, _⟩ := text_facts hxn
        clear hb1 hb2 hdn HST hL1 hLo hTk
        go_wp2_with fail
        refine (unhide hWd).mono ?_
        rintro e w3 ⟨rfl, hb3⟩
        have hbb := hbx.trans (hb3.mono hbx.size)
        have hk := (hbb.block w.heap.size (by simp)).trans hnew
        obtain ⟨c0, c1, c2, f0, f1, f2⟩ := text_facts hk
        have hkx := (hb3.block w2.heap.size (by simp)).trans hxn
        obtain ⟨z0, z1, z2, _⟩ := text_facts hkx
        have HH := hide (fun x y z => (((hal.trans (hbb.mono (by simp))).setCell (p := ⟨w.heap.size, 0, none⟩) (Nat.le_refl _) x).setCell (p := ⟨w.heap.size, 1, none⟩) (Nat.le_refl _) y).setCell (p := ⟨w.heap.size, 2, none⟩) (Nat.le_refl _) z)
        have HT := hide (fun x y z => (TextOwn.mk (w := w3) (e := 0) (toks := toks) (names := ds) (vt := .slice a1 toks.length p1) (vn := .slice a2 ds.length p2) (vk := .slice none 0 0) (fun _ => ⟨_, own_keep hstx (.of_below hb3), own_keep hdnx (.of_below hb3), rfl⟩) ⟨_, _, _, rfl⟩ ⟨_, _, _, rfl⟩ ⟨_, _, _, rfl⟩).keep (keep_text hk x y z))
        clear hbx hstx hdnx hWd hxn x0 x1 x2 hb3 hbb hk hkx hb12 hal hnew hw1
        go_wp2_with fail
        rw [hR'.out]
        exact bodyPost_ret (v := .tuple #[.agg #[.slice a1 toks.length p1, .slice a2 ds.length p2, .slice none 0 0], .int .i64 0, .int .i64 0]) (by simp [results, Tryz.results79, go_sem, c0, c1, c2]) rfl ⟨_, _, _, rfl, unhide HT _ _ _, unhide HH _ _ _⟩
end Go.Proofs.YtfaljekgpnbmiaaGreat
