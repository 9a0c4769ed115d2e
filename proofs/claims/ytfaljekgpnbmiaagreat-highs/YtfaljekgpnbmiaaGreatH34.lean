/- Joined: Ref25. -/
import Derived.Test.YtfaljekgpnbmiaaGreatH33
/-
  The contract of the reference's High.
-/
namespace Go.Proofs.YtfaljekgpnbmiaaGreat
open Go.RowKit
set_option linter.unusedVariables false
set_option linter.unusedSimpArgs false

def posOf (w : World) (b : Nat) : Nat := match w.cell? ⟨b, 1, none⟩ with | some (.int _ p) => p.toNat | _ => 0
def pileOf (w : World) (b : Nat) : Nat := match w.cell? ⟨b, 2, none⟩ with | some (.string s) => s.size | _ => 0
theorem RH.facts {B : Nat} {w : World} {b : Nat} {vt vn : Value} {st : Pl.StH} (h : RH B w b vt vn st) : posOf w b = st.pos ∧ pileOf w b = st.pile.length := by
  obtain ⟨_, c1, c2, _⟩ := rd_facts h.blk
  refine ⟨by unfold posOf; rw [c1]; simp, by unfold pileOf; rw [c2]; rfl⟩
theorem RH.pile {B : Nat} {w : World} {b : Nat} {vt vn : Value} {st : Pl.StH} (h : RH B w b vt vn st) (P : List UInt8) : RH B (w.setCell ⟨b, 2, none⟩ (.string ⟨P.toArray⟩)) b vt vn ⟨st.pos, P, st.names, st.last, st.name, st.beg⟩ :=
  ⟨h.base, by rw [heap_setCell_same w b 2 _ _ _ h.blk]; rfl, own_keep h.own (.setCell h.blk (show 200 ≠ 155 by decide) 2 _)⟩
theorem RH.step {B : Nat} {w : World} {b : Nat} {vt vn : Value} {st : Pl.StH} (h : RH B w b vt vn st) : RH B (w.setCell ⟨b, 1, none⟩ (.int .i64 ((st.pos : Int) + 1))) b vt vn ⟨st.pos + 1, st.pile, st.names, st.last, st.name, st.beg⟩ :=
  ⟨h.base, by rw [heap_setCell_same w b 1 _ _ _ h.blk]; rfl, own_keep h.own (.setCell h.blk (show 200 ≠ 155 by decide) 1 _)⟩
theorem RH.noted {B : Nat} {w w' : World} {b : Nat} {vt vn : Value} {st : Pl.StH} (h : RH B w b vt vn st) (ho : Only b w w') {last : Int} {nm : List UInt8} {bg : Nat} (hk : w'.heap[b]? = some (.cells #[vt, .int .i64 st.pos, .string ⟨st.pile.toArray⟩, vn, .int .i64 last, .string ⟨nm.toArray⟩, .int .i64 bg] 200 (0, 0))) : RH B w' b vt vn ⟨st.pos, st.pile, st.names, last, nm, bg⟩ :=
  ⟨h.base, hk, own_keep h.own (KeepT.only ho h.blk (show 200 ≠ 155 by decide))⟩
theorem Pl.leadsD_len (names : List Pl.DeclM) (last : Int) (c : UInt8) (t : List UInt8) : (Pl.leadsD names last c t).length ≤ 12 := by
  have hy : ∀ b, (Pl.yesD b).length ≤ 12 := by intro b; unfold Pl.yesD; split <;> simp
  unfold Pl.leadsD
  split
  · unfold Pl.headsD; (repeat' split) <;> simp
  split
  · unfold Pl.exprD; (repeat' split) <;> first | exact hy _ | simp
  split
  · unfold Pl.condD; (repeat' split) <;> simp
  split
  · split
    · rename_i h
      have hw := Pl.within_true h
      have : ∀ n, (Pl.bandsD n).length = 2 * n := by
        intro n; induction n with
        | zero => rfl
        | succ n ih => rw [Pl.bandsD, List.length_append, ih]; simp; omega
      rw [this]; omega
    · simp
  repeat' split
  all_goals first | exact hy _ | simp
theorem Pl.notEnd {c : UInt8} (h : ¬ Pl.isEnd c) : ((c.toNat : Int) == 86) = false ∧ ((c.toNat : Int) == 79) = false ∧ ((c.toNat : Int) == 73) = false := by
  have hx : ∀ k : UInt8, c ≠ k → ((c.toNat : Int) == (k.toNat : Int)) = false := by
    intro k hk
    rw [beq_eq_false_iff_ne]
    intro e
    exact hk (UInt8.toNat_inj.1 (by omega))
  unfold Pl.isEnd at h
  exact ⟨hx 86 (fun e => h (.inl e)), hx 79 (fun e => h (.inr (.inl e))), hx 73 (fun e => h (.inr (.inr e)))⟩
theorem Pl.is72 {c : UInt8} : (((c.toNat : Int) == 72) = true ↔ c = 72) := by
  rw [beq_iff_eq]
  constructor
  · intro e; exact UInt8.toNat_inj.1 (by have e2 : (72 : UInt8).toNat = 72 := rfl; omega)
  · rintro rfl; rfl
theorem pile_facts {D P : List UInt8} {c : UInt8} (h : D = P ++ [c]) : D.length = P.length + 1 ∧ (∃ hl : P.length < (ByteArray.mk D.toArray).size, (ByteArray.mk D.toArray)[P.length]'hl = c) ∧ (ByteArray.mk D.toArray).extract 0 P.length = ⟨P.toArray⟩ := by
  subst h
  refine ⟨by simp, ⟨by show P.length < (P ++ [c]).length; simp, ?_⟩, ?_⟩
  · rw [bget (P ++ [c]) P.length (by simp)]; simp
  · rw [bext]; simp

set_option maxRecDepth 100000 in
set_option maxHeartbeats 8000000 in
theorem High_ref (l : List (List UInt8)) (vl : Value) (w : World) (res : List Pl.DeclM ⊕ Nat) (hE : Pl.Ends l ⟨0, [72], [], 0, [], 0⟩ res) (h : StrsAt w vl l) (hl : l.length ≤ 8000) (ht6 : ∀ t ∈ l, t.length ≤ 6000) :
    Calls Tryz.prog 108 #[vl] w fun e w' => LowV w.heap.size e w' res ∧ Below w.heap.size w w' := by
  have HS := hide h
  obtain ⟨ad, cap, rfl⟩ := h.shape
  have H6 := hide ht6
  have H0 : Hid (RH w.heap.size (w.alloc (.cells #[.slice ad l.length cap, .int .i64 0, .string ⟨#[72]⟩, .slice none 0 0, .int .i64 0, .string ⟨#[]⟩, .int .i64 0] 200)) w.heap.size (.slice ad l.length cap) (.slice none 0 0) ⟨0, [72], [], 0, [], 0⟩ ∧ Below w.heap.size w (w.alloc (.cells #[.slice ad l.length cap, .int .i64 0, .string ⟨#[72]⟩, .slice none 0 0, .int .i64 0, .string ⟨#[]⟩, .int .i64 0] 200)) ∧ Pl.Ends l ⟨0, [72], [], 0, [], 0⟩ res) :=
    ⟨⟨Nat.le_refl _, heap_alloc_new w _, World.ownsRow_nil _ _ _ _⟩, (Below.refl _ _).alloc (Nat.le_refl _) _, hE⟩
  clear h ht6 hE
  go_enter Tryz.func108, Tryz.ntmps108
  go_wp2
  go_loopw [5] (fun _ wr => ∃ (st : Pl.StH) (ax : Option Addr) (nx cx : Nat), st.pos ≤ l.length ∧ st.pos ≤ 600 ∧ st.names.length + st.pile.length ≤ 1 + 13 * st.pos ∧ Hid (RH w.heap.size wr w.heap.size (.slice ad l.length cap) (.slice ax nx cx) st ∧ Below w.heap.size w wr ∧ Pl.Ends l st res)) (fun _ wr => 13 * (l.length - posOf wr w.heap.size) + pileOf wr w.heap.size)
  case atStart => exact ⟨_, none, 0, 0, by simp, by simp, by simp, H0⟩
  case round =>
    obtain ⟨⟨pos, pile, names, last, nm, bg⟩, ax, nx, cx, hp0, hp6, hp2, hh⟩ := hrel
    simp only at hp0 hp6 hp2
    clear H0
    obtain ⟨hR, hbel, hEn⟩ := unhide hh
    rcases hEn.inv with ⟨P, c, hp, hc, hb, hE⟩ | ⟨P, hp, hpl, ho, hres⟩ | ⟨P, c, hp, hc, hpl, ho, hres⟩ | ⟨P, c, hp, hc, hpl, h6, hres⟩ | ⟨P, c, hp, hc, hpl, h6, hs, hres⟩ | ⟨P, c, hp, hc, hpl, h6, hs, hE⟩
    · clear hEn
      simp only at hp hb hE
      have hR1 := hR.pile P
      have hb1 := hbel.setCell (p := ⟨w.heap.size, 2, none⟩) (Nat.le_refl _) (.string ⟨P.toArray⟩)
      have hlt0 := lt_of_block hR.blk
      obtain ⟨c0, c1, c2, c3, c4, c5, c6, fz⟩ := rd_facts hR.blk
      have fz2 := fz 2
      obtain ⟨d0, d1, d2, d3, d4, d5, d6, dz⟩ := rd_facts hR1.blk
      have dz1 := dz 1
      have dz2 := dz 2
      have M0 := hide hR.facts
      have HB1 := hide hb1
      have HR1 := hide hR1
      obtain ⟨hDl, ⟨hpl0, hpb⟩, hpx⟩ := pile_facts hp
      rw [hDl] at hp2
      simp only at c0 c1 c2 c3 c4 c5 c6 d0 d1 d2 d3 d4 d5 d6
      clear hR hbel hR1 hb1 fz dz hh
      clear hp

      have HN := hide hE
      clear hE
      have hSt := hide ((unhide HS).below (unhide HB1))
      rcases hc with rfl | rfl | rfl
      · have hEn := hide (ends_V (unhide HR1) (by simp only; omega))
        go_wp2_with fail
        refine (unhide hEn).mono ?_
        rintro e w2 ⟨rfl, ⟨vn', hR2⟩, hb2⟩
        obtain ⟨ax2, cx2, hvn⟩ := slice_shape hR2.own
        subst hvn
        have M2 := hide hR2.facts
        have HR : Hid (RH w.heap.size w2 w.heap.size (.slice ad l.length cap) (.slice ax2 _ cx2) ⟨pos, P, names ++ [Pl.declD l nm bg 86], last, nm, bg⟩ ∧ Below w.heap.size w w2 ∧ Pl.Ends l ⟨pos, P, names ++ [Pl.declD l nm bg 86], last, nm, bg⟩ res) := ⟨hR2, (unhide HB1).trans hb2, unhide HN⟩
        clear hR2 hb2 hEn HR1 HB1 HN
        go_wp2
        go_roundw
        case rel => exact ⟨_, _, _, _, by simp only; omega, by simp only; omega, by simp; omega, HR⟩
        case measure =>
          have a := unhide M0
          have b := unhide M2
          try simp only at a b
          rw [a.1, a.2, b.1, b.2, hDl]
          try simp only [List.length_append, List.length_singleton]
          omega
      · have hEn := hide (ends_O (unhide HR1) (by simp only; omega))
        go_wp2_with fail
        refine (unhide hEn).mono ?_
        rintro e w2 ⟨rfl, ⟨vn', hR2⟩, hb2⟩
        obtain ⟨ax2, cx2, hvn⟩ := slice_shape hR2.own
        subst hvn
        have M2 := hide hR2.facts
        have HR : Hid (RH w.heap.size w2 w.heap.size (.slice ad l.length cap) (.slice ax2 _ cx2) ⟨pos, P, names ++ [Pl.declD l nm bg 79], last, nm, bg⟩ ∧ Below w.heap.size w w2 ∧ Pl.Ends l ⟨pos, P, names ++ [Pl.declD l nm bg 79], last, nm, bg⟩ res) := ⟨hR2, (unhide HB1).trans hb2, unhide HN⟩
        clear hR2 hb2 hEn HR1 HB1 HN
        go_wp2
        go_roundw
        case rel => exact ⟨_, _, _, _, by simp only; omega, by simp only; omega, by simp; omega, HR⟩
        case measure =>
          have a := unhide M0
          have b := unhide M2
          try simp only at a b
          rw [a.1, a.2, b.1, b.2, hDl]
          try simp only [List.length_append, List.length_singleton]
          omega
      · have hEn := hide (ends_I (unhide HR1) (by simp only; omega) (unhide hSt) (hb rfl) hl (unhide H6))
        go_wp2_with fail
        refine (unhide hEn).mono ?_
        rintro e w2 ⟨rfl, ⟨vn', hR2⟩, hb2⟩
        obtain ⟨ax2, cx2, hvn⟩ := slice_shape hR2.own
        subst hvn
        have M2 := hide hR2.facts
        have HR : Hid (RH w.heap.size w2 w.heap.size (.slice ad l.length cap) (.slice ax2 _ cx2) ⟨pos, P, names ++ [Pl.declD l nm bg 73], last, nm, bg⟩ ∧ Below w.heap.size w w2 ∧ Pl.Ends l ⟨pos, P, names ++ [Pl.declD l nm bg 73], last, nm, bg⟩ res) := ⟨hR2, (unhide HB1).trans hb2, unhide HN⟩
        clear hR2 hb2 hEn HR1 HB1 HN
        go_wp2
        go_roundw
        case rel => exact ⟨_, _, _, _, by simp only; omega, by simp only; omega, by simp; omega, HR⟩
        case measure =>
          have a := unhide M0
          have b := unhide M2
          try simp only at a b
          rw [a.1, a.2, b.1, b.2, hDl]
          try simp only [List.length_append, List.length_singleton]
          omega
    · clear hEn
      subst hres
      simp only at hp hpl ho
      have hR1 := hR.pile P
      have hb1 := hbel.setCell (p := ⟨w.heap.size, 2, none⟩) (Nat.le_refl _) (.string ⟨P.toArray⟩)
      have hlt0 := lt_of_block hR.blk
      obtain ⟨c0, c1, c2, c3, c4, c5, c6, fz⟩ := rd_facts hR.blk
      have fz2 := fz 2
      obtain ⟨d0, d1, d2, d3, d4, d5, d6, dz⟩ := rd_facts hR1.blk
      have dz1 := dz 1
      have dz2 := dz 2
      have M0 := hide hR.facts
      have HB1 := hide hb1
      have HR1 := hide hR1
      obtain ⟨hDl, ⟨hpl0, hpb⟩, hpx⟩ := pile_facts hp
      rw [hDl] at hp2
      simp only at c0 c1 c2 c3 c4 c5 c6 d0 d1 d2 d3 d4 d5 d6
      clear hR hbel hR1 hb1 fz dz hh
      clear hp

      have hC := hide (count_ref names (.slice ax nx cx) 111 (wr.setCell ⟨w.heap.size, 2, none⟩ (.string ⟨P.toArray⟩)) (decls_at (unhide HR1).own) (by omega))
      have hpt : ((pos : Int) == (l.length : Int)) = true := by rw [hpl]; simp
      generalize Pl.countD names 111 = no at *
      clear hpl
      go_wp2_with fail
      refine (unhide hC).mono ?_
      rintro e w2 ⟨rfl, hw2⟩
      rw [hw2]
      clear hw2 w2 hC
      go_wp2
      go_ret2
      exact ⟨⟨_, rfl, (unhide HR1).own⟩, unhide HB1⟩
    · clear hEn
      subst hres
      simp only at hp hpl ho
      obtain ⟨t1, t2, t3⟩ := Pl.notEnd hc
      have hR1 := hR.pile P
      have hb1 := hbel.setCell (p := ⟨w.heap.size, 2, none⟩) (Nat.le_refl _) (.string ⟨P.toArray⟩)
      have hlt0 := lt_of_block hR.blk
      obtain ⟨c0, c1, c2, c3, c4, c5, c6, fz⟩ := rd_facts hR.blk
      have fz2 := fz 2
      obtain ⟨d0, d1, d2, d3, d4, d5, d6, dz⟩ := rd_facts hR1.blk
      have dz1 := dz 1
      have dz2 := dz 2
      have M0 := hide hR.facts
      have HB1 := hide hb1
      have HR1 := hide hR1
      obtain ⟨hDl, ⟨hpl0, hpb⟩, hpx⟩ := pile_facts hp
      rw [hDl] at hp2
      simp only at c0 c1 c2 c3 c4 c5 c6 d0 d1 d2 d3 d4 d5 d6
      clear hR hbel hR1 hb1 fz dz hh
      clear hp

      have hC := hide (count_ref names (.slice ax nx cx) 111 (wr.setCell ⟨w.heap.size, 2, none⟩ (.string ⟨P.toArray⟩)) (decls_at (unhide HR1).own) (by omega))
      have hpt : ((pos : Int) == (l.length : Int)) = true := by rw [hpl]; simp
      clear hpl hc
      by_cases h72 : c = 72
      · subst h72
        have hno : Pl.countD names 111 = 0 := by
          rcases Nat.eq_zero_or_pos (Pl.countD names 111) with h | h
          · exact h
          · exact absurd ⟨rfl, h⟩ ho
        rw [hno] at hC
        clear hno ho
        go_wp2_with fail
        refine (unhide hC).mono ?_
        rintro e w2 ⟨rfl, hw2⟩
        rw [hw2]
        clear hw2 w2 hC
        go_wp2
        go_region
        all_goals go_wp2
        all_goals go_ret2
        all_goals exact ⟨rfl, below_drewN (unhide HB1) _⟩
      · have t4 : ((c.toNat : Int) == 72) = false := by rw [← Bool.not_eq_true]; exact fun h => h72 (Pl.is72.1 h)
        generalize Pl.countD names 111 = no at *
        clear ho h72
        go_wp2_with fail
        refine (unhide hC).mono ?_
        rintro e w2 ⟨rfl, hw2⟩
        rw [hw2]
        clear hw2 w2 hC
        go_wp2
        go_region
        all_goals go_wp2
        all_goals go_ret2
        all_goals exact ⟨rfl, below_drewN (unhide HB1) _⟩
    · clear hEn
      subst hres
      simp only at hp hpl h6
      obtain ⟨t1, t2, t3⟩ := Pl.notEnd hc
      have hR1 := hR.pile P
      have hb1 := hbel.setCell (p := ⟨w.heap.size, 2, none⟩) (Nat.le_refl _) (.string ⟨P.toArray⟩)
      have hlt0 := lt_of_block hR.blk
      obtain ⟨c0, c1, c2, c3, c4, c5, c6, fz⟩ := rd_facts hR.blk
      have fz2 := fz 2
      obtain ⟨d0, d1, d2, d3, d4, d5, d6, dz⟩ := rd_facts hR1.blk
      have dz1 := dz 1
      have dz2 := dz 2
      have M0 := hide hR.facts
      have HB1 := hide hb1
      have HR1 := hide hR1
      obtain ⟨hDl, ⟨hpl0, hpb⟩, hpx⟩ := pile_facts hp
      rw [hDl] at hp2
      simp only at c0 c1 c2 c3 c4 c5 c6 d0 d1 d2 d3 d4 d5 d6
      clear hR hbel hR1 hb1 fz dz hh
      clear hp

      have hpt : ((pos : Int) == (l.length : Int)) = false := by rw [beq_eq_false_iff_ne]; omega
      clear hc
      go_wp2
      go_region
      all_goals go_wp2
      all_goals go_ret2
      all_goals exact ⟨rfl, below_drewN (unhide HB1) _⟩
    · clear hEn
      subst hres
      simp only at hp hpl h6 hs
      obtain ⟨t1, t2, t3⟩ := Pl.notEnd hc
      have hR1 := hR.pile P
      have hb1 := hbel.setCell (p := ⟨w.heap.size, 2, none⟩) (Nat.le_refl _) (.string ⟨P.toArray⟩)
      have hlt0 := lt_of_block hR.blk
      obtain ⟨c0, c1, c2, c3, c4, c5, c6, fz⟩ := rd_facts hR.blk
      have fz2 := fz 2
      obtain ⟨d0, d1, d2, d3, d4, d5, d6, dz⟩ := rd_facts hR1.blk
      have dz1 := dz 1
      have dz2 := dz 2
      have M0 := hide hR.facts
      have HB1 := hide hb1
      have HR1 := hide hR1
      obtain ⟨hDl, ⟨hpl0, hpb⟩, hpx⟩ := pile_facts hp
      rw [hDl] at hp2
      simp only at c0 c1 c2 c3 c4 c5 c6 d0 d1 d2 d3 d4 d5 d6
      clear hR hbel hR1 hb1 fz dz hh
      clear hp

      have hpt : ((pos : Int) == (l.length : Int)) = false := by rw [beq_eq_false_iff_ne]; omega
      obtain ⟨gt, rfl, hct0⟩ := (unhide HS).get pos hpl
      have hct := cell_low (unhide HB1) (lt_of_cell hct0) hct0
      have htl : (l.getD pos []).length ≤ 6000 := by rw [List.getD_eq_getElem?_getD, List.getElem?_eq_getElem hpl]; exact unhide H6 _ (List.getElem_mem _)
      have hLe := hide (leads_ref c names last (l.getD pos []) w.heap.size (.slice ax nx cx) (wr.setCell ⟨w.heap.size, 2, none⟩ (.string ⟨P.toArray⟩)) d3 d4 (decls_at (unhide HR1).own) (by omega) htl)

      rw [hs] at hLe
      generalize l.getD pos [] = t at *
      clear hc hs hct0
      go_wp2_with fail
      refine (unhide hLe).mono ?_
      rintro e w2 ⟨rfl, nn, hw2⟩
      rw [hw2]
      clear hw2 w2 hLe
      go_wp2
      go_region
      all_goals go_wp2
      all_goals go_ret2
      all_goals exact ⟨rfl, below_drewN (unhide HB1) _⟩
    · clear hEn
      simp only at hp hpl h6 hs hE
      obtain ⟨t1, t2, t3⟩ := Pl.notEnd hc
      have hR1 := hR.pile P
      have hb1 := hbel.setCell (p := ⟨w.heap.size, 2, none⟩) (Nat.le_refl _) (.string ⟨P.toArray⟩)
      have hlt0 := lt_of_block hR.blk
      obtain ⟨c0, c1, c2, c3, c4, c5, c6, fz⟩ := rd_facts hR.blk
      have fz2 := fz 2
      obtain ⟨d0, d1, d2, d3, d4, d5, d6, dz⟩ := rd_facts hR1.blk
      have dz1 := dz 1
      have dz2 := dz 2
      have M0 := hide hR.facts
      have HB1 := hide hb1
      have HR1 := hide hR1
      obtain ⟨hDl, ⟨hpl0, hpb⟩, hpx⟩ := pile_facts hp
      rw [hDl] at hp2
      simp only at c0 c1 c2 c3 c4 c5 c6 d0 d1 d2 d3 d4 d5 d6
      clear hR hbel hR1 hb1 fz dz hh
      clear hp

      have hpt : ((pos : Int) == (l.length : Int)) = false := by rw [beq_eq_false_iff_ne]; omega
      obtain ⟨gt, rfl, hct0⟩ := (unhide HS).get pos hpl
      have hct := cell_low (unhide HB1) (lt_of_cell hct0) hct0
      have htl : (l.getD pos []).length ≤ 6000 := by rw [List.getD_eq_getElem?_getD, List.getElem?_eq_getElem hpl]; exact unhide H6 _ (List.getElem_mem _)
      have hLe := hide (leads_ref c names last (l.getD pos []) w.heap.size (.slice ax nx cx) (wr.setCell ⟨w.heap.size, 2, none⟩ (.string ⟨P.toArray⟩)) d3 d4 (decls_at (unhide HR1).own) (by omega) htl)

      have hlen := Pl.leadsD_len names last c (l.getD pos [])
      have hNo := hide (fun n => notes_ref c (l.getD pos []) w.heap.size pos bg last nm (.slice (some ⟨gt, 0, none⟩) l.length cap) (.string ⟨P.toArray⟩) (.slice ax nx cx) ((wr.setCell ⟨w.heap.size, 2, none⟩ (.string ⟨P.toArray⟩)).drewN n) (unhide HR1).blk htl (by omega))
      have HRd := hide (fun n => (unhide HR1).below (below_drewN (Below.refl _ (wr.setCell ⟨w.heap.size, 2, none⟩ (.string ⟨P.toArray⟩))) n))
      have HBd := hide (fun n => below_drewN (unhide HB1) n)
      have hctd := fun n => cell_low (unhide HBd n) (lt_of_cell hct0) hct0
      unfold Pl.nextD at hE
      simp only at hE
      generalize Pl.leadsD names last c (l.getD pos []) = S at *
      generalize Pl.lastD last c (l.getD pos []) = X1 at *
      generalize (if Pl.isNew c then l.getD pos [] else nm) = X2 at *
      generalize (if Pl.isNew c then pos + 1 else bg) = X3 at *
      generalize l.getD pos [] = t at *
      clear hc hct0
      by_cases h45 : S = [45]
      · rw [if_pos h45] at hE
        subst h45
        have HN := hide hE
        clear hE hs hlen
        go_wp2_with fail
        refine (unhide hLe).mono ?_
        rintro e w2 ⟨rfl, nn, hw2⟩
        rw [hw2]
        clear hw2 w2 hLe
        have hno := hide (unhide hNo nn)
        clear hNo
        go_wp2_with fail
        refine (unhide hno).mono ?_
        rintro e w3 ⟨rfl, ho3, hk3⟩
        have hR3 := (unhide HRd nn).noted ho3 hk3
        have hb3 := (unhide HBd nn).trans (ho3.below (Nat.le_refl _) (unhide HBd nn).size)
        have hR4 := hR3
        have hb4 := hb3
        have hR5 := hR4.step
        have hb5 := hb4.setCell (p := ⟨w.heap.size, 1, none⟩) (Nat.le_refl _) (.int .i64 ((pos : Int) + 1))
        obtain ⟨e0, e1, e2, e3, e4, e5, e6, ez⟩ := rd_facts hR3.blk
        obtain ⟨g0, g1, g2, g3, g4, g5, g6, gz⟩ := rd_facts hR4.blk
        have ez2 := ez 2
        have ez1 := ez 1
        have gz1 := gz 1
        have M2 := hide hR5.facts
        have HR : Hid (_ ∧ _ ∧ _) := ⟨hR5, hb5, unhide HN⟩
        simp only at e0 e1 e2 e3 e4 e5 e6 g0 g1 g2 g3 g4 g5 g6
        clear ho3 hk3 hR3 hb3 hR4 hb4 hR5 hb5 ez gz hno HRd HBd HN HR1 HB1
        go_wp2
        go_roundw
        case rel => exact ⟨_, _, _, _, by simp only; omega, by simp only; omega, by simp only [List.length_append]; omega, HR⟩
        case measure =>
          have a := unhide M0
          have b := unhide M2
          try simp only at a b
          rw [a.1, a.2, b.1, b.2, hDl]
          omega
      · rw [if_neg h45] at hE
        have HN := hide hE
        have s0 : (S == ([] : List UInt8)) = false := by simpa using hs
        have s1 : (S == [45]) = false := by simpa using h45
        have happ : (⟨P.toArray⟩ : ByteArray) ++ ⟨S.toArray⟩ = ⟨(P ++ S).toArray⟩ := ByteArray.mk_append_mk P S
        clear hE hs h45
        go_wp2_with fail
        refine (unhide hLe).mono ?_
        rintro e w2 ⟨rfl, nn, hw2⟩
        rw [hw2]
        clear hw2 w2 hLe
        have hno := hide (unhide hNo nn)
        clear hNo
        go_wp2_with fail
        refine (unhide hno).mono ?_
        rintro e w3 ⟨rfl, ho3, hk3⟩
        have hR3 := (unhide HRd nn).noted ho3 hk3
        have hb3 := (unhide HBd nn).trans (ho3.below (Nat.le_refl _) (unhide HBd nn).size)
        have hR4 := hR3.pile (P ++ S)
        have hb4 := hb3.setCell (p := ⟨w.heap.size, 2, none⟩) (Nat.le_refl _) (.string ⟨(P ++ S).toArray⟩)
        have hR5 := hR4.step
        have hb5 := hb4.setCell (p := ⟨w.heap.size, 1, none⟩) (Nat.le_refl _) (.int .i64 ((pos : Int) + 1))
        obtain ⟨e0, e1, e2, e3, e4, e5, e6, ez⟩ := rd_facts hR3.blk
        obtain ⟨g0, g1, g2, g3, g4, g5, g6, gz⟩ := rd_facts hR4.blk
        have ez2 := ez 2
        have ez1 := ez 1
        have gz1 := gz 1
        have M2 := hide hR5.facts
        have HR : Hid (_ ∧ _ ∧ _) := ⟨hR5, hb5, unhide HN⟩
        simp only at e0 e1 e2 e3 e4 e5 e6 g0 g1 g2 g3 g4 g5 g6
        clear ho3 hk3 hR3 hb3 hR4 hb4 hR5 hb5 ez gz hno HRd HBd HN HR1 HB1
        go_wp2
        go_roundw
        case rel => exact ⟨_, _, _, _, by simp only; omega, by simp only; omega, by simp only [List.length_append]; omega, HR⟩
        case measure =>
          have a := unhide M0
          have b := unhide M2
          try simp only at a b
          rw [a.1, a.2, b.1, b.2, hDl]
          simp only [List.length_append]; omega
end Go.Proofs.YtfaljekgpnbmiaaGreat
