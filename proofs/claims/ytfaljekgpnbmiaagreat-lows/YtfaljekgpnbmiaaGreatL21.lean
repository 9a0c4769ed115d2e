/- Joined: Ref10 Ref11. -/
import Derived.Test.YtfaljekgpnbmiaaGreatL20
/-
  The contract of the reference's declared.
-/
namespace Go.Proofs.YtfaljekgpnbmiaaGreat
open Go.RowKit

theorem ResV.out {e : Ending} {q : Pl.DeclM ⊕ Nat} (h : ResV e q) : ∃ d p, e = .returned (.tuple #[declV d, .int .i64 p]) ∧ ∀ e', e' = .returned (.tuple #[declV d, .int .i64 p]) → ResV e' q := by
  cases q with
  | inl d => exact ⟨d, -1, h, fun e' he => he⟩
  | inr p =>
    obtain ⟨d, hd⟩ := h
    exact ⟨d, p, hd, fun e' he => ⟨d, he⟩⟩

set_option maxRecDepth 100000 in
set_option maxHeartbeats 2000000 in
theorem declared_in (l : List (List UInt8)) (vl : Value) (names : List Pl.DeclM) (vn : Value) (i : Nat) (w : World) (h : StrsAt w vl l) (hn : DeclsAt w vn names) (hi : i ≤ 9000) (hl : l.length ≤ 10000) (hnl : names.length ≤ 10000) (ht6 : ∀ t ∈ l, t.length ≤ 6000) (ht : Pl.atR l i = [105, 110]) (q1 : names.length ≤ Pl.countD names 105 + Pl.countD names 111) (q2 : Pl.countD names 105 + Pl.countD names 111 ≤ names.length) (q3 : Pl.countD names 111 = 0) (q4 : Pl.countD names 105 < 4) :
    Calls Tryz.prog 156 #[vl, vn, .int .i64 i] w fun e w' => ResV e (Pl.inputD l names i) ∧ Below w.heap.size w w' := by
  have hA := hide (fun w1 (hb : Below w.heap.size w w1) (k : Nat) (j : Int) (hk : k ≤ 100000) (hj : j = (k : Int)) => at_int l vl k j w1 (h.below hb) hk hl hj)
  have hC1 := hide (fun w1 (hb : Below w.heap.size w w1) => count_ref names vn 105 w1 (hn.below hb) hnl)
  have hC2 := hide (fun w1 (hb : Below w.heap.size w w1) => count_ref names vn 111 w1 (hn.below hb) hnl)
  have hc1 := Pl.countD_le names 105
  have hc2 := Pl.countD_le names 111
  have hR := hide (fun w1 (hb : Below w.heap.size w w1) => input_ref l vl names vn i w1 (h.below hb) (hn.below hb) (by omega) hl hnl ht6)
  obtain ⟨ad, cap, rfl⟩ := h.shape
  obtain ⟨adn, capn, rfl⟩ := hn.shape
  have HB := hide (fun a => (Below.refl _ w).alloc (Nat.le_refl _) a)
  clear h hn ht6
  generalize Pl.countD names 105 = ni at *
  generalize Pl.countD names 111 = no at *
  generalize Pl.inputD l names i = Q at *
  go_enter Tryz.func156, Tryz.ntmps156
  go_wp2_with fail
  refine (unhide hC1 _ (unhide HB _)).mono ?_
  rintro e w1 ⟨rfl, hw1⟩
  rw [hw1]
  clear hw1 w1
  go_wp2_with fail
  refine (unhide hC2 _ (unhide HB _)).mono ?_
  rintro e w1 ⟨rfl, hw1⟩
  rw [hw1]
  clear hw1 w1
  go_wp2_with fail
  refine (unhide hA _ (unhide HB _) i _ (by omega) rfl).mono ?_
  rintro e w1 ⟨rfl, hw1⟩
  rw [hw1]
  clear hw1 w1 hA hC1 hC2
  rw [ht]
  go_wp2_with fail
  refine (unhide hR _ (unhide HB _)).mono ?_
  rintro e w1 ⟨hres, hb1⟩
  obtain ⟨d, p, rfl, hback⟩ := hres.out
  have hk := (hb1.block w.heap.size (by simp)).trans (heap_alloc_new w (.cells #[.string ⟨#[]⟩, .int .u8 0, .int .i64 0, .int .i64 0, .int .i64 0] 155))
  have hbw := (unhide HB (.cells #[.string ⟨#[]⟩, .int .u8 0, .int .i64 0, .int .i64 0, .int .i64 0] 155)).trans (hb1.mono (by simp))
  obtain ⟨c0, c1, c2, c3, c4, f0, f1, f2, f3, f4⟩ := decl_facts hk
  have HS := hide (fun x0 x1 x2 x3 x4 => ((((hbw.setCell (p := ⟨w.heap.size, 0, none⟩) (Nat.le_refl _) x0).setCell (p := ⟨w.heap.size, 1, none⟩) (Nat.le_refl _) x1).setCell (p := ⟨w.heap.size, 2, none⟩) (Nat.le_refl _) x2).setCell (p := ⟨w.heap.size, 3, none⟩) (Nat.le_refl _) x3).setCell (p := ⟨w.heap.size, 4, none⟩) (Nat.le_refl _) x4)
  have HK := hide hback
  clear hk hbw hres hb1 HB hR hback
  obtain ⟨dn, dk, dl, dh, dp⟩ := d
  unfold declV at HK ⊢
  go_wp2_with fail
  exact bodyPost_ret (v := .tuple #[.agg #[.string ⟨dn.toArray⟩, .int .u8 dk, .int .i64 dl, .int .i64 dh, .int .i64 dp], .int .i64 p]) (by simp [results, Tryz.results156, go_sem, c0, c1, c2, c3, c4]) rfl ⟨unhide HK _ rfl, unhide HS _ _ _ _ _⟩

set_option maxRecDepth 100000 in
set_option maxHeartbeats 2000000 in
theorem declared_set (l : List (List UInt8)) (vl : Value) (names : List Pl.DeclM) (vn : Value) (i : Nat) (w : World) (h : StrsAt w vl l) (hn : DeclsAt w vn names) (hi : i ≤ 9000) (hl : l.length ≤ 10000) (hnl : names.length ≤ 10000) (ht6 : ∀ t ∈ l, t.length ≤ 6000) (ht : Pl.atR l i = [115, 101, 116]) (q1 : 0 < Pl.countD names 105) (q2 : Pl.countD names 111 = 0) (q3 : names.length < Pl.countD names 105 + Pl.countD names 111 + 80) :
    Calls Tryz.prog 156 #[vl, vn, .int .i64 i] w fun e w' => ResV e (Pl.setD l names i) ∧ Below w.heap.size w w' := by
  have hA := hide (fun w1 (hb : Below w.heap.size w w1) (k : Nat) (j : Int) (hk : k ≤ 100000) (hj : j = (k : Int)) => at_int l vl k j w1 (h.below hb) hk hl hj)
  have hC1 := hide (fun w1 (hb : Below w.heap.size w w1) => count_ref names vn 105 w1 (hn.below hb) hnl)
  have hC2 := hide (fun w1 (hb : Below w.heap.size w w1) => count_ref names vn 111 w1 (hn.below hb) hnl)
  have hc1 := Pl.countD_le names 105
  have hc2 := Pl.countD_le names 111
  have hR := hide (fun w1 (hb : Below w.heap.size w w1) => set_ref l vl names vn i w1 (h.below hb) (hn.below hb) (by omega) hl hnl ht6)
  obtain ⟨ad, cap, rfl⟩ := h.shape
  obtain ⟨adn, capn, rfl⟩ := hn.shape
  have HB := hide (fun a => (Below.refl _ w).alloc (Nat.le_refl _) a)
  clear h hn ht6
  generalize Pl.countD names 105 = ni at *
  generalize Pl.countD names 111 = no at *
  generalize Pl.setD l names i = Q at *
  go_enter Tryz.func156, Tryz.ntmps156
  go_wp2_with fail
  refine (unhide hC1 _ (unhide HB _)).mono ?_
  rintro e w1 ⟨rfl, hw1⟩
  rw [hw1]
  clear hw1 w1
  go_wp2_with fail
  refine (unhide hC2 _ (unhide HB _)).mono ?_
  rintro e w1 ⟨rfl, hw1⟩
  rw [hw1]
  clear hw1 w1
  go_wp2_with fail
  refine (unhide hA _ (unhide HB _) i _ (by omega) rfl).mono ?_
  rintro e w1 ⟨rfl, hw1⟩
  rw [hw1]
  clear hw1 w1 hA hC1 hC2
  rw [ht]
  go_wp2_with fail
  refine (unhide hR _ (unhide HB _)).mono ?_
  rintro e w1 ⟨hres, hb1⟩
  obtain ⟨d, p, rfl, hback⟩ := hres.out
  have hk := (hb1.block w.heap.size (by simp)).trans (heap_alloc_new w (.cells #[.string ⟨#[]⟩, .int .u8 0, .int .i64 0, .int .i64 0, .int .i64 0] 155))
  have hbw := (unhide HB (.cells #[.string ⟨#[]⟩, .int .u8 0, .int .i64 0, .int .i64 0, .int .i64 0] 155)).trans (hb1.mono (by simp))
  obtain ⟨c0, c1, c2, c3, c4, f0, f1, f2, f3, f4⟩ := decl_facts hk
  have HS := hide (fun x0 x1 x2 x3 x4 => ((((hbw.setCell (p := ⟨w.heap.size, 0, none⟩) (Nat.le_refl _) x0).setCell (p := ⟨w.heap.size, 1, none⟩) (Nat.le_refl _) x1).setCell (p := ⟨w.heap.size, 2, none⟩) (Nat.le_refl _) x2).setCell (p := ⟨w.heap.size, 3, none⟩) (Nat.le_refl _) x3).setCell (p := ⟨w.heap.size, 4, none⟩) (Nat.le_refl _) x4)
  have HK := hide hback
  clear hk hbw hres hb1 HB hR hback
  obtain ⟨dn, dk, dl, dh, dp⟩ := d
  unfold declV at HK ⊢
  go_wp2_with fail
  exact bodyPost_ret (v := .tuple #[.agg #[.string ⟨dn.toArray⟩, .int .u8 dk, .int .i64 dl, .int .i64 dh, .int .i64 dp], .int .i64 p]) (by simp [results, Tryz.results156, go_sem, c0, c1, c2, c3, c4]) rfl ⟨unhide HK _ rfl, unhide HS _ _ _ _ _⟩

set_option maxRecDepth 100000 in
set_option maxHeartbeats 2000000 in
theorem declared_out (l : List (List UInt8)) (vl : Value) (names : List Pl.DeclM) (vn : Value) (i : Nat) (w : World) (h : StrsAt w vl l) (hn : DeclsAt w vn names) (hi : i ≤ 9000) (hl : l.length ≤ 10000) (hnl : names.length ≤ 10000) (ht6 : ∀ t ∈ l, t.length ≤ 6000) (ht : Pl.atR l i = [111, 117, 116]) (q1 : 0 < Pl.countD names 105) (q2 : Pl.countD names 111 < 4) :
    Calls Tryz.prog 156 #[vl, vn, .int .i64 i] w fun e w' => ResV e (Pl.outD l names i) ∧ Below w.heap.size w w' := by
  have hA := hide (fun w1 (hb : Below w.heap.size w w1) (k : Nat) (j : Int) (hk : k ≤ 100000) (hj : j = (k : Int)) => at_int l vl k j w1 (h.below hb) hk hl hj)
  have hC1 := hide (fun w1 (hb : Below w.heap.size w w1) => count_ref names vn 105 w1 (hn.below hb) hnl)
  have hC2 := hide (fun w1 (hb : Below w.heap.size w w1) => count_ref names vn 111 w1 (hn.below hb) hnl)
  have hc1 := Pl.countD_le names 105
  have hc2 := Pl.countD_le names 111
  have hR := hide (fun w1 (hb : Below w.heap.size w w1) => out_ref l vl names vn i w1 (h.below hb) (hn.below hb) (by omega) hl hnl ht6)
  obtain ⟨ad, cap, rfl⟩ := h.shape
  obtain ⟨adn, capn, rfl⟩ := hn.shape
  have HB := hide (fun a => (Below.refl _ w).alloc (Nat.le_refl _) a)
  clear h hn ht6
  generalize Pl.countD names 105 = ni at *
  generalize Pl.countD names 111 = no at *
  generalize Pl.outD l names i = Q at *
  go_enter Tryz.func156, Tryz.ntmps156
  go_wp2_with fail
  refine (unhide hC1 _ (unhide HB _)).mono ?_
  rintro e w1 ⟨rfl, hw1⟩
  rw [hw1]
  clear hw1 w1
  go_wp2_with fail
  refine (unhide hC2 _ (unhide HB _)).mono ?_
  rintro e w1 ⟨rfl, hw1⟩
  rw [hw1]
  clear hw1 w1
  go_wp2_with fail
  refine (unhide hA _ (unhide HB _) i _ (by omega) rfl).mono ?_
  rintro e w1 ⟨rfl, hw1⟩
  rw [hw1]
  clear hw1 w1 hA hC1 hC2
  rw [ht]
  go_wp2_with fail
  refine (unhide hR _ (unhide HB _)).mono ?_
  rintro e w1 ⟨hres, hb1⟩
  obtain ⟨d, p, rfl, hback⟩ := hres.out
  have hk := (hb1.block w.heap.size (by simp)).trans (heap_alloc_new w (.cells #[.string ⟨#[]⟩, .int .u8 0, .int .i64 0, .int .i64 0, .int .i64 0] 155))
  have hbw := (unhide HB (.cells #[.string ⟨#[]⟩, .int .u8 0, .int .i64 0, .int .i64 0, .int .i64 0] 155)).trans (hb1.mono (by simp))
  obtain ⟨c0, c1, c2, c3, c4, f0, f1, f2, f3, f4⟩ := decl_facts hk
  have HS := hide (fun x0 x1 x2 x3 x4 => ((((hbw.setCell (p := ⟨w.heap.size, 0, none⟩) (Nat.le_refl _) x0).setCell (p := ⟨w.heap.size, 1, none⟩) (Nat.le_refl _) x1).setCell (p := ⟨w.heap.size, 2, none⟩) (Nat.le_refl _) x2).setCell (p := ⟨w.heap.size, 3, none⟩) (Nat.le_refl _) x3).setCell (p := ⟨w.heap.size, 4, none⟩) (Nat.le_refl _) x4)
  have HK := hide hback
  clear hk hbw hres hb1 HB hR hback
  obtain ⟨dn, dk, dl, dh, dp⟩ := d
  unfold declV at HK ⊢
  go_wp2_with fail
  exact bodyPost_ret (v := .tuple #[.agg #[.string ⟨dn.toArray⟩, .int .u8 dk, .int .i64 dl, .int .i64 dh, .int .i64 dp], .int .i64 p]) (by simp [results, Tryz.results156, go_sem, c0, c1, c2, c3, c4]) rfl ⟨unhide HK _ rfl, unhide HS _ _ _ _ _⟩

theorem countD_two (names : List Pl.DeclM) : Pl.countD names 105 + Pl.countD names 111 ≤ names.length := by
  induction names with
  | nil => simp [Pl.countD]
  | cons d r ih =>
    rw [Pl.countD, Pl.countD, List.length_cons]
    by_cases h1 : d.kind = 105
    · rw [if_pos h1, if_neg (by omega)]; omega
    · rw [if_neg h1]; split <;> omega
theorem declared_ref (l : List (List UInt8)) (vl : Value) (names : List Pl.DeclM) (vn : Value) (i : Nat) (w : World) (h : StrsAt w vl l) (hn : DeclsAt w vn names) (hi : i ≤ 9000) (hl : l.length ≤ 10000) (hnl : names.length ≤ 10000) (ht6 : ∀ t ∈ l, t.length ≤ 6000) :
    Calls Tryz.prog 156 #[vl, vn, .int .i64 i] w fun e w' => ResV e (Pl.declaredD l names i) ∧ Below w.heap.size w w' := by
  have h2 := countD_two names
  by_cases t1 : Pl.atR l i = Pl.kIn
  · have n2 : ¬ Pl.atR l i = Pl.kSet := by rw [t1]; decide
    have n3 : ¬ Pl.atR l i = Pl.kOut := by rw [t1]; decide
    by_cases hc : names.length = Pl.countD names 105 + Pl.countD names 111 ∧ Pl.countD names 111 = 0 ∧ Pl.countD names 105 < 4
    · have e : Pl.declaredD l names i = Pl.inputD l names i := by unfold Pl.declaredD; rw [if_pos ⟨t1, hc⟩]
      rw [e]; exact declared_in l vl names vn i w h hn hi hl hnl ht6 t1 (by omega) (by omega) hc.2.1 hc.2.2
    · have e : Pl.declaredD l names i = .inr i := by unfold Pl.declaredD; rw [if_neg (fun x => hc x.2), if_neg (fun x => n2 x.1), if_neg (fun x => n3 x.1)]
      rw [e]
      by_cases q1 : names.length = Pl.countD names 105 + Pl.countD names 111
      · by_cases q2 : Pl.countD names 111 = 0
        · exact declared_no2 l vl names vn i w h hn hi hl hnl t1 ⟨by omega, by omega, q2⟩ (fun q => hc ⟨q1, q2, q⟩)
        · exact declared_no1 l vl names vn i w h hn hi hl hnl t1 ⟨by omega, by omega⟩ q2
      · exact declared_no0 l vl names vn i w h hn hi hl hnl t1 q1
  by_cases t2 : Pl.atR l i = Pl.kSet
  · have n3 : ¬ Pl.atR l i = Pl.kOut := by rw [t2]; decide
    by_cases hc : 0 < Pl.countD names 105 ∧ Pl.countD names 111 = 0 ∧ names.length < Pl.countD names 105 + Pl.countD names 111 + 80
    · have e : Pl.declaredD l names i = Pl.setD l names i := by unfold Pl.declaredD; rw [if_neg (fun x => t1 x.1), if_pos ⟨t2, hc⟩]
      rw [e]; exact declared_set l vl names vn i w h hn hi hl hnl ht6 t2 hc.1 hc.2.1 hc.2.2
    · have e : Pl.declaredD l names i = .inr i := by unfold Pl.declaredD; rw [if_neg (fun x => t1 x.1), if_neg (fun x => hc x.2), if_neg (fun x => n3 x.1)]
      rw [e]
      by_cases q1 : 0 < Pl.countD names 105
      · by_cases q2 : Pl.countD names 111 = 0
        · exact declared_no5 l vl names vn i w h hn hi hl hnl t2 ⟨q1, q2⟩ (fun q => hc ⟨q1, q2, q⟩)
        · exact declared_no4 l vl names vn i w h hn hi hl hnl t2 q1 q2
      · exact declared_no3 l vl names vn i w h hn hi hl hnl t2 (by omega)
  by_cases t3 : Pl.atR l i = Pl.kOut
  · by_cases hc : 0 < Pl.countD names 105 ∧ Pl.countD names 111 < 4
    · have e : Pl.declaredD l names i = Pl.outD l names i := by unfold Pl.declaredD; rw [if_neg (fun x => t1 x.1), if_neg (fun x => t2 x.1), if_pos ⟨t3, hc⟩]
      rw [e]; exact declared_out l vl names vn i w h hn hi hl hnl ht6 t3 hc.1 hc.2
    · have e : Pl.declaredD l names i = .inr i := by unfold Pl.declaredD; rw [if_neg (fun x => t1 x.1), if_neg (fun x => t2 x.1), if_neg (fun x => hc x.2)]
      rw [e]
      by_cases q1 : 0 < Pl.countD names 105
      · exact declared_no7 l vl names vn i w h hn hi hl hnl t3 q1 (fun q => hc ⟨q1, q⟩)
      · exact declared_no6 l vl names vn i w h hn hi hl hnl t3 (by omega)
  have e : Pl.declaredD l names i = .inr i := by unfold Pl.declaredD; rw [if_neg (fun x => t1 x.1), if_neg (fun x => t2 x.1), if_neg (fun x => t3 x.1)]
  rw [e]
  exact declared_no8 l vl names vn i w h hn hi hl hnl (by simpa [Pl.kIn] using t1) (by simpa [Pl.kSet] using t2) (by simpa [Pl.kOut] using t3)
end Go.Proofs.YtfaljekgpnbmiaaGreat

/-
  The contract of the reference's Low.
-/
namespace Go.Proofs.YtfaljekgpnbmiaaGreat
open Go.RowKit

def declsCells (l : List Pl.DeclM) : List Value := l.flatMap fun d => [.string ⟨d.name.toArray⟩, .int .u8 d.kind, .int .i64 d.lo, .int .i64 d.hi, .int .i64 d.pos]
def DeclsOwn (B : Nat) (w : World) (v : Value) (l : List Pl.DeclM) : Prop := w.ownsRow B 155 5 v l.length (declsCells l)
theorem Tryz.infoDecl : (Tryz.prog.info? 155).map (fun i => (i.zero, i.size, i.bytes)) = some (some (.agg #[.string ⟨#[]⟩, .int .u8 0, .int .i64 0, .int .i64 0, .int .i64 0]), 5, 48) := by kernel_rfl
theorem declsCells_get (l : List Pl.DeclM) (i : Nat) (hi : i < l.length) : (declsCells l)[i * 5]? = some (.string ⟨l[i].name.toArray⟩) ∧ (declsCells l)[i * 5 + 1]? = some (.int .u8 l[i].kind) ∧ (declsCells l)[i * 5 + 2]? = some (.int .i64 l[i].lo) ∧ (declsCells l)[i * 5 + 3]? = some (.int .i64 l[i].hi) ∧ (declsCells l)[i * 5 + 4]? = some (.int .i64 l[i].pos) := by
  induction l generalizing i with
  | nil => simp at hi
  | cons e l ih =>
    cases i with
    | zero => exact ⟨rfl, rfl, rfl, rfl, rfl⟩
    | succ i =>
      have := ih i (by simpa using hi)
      have e1 : declsCells (e :: l) = .string ⟨e.name.toArray⟩ :: .int .u8 e.kind :: .int .i64 e.lo :: .int .i64 e.hi :: .int .i64 e.pos :: declsCells l := by simp [declsCells]
      rw [e1]
      rw [show (i + 1) * 5 = i * 5 + 1 + 1 + 1 + 1 + 1 by omega]
      simpa using this
theorem decls_at {B : Nat} {w : World} {v : Value} {l : List Pl.DeclM} (h : DeclsOwn B w v l) : DeclsAt w v l := by
  rcases h.2 with ⟨rfl, hn⟩ | ⟨g, cap, cur, rfl, hb, hgg, hle, hm, hcs, htk⟩
  · exact ⟨none, 0, by rw [hn], fun i hi => by omega⟩
  · have hc := fun j hj => World.ownsRow.cellAt (show w.ownsRow B 155 5 (.slice (some ⟨g, 0, none⟩) l.length cap) l.length (declsCells l) from h) j hj
    refine ⟨some ⟨g, 0, none⟩, cap, rfl, fun i hi => ⟨g, rfl, ?_, ?_, ?_, ?_, ?_⟩⟩
    · rw [hc (i * 5) (by omega)]; exact (declsCells_get l i hi).1
    · rw [hc (i * 5 + 1) (by omega)]; exact (declsCells_get l i hi).2.1
    · rw [hc (i * 5 + 2) (by omega)]; exact (declsCells_get l i hi).2.2.1
    · rw [hc (i * 5 + 3) (by omega)]; exact (declsCells_get l i hi).2.2.2.1
    · rw [hc (i * 5 + 4) (by omega)]; exact (declsCells_get l i hi).2.2.2.2
theorem atR_some {l : List (List UInt8)} {i : Nat} (h : Pl.atR l i ≠ []) : i < l.length ∧ i < 600 ∧ Pl.atR l i = l.getD i [] := by
  unfold Pl.atR at *
  split at h
  · rename_i hc; rw [if_pos hc]; exact ⟨hc.1, hc.2, rfl⟩
  · exact absurd rfl h
theorem forms_nil : Pl.formsR [] = [] := by decide
theorem declared_inl {l : List (List UInt8)} {names : List Pl.DeclM} {i : Nat} {d : Pl.DeclM} (h : Pl.declaredD l names i = .inl d) :
    (d.kind ≠ 105 → d.kind ≠ 111 → ∃ k : Nat, d.pos = (k : Int) ∧ k < l.length) ∧ 2 ≤ Pl.longD l d ∧ Pl.longD l d ≤ 6 := by
  refine ⟨?_, by unfold Pl.longD; split; omega; split <;> omega, by unfold Pl.longD; split; omega; split; omega; have := Pl.formsR_len (l.getD d.pos.toNat []); omega⟩
  unfold Pl.declaredD at h
  split at h
  · unfold Pl.inputD at h
    split at h
    · cases h
    split at h
    · cases h
    split at h
    · cases h
    cases h; intro h1; exact absurd rfl h1
  split at h
  · unfold Pl.setD at h
    split at h
    · cases h
    split at h
    · cases h
    rename_i hf
    split at h
    · cases h
    cases h
    intro _ _
    refine ⟨i + 2, by simp, (atR_some (fun e => hf (by rw [e]; exact forms_nil))).1⟩
  split at h
  · unfold Pl.outD at h
    split at h
    · cases h
    split at h
    · cases h
    cases h; intro _ h2; exact absurd rfl h2
  · cases h
/-- What the reading of a whole text tells. -/
def LowV (B : Nat) (e : Ending) (w' : World) : List Pl.DeclM ⊕ Nat → Prop
  | .inl ds => ∃ v, e = .returned (.tuple #[v, .int .i64 (-1)]) ∧ DeclsOwn B w' v ds
  | .inr p => e = .returned (.tuple #[.slice none 0 0, .int .i64 p])

set_option maxRecDepth 100000 in
set_option maxHeartbeats 2000000 in
theorem Low_ref (l : List (List UInt8)) (vl : Value) (w : World) (h : StrsAt w vl l) (hl : l.length ≤ 8000) (ht6 : ∀ t ∈ l, t.length ≤ 6000) :
    Calls Tryz.prog 115 #[vl] w fun e w' => LowV w.heap.size e w' (Pl.lowD l (l.length + 1) [] 0) ∧ Below w.heap.size w w' := by
  obtain ⟨i0, hinf, hz0, hz1, hz2⟩ := info_parts Tryz.infoDecl
  have HS := hide h
  obtain ⟨ad, cap, rfl⟩ := h.shape
  have H6 := hide ht6
  generalize hT : Pl.lowD l (l.length + 1) [] 0 = T
  have HT := hide hT
  clear h ht6 hT
  go_enter Tryz.func115, Tryz.ntmps115
  go_wp2
  go_loopw [4, 5] (fun v i wr => ∃ (k f : Nat) (ax : Option Addr) (nx cx : Nat) (names : List Pl.DeclM), k ≤ 8010 ∧ names.length ≤ k ∧ l.length - k < f ∧ i = .int .i64 k ∧ v = .slice ax nx cx ∧ Hid (DeclsOwn w.heap.size wr (.slice ax nx cx) names ∧ Below w.heap.size w wr ∧ Pl.lowD l f names k = T)) (fun _ i _ => l.length - (intOf i).toNat)
  case atStart => exact ⟨0, l.length + 1, none, 0, 0, [], by omega, by simp, by omega, rfl, rfl, World.ownsRow_nil _ _ _ _, Below.refl _ _, unhide HT⟩
  case round =>
    obtain ⟨k, f, ax, nx, cx, names, hk, hnk, hf, rfl, rfl, hh⟩ := hrel
    obtain ⟨f, rfl⟩ : ∃ f', f = f' + 1 := ⟨f - 1, by omega⟩
    have hstep := (unhide hh).2.2
    rw [Pl.lowD] at hstep
    by_cases hlt : k < l.length
    · rw [if_pos hlt] at hstep
      have hbel := (unhide hh).2.1
      have hown := (unhide hh).1
      have hD := hide (declared_ref l (.slice ad l.length cap) names (.slice ax nx cx) k wr ((unhide HS).below hbel) (decls_at hown) (by omega) (by omega) (by omega) (unhide H6))
      have HO := hide hown
      have HB := hide hbel
      have hs1 := hbel.size
      clear hh HT hown hbel
      cases hq : Pl.declaredD l names k with
      | inr p =>
        rw [hq] at hstep hD
        have HT := hide hstep
        clear hstep hq
        go_wp2_with fail
        refine (unhide hD).mono ?_
        rintro e w1 ⟨⟨d, rfl⟩, hb1⟩
        have HB1 := hide (fun a => ((unhide HB).trans (hb1.mono hs1)).alloc (Nat.le_trans hs1 hb1.size) a)
        obtain ⟨dn, dk, dl, dh, dp⟩ := d
        clear hD hb1 HO HB
        unfold declV
        go_wp2_with fail
        go_ret2
        rw [← unhide HT]
        exact ⟨rfl, unhide HB1 _⟩
      | inl d =>
        obtain ⟨hd1, hd2, hd3⟩ := declared_inl hq
        rw [hq] at hstep hD
        have HT := hide hstep
        clear hstep hq
        have hLg := hide (fun w1 (hb : Below w.heap.size w w1) => long_ref l (.slice ad l.length cap) d w1 ((unhide HS).below hb) hd1 (by omega))
        obtain ⟨dn, dk, dl, dh, dp⟩ := d
        unfold ResV declV at hD
        unfold declV at hLg
        simp only at hLg hD
        obtain ⟨lg, hlg⟩ : ∃ lg, lg = Pl.longD l ⟨dn, dk, dl, dh, dp⟩ := ⟨_, rfl⟩
        rw [← hlg] at hLg hd2 hd3
        have HT2 : Hid (Pl.lowD l f (names ++ [⟨dn, dk, dl, dh, dp⟩]) (k + lg) = T) := by rw [hlg]; exact HT
        clear hd1 hlg HT
        go_wp2_with fail
        refine (unhide hD).mono ?_
        rintro e w1 ⟨rfl, hb1⟩
        have hb2 := ((unhide HB).trans (hb1.mono hs1))
        have hb3 := hb2.alloc hb2.size (.cells #[.string ⟨dn.toArray⟩, .int .u8 dk, .int .i64 dl, .int .i64 dh, .int .i64 dp] 155)
        have hnew := heap_alloc_new w1 (.cells #[.string ⟨dn.toArray⟩, .int .u8 dk, .int .i64 dl, .int .i64 dh, .int .i64 dp] 155)
        have hL1 := hide (unhide hLg _ hb3)
        have hown3 : DeclsOwn w.heap.size (w1.alloc (.cells #[.string ⟨dn.toArray⟩, .int .u8 dk, .int .i64 dl, .int .i64 dh, .int .i64 dp] 155)) (.slice ax nx cx) names := World.ownsRow.alloc (own_keep (unhide HO) (.of_below hb1)) _
        have HO3 := hide hown3
        have HB3 := hide hb3
        clear hD hb1 hb2 hb3 hown3 hLg HO HB
        go_wp2_with fail
        refine (unhide hL1).mono ?_
        rintro e w2 ⟨rfl, hb4⟩
        have hk4 := (hb4.block w1.heap.size (by simp)).trans hnew
        obtain ⟨c0, c1, c2, c3, c4, _⟩ := decl_facts hk4
        have hown4 : DeclsOwn w.heap.size (w2.alloc (.cells #[.string ⟨dn.toArray⟩, .int .u8 dk, .int .i64 dl, .int .i64 dh, .int .i64 dp] 155)) (.slice ax nx cx) names := World.ownsRow.alloc (own_keep (unhide HO3) (.of_below hb4)) _
        have hb5 := (unhide HB3).trans (hb4.mono (unhide HB3).size)
        have HB5 := hide (hb5.alloc hb5.size (.cells #[.string ⟨dn.toArray⟩, .int .u8 dk, .int .i64 dl, .int .i64 dh, .int .i64 dp] 155))
        have hs5 := hb5.size
        clear hL1 hk4 hb4 hb5 hnew HO3 HB3
        go_wp2_with (at_builtin; refine wpList_append_lies _ rfl _ _ 122 rfl w.heap.size 155 i0 (.agg #[.string ⟨#[]⟩, .int .u8 0, .int .i64 0, .int .i64 0, .int .i64 0]) 5 48 Tryz.underlying122 hinf hz0 hz1 hz2 rfl (by decide) _ _ _ rfl hown4 ⟨_, 0, none⟩ 1 1 [.string ⟨dn.toArray⟩, .int .u8 dk, .int .i64 dl, .int .i64 dh, .int .i64 dp] rfl rfl ?c1 ?c2 (by decide) ?c3 ?c4 ?c5 _ rfl ?_)
        case c1 => exact news_at #[.string ⟨dn.toArray⟩, .int .u8 dk, .int .i64 dl, .int .i64 dh, .int .i64 dp] _
        case c2 => intro u hu; simp at hu; rcases hu with rfl | rfl | rfl | rfl | rfl <;> rfl
        case c3 => unfold maxLen; omega
        case c4 => omega
        case c5 => simp; omega
        · intro g cp w3 hown' hgrow _ _
          have HR : Hid (DeclsOwn w.heap.size w3 (.slice (some ⟨g, 0, none⟩) (names.length + 1) cp) (names ++ [⟨dn, dk, dl, dh, dp⟩]) ∧ Below w.heap.size w w3 ∧ Pl.lowD l f (names ++ [⟨dn, dk, dl, dh, dp⟩]) (k + lg) = T) := by
            refine ⟨?_, (unhide HB5).grown hgrow (by simp; omega) (own_base hown4), unhide HT2⟩
            unfold DeclsOwn declsCells
            rw [List.length_append, List.flatMap_append]
            simpa [declsCells] using hown'
          clear hown' hgrow hown4 HB5 c0 c1 c2 c3 c4
          go_wp2
          go_roundw
          case rel => exact ⟨k + lg, f, _, _, _, names ++ [⟨dn, dk, dl, dh, dp⟩], by omega, by simp; omega, by omega, by go_num, rfl, HR⟩
          case measure => simp [intOf]; omega
    · rw [if_neg hlt] at hstep
      have hbel := (unhide hh).2.1
      have hown := (unhide hh).1
      have hC := hide (count_ref names (.slice ax nx cx) 111 wr (decls_at hown) (by omega))
      have HB := hide hbel
      have HO := hide hown
      clear hh hown hbel HT
      by_cases h0 : Pl.countD names 111 = 0
      · rw [if_pos h0] at hstep
        have HT := hide hstep
        rw [h0] at hC
        clear hstep h0 HO
        go_wp2_with fail
        refine (unhide hC).mono ?_
        rintro e w1 ⟨rfl, hw1⟩
        rw [hw1]
        clear hw1 w1 hC
        go_wp2
        go_ret2
        rw [← unhide HT]
        exact ⟨rfl, unhide HB⟩
      · rw [if_neg h0] at hstep
        have HT := hide hstep
        generalize Pl.countD names 111 = no at *
        have hn0 : ((no : Int) == 0) = false := by rw [beq_eq_false_iff_ne]; omega
        clear hstep h0
        go_wp2_with fail
        refine (unhide hC).mono ?_
        rintro e w1 ⟨rfl, hw1⟩
        rw [hw1]
        clear hw1 w1 hC
        go_wp2
        go_ret2
        rw [← unhide HT]
        exact ⟨⟨_, rfl, unhide HO⟩, unhide HB⟩
end Go.Proofs.YtfaljekgpnbmiaaGreat
