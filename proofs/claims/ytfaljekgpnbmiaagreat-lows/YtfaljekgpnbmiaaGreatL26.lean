/- Joined: Ref16. -/
import Derived.Test.YtfaljekgpnbmiaaGreatL25
/-
  The contract of the reference's wide: is the bound of a step above the limit?
-/
namespace Go.Proofs.YtfaljekgpnbmiaaGreat
open Go.RowKit

def Pl.StepOk (toks : List (List UInt8)) (names : List Pl.DeclM) (n p : Nat) (kind : Nat) : Prop :=
  p < toks.length ∧ (((toks.getD p [] = Pl.kAdd ∨ toks.getD p [] = Pl.kSub ∨ toks.getD p [] = Pl.kMul ∨ toks.getD p [] = Pl.kFlr) ∧ kind = 118 ∧ Pl.Told toks names n (p + 1) ∧ Pl.Told toks names n (p + 2)) ∨
    (toks.getD p [] = Pl.kSel ∧ kind = 118 ∧ Pl.Told toks names n (p + 1) ∧ Pl.Told toks names n (p + 2) ∧ Pl.Told toks names n (p + 3)) ∨
    ((toks.getD p [] = Pl.kLt ∨ toks.getD p [] = Pl.kLe ∨ toks.getD p [] = Pl.kEq ∨ toks.getD p [] = Pl.kAnd ∨ toks.getD p [] = Pl.kOr) ∧ kind = 102 ∧ Pl.Told toks names n (p + 1) ∧ Pl.Told toks names n (p + 2)) ∨
    (toks.getD p [] = Pl.kNot ∧ kind = 102 ∧ Pl.Told toks names n (p + 1)))
def Pl.DeclOk (toks : List (List UInt8)) (names : List Pl.DeclM) (n : Nat) (d : Pl.DeclM) : Prop :=
  (d.kind = 105 ∧ -1000000000 ≤ d.lo ∧ d.lo ≤ 1000000000 ∧ -1000000000 ≤ d.hi ∧ d.hi ≤ 1000000000) ∨
  (d.kind = 111 ∧ ∃ p : Nat, d.pos = (p : Int) ∧ Pl.Told toks names n p) ∨
  ((d.kind = 118 ∨ d.kind = 102) ∧ ∃ p : Nat, d.pos = (p : Int) ∧ Pl.StepOk toks names n p d.kind)
def Pl.WF (toks : List (List UInt8)) (names : List Pl.DeclM) : Prop := ∀ j, (hj : j < names.length) → Pl.DeclOk toks names j names[j]
def Pl.wideOf (toks : List (List UInt8)) (names : List Pl.DeclM) (d : Pl.DeclM) (known : List Int) : Int :=
  if d.kind = 105 then Pl.most (Pl.absv d.lo) (Pl.absv d.hi) else if d.kind = 118 then Pl.reachR toks names known d.pos.toNat else 0
def Pl.wideFrom (toks : List (List UInt8)) (names : List Pl.DeclM) : List Pl.DeclM → List Int → Bool
  | [], _ => false
  | d :: r, known => if 1000000000000000 < Pl.wideOf toks names d known then true else Pl.wideFrom toks names r (known ++ [Pl.wideOf toks names d known])

theorem reach_ref (toks : List (List UInt8)) (names : List Pl.DeclM) (known : List Int) (vt vn vk : Value) (i : Nat) (w : World) (h : TextAt w vt vn vk toks names known) (hs : Pl.StepOk toks names known.length i 118) (hl : toks.length ≤ 9000) (hnl : names.length ≤ 10000) (ht6 : ∀ t ∈ toks, t.length ≤ 6000) :
    Calls Tryz.prog 158 #[.agg #[vt, vn, vk], .int .i64 i] w fun e w' => e = .returned (.int .i64 (Pl.reachR toks names known i)) ∧ Below w.heap.size w w' := by
  obtain ⟨hi, hs⟩ := hs
  rcases hs with ⟨ho, _, h1, h2⟩ | ⟨ho, _, h1, h2, h3⟩ | ⟨_, hk, _⟩ | ⟨_, hk, _⟩
  · rcases ho with ho | ho | ho | ho
    · exact reach_kAdd toks names known vt vn vk i w h hi ho h1 h2 hl hnl ht6
    · exact reach_kSub toks names known vt vn vk i w h hi ho h1 h2 hl hnl ht6
    · exact reach_kMul toks names known vt vn vk i w h hi ho h1 h2 hl hnl ht6
    · exact reach_kFlr toks names known vt vn vk i w h hi ho h1 hl hnl ht6
  · exact reach_kSel toks names known vt vn vk i w h hi ho h2 h3 hl hnl ht6
  · omega
  · omega

set_option maxRecDepth 100000 in
set_option maxHeartbeats 2000000 in
theorem wide_ref (toks : List (List UInt8)) (names : List Pl.DeclM) (vt vn : Value) (w : World) (ht : StrsAt w vt toks) (hn : DeclsAt w vn names) (hwf : Pl.WF toks names) (hl : toks.length ≤ 9000) (hnl : names.length ≤ 10000) (ht6 : ∀ t ∈ toks, t.length ≤ 6000) :
    Calls Tryz.prog 116 #[.agg #[vt, vn, .slice none 0 0]] w fun e w' => e = .returned (.bool (Pl.wideFrom toks names names [])) ∧ Below w.heap.size w w' := by
  obtain ⟨j0, hj, hy0, hy1, hy2⟩ := info_parts Tryz.infoInt
  have HT := hide ht
  have HN := hide hn
  have HW := hide hwf
  have H6 := hide ht6
  obtain ⟨a1, p1, rfl⟩ := ht.shape
  obtain ⟨a2, p2, rfl⟩ := hn.shape
  generalize hq : Pl.wideFrom toks names names [] = T
  have HQ := hide hq
  have H0 : Hid ((w.alloc (.cells #[.slice a1 toks.length p1, .slice a2 names.length p2, .slice none 0 0] 124)).heap[w.heap.size]? = some (.cells #[.slice a1 toks.length p1, .slice a2 names.length p2, .slice none 0 0] 124 (0, 0)) ∧ Below w.heap.size w (w.alloc (.cells #[.slice a1 toks.length p1, .slice a2 names.length p2, .slice none 0 0] 124))) := ⟨heap_alloc_new w _, (Below.refl _ _).alloc (Nat.le_refl _) _⟩
  clear ht hn hwf ht6 hq
  go_enter Tryz.func116, Tryz.ntmps116
  go_wp2
  go_loopw [3] (fun i wr => ∃ (k : Nat) (a3 : Option Addr) (n3 p3 : Nat) (known : List Int), k ≤ names.length ∧ known.length = k ∧ i = .int .i64 k ∧ Hid (wr.heap[w.heap.size]? = some (.cells #[.slice a1 toks.length p1, .slice a2 names.length p2, .slice a3 n3 p3] 124 (0, 0)) ∧ IntsOwn w.heap.size wr (.slice a3 n3 p3) known ∧ Below w.heap.size w wr ∧ Pl.wideFrom toks names (names.drop k) known = T)) (fun i _ => names.length - (intOf i).toNat)
  case atStart => exact ⟨0, none, 0, 0, [], by omega, rfl, rfl, (unhide H0).1, World.ownsRow_nil _ _ _ _, (unhide H0).2, unhide HQ⟩
  case round =>
    obtain ⟨k, a3, n3, p3, known, hk, hkn, rfl, hh⟩ := hrel
    obtain ⟨hblk, hown, hbel, hstep⟩ := unhide hh
    have HKN := hide hkn
    clear H0 HQ hh hkn
    have x1 : wr.cell? ⟨w.heap.size, 1, none⟩ = some (.slice a2 names.length p2) := by rw [cellsOf hblk]; rfl
    by_cases hlt : k < names.length
    · rw [List.drop_eq_getElem_cons hlt, Pl.wideFrom] at hstep
      obtain ⟨g2, rfl, e0, e1, e2, e3, e4⟩ := decls_get (unhide HN) k hlt
      have d0 := cell_low hbel (lt_of_cell e0) e0
      have d1 := cell_low hbel (lt_of_cell e1) e1
      have d2 := cell_low hbel (lt_of_cell e2) e2
      have d3 := cell_low hbel (lt_of_cell e3) e3
      have d4 := cell_low hbel (lt_of_cell e4) e4
      have hok := unhide HW k hlt
      generalize names[k] = d at *
      obtain ⟨dn, dk, dl, dh, dp⟩ := d
      simp only at d0 d1 d2 d3 d4
      clear e0 e1 e2 e3 e4
      have hb1 := hbel.alloc hbel.size (.cells #[.string ⟨dn.toArray⟩, .int .u8 dk, .int .i64 dl, .int .i64 dh, .int .i64 dp] 155)
      have hblk1 : (wr.alloc (.cells #[.string ⟨dn.toArray⟩, .int .u8 dk, .int .i64 dl, .int .i64 dh, .int .i64 dp] 155)).heap[w.heap.size]? = some (.cells #[.slice a1 toks.length p1, .slice (some ⟨g2, 0, none⟩) names.length p2, .slice a3 n3 p3] 124 (0, 0)) := by rw [Below.heap_alloc _ _ _ (lt_of_block hblk)]; exact hblk
      have hown1 : IntsOwn w.heap.size (wr.alloc (.cells #[.string ⟨dn.toArray⟩, .int .u8 dk, .int .i64 dl, .int .i64 dh, .int .i64 dp] 155)) (.slice a3 n3 p3) known := World.ownsRow.alloc hown _
      have H1 : Hid ((wr.alloc (.cells #[.string ⟨dn.toArray⟩, .int .u8 dk, .int .i64 dl, .int .i64 dh, .int .i64 dp] 155)).heap[w.heap.size]? = some (.cells #[.slice a1 toks.length p1, .slice (some ⟨g2, 0, none⟩) names.length p2, .slice a3 n3 p3] 124 (0, 0)) ∧ IntsOwn w.heap.size (wr.alloc (.cells #[.string ⟨dn.toArray⟩, .int .u8 dk, .int .i64 dl, .int .i64 dh, .int .i64 dp] 155)) (.slice a3 n3 p3) known ∧ Below w.heap.size w (wr.alloc (.cells #[.string ⟨dn.toArray⟩, .int .u8 dk, .int .i64 dl, .int .i64 dh, .int .i64 dp] 155))) := ⟨hblk1, hown1, hb1⟩
      have HQ := hide hstep
      clear hblk hown hbel hstep hb1 hblk1 hown1
      have y2 : (wr.alloc (.cells #[.string ⟨dn.toArray⟩, .int .u8 dk, .int .i64 dl, .int .i64 dh, .int .i64 dp] 155)).cell? ⟨w.heap.size, 2, none⟩ = some (.slice a3 n3 p3) := by rw [cellsOf (unhide H1).1]; rfl
      have y0 : (wr.alloc (.cells #[.string ⟨dn.toArray⟩, .int .u8 dk, .int .i64 dl, .int .i64 dh, .int .i64 dp] 155)).cell? ⟨w.heap.size, 0, none⟩ = some (.slice a1 toks.length p1) := by rw [cellsOf (unhide H1).1]; rfl
      have y1 : (wr.alloc (.cells #[.string ⟨dn.toArray⟩, .int .u8 dk, .int .i64 dl, .int .i64 dh, .int .i64 dp] 155)).cell? ⟨w.heap.size, 1, none⟩ = some (.slice (some ⟨g2, 0, none⟩) names.length p2) := by rw [cellsOf (unhide H1).1]; rfl
      have y2 : (wr.alloc (.cells #[.string ⟨dn.toArray⟩, .int .u8 dk, .int .i64 dl, .int .i64 dh, .int .i64 dp] 155)).cell? ⟨w.heap.size, 2, none⟩ = some (.slice a3 n3 p3) := by rw [cellsOf (unhide H1).1]; rfl
      have y0 : (wr.alloc (.cells #[.string ⟨dn.toArray⟩, .int .u8 dk, .int .i64 dl, .int .i64 dh, .int .i64 dp] 155)).cell? ⟨w.heap.size, 0, none⟩ = some (.slice a1 toks.length p1) := by rw [cellsOf (unhide H1).1]; rfl
      have y1 : (wr.alloc (.cells #[.string ⟨dn.toArray⟩, .int .u8 dk, .int .i64 dl, .int .i64 dh, .int .i64 dp] 155)).cell? ⟨w.heap.size, 1, none⟩ = some (.slice (some ⟨g2, 0, none⟩) names.length p2) := by rw [cellsOf (unhide H1).1]; rfl
      have y2 : (wr.alloc (.cells #[.string ⟨dn.toArray⟩, .int .u8 dk, .int .i64 dl, .int .i64 dh, .int .i64 dp] 155)).cell? ⟨w.heap.size, 2, none⟩ = some (.slice a3 n3 p3) := by rw [cellsOf (unhide H1).1]; rfl
      have y0 : (wr.alloc (.cells #[.string ⟨dn.toArray⟩, .int .u8 dk, .int .i64 dl, .int .i64 dh, .int .i64 dp] 155)).cell? ⟨w.heap.size, 0, none⟩ = some (.slice a1 toks.length p1) := by rw [cellsOf (unhide H1).1]; rfl
      have y1 : (wr.alloc (.cells #[.string ⟨dn.toArray⟩, .int .u8 dk, .int .i64 dl, .int .i64 dh, .int .i64 dp] 155)).cell? ⟨w.heap.size, 1, none⟩ = some (.slice (some ⟨g2, 0, none⟩) names.length p2) := by rw [cellsOf (unhide H1).1]; rfl
      have y2 : (wr.alloc (.cells #[.string ⟨dn.toArray⟩, .int .u8 dk, .int .i64 dl, .int .i64 dh, .int .i64 dp] 155)).cell? ⟨w.heap.size, 2, none⟩ = some (.slice a3 n3 p3) := by rw [cellsOf (unhide H1).1]; rfl
      have y0 : (wr.alloc (.cells #[.string ⟨dn.toArray⟩, .int .u8 dk, .int .i64 dl, .int .i64 dh, .int .i64 dp] 155)).cell? ⟨w.heap.size, 0, none⟩ = some (.slice a1 toks.length p1) := by rw [cellsOf (unhide H1).1]; rfl
      have y1 : (wr.alloc (.cells #[.string ⟨dn.toArray⟩, .int .u8 dk, .int .i64 dl, .int .i64 dh, .int .i64 dp] 155)).cell? ⟨w.heap.size, 1, none⟩ = some (.slice (some ⟨g2, 0, none⟩) names.length p2) := by rw [cellsOf (unhide H1).1]; rfl
      by_cases hk1 : dk = 105
      · subst hk1
        have hlim : -1000000000 ≤ dl ∧ dl ≤ 1000000000 ∧ -1000000000 ≤ dh ∧ dh ≤ 1000000000 := by
          rcases hok with h | h | h
          · exact h.2
          · exact absurd h.1 (by simp)
          · rcases h.1 with h | h <;> exact absurd h (by simp)
        have hw0 : Pl.wideOf toks names ⟨dn, 105, dl, dh, dp⟩ known = Pl.most (Pl.absv dl) (Pl.absv dh) := rfl
        have hmb : Pl.most (Pl.absv dl) (Pl.absv dh) ≤ 1000000000 := by unfold Pl.most Pl.absv; split <;> split <;> omega
        rw [hw0, if_neg (by omega)] at HQ
        have hA := hide (fun m => apart_any dl (((wr.alloc (.cells #[.string ⟨dn.toArray⟩, .int .u8 105, .int .i64 dl, .int .i64 dh, .int .i64 dp] 155))).drewN m) (by omega) (by omega))
        have hA2 := hide (fun m => apart_any dh (((wr.alloc (.cells #[.string ⟨dn.toArray⟩, .int .u8 105, .int .i64 dl, .int .i64 dh, .int .i64 dp] 155))).drewN m) (by omega) (by omega))
        have hM := hide (fun m => most_any (Pl.absv dl) (Pl.absv dh) (((wr.alloc (.cells #[.string ⟨dn.toArray⟩, .int .u8 105, .int .i64 dl, .int .i64 dh, .int .i64 dp] 155))).drewN m))
        generalize hmm : Pl.most (Pl.absv dl) (Pl.absv dh) = mm at *
        generalize Pl.absv dl = al at *
        generalize Pl.absv dh = ah at *
        clear hw0 hok hmm hlim
        go_wp2_with fail
        go_quiet (first | (go_at_call_of 145 dl; exact Calls.quiet_of_same (unhide hA _)) | (go_at_call_of 145 dh; exact Calls.quiet_of_same (unhide hA2 _)) | (go_at_call 144; exact Calls.quiet_of_same (unhide hM _)))
        have HX : Hid (((wr.alloc (.cells #[.string ⟨dn.toArray⟩, .int .u8 105, .int .i64 dl, .int .i64 dh, .int .i64 dp] 155)).drewN nq).heap[w.heap.size]? = some (.cells #[.slice a1 toks.length p1, .slice (some ⟨g2, 0, none⟩) names.length p2, .slice a3 n3 p3] 124 (0, 0)) ∧ IntsOwn w.heap.size ((wr.alloc (.cells #[.string ⟨dn.toArray⟩, .int .u8 105, .int .i64 dl, .int .i64 dh, .int .i64 dp] 155)).drewN nq) (.slice a3 n3 p3) known ∧ Below w.heap.size w ((wr.alloc (.cells #[.string ⟨dn.toArray⟩, .int .u8 105, .int .i64 dl, .int .i64 dh, .int .i64 dp] 155)).drewN nq)) := ⟨(unhide H1).1, (unhide H1).2.1, below_drewN (unhide H1).2.2 nq⟩
        clear hA hA2 hM H1 y0 y1 y2
        obtain ⟨qb, qo, qw⟩ := unhide HX
        have y2 : ((wr.alloc (.cells #[.string ⟨dn.toArray⟩, .int .u8 105, .int .i64 dl, .int .i64 dh, .int .i64 dp] 155)).drewN nq).cell? ⟨w.heap.size, 2, none⟩ = some (.slice a3 n3 p3) := by rw [cellsOf qb]; rfl
        have f2 : ((wr.alloc (.cells #[.string ⟨dn.toArray⟩, .int .u8 105, .int .i64 dl, .int .i64 dh, .int .i64 dp] 155)).drewN nq).frozen? ⟨w.heap.size, 2, none⟩ = false := freeOf qb 2
        have qs := qw.size
        have own2 : IntsOwn w.heap.size (((wr.alloc (.cells #[.string ⟨dn.toArray⟩, .int .u8 105, .int .i64 dl, .int .i64 dh, .int .i64 dp] 155)).drewN nq).alloc (.cells #[.int .i64 mm] 3)) (.slice a3 n3 p3) known := World.ownsRow.alloc qo _
        have HX2 : Hid ((((wr.alloc (.cells #[.string ⟨dn.toArray⟩, .int .u8 105, .int .i64 dl, .int .i64 dh, .int .i64 dp] 155)).drewN nq).alloc (.cells #[.int .i64 mm] 3)).heap[w.heap.size]? = some (.cells #[.slice a1 toks.length p1, .slice (some ⟨g2, 0, none⟩) names.length p2, .slice a3 n3 p3] 124 (0, 0)) ∧ Below w.heap.size w (((wr.alloc (.cells #[.string ⟨dn.toArray⟩, .int .u8 105, .int .i64 dl, .int .i64 dh, .int .i64 dp] 155)).drewN nq).alloc (.cells #[.int .i64 mm] 3))) := ⟨by rw [Below.heap_alloc _ _ _ (lt_of_block qb)]; exact qb, qw.alloc qw.size _⟩
        clear qb qo qw HX
        go_wp2_with (at_builtin; refine wpList_append_lies _ rfl _ _ 22 rfl w.heap.size 3 j0 (.int .i64 0) 1 8 Tryz.underlying22 hj hy0 hy1 hy2 rfl (by decide) _ _ _ rfl own2 ⟨_, 0, none⟩ 1 1 [intV mm] rfl rfl ?c1 ?c2 (by decide) ?c3 ?c4 ?c5 _ rfl ?_)
        case c1 => exact news_far _ #[intV mm] 3 (by have := heap_alloc_new ((wr.alloc (.cells #[.string ⟨dn.toArray⟩, .int .u8 105, .int .i64 dl, .int .i64 dh, .int .i64 dp] 155)).drewN nq) (.cells #[.int .i64 mm] 3); simpa [intV] using this) rfl
        case c2 => intro u hu; simp at hu; subst hu; rfl
        case c3 => have := unhide HKN; unfold maxLen; omega
        case c4 => have := unhide HKN; omega
        case c5 => simp at qs ⊢; omega
        · intro g cp w3 hown' hgrow _ _
          have hblk3 : w3.heap[w.heap.size]? = some (.cells #[.slice a1 toks.length p1, .slice (some ⟨g2, 0, none⟩) names.length p2, .slice a3 n3 p3] 124 (0, 0)) := (KeepT.grown own2 hgrow (show 3 ≠ 124 by decide) _ _ (unhide HX2).1).trans (unhide HX2).1
          have c2' : w3.cell? ⟨w.heap.size, 2, none⟩ = some (.slice a3 n3 p3) := by rw [cellsOf hblk3]; rfl
          have f2' : w3.frozen? ⟨w.heap.size, 2, none⟩ = false := freeOf hblk3 2
          have HR : Hid ((w3.setCell ⟨w.heap.size, 2, none⟩ (.slice (some ⟨g, 0, none⟩) (known.length + 1) cp)).heap[w.heap.size]? = some (.cells #[.slice a1 toks.length p1, .slice (some ⟨g2, 0, none⟩) names.length p2, .slice (some ⟨g, 0, none⟩) (known.length + 1) cp] 124 (0, 0)) ∧ IntsOwn w.heap.size (w3.setCell ⟨w.heap.size, 2, none⟩ (.slice (some ⟨g, 0, none⟩) (known.length + 1) cp)) (.slice (some ⟨g, 0, none⟩) (known.length + 1) cp) (known ++ [mm]) ∧ Below w.heap.size w (w3.setCell ⟨w.heap.size, 2, none⟩ (.slice (some ⟨g, 0, none⟩) (known.length + 1) cp)) ∧ Pl.wideFrom toks names (names.drop (k + 1)) (known ++ [mm]) = T) := by
            refine ⟨by rw [heap_setCell_same w3 _ 2 _ _ _ hblk3]; rfl, ?_, (((unhide HX2).2.grown hgrow (by simp at qs ⊢; omega) (own_base own2)).setCell (p := ⟨w.heap.size, 2, none⟩) (Nat.le_refl _) _), unhide HQ⟩
            unfold IntsOwn
            rw [List.map_append, List.length_append]
            exact own_keep hown' (.setCell hblk3 (by decide) 2 _)
          clear hown' hgrow own2 HX2 hblk3 HQ y2 f2
          go_wp2
          go_roundw
          case rel => exact ⟨k + 1, _, _, _, known ++ [mm], by omega, by have := unhide HKN; simp [this], by go_num, HR⟩
          case measure => simp [intOf]; omega
      · by_cases hk2 : dk = 118
        · subst hk2
          obtain ⟨p, rfl, hso⟩ : ∃ p : Nat, dp = (p : Int) ∧ Pl.StepOk toks names known.length p 118 := by
            rw [unhide HKN]
            rcases hok with h | h | h
            · exact absurd h.1 (by simp)
            · exact absurd h.1 (by simp)
            · exact h.2
          have hw0 : Pl.wideOf toks names ⟨dn, 118, dl, dh, p⟩ known = Pl.reachR toks names known p := by unfold Pl.wideOf; rw [if_neg (by simp), if_pos rfl, Int.toNat_natCast]
          rw [hw0] at HQ
          have hRe := hide (reach_ref toks names known (.slice a1 toks.length p1) (.slice (some ⟨g2, 0, none⟩) names.length p2) (.slice a3 n3 p3) p (wr.alloc (.cells #[.string ⟨dn.toArray⟩, .int .u8 118, .int .i64 dl, .int .i64 dh, .int .i64 p] 155)) ⟨(unhide HT).below (unhide H1).2.2, (unhide HN).below (unhide H1).2.2, ints_own (unhide H1).2.1⟩ hso hl hnl (unhide H6))
          have y0' : (wr.alloc (.cells #[.string ⟨dn.toArray⟩, .int .u8 118, .int .i64 dl, .int .i64 dh, .int .i64 p] 155)).cell? ⟨w.heap.size, 0, none⟩ = some (.slice a1 toks.length p1) := y0
          have y1' : (wr.alloc (.cells #[.string ⟨dn.toArray⟩, .int .u8 118, .int .i64 dl, .int .i64 dh, .int .i64 p] 155)).cell? ⟨w.heap.size, 1, none⟩ = some (.slice (some ⟨g2, 0, none⟩) names.length p2) := y1
          have y2' : (wr.alloc (.cells #[.string ⟨dn.toArray⟩, .int .u8 118, .int .i64 dl, .int .i64 dh, .int .i64 p] 155)).cell? ⟨w.heap.size, 2, none⟩ = some (.slice a3 n3 p3) := y2
          generalize Pl.reachR toks names known p = b at *
          clear hw0 hok hk1 hso
          go_wp2_with fail
          refine (unhide hRe).mono ?_
          rintro e w2 ⟨rfl, hb2⟩
          have hs0 := lt_of_block (unhide H1).1
          have HX : Hid (w2.heap[w.heap.size]? = some (.cells #[.slice a1 toks.length p1, .slice (some ⟨g2, 0, none⟩) names.length p2, .slice a3 n3 p3] 124 (0, 0)) ∧ IntsOwn w.heap.size w2 (.slice a3 n3 p3) known ∧ Below w.heap.size w w2) := ⟨(hb2.block _ hs0).trans (unhide H1).1, own_keep (unhide H1).2.1 (.of_below hb2), (unhide H1).2.2.trans (hb2.mono (unhide H1).2.2.size)⟩
          clear hRe hb2 y0 y1 y2 y0' y1' y2' hs0 H1
          by_cases hbig : 1000000000000000 < b
          · rw [if_pos hbig] at HQ
            have HB := hide (unhide HX).2.2
            clear HX
            go_wp2
            go_ret
            exact ⟨ret_bool (unhide HQ), unhide HB⟩
          · rw [if_neg hbig] at HQ
            obtain ⟨qb, qo, qw⟩ := unhide HX
            have y2 : w2.cell? ⟨w.heap.size, 2, none⟩ = some (.slice a3 n3 p3) := by rw [cellsOf qb]; rfl
            have f2 : w2.frozen? ⟨w.heap.size, 2, none⟩ = false := freeOf qb 2
            have qs := qw.size
            have own2 : IntsOwn w.heap.size (w2.alloc (.cells #[.int .i64 b] 3)) (.slice a3 n3 p3) known := World.ownsRow.alloc qo _
            have HX2 : Hid ((w2.alloc (.cells #[.int .i64 b] 3)).heap[w.heap.size]? = some (.cells #[.slice a1 toks.length p1, .slice (some ⟨g2, 0, none⟩) names.length p2, .slice a3 n3 p3] 124 (0, 0)) ∧ Below w.heap.size w (w2.alloc (.cells #[.int .i64 b] 3))) := ⟨by rw [Below.heap_alloc _ _ _ (lt_of_block qb)]; exact qb, qw.alloc qw.size _⟩
            clear qb qo qw HX
            go_wp2_with (at_builtin; refine wpList_append_lies _ rfl _ _ 22 rfl w.heap.size 3 j0 (.int .i64 0) 1 8 Tryz.underlying22 hj hy0 hy1 hy2 rfl (by decide) _ _ _ rfl own2 ⟨_, 0, none⟩ 1 1 [intV b] rfl rfl ?c1 ?c2 (by decide) ?c3 ?c4 ?c5 _ rfl ?_)
            case c1 => exact news_far _ #[intV b] 3 (by have := heap_alloc_new w2 (.cells #[.int .i64 b] 3); simpa [intV] using this) rfl
            case c2 => intro u hu; simp at hu; subst hu; rfl
            case c3 => have := unhide HKN; unfold maxLen; omega
            case c4 => have := unhide HKN; omega
            case c5 => simp at qs ⊢; omega
            · intro g cp w3 hown' hgrow _ _
              have hblk3 : w3.heap[w.heap.size]? = some (.cells #[.slice a1 toks.length p1, .slice (some ⟨g2, 0, none⟩) names.length p2, .slice a3 n3 p3] 124 (0, 0)) := (KeepT.grown own2 hgrow (show 3 ≠ 124 by decide) _ _ (unhide HX2).1).trans (unhide HX2).1
              have c2' : w3.cell? ⟨w.heap.size, 2, none⟩ = some (.slice a3 n3 p3) := by rw [cellsOf hblk3]; rfl
              have f2' : w3.frozen? ⟨w.heap.size, 2, none⟩ = false := freeOf hblk3 2
              have HR : Hid ((w3.setCell ⟨w.heap.size, 2, none⟩ (.slice (some ⟨g, 0, none⟩) (known.length + 1) cp)).heap[w.heap.size]? = some (.cells #[.slice a1 toks.length p1, .slice (some ⟨g2, 0, none⟩) names.length p2, .slice (some ⟨g, 0, none⟩) (known.length + 1) cp] 124 (0, 0)) ∧ IntsOwn w.heap.size (w3.setCell ⟨w.heap.size, 2, none⟩ (.slice (some ⟨g, 0, none⟩) (known.length + 1) cp)) (.slice (some ⟨g, 0, none⟩) (known.length + 1) cp) (known ++ [b]) ∧ Below w.heap.size w (w3.setCell ⟨w.heap.size, 2, none⟩ (.slice (some ⟨g, 0, none⟩) (known.length + 1) cp)) ∧ Pl.wideFrom toks names (names.drop (k + 1)) (known ++ [b]) = T) := by
                refine ⟨by rw [heap_setCell_same w3 _ 2 _ _ _ hblk3]; rfl, ?_, (((unhide HX2).2.grown hgrow (by simp at qs ⊢; omega) (own_base own2)).setCell (p := ⟨w.heap.size, 2, none⟩) (Nat.le_refl _) _), unhide HQ⟩
                unfold IntsOwn
                rw [List.map_append, List.length_append]
                exact own_keep hown' (.setCell hblk3 (by decide) 2 _)
              clear hown' hgrow own2 HX2 hblk3 HQ y2 f2
              go_wp2
              go_roundw
              case rel => exact ⟨k + 1, _, _, _, known ++ [b], by omega, by have := unhide HKN; simp [this], by go_num, HR⟩
              case measure => simp [intOf]; omega
        · have n1 : ((dk : Int) == 105) = false := by rw [beq_eq_false_iff_ne]; omega
          have n2 : ((dk : Int) == 118) = false := by rw [beq_eq_false_iff_ne]; omega
          have hw0 : Pl.wideOf toks names ⟨dn, dk, dl, dh, dp⟩ known = 0 := by unfold Pl.wideOf; rw [if_neg hk1, if_neg hk2]
          rw [hw0, if_neg (by decide)] at HQ
          clear hw0 hok hk1 hk2
          obtain ⟨qb, qo, qw⟩ := unhide H1
          have y2 : (wr.alloc (.cells #[.string ⟨dn.toArray⟩, .int .u8 dk, .int .i64 dl, .int .i64 dh, .int .i64 dp] 155)).cell? ⟨w.heap.size, 2, none⟩ = some (.slice a3 n3 p3) := by rw [cellsOf qb]; rfl
          have f2 : (wr.alloc (.cells #[.string ⟨dn.toArray⟩, .int .u8 dk, .int .i64 dl, .int .i64 dh, .int .i64 dp] 155)).frozen? ⟨w.heap.size, 2, none⟩ = false := freeOf qb 2
          have qs := qw.size
          have own2 : IntsOwn w.heap.size ((wr.alloc (.cells #[.string ⟨dn.toArray⟩, .int .u8 dk, .int .i64 dl, .int .i64 dh, .int .i64 dp] 155)).alloc (.cells #[.int .i64 0] 3)) (.slice a3 n3 p3) known := World.ownsRow.alloc qo _
          have HX2 : Hid (((wr.alloc (.cells #[.string ⟨dn.toArray⟩, .int .u8 dk, .int .i64 dl, .int .i64 dh, .int .i64 dp] 155)).alloc (.cells #[.int .i64 0] 3)).heap[w.heap.size]? = some (.cells #[.slice a1 toks.length p1, .slice (some ⟨g2, 0, none⟩) names.length p2, .slice a3 n3 p3] 124 (0, 0)) ∧ Below w.heap.size w ((wr.alloc (.cells #[.string ⟨dn.toArray⟩, .int .u8 dk, .int .i64 dl, .int .i64 dh, .int .i64 dp] 155)).alloc (.cells #[.int .i64 0] 3))) := ⟨by rw [Below.heap_alloc _ _ _ (lt_of_block qb)]; exact qb, qw.alloc qw.size _⟩
          clear qb qo qw H1
          go_wp2_with (at_builtin; refine wpList_append_lies _ rfl _ _ 22 rfl w.heap.size 3 j0 (.int .i64 0) 1 8 Tryz.underlying22 hj hy0 hy1 hy2 rfl (by decide) _ _ _ rfl own2 ⟨_, 0, none⟩ 1 1 [intV 0] rfl rfl ?c1 ?c2 (by decide) ?c3 ?c4 ?c5 _ rfl ?_)
          case c1 => exact news_far _ #[intV 0] 3 (by have := heap_alloc_new (wr.alloc (.cells #[.string ⟨dn.toArray⟩, .int .u8 dk, .int .i64 dl, .int .i64 dh, .int .i64 dp] 155)) (.cells #[.int .i64 0] 3); simpa [intV] using this) rfl
          case c2 => intro u hu; simp at hu; subst hu; rfl
          case c3 => have := unhide HKN; unfold maxLen; omega
          case c4 => have := unhide HKN; omega
          case c5 => simp at qs ⊢; omega
          · intro g cp w3 hown' hgrow _ _
            have hblk3 : w3.heap[w.heap.size]? = some (.cells #[.slice a1 toks.length p1, .slice (some ⟨g2, 0, none⟩) names.length p2, .slice a3 n3 p3] 124 (0, 0)) := (KeepT.grown own2 hgrow (show 3 ≠ 124 by decide) _ _ (unhide HX2).1).trans (unhide HX2).1
            have c2' : w3.cell? ⟨w.heap.size, 2, none⟩ = some (.slice a3 n3 p3) := by rw [cellsOf hblk3]; rfl
            have f2' : w3.frozen? ⟨w.heap.size, 2, none⟩ = false := freeOf hblk3 2
            have HR : Hid ((w3.setCell ⟨w.heap.size, 2, none⟩ (.slice (some ⟨g, 0, none⟩) (known.length + 1) cp)).heap[w.heap.size]? = some (.cells #[.slice a1 toks.length p1, .slice (some ⟨g2, 0, none⟩) names.length p2, .slice (some ⟨g, 0, none⟩) (known.length + 1) cp] 124 (0, 0)) ∧ IntsOwn w.heap.size (w3.setCell ⟨w.heap.size, 2, none⟩ (.slice (some ⟨g, 0, none⟩) (known.length + 1) cp)) (.slice (some ⟨g, 0, none⟩) (known.length + 1) cp) (known ++ [0]) ∧ Below w.heap.size w (w3.setCell ⟨w.heap.size, 2, none⟩ (.slice (some ⟨g, 0, none⟩) (known.length + 1) cp)) ∧ Pl.wideFrom toks names (names.drop (k + 1)) (known ++ [0]) = T) := by
              refine ⟨by rw [heap_setCell_same w3 _ 2 _ _ _ hblk3]; rfl, ?_, (((unhide HX2).2.grown hgrow (by simp at qs ⊢; omega) (own_base own2)).setCell (p := ⟨w.heap.size, 2, none⟩) (Nat.le_refl _) _), unhide HQ⟩
              unfold IntsOwn
              rw [List.map_append, List.length_append]
              exact own_keep hown' (.setCell hblk3 (by decide) 2 _)
            clear hown' hgrow own2 HX2 hblk3 HQ y2 f2
            go_wp2
            go_roundw
            case rel => exact ⟨k + 1, _, _, _, known ++ [0], by omega, by have := unhide HKN; simp [this], by go_num, HR⟩
            case measure => simp [intOf]; omega
    · rw [List.drop_eq_nil_of_le (by omega), Pl.wideFrom] at hstep
      have HB := hide hbel
      have HQ := hide hstep
      clear hblk hown hbel hstep
      go_wp2
      go_ret
      exact ⟨ret_bool (unhide HQ), unhide HB⟩
end Go.Proofs.YtfaljekgpnbmiaaGreat
