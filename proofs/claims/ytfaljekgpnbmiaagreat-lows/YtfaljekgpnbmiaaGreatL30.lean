/- Joined: Ref17. -/
import Derived.Test.YtfaljekgpnbmiaaGreatL29
/-
  The contract of the reference's Tells: the values of the outs.
-/
namespace Go.Proofs.YtfaljekgpnbmiaaGreat
open Go.RowKit

theorem own_other {w w' : World} {B : Nat} {e : TypeId} {size : Nat} {v : Value} {n : Nat} {xs : List Value} {b : Option Nat} (h : w.ownsRow B e size v n xs) (hg : w.grownBy w' b) (hd : ∀ g, v.ownBlock = some g → b ≠ some g) : w'.ownsRow B e size v n xs := by
  refine ⟨h.1, ?_⟩
  rcases h.2 with hn | ⟨g, cap, cur, rfl, hb, hgg, rest⟩
  · exact .inl hn
  · exact .inr ⟨g, cap, cur, rfl, hb, by rw [hg.block g (lt_of_block hgg) (fun e => hd g (by simp [Value.ownBlock]) e.symm)]; exact hgg, rest⟩
theorem own_lt2 {w : World} {B : Nat} {e : TypeId} {size : Nat} {v : Value} {n : Nat} {xs : List Value} (h : w.ownsRow B e size v n xs) : ∀ g, v.ownBlock = some g → g < w.heap.size := fun g hg => (h.lt g hg).2
/-- Two lists lie in different blocks. -/
def Apart2 (u v : Value) : Prop := ∀ g, u.ownBlock = some g → v.ownBlock ≠ some g
theorem Apart2.nil (v : Value) : Apart2 (.slice none 0 0) v := fun g h => by simp [Value.ownBlock] at h
def Pl.tellOf (toks : List (List UInt8)) (names : List Pl.DeclM) (home : List Int) (k : Nat) (d : Pl.DeclM) (known : List Int) : Int :=
  if d.kind = 105 then home.getD k 0 else if d.kind = 111 then Pl.valueR toks names known d.pos.toNat else Pl.doneR toks names known d.pos.toNat
def Pl.tellsFrom (toks : List (List UInt8)) (names : List Pl.DeclM) (home : List Int) : List Pl.DeclM → Nat → List Int → List Int → List Int
  | [], _, _, outs => outs
  | d :: r, k, known, outs => Pl.tellsFrom toks names home r (k + 1) (known ++ [Pl.tellOf toks names home k d known]) (if d.kind = 111 then outs ++ [Pl.tellOf toks names home k d known] else outs)
/-- All that is reckoned on the way may be reckoned. -/
def Pl.SafeFrom (toks : List (List UInt8)) (names : List Pl.DeclM) (home : List Int) : List Pl.DeclM → Nat → List Int → Prop
  | [], _, _ => True
  | d :: r, k, known => (d.kind = 105 → k < home.length) ∧ (d.kind = 118 → toks.getD d.pos.toNat [] = Pl.kFlr → -4000000000000000000 ≤ Pl.valueR toks names known (d.pos.toNat + 1) ∧ Pl.valueR toks names known (d.pos.toNat + 1) ≤ 4000000000000000000 ∧ 1 ≤ Pl.valueR toks names known (d.pos.toNat + 2) ∧ Pl.valueR toks names known (d.pos.toNat + 2) ≤ 4000000000000000000) ∧
    Pl.SafeFrom toks names home r (k + 1) (known ++ [Pl.tellOf toks names home k d known])

theorem done_ref (toks : List (List UInt8)) (names : List Pl.DeclM) (known : List Int) (vt vn vk : Value) (i : Nat) (w : World) (h : TextAt w vt vn vk toks names known) (kind : Nat) (hs : Pl.StepOk toks names known.length i kind) (hf : kind = 118 → toks.getD i [] = Pl.kFlr → -4000000000000000000 ≤ Pl.valueR toks names known (i + 1) ∧ Pl.valueR toks names known (i + 1) ≤ 4000000000000000000 ∧ 1 ≤ Pl.valueR toks names known (i + 2) ∧ Pl.valueR toks names known (i + 2) ≤ 4000000000000000000) (hl : toks.length ≤ 9000) (hnl : names.length ≤ 10000) (ht6 : ∀ t ∈ toks, t.length ≤ 6000) :
    Calls Tryz.prog 118 #[.agg #[vt, vn, vk], .int .i64 i] w fun e w' => e = .returned (.int .i64 (Pl.doneR toks names known i)) ∧ Below w.heap.size w w' := by
  obtain ⟨hi, hs⟩ := hs
  rcases hs with ⟨ho, hk, h1, h2⟩ | ⟨ho, _, h1, h2, h3⟩ | ⟨ho, hk, h1, h2⟩ | ⟨ho, hk, h1⟩
  · rcases ho with ho | ho | ho | ho
    · exact done_kAdd toks names known vt vn vk i w h hi ho h1 h2 hl hnl ht6
    · exact done_kSub toks names known vt vn vk i w h hi ho h1 h2 hl hnl ht6
    · exact done_kMul toks names known vt vn vk i w h hi ho h1 h2 hl hnl ht6
    · obtain ⟨q1, q2, q3, q4⟩ := hf hk ho
      exact done_kFlr toks names known vt vn vk i w h hi ho h1 h2 q1 q2 q3 q4 hl hnl ht6
  · exact done_kSel toks names known vt vn vk i w h hi ho h1 h2 h3 hl hnl ht6
  · rcases ho with ho | ho | ho | ho | ho
    · exact done_kLt toks names known vt vn vk i w h hi ho h1 h2 hl hnl ht6
    · exact done_kLe toks names known vt vn vk i w h hi ho h1 h2 hl hnl ht6
    · exact done_kEq toks names known vt vn vk i w h hi ho h1 h2 hl hnl ht6
    · exact done_kAnd toks names known vt vn vk i w h hi ho h1 h2 hl hnl ht6
    · exact done_kOr toks names known vt vn vk i w h hi ho h1 h2 hl hnl ht6
  · exact done_kNot toks names known vt vn vk i w h hi ho h1 hl hnl ht6
set_option maxRecDepth 100000 in
set_option maxHeartbeats 3000000 in
theorem Tells_ref (toks : List (List UInt8)) (names : List Pl.DeclM) (home : List Int) (vt vn vk vh : Value) (w : World) (ht : StrsAt w vt toks) (hn : DeclsAt w vn names) (hhm : IntsAt w vh home) (hvk : ∃ ad n cap, vk = .slice ad n cap) (hwf : Pl.WF toks names) (hsf : Pl.SafeFrom toks names home names 0 []) (hl : toks.length ≤ 9000) (hnl : names.length ≤ 10000) (ht6 : ∀ t ∈ toks, t.length ≤ 6000) :
    Calls Tryz.prog 80 #[.agg #[vt, vn, vk], vh] w fun e w' => ∃ v, e = .returned v ∧ IntsOwn w.heap.size w' v (Pl.tellsFrom toks names home names 0 [] []) ∧ Below w.heap.size w w' := by
  obtain ⟨j0, hj, hy0, hy1, hy2⟩ := info_parts Tryz.infoInt
  have HT := hide ht
  have HN := hide hn
  have HM := hide hhm
  have HW := hide hwf
  have H6 := hide ht6
  obtain ⟨a1, p1, rfl⟩ := ht.shape
  obtain ⟨a2, p2, rfl⟩ := hn.shape
  obtain ⟨a9, n9, p9, rfl⟩ := hvk
  obtain ⟨a8, n8, p8, hvh⟩ : ∃ ad n cap, vh = .slice ad n cap := by obtain ⟨x, y, e, _⟩ := hhm; exact ⟨_, _, _, e⟩
  subst hvh
  generalize hq : Pl.tellsFrom toks names home names 0 [] [] = T
  have HQ0 := hide hq
  have HS0 := hide hsf
  have hb0 : Below w.heap.size w (w.alloc (.cells #[.slice a1 toks.length p1, .slice a2 names.length p2, .slice a9 n9 p9] 124)) := (Below.refl _ _).alloc (Nat.le_refl _) _
  have hk0 := heap_alloc_new w (.cells #[.slice a1 toks.length p1, .slice a2 names.length p2, .slice a9 n9 p9] 124)
  obtain ⟨W0, hW0⟩ : ∃ W0, W0 = (w.alloc (.cells #[.slice a1 toks.length p1, .slice a2 names.length p2, .slice none 0 0] 124)) := ⟨_, rfl⟩
  have H0 : Hid (W0.heap[w.heap.size]? = some (.cells #[.slice a1 toks.length p1, .slice a2 names.length p2, .slice none 0 0] 124 (0, 0)) ∧ Below w.heap.size w W0) := by rw [hW0]; exact ⟨heap_alloc_new w _, (Below.refl _ _).alloc (Nat.le_refl _) _⟩
  clear ht hn hwf ht6 hq hsf hhm hb0 hk0
  go_enter Tryz.func80, Tryz.ntmps80
  go_wp2
  go_loopw [5, 6] (fun lv i wr => ∃ (k : Nat) (a3 : Option Addr) (n3 p3 : Nat) (a4 : Option Addr) (n4 p4 : Nat) (known outs : List Int), k ≤ names.length ∧ known.length = k ∧ outs.length ≤ k ∧ i = .int .i64 k ∧ lv = .slice a4 n4 p4 ∧ Hid (wr.heap[w.heap.size]? = some (.cells #[.slice a1 toks.length p1, .slice a2 names.length p2, .slice a3 n3 p3] 124 (0, 0)) ∧ IntsOwn w.heap.size wr (.slice a3 n3 p3) known ∧ IntsOwn w.heap.size wr (.slice a4 n4 p4) outs ∧ Apart2 (.slice a3 n3 p3) (.slice a4 n4 p4) ∧ Below w.heap.size w wr) ∧ Pl.tellsFrom toks names home (names.drop k) k known outs = T ∧ Pl.SafeFrom toks names home (names.drop k) k known) (fun _ i _ => names.length - (intOf i).toNat)
  case atStart => exact ⟨0, none, 0, 0, none, 0, 0, [], [], by omega, rfl, by simp, rfl, rfl, ⟨by have := (unhide H0).1; rw [hW0] at this; exact this, World.ownsRow_nil _ _ _ _, World.ownsRow_nil _ _ _ _, Apart2.nil _, by have := (unhide H0).2; rw [hW0] at this; exact this⟩, unhide HQ0, unhide HS0⟩
  case round =>
    obtain ⟨k, a3, n3, p3, a4, n4, p4, known, outs, hk, hkn, hol, rfl, rfl, hh, hstep, hsafe⟩ := hrel
    have HKN := hide hkn
    have x1 : wr.cell? ⟨w.heap.size, 1, none⟩ = some (.slice a2 names.length p2) := by rw [cellsOf (unhide hh).1]; rfl
    clear H0 HQ0 HS0 hkn hW0
    by_cases hlt : k < names.length
    · rw [List.drop_eq_getElem_cons hlt, Pl.tellsFrom] at hstep
      rw [List.drop_eq_getElem_cons hlt, Pl.SafeFrom] at hsafe
      obtain ⟨g2, rfl, e0, e1, e2, e3, e4⟩ := decls_get (unhide HN) k hlt
      have hbel := (unhide hh).2.2.2.2
      have d0 := cell_low hbel (lt_of_cell e0) e0
      have d1 := cell_low hbel (lt_of_cell e1) e1
      have d2 := cell_low hbel (lt_of_cell e2) e2
      have d3 := cell_low hbel (lt_of_cell e3) e3
      have d4 := cell_low hbel (lt_of_cell e4) e4
      have hok := unhide HW k hlt
      obtain ⟨hs1, hs2, hs3⟩ := hsafe
      generalize names[k] = d at *
      obtain ⟨dn, dk, dl, dh, dp⟩ := d
      simp only at d0 d1 d2 d3 d4 hs1 hs2
      have H1 : Hid ((wr.alloc (.cells #[.string ⟨dn.toArray⟩, .int .u8 dk, .int .i64 dl, .int .i64 dh, .int .i64 dp] 155)).heap[w.heap.size]? = some (.cells #[.slice a1 toks.length p1, .slice (some ⟨g2, 0, none⟩) names.length p2, .slice a3 n3 p3] 124 (0, 0)) ∧ IntsOwn w.heap.size (wr.alloc (.cells #[.string ⟨dn.toArray⟩, .int .u8 dk, .int .i64 dl, .int .i64 dh, .int .i64 dp] 155)) (.slice a3 n3 p3) known ∧ IntsOwn w.heap.size (wr.alloc (.cells #[.string ⟨dn.toArray⟩, .int .u8 dk, .int .i64 dl, .int .i64 dh, .int .i64 dp] 155)) (.slice a4 n4 p4) outs ∧ Apart2 (.slice a3 n3 p3) (.slice a4 n4 p4) ∧ Below w.heap.size w (wr.alloc (.cells #[.string ⟨dn.toArray⟩, .int .u8 dk, .int .i64 dl, .int .i64 dh, .int .i64 dp] 155))) := ⟨by rw [Below.heap_alloc _ _ _ (lt_of_block (unhide hh).1)]; exact (unhide hh).1, World.ownsRow.alloc (unhide hh).2.1 _, World.ownsRow.alloc (unhide hh).2.2.1 _, (unhide hh).2.2.2.1, hbel.alloc hbel.size _⟩
      have y0 : (wr.alloc (.cells #[.string ⟨dn.toArray⟩, .int .u8 dk, .int .i64 dl, .int .i64 dh, .int .i64 dp] 155)).cell? ⟨w.heap.size, 0, none⟩ = some (.slice a1 toks.length p1) := by rw [cellsOf (unhide H1).1]; rfl
      have y1 : (wr.alloc (.cells #[.string ⟨dn.toArray⟩, .int .u8 dk, .int .i64 dl, .int .i64 dh, .int .i64 dp] 155)).cell? ⟨w.heap.size, 1, none⟩ = some (.slice (some ⟨g2, 0, none⟩) names.length p2) := by rw [cellsOf (unhide H1).1]; rfl
      have y2 : (wr.alloc (.cells #[.string ⟨dn.toArray⟩, .int .u8 dk, .int .i64 dl, .int .i64 dh, .int .i64 dp] 155)).cell? ⟨w.heap.size, 2, none⟩ = some (.slice a3 n3 p3) := by rw [cellsOf (unhide H1).1]; rfl
      clear e0 e1 e2 e3 e4 hbel hh
      by_cases hk1 : dk = 105
      · subst hk1
        have hkh := hs1 rfl
        obtain ⟨b8, o8, rfl, hc8⟩ := ints_get (unhide HM) k hkh
        have hw0 : Pl.tellOf toks names home k ⟨dn, 105, dl, dh, dp⟩ known = home[k] := by unfold Pl.tellOf; rw [if_pos rfl, List.getD_eq_getElem?_getD, List.getElem?_eq_getElem hkh]; rfl
        rw [hw0] at hstep hs3
        rw [if_neg (by simp)] at hstep
        have hn8 : n8 = home.length := by obtain ⟨x, y, e, _⟩ := unhide HM; simp only [Value.slice.injEq] at e; exact e.2.1
        have hc9 : (wr.alloc (.cells #[.string ⟨dn.toArray⟩, .int .u8 105, .int .i64 dl, .int .i64 dh, .int .i64 dp] 155)).cell? ⟨b8, o8 + k, none⟩ = some (.int .i64 home[k]) := cell_low (unhide H1).2.2.2.2 (lt_of_cell hc8) hc8
        have hlt8 : k < n8 := by omega
        generalize home[k] = hv at *
        have HQ := hide hstep
        have HSf := hide hs3
        have HX : Hid ((wr.alloc (.cells #[.string ⟨dn.toArray⟩, .int .u8 105, .int .i64 dl, .int .i64 dh, .int .i64 dp] 155)).heap[w.heap.size]? = some (.cells #[.slice a1 toks.length p1, .slice (some ⟨g2, 0, none⟩) names.length p2, .slice a3 n3 p3] 124 (0, 0)) ∧ IntsOwn w.heap.size (wr.alloc (.cells #[.string ⟨dn.toArray⟩, .int .u8 105, .int .i64 dl, .int .i64 dh, .int .i64 dp] 155)) (.slice a3 n3 p3) known ∧ IntsOwn w.heap.size (wr.alloc (.cells #[.string ⟨dn.toArray⟩, .int .u8 105, .int .i64 dl, .int .i64 dh, .int .i64 dp] 155)) (.slice a4 n4 p4) outs ∧ Apart2 (.slice a3 n3 p3) (.slice a4 n4 p4) ∧ Below w.heap.size w (wr.alloc (.cells #[.string ⟨dn.toArray⟩, .int .u8 105, .int .i64 dl, .int .i64 dh, .int .i64 dp] 155))) := H1
        have y2' : (wr.alloc (.cells #[.string ⟨dn.toArray⟩, .int .u8 105, .int .i64 dl, .int .i64 dh, .int .i64 dp] 155)).cell? ⟨w.heap.size, 2, none⟩ = some (.slice a3 n3 p3) := y2
        clear hw0 hok hs1 hs2 hstep hs3 hc8 hn8 hkh H1 y0 y1 y2
        obtain ⟨qb, qk, ql, qa, qw⟩ := unhide HX
        have z2 : (wr.alloc (.cells #[.string ⟨dn.toArray⟩, .int .u8 105, .int .i64 dl, .int .i64 dh, .int .i64 dp] 155)).cell? ⟨w.heap.size, 2, none⟩ = some (.slice a3 n3 p3) := by rw [cellsOf qb]; rfl
        have f2 : (wr.alloc (.cells #[.string ⟨dn.toArray⟩, .int .u8 105, .int .i64 dl, .int .i64 dh, .int .i64 dp] 155)).frozen? ⟨w.heap.size, 2, none⟩ = false := freeOf qb 2
        have qs := qw.size
        have own2 : IntsOwn w.heap.size ((wr.alloc (.cells #[.string ⟨dn.toArray⟩, .int .u8 105, .int .i64 dl, .int .i64 dh, .int .i64 dp] 155)).alloc (.cells #[.int .i64 hv] 3)) (.slice a3 n3 p3) known := World.ownsRow.alloc qk _
        have HX2 : Hid (((wr.alloc (.cells #[.string ⟨dn.toArray⟩, .int .u8 105, .int .i64 dl, .int .i64 dh, .int .i64 dp] 155)).alloc (.cells #[.int .i64 hv] 3)).heap[w.heap.size]? = some (.cells #[.slice a1 toks.length p1, .slice (some ⟨g2, 0, none⟩) names.length p2, .slice a3 n3 p3] 124 (0, 0)) ∧ IntsOwn w.heap.size ((wr.alloc (.cells #[.string ⟨dn.toArray⟩, .int .u8 105, .int .i64 dl, .int .i64 dh, .int .i64 dp] 155)).alloc (.cells #[.int .i64 hv] 3)) (.slice a4 n4 p4) outs ∧ Apart2 (.slice a3 n3 p3) (.slice a4 n4 p4) ∧ Below w.heap.size w ((wr.alloc (.cells #[.string ⟨dn.toArray⟩, .int .u8 105, .int .i64 dl, .int .i64 dh, .int .i64 dp] 155)).alloc (.cells #[.int .i64 hv] 3))) := ⟨by rw [Below.heap_alloc _ _ _ (lt_of_block qb)]; exact qb, World.ownsRow.alloc ql _, qa, qw.alloc qw.size _⟩
        clear qb qk ql qa qw HX
        go_wp2_with (at_builtin; refine wpList_append_lies _ rfl _ _ 22 rfl w.heap.size 3 j0 (.int .i64 0) 1 8 Tryz.underlying22 hj hy0 hy1 hy2 rfl (by decide) _ _ _ rfl own2 ⟨_, 0, none⟩ 1 1 [intV hv] rfl rfl ?c1 ?c2 (by decide) ?c3 ?c4 ?c5 _ rfl ?_)
        case c1 => exact news_far _ #[intV hv] 3 (by have := heap_alloc_new (wr.alloc (.cells #[.string ⟨dn.toArray⟩, .int .u8 105, .int .i64 dl, .int .i64 dh, .int .i64 dp] 155)) (.cells #[.int .i64 hv] 3); simpa [intV] using this) rfl
        case c2 => intro u hu; simp at hu; subst hu; rfl
        case c3 => have := unhide HKN; unfold maxLen; omega
        case c4 => have := unhide HKN; omega
        case c5 => simp at qs ⊢; omega
        · intro g cp w3 hown' hgrow hgor hglt
          have hblk3 : w3.heap[w.heap.size]? = some (.cells #[.slice a1 toks.length p1, .slice (some ⟨g2, 0, none⟩) names.length p2, .slice a3 n3 p3] 124 (0, 0)) := (KeepT.grown own2 hgrow (show 3 ≠ 124 by decide) _ _ (unhide HX2).1).trans (unhide HX2).1
          have c2' : w3.cell? ⟨w.heap.size, 2, none⟩ = some (.slice a3 n3 p3) := by rw [cellsOf hblk3]; rfl
          have f2' : w3.frozen? ⟨w.heap.size, 2, none⟩ = false := freeOf hblk3 2
          have HR : Hid ((w3.setCell ⟨w.heap.size, 2, none⟩ (.slice (some ⟨g, 0, none⟩) (known.length + 1) cp)).heap[w.heap.size]? = some (.cells #[.slice a1 toks.length p1, .slice (some ⟨g2, 0, none⟩) names.length p2, .slice (some ⟨g, 0, none⟩) (known.length + 1) cp] 124 (0, 0)) ∧ IntsOwn w.heap.size (w3.setCell ⟨w.heap.size, 2, none⟩ (.slice (some ⟨g, 0, none⟩) (known.length + 1) cp)) (.slice (some ⟨g, 0, none⟩) (known.length + 1) cp) (known ++ [hv]) ∧ IntsOwn w.heap.size (w3.setCell ⟨w.heap.size, 2, none⟩ (.slice (some ⟨g, 0, none⟩) (known.length + 1) cp)) (.slice a4 n4 p4) outs ∧ Apart2 (.slice (some ⟨g, 0, none⟩) (known.length + 1) cp) (.slice a4 n4 p4) ∧ Below w.heap.size w (w3.setCell ⟨w.heap.size, 2, none⟩ (.slice (some ⟨g, 0, none⟩) (known.length + 1) cp))) := by
            have hap : Apart2 (.slice (some ⟨g, 0, none⟩) (known.length + 1) cp) (.slice a4 n4 p4) := by
              intro x hx
              simp only [Value.ownBlock, Option.some.injEq] at hx
              subst hx
              intro hl2
              rcases hgor with h1 | h1
              · exact (unhide HX2).2.2.1 _ h1 hl2
              · have hlt2 := own_lt2 (unhide HX2).2.1 _ hl2
                simp at hlt2 h1
                omega
            refine ⟨by rw [heap_setCell_same w3 _ 2 _ _ _ hblk3]; rfl, ?_, own_keep (own_other (unhide HX2).2.1 hgrow ?_) (.setCell hblk3 (by decide) 2 _), hap, (((unhide HX2).2.2.2.grown hgrow (by simp at qs ⊢; omega) (own_base own2)).setCell (p := ⟨w.heap.size, 2, none⟩) (Nat.le_refl _) _)⟩
            · unfold IntsOwn
              rw [List.map_append, List.length_append]
              exact own_keep hown' (.setCell hblk3 (by decide) 2 _)
            · intro x hx hy
              exact (unhide HX2).2.2.1 x hy hx
          clear hown' hgrow own2 HX2 hblk3 z2 f2 hgor hglt
          go_wp2
          go_roundw
          case rel => exact ⟨k + 1, _, _, _, _, _, _, known ++ [hv], outs, by omega, by have := unhide HKN; simp [this], by omega, by go_num, rfl, HR, unhide HQ, unhide HSf⟩
          case measure => simp [intOf]; omega

      · by_cases hk2 : dk = 111
        · subst hk2
          obtain ⟨p, rfl, hto⟩ : ∃ p : Nat, dp = (p : Int) ∧ Pl.Told toks names known.length p := by
            rw [unhide HKN]
            rcases hok with h | h | h
            · exact absurd h.1 (by simp)
            · exact h.2
            · rcases h.1 with h | h <;> exact absurd h (by simp)
          have hw0 : Pl.tellOf toks names home k ⟨dn, 111, dl, dh, p⟩ known = Pl.valueR toks names known p := by unfold Pl.tellOf; rw [if_neg (by simp), if_pos rfl, Int.toNat_natCast]
          rw [hw0] at hstep hs3
          rw [if_pos rfl] at hstep
          have hVa := hide (value_ref toks names known (.slice a1 toks.length p1) (.slice (some ⟨g2, 0, none⟩) names.length p2) (.slice a3 n3 p3) p p (wr.alloc (.cells #[.string ⟨dn.toArray⟩, .int .u8 111, .int .i64 dl, .int .i64 dh, .int .i64 p] 155)) ⟨(unhide HT).below (unhide H1).2.2.2.2, (unhide HN).below (unhide H1).2.2.2.2, ints_own (unhide H1).2.1⟩ hto rfl (by omega) hnl (unhide H6))
          have y0' : (wr.alloc (.cells #[.string ⟨dn.toArray⟩, .int .u8 111, .int .i64 dl, .int .i64 dh, .int .i64 p] 155)).cell? ⟨w.heap.size, 0, none⟩ = some (.slice a1 toks.length p1) := y0
          have y1' : (wr.alloc (.cells #[.string ⟨dn.toArray⟩, .int .u8 111, .int .i64 dl, .int .i64 dh, .int .i64 p] 155)).cell? ⟨w.heap.size, 1, none⟩ = some (.slice (some ⟨g2, 0, none⟩) names.length p2) := y1
          have y2' : (wr.alloc (.cells #[.string ⟨dn.toArray⟩, .int .u8 111, .int .i64 dl, .int .i64 dh, .int .i64 p] 155)).cell? ⟨w.heap.size, 2, none⟩ = some (.slice a3 n3 p3) := y2
          generalize Pl.valueR toks names known p = v at *
          have HQ := hide hstep
          have HSf := hide hs3
          clear hw0 hok hs1 hs2 hstep hs3 hto hk1
          go_wp2_with fail
          refine (unhide hVa).mono ?_
          rintro e w2 ⟨rfl, hb2⟩
          have hs0 := lt_of_block (unhide H1).1
          have HX0 : Hid (w2.heap[w.heap.size]? = some (.cells #[.slice a1 toks.length p1, .slice (some ⟨g2, 0, none⟩) names.length p2, .slice a3 n3 p3] 124 (0, 0)) ∧ IntsOwn w.heap.size w2 (.slice a3 n3 p3) known ∧ IntsOwn w.heap.size w2 (.slice a4 n4 p4) outs ∧ Apart2 (.slice a3 n3 p3) (.slice a4 n4 p4) ∧ Below w.heap.size w w2) := ⟨(hb2.block _ hs0).trans (unhide H1).1, own_keep (unhide H1).2.1 (.of_below hb2), own_keep (unhide H1).2.2.1 (.of_below hb2), (unhide H1).2.2.2.1, (unhide H1).2.2.2.2.trans (hb2.mono (unhide H1).2.2.2.2.size)⟩
          clear hVa hb2 y0 y1 y2 y0' y1' y2' hs0 H1
          obtain ⟨rb, rk, rl, ra, rw'⟩ := unhide HX0
          have rs := rw'.size
          have ownl : IntsOwn w.heap.size (w2.alloc (.cells #[.int .i64 v] 3)) (.slice a4 n4 p4) outs := World.ownsRow.alloc rl _
          have HX2 : Hid ((w2.alloc (.cells #[.int .i64 v] 3)).heap[w.heap.size]? = some (.cells #[.slice a1 toks.length p1, .slice (some ⟨g2, 0, none⟩) names.length p2, .slice a3 n3 p3] 124 (0, 0)) ∧ IntsOwn w.heap.size (w2.alloc (.cells #[.int .i64 v] 3)) (.slice a3 n3 p3) known ∧ Apart2 (.slice a3 n3 p3) (.slice a4 n4 p4) ∧ Below w.heap.size w (w2.alloc (.cells #[.int .i64 v] 3))) := ⟨by rw [Below.heap_alloc _ _ _ (lt_of_block rb)]; exact rb, World.ownsRow.alloc rk _, ra, rw'.alloc rw'.size _⟩
          clear rb rk rl ra rw' HX0
          go_wp2_with (at_builtin; refine wpList_append_lies _ rfl _ _ 22 rfl w.heap.size 3 j0 (.int .i64 0) 1 8 Tryz.underlying22 hj hy0 hy1 hy2 rfl (by decide) _ _ _ rfl ownl ⟨_, 0, none⟩ 1 1 [intV v] rfl rfl ?b1 ?b2 (by decide) ?b3 ?b4 ?b5 _ rfl ?_)
          case b1 => exact news_far _ #[intV v] 3 (by have := heap_alloc_new w2 (.cells #[.int .i64 v] 3); simpa [intV] using this) rfl
          case b2 => intro u hu; simp at hu; subst hu; rfl
          case b3 => unfold maxLen; omega
          case b4 => omega
          case b5 => simp at rs ⊢; omega
          · intro gl cl wl hownl hgrowl hgorl _
            have HX : Hid (wl.heap[w.heap.size]? = some (.cells #[.slice a1 toks.length p1, .slice (some ⟨g2, 0, none⟩) names.length p2, .slice a3 n3 p3] 124 (0, 0)) ∧ IntsOwn w.heap.size wl (.slice a3 n3 p3) known ∧ IntsOwn w.heap.size wl (.slice (some ⟨gl, 0, none⟩) (outs.length + 1) cl) (outs ++ [v]) ∧ Apart2 (.slice a3 n3 p3) (.slice (some ⟨gl, 0, none⟩) (outs.length + 1) cl) ∧ Below w.heap.size w wl) := by
              have hap : Apart2 (.slice a3 n3 p3) (.slice (some ⟨gl, 0, none⟩) (outs.length + 1) cl) := by
                intro x hx hy
                simp only [Value.ownBlock, Option.some.injEq] at hy
                subst hy
                rcases hgorl with h1 | h1
                · exact (unhide HX2).2.2.1 _ hx h1
                · have hlt2 := own_lt2 (unhide HX2).2.1 _ hx
                  simp at hlt2 h1
                  omega
              refine ⟨(KeepT.grown ownl hgrowl (show 3 ≠ 124 by decide) _ _ (unhide HX2).1).trans (unhide HX2).1, own_other (unhide HX2).2.1 hgrowl (fun x hx hy => (unhide HX2).2.2.1 x hx hy), ?_, hap, (unhide HX2).2.2.2.grown hgrowl (by simp at rs ⊢; omega) (own_base ownl)⟩
              unfold IntsOwn
              rw [List.map_append, List.length_append]
              exact hownl
            clear hownl hgrowl hgorl ownl HX2
            obtain ⟨qb, qk, ql, qa, qw⟩ := unhide HX
            have z2 : wl.cell? ⟨w.heap.size, 2, none⟩ = some (.slice a3 n3 p3) := by rw [cellsOf qb]; rfl
            have f2 : wl.frozen? ⟨w.heap.size, 2, none⟩ = false := freeOf qb 2
            have qs := qw.size
            have own2 : IntsOwn w.heap.size (wl.alloc (.cells #[.int .i64 v] 3)) (.slice a3 n3 p3) known := World.ownsRow.alloc qk _
            have HX2 : Hid ((wl.alloc (.cells #[.int .i64 v] 3)).heap[w.heap.size]? = some (.cells #[.slice a1 toks.length p1, .slice (some ⟨g2, 0, none⟩) names.length p2, .slice a3 n3 p3] 124 (0, 0)) ∧ IntsOwn w.heap.size (wl.alloc (.cells #[.int .i64 v] 3)) (.slice (some ⟨gl, 0, none⟩) (outs.length + 1) cl) (outs ++ [v]) ∧ Apart2 (.slice a3 n3 p3) (.slice (some ⟨gl, 0, none⟩) (outs.length + 1) cl) ∧ Below w.heap.size w (wl.alloc (.cells #[.int .i64 v] 3))) := ⟨by rw [Below.heap_alloc _ _ _ (lt_of_block qb)]; exact qb, World.ownsRow.alloc ql _, qa, qw.alloc qw.size _⟩
            clear qb qk ql qa qw HX
            go_wp2_with (at_builtin; refine wpList_append_lies _ rfl _ _ 22 rfl w.heap.size 3 j0 (.int .i64 0) 1 8 Tryz.underlying22 hj hy0 hy1 hy2 rfl (by decide) _ _ _ rfl own2 ⟨_, 0, none⟩ 1 1 [intV v] rfl rfl ?c1 ?c2 (by decide) ?c3 ?c4 ?c5 _ rfl ?_)
            case c1 => exact news_far _ #[intV v] 3 (by have := heap_alloc_new wl (.cells #[.int .i64 v] 3); simpa [intV] using this) rfl
            case c2 => intro u hu; simp at hu; subst hu; rfl
            case c3 => have := unhide HKN; unfold maxLen; omega
            case c4 => have := unhide HKN; omega
            case c5 => simp at qs ⊢; omega
            · intro g cp w3 hown' hgrow hgor hglt
              have hblk3 : w3.heap[w.heap.size]? = some (.cells #[.slice a1 toks.length p1, .slice (some ⟨g2, 0, none⟩) names.length p2, .slice a3 n3 p3] 124 (0, 0)) := (KeepT.grown own2 hgrow (show 3 ≠ 124 by decide) _ _ (unhide HX2).1).trans (unhide HX2).1
              have c2' : w3.cell? ⟨w.heap.size, 2, none⟩ = some (.slice a3 n3 p3) := by rw [cellsOf hblk3]; rfl
              have f2' : w3.frozen? ⟨w.heap.size, 2, none⟩ = false := freeOf hblk3 2
              have HR : Hid ((w3.setCell ⟨w.heap.size, 2, none⟩ (.slice (some ⟨g, 0, none⟩) (known.length + 1) cp)).heap[w.heap.size]? = some (.cells #[.slice a1 toks.length p1, .slice (some ⟨g2, 0, none⟩) names.length p2, .slice (some ⟨g, 0, none⟩) (known.length + 1) cp] 124 (0, 0)) ∧ IntsOwn w.heap.size (w3.setCell ⟨w.heap.size, 2, none⟩ (.slice (some ⟨g, 0, none⟩) (known.length + 1) cp)) (.slice (some ⟨g, 0, none⟩) (known.length + 1) cp) (known ++ [v]) ∧ IntsOwn w.heap.size (w3.setCell ⟨w.heap.size, 2, none⟩ (.slice (some ⟨g, 0, none⟩) (known.length + 1) cp)) (.slice (some ⟨gl, 0, none⟩) (outs.length + 1) cl) (outs ++ [v]) ∧ Apart2 (.slice (some ⟨g, 0, none⟩) (known.length + 1) cp) (.slice (some ⟨gl, 0, none⟩) (outs.length + 1) cl) ∧ Below w.heap.size w (w3.setCell ⟨w.heap.size, 2, none⟩ (.slice (some ⟨g, 0, none⟩) (known.length + 1) cp))) := by
                have hap : Apart2 (.slice (some ⟨g, 0, none⟩) (known.length + 1) cp) (.slice (some ⟨gl, 0, none⟩) (outs.length + 1) cl) := by
                  intro x hx
                  simp only [Value.ownBlock, Option.some.injEq] at hx
                  subst hx
                  intro hl2
                  rcases hgor with h1 | h1
                  · exact (unhide HX2).2.2.1 _ h1 hl2
                  · have hlt2 := own_lt2 (unhide HX2).2.1 _ hl2
                    simp at hlt2 h1
                    omega
                refine ⟨by rw [heap_setCell_same w3 _ 2 _ _ _ hblk3]; rfl, ?_, own_keep (own_other (unhide HX2).2.1 hgrow ?_) (.setCell hblk3 (by decide) 2 _), hap, (((unhide HX2).2.2.2.grown hgrow (by simp at qs ⊢; omega) (own_base own2)).setCell (p := ⟨w.heap.size, 2, none⟩) (Nat.le_refl _) _)⟩
                · unfold IntsOwn
                  rw [List.map_append, List.length_append]
                  exact own_keep hown' (.setCell hblk3 (by decide) 2 _)
                · intro x hx hy
                  exact (unhide HX2).2.2.1 x hy hx
              clear hown' hgrow own2 HX2 hblk3 z2 f2 hgor hglt
              go_wp2
              go_roundw
              case rel => exact ⟨k + 1, _, _, _, _, _, _, known ++ [v], (outs ++ [v]), by omega, by have := unhide HKN; simp [this], by simp; omega, by go_num, rfl, HR, unhide HQ, unhide HSf⟩
              case measure => simp [intOf]; omega

        · have n1 : ((dk : Int) == 105) = false := by rw [beq_eq_false_iff_ne]; omega
          have n2 : ((dk : Int) == 111) = false := by rw [beq_eq_false_iff_ne]; omega
          obtain ⟨p, rfl, hso⟩ : ∃ p : Nat, dp = (p : Int) ∧ Pl.StepOk toks names known.length p dk := by
            rw [unhide HKN]
            rcases hok with h | h | h
            · exact absurd h.1 hk1
            · exact absurd h.1 hk2
            · exact h.2
          have hw0 : Pl.tellOf toks names home k ⟨dn, dk, dl, dh, p⟩ known = Pl.doneR toks names known p := by unfold Pl.tellOf; rw [if_neg hk1, if_neg hk2, Int.toNat_natCast]
          rw [hw0] at hstep hs3
          rw [if_neg (by simpa using hk2)] at hstep
          rw [Int.toNat_natCast] at hs2
          have hDo := hide (done_ref toks names known (.slice a1 toks.length p1) (.slice (some ⟨g2, 0, none⟩) names.length p2) (.slice a3 n3 p3) p (wr.alloc (.cells #[.string ⟨dn.toArray⟩, .int .u8 dk, .int .i64 dl, .int .i64 dh, .int .i64 p] 155)) ⟨(unhide HT).below (unhide H1).2.2.2.2, (unhide HN).below (unhide H1).2.2.2.2, ints_own (unhide H1).2.1⟩ dk hso hs2 hl hnl (unhide H6))
          generalize Pl.doneR toks names known p = v at *
          have HQ := hide hstep
          have HSf := hide hs3
          clear hw0 hok hs1 hs2 hstep hs3 hso hk1 hk2
          go_wp2_with fail
          refine (unhide hDo).mono ?_
          rintro e w2 ⟨rfl, hb2⟩
          have hs0 := lt_of_block (unhide H1).1
          have HX : Hid (w2.heap[w.heap.size]? = some (.cells #[.slice a1 toks.length p1, .slice (some ⟨g2, 0, none⟩) names.length p2, .slice a3 n3 p3] 124 (0, 0)) ∧ IntsOwn w.heap.size w2 (.slice a3 n3 p3) known ∧ IntsOwn w.heap.size w2 (.slice a4 n4 p4) outs ∧ Apart2 (.slice a3 n3 p3) (.slice a4 n4 p4) ∧ Below w.heap.size w w2) := ⟨(hb2.block _ hs0).trans (unhide H1).1, own_keep (unhide H1).2.1 (.of_below hb2), own_keep (unhide H1).2.2.1 (.of_below hb2), (unhide H1).2.2.2.1, (unhide H1).2.2.2.2.trans (hb2.mono (unhide H1).2.2.2.2.size)⟩
          clear hDo hb2 y0 y1 y2 hs0 H1
          obtain ⟨qb, qk, ql, qa, qw⟩ := unhide HX
          have z2 : w2.cell? ⟨w.heap.size, 2, none⟩ = some (.slice a3 n3 p3) := by rw [cellsOf qb]; rfl
          have f2 : w2.frozen? ⟨w.heap.size, 2, none⟩ = false := freeOf qb 2
          have qs := qw.size
          have own2 : IntsOwn w.heap.size (w2.alloc (.cells #[.int .i64 v] 3)) (.slice a3 n3 p3) known := World.ownsRow.alloc qk _
          have HX2 : Hid ((w2.alloc (.cells #[.int .i64 v] 3)).heap[w.heap.size]? = some (.cells #[.slice a1 toks.length p1, .slice (some ⟨g2, 0, none⟩) names.length p2, .slice a3 n3 p3] 124 (0, 0)) ∧ IntsOwn w.heap.size (w2.alloc (.cells #[.int .i64 v] 3)) (.slice a4 n4 p4) outs ∧ Apart2 (.slice a3 n3 p3) (.slice a4 n4 p4) ∧ Below w.heap.size w (w2.alloc (.cells #[.int .i64 v] 3))) := ⟨by rw [Below.heap_alloc _ _ _ (lt_of_block qb)]; exact qb, World.ownsRow.alloc ql _, qa, qw.alloc qw.size _⟩
          clear qb qk ql qa qw HX
          go_wp2_with (at_builtin; refine wpList_append_lies _ rfl _ _ 22 rfl w.heap.size 3 j0 (.int .i64 0) 1 8 Tryz.underlying22 hj hy0 hy1 hy2 rfl (by decide) _ _ _ rfl own2 ⟨_, 0, none⟩ 1 1 [intV v] rfl rfl ?c1 ?c2 (by decide) ?c3 ?c4 ?c5 _ rfl ?_)
          case c1 => exact news_far _ #[intV v] 3 (by have := heap_alloc_new w2 (.cells #[.int .i64 v] 3); simpa [intV] using this) rfl
          case c2 => intro u hu; simp at hu; subst hu; rfl
          case c3 => have := unhide HKN; unfold maxLen; omega
          case c4 => have := unhide HKN; omega
          case c5 => simp at qs ⊢; omega
          · intro g cp w3 hown' hgrow hgor hglt
            have hblk3 : w3.heap[w.heap.size]? = some (.cells #[.slice a1 toks.length p1, .slice (some ⟨g2, 0, none⟩) names.length p2, .slice a3 n3 p3] 124 (0, 0)) := (KeepT.grown own2 hgrow (show 3 ≠ 124 by decide) _ _ (unhide HX2).1).trans (unhide HX2).1
            have c2' : w3.cell? ⟨w.heap.size, 2, none⟩ = some (.slice a3 n3 p3) := by rw [cellsOf hblk3]; rfl
            have f2' : w3.frozen? ⟨w.heap.size, 2, none⟩ = false := freeOf hblk3 2
            have HR : Hid ((w3.setCell ⟨w.heap.size, 2, none⟩ (.slice (some ⟨g, 0, none⟩) (known.length + 1) cp)).heap[w.heap.size]? = some (.cells #[.slice a1 toks.length p1, .slice (some ⟨g2, 0, none⟩) names.length p2, .slice (some ⟨g, 0, none⟩) (known.length + 1) cp] 124 (0, 0)) ∧ IntsOwn w.heap.size (w3.setCell ⟨w.heap.size, 2, none⟩ (.slice (some ⟨g, 0, none⟩) (known.length + 1) cp)) (.slice (some ⟨g, 0, none⟩) (known.length + 1) cp) (known ++ [v]) ∧ IntsOwn w.heap.size (w3.setCell ⟨w.heap.size, 2, none⟩ (.slice (some ⟨g, 0, none⟩) (known.length + 1) cp)) (.slice a4 n4 p4) outs ∧ Apart2 (.slice (some ⟨g, 0, none⟩) (known.length + 1) cp) (.slice a4 n4 p4) ∧ Below w.heap.size w (w3.setCell ⟨w.heap.size, 2, none⟩ (.slice (some ⟨g, 0, none⟩) (known.length + 1) cp))) := by
              have hap : Apart2 (.slice (some ⟨g, 0, none⟩) (known.length + 1) cp) (.slice a4 n4 p4) := by
                intro x hx
                simp only [Value.ownBlock, Option.some.injEq] at hx
                subst hx
                intro hl2
                rcases hgor with h1 | h1
                · exact (unhide HX2).2.2.1 _ h1 hl2
                · have hlt2 := own_lt2 (unhide HX2).2.1 _ hl2
                  simp at hlt2 h1
                  omega
              refine ⟨by rw [heap_setCell_same w3 _ 2 _ _ _ hblk3]; rfl, ?_, own_keep (own_other (unhide HX2).2.1 hgrow ?_) (.setCell hblk3 (by decide) 2 _), hap, (((unhide HX2).2.2.2.grown hgrow (by simp at qs ⊢; omega) (own_base own2)).setCell (p := ⟨w.heap.size, 2, none⟩) (Nat.le_refl _) _)⟩
              · unfold IntsOwn
                rw [List.map_append, List.length_append]
                exact own_keep hown' (.setCell hblk3 (by decide) 2 _)
              · intro x hx hy
                exact (unhide HX2).2.2.1 x hy hx
            clear hown' hgrow own2 HX2 hblk3 z2 f2 hgor hglt
            go_wp2
            go_roundw
            case rel => exact ⟨k + 1, _, _, _, _, _, _, known ++ [v], outs, by omega, by have := unhide HKN; simp [this], by omega, by go_num, rfl, HR, unhide HQ, unhide HSf⟩
            case measure => simp [intOf]; omega

    · rw [List.drop_eq_nil_of_le (by omega), Pl.tellsFrom] at hstep
      obtain ⟨_, _, ql, _, qw⟩ := unhide hh
      have HB := hide qw
      rw [hstep] at ql
      have HL := hide ql
      clear hh hstep ql qw
      go_wp2
      go_ret
      exact ⟨_, rfl, unhide HL, unhide HB⟩
end Go.Proofs.YtfaljekgpnbmiaaGreat
