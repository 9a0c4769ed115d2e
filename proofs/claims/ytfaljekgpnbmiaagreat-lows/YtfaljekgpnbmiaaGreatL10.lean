/- Joined: Plan5. -/
import Derived.Test.YtfaljekgpnbmiaaGreatL09
/-
  Where a plan lies, to be read; the contract of the plan's IsBig.
-/
namespace Go.Proofs.YtfaljekgpnbmiaaGreat
open Go.RowKit

/-- A slice of nodes that reads as l, their bands in the slices bvs. -/
def NodesAt (w : World) (v : Value) (l : List Pl.NodeM) : Prop :=
  ∃ ad cap, v = .slice ad l.length cap ∧ ∀ i, (hi : i < l.length) → ∃ g bv, ad = some ⟨g, 0, none⟩ ∧
    w.cell? ⟨g, i * 6, none⟩ = some (.int .i64 l[i].op) ∧ w.cell? ⟨g, i * 6 + 1, none⟩ = some (.int .i64 l[i].a) ∧ w.cell? ⟨g, i * 6 + 2, none⟩ = some (.int .i64 l[i].b) ∧
    w.cell? ⟨g, i * 6 + 3, none⟩ = some (.int .i64 l[i].c) ∧ w.cell? ⟨g, i * 6 + 4, none⟩ = some (.int .i64 l[i].k) ∧ w.cell? ⟨g, i * 6 + 5, none⟩ = some bv ∧ PairsAt w bv l[i].bands
structure PlanAt (w : World) (b : Nat) (ins : List (Int × Int)) (nodes : List Pl.NodeM) (outs : List Int) : Prop where
  ins : ∃ v, w.cell? ⟨b, 0, none⟩ = some v ∧ PairsAt w v ins
  nodes : ∃ v, w.cell? ⟨b, 1, none⟩ = some v ∧ NodesAt w v nodes
  outs : ∃ v, w.cell? ⟨b, 2, none⟩ = some v ∧ IntsAt w v outs
theorem NodesAt.below {w w' : World} {v : Value} {l : List Pl.NodeM} (h : NodesAt w v l) (hb : Below w.heap.size w w') : NodesAt w' v l := by
  obtain ⟨ad, cap, hv, hc⟩ := h
  refine ⟨ad, cap, hv, fun i hi => ?_⟩
  obtain ⟨g, bv, hg, h0, h1, h2, h3, h4, h5, hp⟩ := hc i hi
  exact ⟨g, bv, hg, cell_kept hb h0, cell_kept hb h1, cell_kept hb h2, cell_kept hb h3, cell_kept hb h4, cell_kept hb h5, hp.below hb⟩
theorem PlanAt.below {w w' : World} {b : Nat} {ins : List (Int × Int)} {nodes : List Pl.NodeM} {outs : List Int} (h : PlanAt w b ins nodes outs) (hb : Below w.heap.size w w') : PlanAt w' b ins nodes outs := by
  obtain ⟨⟨vi, h1, h2⟩, ⟨vn, h3, h4⟩, ⟨vo, h5, h6⟩⟩ := h
  exact ⟨⟨vi, cell_kept hb h1, h2.below hb⟩, ⟨vn, cell_kept hb h3, h4.below hb⟩, ⟨vo, cell_kept hb h5, h6.below hb⟩⟩
theorem nodeCells_get (l : List Pl.NodeM) (bvs : List Value) (hl : bvs.length = l.length) (i : Nat) (hi : i < l.length) (j : Nat) (hj : j < 6) :
    ((List.zipWith nodeCells l bvs).flatten)[i * 6 + j]? = (nodeCells l[i] (bvs[i]'(by omega)))[j]? := by
  induction l generalizing bvs i with
  | nil => simp at hi
  | cons n l ih =>
    cases bvs with
    | nil => simp at hl
    | cons v bvs =>
      rw [List.zipWith_cons_cons, List.flatten_cons]
      cases i with
      | zero =>
        rw [Nat.zero_mul, Nat.zero_add, List.getElem?_append_left (by simpa [nodeCells] using hj)]
        rfl
      | succ i =>
        rw [List.getElem?_append_right (by simp [nodeCells]; omega)]
        have e : (i + 1) * 6 + j - (nodeCells n v).length = i * 6 + j := by simp [nodeCells]; omega
        rw [e, ih bvs (by simpa using hl) i (by simpa using hi)]
        rfl
theorem nodes_own {B : Nat} {w : World} {v : Value} {l : List Pl.NodeM} {bvs : List Value} (h : NodesOwn B w v l bvs) : NodesAt w v l := by
  have ho := h.own
  rcases ho.2 with ⟨rfl, hn⟩ | ⟨g, cap, cur, rfl, hb, hgg, hle, hm, hcs, htk⟩
  · exact ⟨none, 0, by rw [hn], fun i hi => by omega⟩
  · have hl := h.len
    refine ⟨some ⟨g, 0, none⟩, cap, rfl, fun i hi => ⟨g, bvs[i]'(by omega), rfl, ?_, ?_, ?_, ?_, ?_, ?_, pairs_own (h.bands i hi (by omega))⟩⟩
    · have := World.ownsRow.cellAt ho (i * 6 + 0) (by omega); rw [nodeCells_get l bvs hl i hi 0 (by omega)] at this; exact this
    · have := World.ownsRow.cellAt ho (i * 6 + 1) (by omega); rw [nodeCells_get l bvs hl i hi 1 (by omega)] at this; exact this
    · have := World.ownsRow.cellAt ho (i * 6 + 2) (by omega); rw [nodeCells_get l bvs hl i hi 2 (by omega)] at this; exact this
    · have := World.ownsRow.cellAt ho (i * 6 + 3) (by omega); rw [nodeCells_get l bvs hl i hi 3 (by omega)] at this; exact this
    · have := World.ownsRow.cellAt ho (i * 6 + 4) (by omega); rw [nodeCells_get l bvs hl i hi 4 (by omega)] at this; exact this
    · have := World.ownsRow.cellAt ho (i * 6 + 5) (by omega); rw [nodeCells_get l bvs hl i hi 5 (by omega)] at this; exact this
theorem RdAt.plan {B : Nat} {w : World} {b : Nat} {r : Pl.RdM} {vi vn vo vt ve : Value} {bvs : List Value} {vx vy : Value} {lx ly : List (List UInt8)} (h : RdAt B w b r vi vn vo vt ve bvs vx vy lx ly) : PlanAt w b r.ins r.nodes r.outs :=
  ⟨⟨vi, by rw [cellsOf h.blk]; rfl, pairs_own h.ins⟩, ⟨vn, by rw [cellsOf h.blk]; rfl, nodes_own h.nodes⟩, ⟨vo, by rw [cellsOf h.blk]; rfl, ints_own h.outs⟩⟩
theorem Rd.plan {B : Nat} {w : World} {b : Nat} {r : Pl.RdM} (h : Rd B w b r) : PlanAt w b r.ins r.nodes r.outs := by
  obtain ⟨vi, vn, vo, vt, ve, bvs, vx, vy, lx, ly, h, hnm⟩ := h
  exact h.plan

/-- The numbers that are known so far, and zeros behind them. -/
def padded (l : List Int) (n : Nat) : List Int := l ++ List.replicate (n - l.length) 0
theorem padded_len (l : List Int) (n : Nat) (h : l.length ≤ n) : (padded l n).length = n := by simp [padded]; omega
theorem padded_set (l : List Int) (n : Nat) (h : l.length < n) (x : Int) : (padded l n).set l.length x = padded (l ++ [x]) n := by
  unfold padded
  rw [List.set_append_right _ _ (by omega), Nat.sub_self, show n - l.length = (n - (l ++ [x]).length) + 1 by simp; omega, List.replicate_succ, List.set_cons_zero]
  simp
theorem padded_map_set (l : List Int) (n : Nat) (h : l.length < n) (x : Int) : ((padded l n).map intV).set l.length (intV x) = (padded (l ++ [x]) n).map intV := by
  rw [← List.map_set, padded_set l n h x]
theorem made_ints (n : Nat) : (madeCells #[Value.int .i64 0] n).toList = (padded [] n).map intV := by
  rw [toList_madeCells_one]
  simp [padded, intV]
theorem IntsOwn.made {B : Nat} {w : World} {g n : Nat} (h : w.ownsRow B 3 1 (.slice (some ⟨g, 0, none⟩) n n) n (madeCells #[Value.int .i64 0] n).toList) : IntsOwn B w (.slice (some ⟨g, 0, none⟩) n n) (padded [] n) := by
  unfold IntsOwn
  rw [made_ints] at h
  rw [padded_len _ _ (by simp)]
  exact h
theorem IntsOwn.put {B : Nat} {w : World} {g n : Nat} {l : List Int} (h : IntsOwn B w (.slice (some ⟨g, 0, none⟩) n n) (padded l n)) (hl : l.length < n) (x : Int) : IntsOwn B (w.setCell ⟨g, l.length, none⟩ (.int .i64 x)) (.slice (some ⟨g, 0, none⟩) n n) (padded (l ++ [x]) n) := by
  unfold IntsOwn at *
  rw [padded_len _ _ (by omega)] at h
  rw [padded_len _ _ (by simp; omega), ← padded_map_set l n hl x]
  exact (World.ownsRow.stored h l.length (.int .i64 x)).1
theorem big_step (ins : List (Int × Int)) (nodes : List Pl.NodeM) (len k : Nat) (bs : List Int) (h : k < nodes.length) (x : Int) (hx : Pl.nodeBoundW ins nodes[k] (padded bs len) = x) :
    Pl.bigFrom ins len (nodes.drop k) bs = if 1000000000000000 < x then true else Pl.bigFrom ins len (nodes.drop (k + 1)) (bs ++ [x]) := by
  rw [List.drop_eq_getElem_cons h, Pl.bigFrom]
  unfold padded at hx
  rw [hx]
theorem big_end (ins : List (Int × Int)) (nodes : List Pl.NodeM) (len k : Nat) (bs : List Int) (h : nodes.length ≤ k) : Pl.bigFrom ins len (nodes.drop k) bs = false := by
  rw [List.drop_eq_nil_of_le h]; rfl

set_option maxRecDepth 100000 in
set_option maxHeartbeats 1000000 in
theorem IsBig_any (ins : List (Int × Int)) (nodes : List Pl.NodeM) (outs : List Int) (b : Nat) (w : World) (h : PlanAt w b ins nodes outs) (hn : nodes.length ≤ 1000) (hbl : ∀ n ∈ nodes, n.bands.length ≤ 1000) :
    Calls Tryz.prog 134 #[.pointer (some ⟨b, 0, none⟩)] w fun e w' => e = .returned (.bool (Pl.isBigW ins nodes)) ∧ Below w.heap.size w w' := by
  obtain ⟨i0, hi, hz0, hz1, hz2⟩ := info_parts Tryz.infoInt
  obtain ⟨⟨vi, hvi, hpi⟩, ⟨vn, hvn, hpn⟩, _⟩ := h
  have hall : Hid (w.cell? ⟨b, 0, none⟩ = some vi ∧ PairsAt w vi ins ∧ NodesAt w vn nodes) := ⟨hvi, hpi, hpn⟩
  obtain ⟨ad, cap, rfl, hc⟩ := hpn
  clear hpi hc hvi
  go_enter Tryz.func134, Tryz.ntmps134
  go_wp2_with (at_make; refine wpList_make_full _ rfl _ _ 22 rfl w.heap.size 3 i0 (.int .i64 0) 1 Tryz.underlying22 hi hz0 hz1 .i64 .i64 nodes.length nodes.length nodes.length rfl rfl rfl rfl ?c1 ?c2 ?c3 ?_)
  case c1 => rw [hz2]; omega
  case c2 => unfold maxLen; omega
  case c3 => omega
  · intro w1 hown hgrow
    have h1 : Hid (IntsOwn w.heap.size w1 (.slice (some ⟨w.heap.size, 0, none⟩) nodes.length nodes.length) (padded [] nodes.length) ∧ Below w.heap.size w w1) := ⟨IntsOwn.made hown, (Below.refl _ _).grown hgrow (Nat.le_refl _) (by intro k hk; cases hk)⟩
    have hvn1 : w1.cell? ⟨b, 1, none⟩ = some (.slice ad nodes.length cap) := cell_kept h1.out.2 hvn
    have HV : Hid (w.cell? ⟨b, 1, none⟩ = some (.slice ad nodes.length cap)) := hvn
    clear hown hgrow hvn
    go_wp2
    go_loopw [4] (fun i wr => ∃ (k : Nat) (bs : List Int), k ≤ nodes.length ∧ bs.length = k ∧ i = .int .i64 k ∧ Hid (IntsOwn w.heap.size wr (.slice (some ⟨w.heap.size, 0, none⟩) nodes.length nodes.length) (padded bs nodes.length) ∧ Below w.heap.size w wr ∧ Pl.bigFrom ins nodes.length (nodes.drop k) bs = Pl.isBigW ins nodes)) (fun i _ => nodes.length - (intOf i).toNat)
    case atStart => exact ⟨0, [], by omega, rfl, rfl, h1.out.1, h1.out.2, rfl⟩
    case round =>
      obtain ⟨k, bs, hk, hbs, rfl, hh⟩ := hrel
      obtain ⟨hown, hbel, hbig⟩ := hh.out
      have cvn : wr.cell? ⟨b, 1, none⟩ = some (.slice ad nodes.length cap) := (hbel.cell (World.block_lt_of_cell? w _ HV.out)).trans HV.out
      by_cases hlt : k < nodes.length
      · obtain ⟨cvi, hpi, hpn⟩ := hall.out
        have cvi' := cell_kept hbel cvi
        have hpi' := hpi.below hbel
        obtain ⟨_, _, he, hcn⟩ := hpn.below hbel
        obtain ⟨rfl, rfl⟩ : ad = _ ∧ cap = _ := by simpa using he
        obtain ⟨g, bv, rfl, k0, k1, k2, k3, k4, k5, hpb⟩ := hcn k hlt
        have hlen := padded_len bs nodes.length (by omega)
        have hnb := nodeBound_any ins nodes[k] bv (padded bs nodes.length) b vi _ wr cvi' hpi' hpb (ints_own hown) (hbl _ (List.getElem_mem hlt))
        have hbs' := big_step ins nodes nodes.length k bs hlt _ rfl
        obtain ⟨adv, yl, cpv, hbv⟩ : ∃ adv yl cpv, bv = .slice adv yl cpv := by obtain ⟨x, y, e, _⟩ := hpb; exact ⟨_, _, _, e⟩
        clear hpb
        generalize Pl.nodeBoundW ins nodes[k] (padded bs nodes.length) = x at *
        unfold nodeV at hnb
        have hnb' := hide hnb
        have HS : Hid (Pl.isBigW ins nodes = if 1000000000000000 < x then true else Pl.bigFrom ins nodes.length (nodes.drop (k + 1)) (bs ++ [x])) := hbig.symm.trans hbs'
        have HO : Hid (IntsOwn w.heap.size wr (.slice (some ⟨w.heap.size, 0, none⟩) nodes.length nodes.length) (padded bs nodes.length) ∧ Below w.heap.size w wr ∧ bs.length = k) := ⟨hown, hbel, hbs⟩
        generalize nodes[k].op = y0 at *
        generalize nodes[k].a = y1 at *
        generalize nodes[k].b = y2 at *
        generalize nodes[k].c = y3 at *
        generalize nodes[k].k = y4 at *
        subst hbv
        clear hnb hown hbel hbig hbs' hcn hpi hpn hpi' cvi hh hbs hlen h1 hall he cvi'
        go_wp2_with fail
        refine (unhide hnb').mono ?_
        rintro e w2 ⟨rfl, hb2⟩
        by_cases hx : 1000000000000000 < x
        · have HH : Hid (Below w.heap.size w w2 ∧ Pl.isBigW ins nodes = true) := ⟨HO.out.2.1.trans (hb2.mono HO.out.2.1.size), by rw [HS.out, if_pos hx]⟩
          clear hb2 hnb' HO HS k0 k1 k2 k3 k4 k5
          go_wp2_with fail
          go_ret
          exact ⟨ret_bool HH.out.2.symm, HH.out.1⟩
        · have hown2 : IntsOwn w.heap.size w2 (.slice (some ⟨w.heap.size, 0, none⟩) nodes.length nodes.length) (padded bs nodes.length) := own_keep HO.out.1 (.of_below hb2)
          have hput := IntsOwn.put hown2 (by rw [HO.out.2.2]; exact hlt) x
          have hbl2 : Below w.heap.size w (w2.setCell ⟨w.heap.size, k, none⟩ (.int .i64 x)) := (HO.out.2.1.trans (hb2.mono HO.out.2.1.size)).setCell (p := ⟨w.heap.size, k, none⟩) (Nat.le_refl _) _
          have hfr : w2.frozen? ⟨w.heap.size, k, none⟩ = false := World.ownsRow.frozenAt (show w2.ownsRow w.heap.size 3 1 (.slice (some ⟨w.heap.size, 0, none⟩) nodes.length nodes.length) nodes.length ((padded bs nodes.length).map intV) from by have := hown2; unfold IntsOwn at this; rw [padded_len bs nodes.length (by rw [HO.out.2.2]; omega)] at this; exact this) k
          have hcl : ∃ y, w2.cell? ⟨w.heap.size, k, none⟩ = some (.int .i64 y) := by
            obtain ⟨_, _, he2, hc2⟩ := ints_own hown2
            have hl2 := padded_len bs nodes.length (by rw [HO.out.2.2]; omega)
            obtain ⟨b2, o2, hb3, hc3⟩ := hc2 k (by omega)
            have : b2 = w.heap.size ∧ o2 = 0 := by
              simp only [Value.slice.injEq] at he2
              rw [← he2.1] at hb3
              simpa using hb3.symm
            obtain ⟨rfl, rfl⟩ := this
            rw [Nat.zero_add] at hc3
            exact ⟨_, hc3⟩
          obtain ⟨yc, hcl⟩ := hcl
          rw [HO.out.2.2] at hput
          have HH : Hid (IntsOwn w.heap.size (w2.setCell ⟨w.heap.size, k, none⟩ (.int .i64 x)) (.slice (some ⟨w.heap.size, 0, none⟩) nodes.length nodes.length) (padded (bs ++ [x]) nodes.length) ∧ Below w.heap.size w (w2.setCell ⟨w.heap.size, k, none⟩ (.int .i64 x)) ∧ Pl.bigFrom ins nodes.length (nodes.drop (k + 1)) (bs ++ [x]) = Pl.isBigW ins nodes) := ⟨hput, hbl2, by rw [HS.out, if_neg hx]⟩
          have HL : Hid ((bs ++ [x]).length = k + 1) := by rw [List.length_append, HO.out.2.2]; rfl
          clear hb2 hnb' HO HS k0 k1 k2 k3 k4 k5 hown2 hput hbl2
          go_wp2_with fail
          go_roundw
          case rel => exact ⟨k + 1, bs ++ [x], by omega, HL.out, by go_num, HH⟩
          case measure => simp [intOf]; omega
      · have HH : Hid (Below w.heap.size w wr ∧ Pl.isBigW ins nodes = false) := ⟨hbel, by rw [← hbig]; exact big_end _ _ _ _ _ (by omega)⟩
        clear hown hbel hbig hh
        go_wp2_with fail
        go_ret
        exact ⟨ret_bool HH.out.2.symm, HH.out.1⟩
end Go.Proofs.YtfaljekgpnbmiaaGreat
