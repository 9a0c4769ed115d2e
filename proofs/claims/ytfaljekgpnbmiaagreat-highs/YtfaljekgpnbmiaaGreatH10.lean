/- Joined: Plan5 Plan6. -/
import Derived.Test.YtfaljekgpnbmiaaGreatH09
/-
  Where a plan lies, to be read; the contract of the plan's IsBig.
-/
namespace Go.Proofs.YtfaljekgpnbmiaaGreat
open Go.RowKit

/-- A slice of nodes that reads as l, their bands in the slices bvs. -/
def NodesAt (w : World) (v : Value) (l : List Pl.NodeM) : Prop :=
  ∃ ad cap, v = .slice ad l.length cap ∧ ∀ i, (hi : i < l.length) → ∃ g bv, ad = some ⟨g, 0, none⟩ ∧
    w.cell? ⟨g, i * 6, none⟩ = some (.int .i64 l[i].op) ∧ w.cell? ⟨g, i * 6 + 1, none⟩ = some (.int .i64 l[i].a) ∧ w.cell? ⟨g, i * 6 + 2, none⟩ = some (.int .i64 l[i].b) ∧
    w.cell? ⟨g, i * 6 + 3, none⟩ = some (.int .i64 l[i].c) ∧ w.cell? ⟨g, i * 6 + 4, none⟩ = some (.int .i64 l[i].k) ∧ w.cell? ⟨g, i * 6 + 5, none⟩ = some bv ∧ PairsAt w bv l[i].bands
structure PlanAt (w : World) (b : Nat) (ins : List (Int × Int)) (nodes : List Pl.NodeM) (outs : List Int) : Prop where
  ins : ∃ v, w.cell? ⟨b, 0, none⟩ = some v ∧ PairsAt w v ins
  nodes : ∃ v, w.cell? ⟨b, 1, none⟩ = some v ∧ NodesAt w v nodes
  outs : ∃ v, w.cell? ⟨b, 2, none⟩ = some v ∧ IntsAt w v outs
theorem NodesAt.below {w w' : World} {v : Value} {l : List Pl.NodeM} (h : NodesAt w v l) (hb : Below w.heap.size w w') : NodesAt w' v l := by
  obtain ⟨ad, cap, hv, hc⟩ := h
  refine ⟨ad, cap, hv, fun i hi => ?_⟩
  obtain ⟨g, bv, hg, h0, h1, h2, h3, h4, h5, hp⟩ := hc i hi
  exact ⟨g, bv, hg, cell_kept hb h0, cell_kept hb h1, cell_kept hb h2, cell_kept hb h3, cell_kept hb h4, cell_kept hb h5, hp.below hb⟩
theorem PlanAt.below {w w' : World} {b : Nat} {ins : List (Int × Int)} {nodes : List Pl.NodeM} {outs : List Int} (h : PlanAt w b ins nodes outs) (hb : Below w.heap.size w w') : PlanAt w' b ins nodes outs := by
  obtain ⟨⟨vi, h1, h2⟩, ⟨vn, h3, h4⟩, ⟨vo, h5, h6⟩⟩ := h
  exact ⟨⟨vi, cell_kept hb h1, h2.below hb⟩, ⟨vn, cell_kept hb h3, h4.below hb⟩, ⟨vo, cell_kept hb h5, h6.below hb⟩⟩
theorem nodeCells_get (l : List Pl.NodeM) (bvs : List Value) (hl : bvs.length = l.length) (i : Nat) (hi : i < l.length) (j : Nat) (hj : j < 6) :
    ((List.zipWith nodeCells l bvs).flatten)[i * 6 + j]? = (nodeCells l[i] (bvs[i]'(by omega)))[j]? := by
  induction l generalizing bvs i with
  | nil => simp at hi
  | cons n l ih =>
    cases bvs with
    | nil => simp at hl
    | cons v bvs =>
      rw [List.zipWith_cons_cons, List.flatten_cons]
      cases i with
      | zero =>
        rw [Nat.zero_mul, Nat.zero_add, List.getElem?_append_left (by simpa [nodeCells] using hj)]
        rfl
      | succ i =>
        rw [List.getElem?_append_right (by simp [nodeCells]; omega)]
        have e : (i + 1) * 6 + j - (nodeCells n v).length = i * 6 + j := by simp [nodeCells]; omega
        rw [e, ih bvs (by simpa using hl) i (by simpa using hi)]
        rfl
theorem nodes_own {B : Nat} {w : World} {v : Value} {l : List Pl.NodeM} {bvs : List Value} (h : NodesOwn B w v l bvs) : NodesAt w v l := by
  have ho := h.own
  rcases ho.2 with ⟨rfl, hn⟩ | ⟨g, cap, cur, rfl, hb, hgg, hle, hm, hcs, htk⟩
  · exact ⟨none, 0, by rw [hn], fun i hi => by omega⟩
  · have hl := h.len
    refine ⟨some ⟨g, 0, none⟩, cap, rfl, fun i hi => ⟨g, bvs[i]'(by omega), rfl, ?_, ?_, ?_, ?_, ?_, ?_, pairs_own (h.bands i hi (by omega))⟩⟩
    · have := World.ownsRow.cellAt ho (i * 6 + 0) (by omega); rw [nodeCells_get l bvs hl i hi 0 (by omega)] at this; exact this
    · have := World.ownsRow.cellAt ho (i * 6 + 1) (by omega); rw [nodeCells_get l bvs hl i hi 1 (by omega)] at this; exact this
    · have := World.ownsRow.cellAt ho (i * 6 + 2) (by omega); rw [nodeCells_get l bvs hl i hi 2 (by omega)] at this; exact this
    · have := World.ownsRow.cellAt ho (i * 6 + 3) (by omega); rw [nodeCells_get l bvs hl i hi 3 (by omega)] at this; exact this
    · have := World.ownsRow.cellAt ho (i * 6 + 4) (by omega); rw [nodeCells_get l bvs hl i hi 4 (by omega)] at this; exact this
    · have := World.ownsRow.cellAt ho (i * 6 + 5) (by omega); rw [nodeCells_get l bvs hl i hi 5 (by omega)] at this; exact this
theorem RdAt.plan {B : Nat} {w : World} {b : Nat} {r : Pl.RdM} {vi vn vo vt ve : Value} {bvs : List Value} {vx vy : Value} {lx ly : List (List UInt8)} (h : RdAt B w b r vi vn vo vt ve bvs vx vy lx ly) : PlanAt w b r.ins r.nodes r.outs :=
  ⟨⟨vi, by rw [cellsOf h.blk]; rfl, pairs_own h.ins⟩, ⟨vn, by rw [cellsOf h.blk]; rfl, nodes_own h.nodes⟩, ⟨vo, by rw [cellsOf h.blk]; rfl, ints_own h.outs⟩⟩
theorem Rd.plan {B : Nat} {w : World} {b : Nat} {r : Pl.RdM} (h : Rd B w b r) : PlanAt w b r.ins r.nodes r.outs := by
  obtain ⟨vi, vn, vo, vt, ve, bvs, vx, vy, lx, ly, h, hnm⟩ := h
  exact h.plan

/-- The numbers that are known so far, and zeros behind them. -/
def padded (l : List Int) (n : Nat) : List Int := l ++ List.replicate (n - l.length) 0
theorem padded_len (l : List Int) (n : Nat) (h : l.length ≤ n) : (padded l n).length = n := by simp [padded]; omega
theorem padded_set (l : List Int) (n : Nat) (h : l.length < n) (x : Int) : (padded l n).set l.length x = padded (l ++ [x]) n := by
  unfold padded
  rw [List.set_append_right _ _ (by omega), Nat.sub_self, show n - l.length = (n - (l ++ [x]).length) + 1 by simp; omega, List.replicate_succ, List.set_cons_zero]
  simp
theorem padded_map_set (l : List Int) (n : Nat) (h : l.length < n) (x : Int) : ((padded l n).map intV).set l.length (intV x) = (padded (l ++ [x]) n).map intV := by
  rw [← List.map_set, padded_set l n h x]
theorem made_ints (n : Nat) : (madeCells #[Value.int .i64 0] n).toList = (padded [] n).map intV := by
  rw [toList_madeCells_one]
  simp [padded, intV]
theorem IntsOwn.made {B : Nat} {w : World} {g n : Nat} (h : w.ownsRow B 3 1 (.slice (some ⟨g, 0, none⟩) n n) n (madeCells #[Value.int .i64 0] n).toList) : IntsOwn B w (.slice (some ⟨g, 0, none⟩) n n) (padded [] n) := by
  unfold IntsOwn
  rw [made_ints] at h
  rw [padded_len _ _ (by simp)]
  exact h
theorem IntsOwn.put {B : Nat} {w : World} {g n : Nat} {l : List Int} (h : IntsOwn B w (.slice (some ⟨g, 0, none⟩) n n) (padded l n)) (hl : l.length < n) (x : Int) : IntsOwn B (w.setCell ⟨g, l.length, none⟩ (.int .i64 x)) (.slice (some ⟨g, 0, none⟩) n n) (padded (l ++ [x]) n) := by
  unfold IntsOwn at *
  rw [padded_len _ _ (by omega)] at h
  rw [padded_len _ _ (by simp; omega), ← padded_map_set l n hl x]
  exact (World.ownsRow.stored h l.length (.int .i64 x)).1
theorem big_step (ins : List (Int × Int)) (nodes : List Pl.NodeM) (len k : Nat) (bs : List Int) (h : k < nodes.length) (x : Int) (hx : Pl.nodeBoundW ins nodes[k] (padded bs len) = x) :
    Pl.bigFrom ins len (nodes.drop k) bs = if 1000000000000000 < x then true else Pl.bigFrom ins len (nodes.drop (k + 1)) (bs ++ [x]) := by
  rw [List.drop_eq_getElem_cons h, Pl.bigFrom]
  unfold padded at hx
  rw [hx]
theorem big_end (ins : List (Int × Int)) (nodes : List Pl.NodeM) (len k : Nat) (bs : List Int) (h : nodes.length ≤ k) : Pl.bigFrom ins len (nodes.drop k) bs = false := by
  rw [List.drop_eq_nil_of_le h]; rfl

set_option maxRecDepth 100000 in
set_option maxHeartbeats 1000000 in
theorem IsBig_any (ins : List (Int × Int)) (nodes : List Pl.NodeM) (outs : List Int) (b : Nat) (w : World) (h : PlanAt w b ins nodes outs) (hn : nodes.length ≤ 1000) (hbl : ∀ n ∈ nodes, n.bands.length ≤ 1000) :
    Calls Tryz.prog 134 #[.pointer (some ⟨b, 0, none⟩)] w fun e w' => e = .returned (.bool (Pl.isBigW ins nodes)) ∧ Below w.heap.size w w' := by
  obtain ⟨i0, hi, hz0, hz1, hz2⟩ := info_parts Tryz.infoInt
  obtain ⟨⟨vi, hvi, hpi⟩, ⟨vn, hvn, hpn⟩, _⟩ := h
  have hall : Hid (w.cell? ⟨b, 0, none⟩ = some vi ∧ PairsAt w vi ins ∧ NodesAt w vn nodes) := ⟨hvi, hpi, hpn⟩
  obtain ⟨ad, cap, rfl, hc⟩ := hpn
  clear hpi hc hvi
  go_enter Tryz.func134, Tryz.ntmps134
  go_wp2_with (at_make; refine wpList_make_full _ rfl _ _ 22 rfl w.heap.size 3 i0 (.int .i64 0) 1 Tryz.underlying22 hi hz0 hz1 .i64 .i64 nodes.length nodes.length nodes.length rfl rfl rfl rfl ?c1 ?c2 ?c3 ?_)
  case c1 => rw [hz2]; omega
  case c2 => unfold maxLen; omega
  case c3 => omega
  · intro w1 hown hgrow
    have h1 : Hid (IntsOwn w.heap.size w1 (.slice (some ⟨w.heap.size, 0, none⟩) nodes.length nodes.length) (padded [] nodes.length) ∧ Below w.heap.size w w1) := ⟨IntsOwn.made hown, (Below.refl _ _).grown hgrow (Nat.le_refl _) (by intro k hk; cases hk)⟩
    have hvn1 : w1.cell? ⟨b, 1, none⟩ = some (.slice ad nodes.length cap) := cell_kept h1.out.2 hvn
    have HV : Hid (w.cell? ⟨b, 1, none⟩ = some (.slice ad nodes.length cap)) := hvn
    clear hown hgrow hvn
    go_wp2
    go_loopw [4] (fun i wr => ∃ (k : Nat) (bs : List Int), k ≤ nodes.length ∧ bs.length = k ∧ i = .int .i64 k ∧ Hid (IntsOwn w.heap.size wr (.slice (some ⟨w.heap.size, 0, none⟩) nodes.length nodes.length) (padded bs nodes.length) ∧ Below w.heap.size w wr ∧ Pl.bigFrom ins nodes.length (nodes.drop k) bs = Pl.isBigW ins nodes)) (fun i _ => nodes.length - (intOf i).toNat)
    case atStart => exact ⟨0, [], by omega, rfl, rfl, h1.out.1, h1.out.2, rfl⟩
    case round =>
      obtain ⟨k, bs, hk, hbs, rfl, hh⟩ := hrel
      obtain ⟨hown, hbel, hbig⟩ := hh.out
      have cvn : wr.cell? ⟨b, 1, none⟩ = some (.slice ad nodes.length cap) := (hbel.cell (World.block_lt_of_cell? w _ HV.out)).trans HV.out
      by_cases hlt : k < nodes.length
      · obtain ⟨cvi, hpi, hpn⟩ := hall.out
        have cvi' := cell_kept hbel cvi
        have hpi' := hpi.below hbel
        obtain ⟨_, _, he, hcn⟩ := hpn.below hbel
        obtain ⟨rfl, rfl⟩ : ad = _ ∧ cap = _ := by simpa using he
        obtain ⟨g, bv, rfl, k0, k1, k2, k3, k4, k5, hpb⟩ := hcn k hlt
        have hlen := padded_len bs nodes.length (by omega)
        have hnb := nodeBound_any ins nodes[k] bv (padded bs nodes.length) b vi _ wr cvi' hpi' hpb (ints_own hown) (hbl _ (List.getElem_mem hlt))
        have hbs' := big_step ins nodes nodes.length k bs hlt _ rfl
        obtain ⟨adv, yl, cpv, hbv⟩ : ∃ adv yl cpv, bv = .slice adv yl cpv := by obtain ⟨x, y, e, _⟩ := hpb; exact ⟨_, _, _, e⟩
        clear hpb
        generalize Pl.nodeBoundW ins nodes[k] (padded bs nodes.length) = x at *
        unfold nodeV at hnb
        have hnb' := hide hnb
        have HS : Hid (Pl.isBigW ins nodes = if 1000000000000000 < x then true else Pl.bigFrom ins nodes.length (nodes.drop (k + 1)) (bs ++ [x])) := hbig.symm.trans hbs'
        have HO : Hid (IntsOwn w.heap.size wr (.slice (some ⟨w.heap.size, 0, none⟩) nodes.length nodes.length) (padded bs nodes.length) ∧ Below w.heap.size w wr ∧ bs.length = k) := ⟨hown, hbel, hbs⟩
        generalize nodes[k].op = y0 at *
        generalize nodes[k].a = y1 at *
        generalize nodes[k].b = y2 at *
        generalize nodes[k].c = y3 at *
        generalize nodes[k].k = y4 at *
        subst hbv
        clear hnb hown hbel hbig hbs' hcn hpi hpn hpi' cvi hh hbs hlen h1 hall he cvi'
        go_wp2_with fail
        refine (unhide hnb').mono ?_
        rintro e w2 ⟨rfl, hb2⟩
        by_cases hx : 1000000000000000 < x
        · have HH : Hid (Below w.heap.size w w2 ∧ Pl.isBigW ins nodes = true) := ⟨HO.out.2.1.trans (hb2.mono HO.out.2.1.size), by rw [HS.out, if_pos hx]⟩
          clear hb2 hnb' HO HS k0 k1 k2 k3 k4 k5
          go_wp2_with fail
          go_ret
          exact ⟨ret_bool HH.out.2.symm, HH.out.1⟩
        · have hown2 : IntsOwn w.heap.size w2 (.slice (some ⟨w.heap.size, 0, none⟩) nodes.length nodes.length) (padded bs nodes.length) := own_keep HO.out.1 (.of_below hb2)
          have hput := IntsOwn.put hown2 (by rw [HO.out.2.2]; exact hlt) x
          have hbl2 : Below w.heap.size w (w2.setCell ⟨w.heap.size, k, none⟩ (.int .i64 x)) := (HO.out.2.1.trans (hb2.mono HO.out.2.1.size)).setCell (p := ⟨w.heap.size, k, none⟩) (Nat.le_refl _) _
          have hfr : w2.frozen? ⟨w.heap.size, k, none⟩ = false := World.ownsRow.frozenAt (show w2.ownsRow w.heap.size 3 1 (.slice (some ⟨w.heap.size, 0, none⟩) nodes.length nodes.length) nodes.length ((padded bs nodes.length).map intV) from by have := hown2; unfold IntsOwn at this; rw [padded_len bs nodes.length (by rw [HO.out.2.2]; omega)] at this; exact this) k
          have hcl : ∃ y, w2.cell? ⟨w.heap.size, k, none⟩ = some (.int .i64 y) := by
            obtain ⟨_, _, he2, hc2⟩ := ints_own hown2
            have hl2 := padded_len bs nodes.length (by rw [HO.out.2.2]; omega)
            obtain ⟨b2, o2, hb3, hc3⟩ := hc2 k (by omega)
            have : b2 = w.heap.size ∧ o2 = 0 := by
              simp only [Value.slice.injEq] at he2
              rw [← he2.1] at hb3
              simpa using hb3.symm
            obtain ⟨rfl, rfl⟩ := this
            rw [Nat.zero_add] at hc3
            exact ⟨_, hc3⟩
          obtain ⟨yc, hcl⟩ := hcl
          rw [HO.out.2.2] at hput
          have HH : Hid (IntsOwn w.heap.size (w2.setCell ⟨w.heap.size, k, none⟩ (.int .i64 x)) (.slice (some ⟨w.heap.size, 0, none⟩) nodes.length nodes.length) (padded (bs ++ [x]) nodes.length) ∧ Below w.heap.size w (w2.setCell ⟨w.heap.size, k, none⟩ (.int .i64 x)) ∧ Pl.bigFrom ins nodes.length (nodes.drop (k + 1)) (bs ++ [x]) = Pl.isBigW ins nodes) := ⟨hput, hbl2, by rw [HS.out, if_neg hx]⟩
          have HL : Hid ((bs ++ [x]).length = k + 1) := by rw [List.length_append, HO.out.2.2]; rfl
          clear hb2 hnb' HO HS k0 k1 k2 k3 k4 k5 hown2 hput hbl2
          go_wp2_with fail
          go_roundw
          case rel => exact ⟨k + 1, bs ++ [x], by omega, HL.out, by go_num, HH⟩
          case measure => simp [intOf]; omega
      · have HH : Hid (Below w.heap.size w wr ∧ Pl.isBigW ins nodes = false) := ⟨hbel, by rw [← hbig]; exact big_end _ _ _ _ _ (by omega)⟩
        clear hown hbel hbig hh
        go_wp2_with fail
        go_ret
        exact ⟨ret_bool HH.out.2.symm, HH.out.1⟩
end Go.Proofs.YtfaljekgpnbmiaaGreat

/-
  Contracts of the plan's IsHome and Run.
-/
namespace Go.Proofs.YtfaljekgpnbmiaaGreat
open Go.RowKit

theorem home_step (ins : List (Int × Int)) (home : List Int) (k : Nat) (h : k < ins.length) (h' : k < home.length) :
    Pl.homeFrom (ins.drop k) (home.drop k) = (decide (ins[k].1 ≤ home[k] ∧ home[k] ≤ ins[k].2) && Pl.homeFrom (ins.drop (k + 1)) (home.drop (k + 1))) := by
  rw [List.drop_eq_getElem_cons h, List.drop_eq_getElem_cons h', Pl.homeFrom]
theorem home_end (ins : List (Int × Int)) (home : List Int) (k : Nat) (h : home.length ≤ k) : Pl.homeFrom (ins.drop k) (home.drop k) = true := by
  rw [List.drop_eq_nil_of_le h]
  cases ins.drop k <;> rfl
theorem ints_get {w : World} {ad : Option Addr} {n cap : Nat} {l : List Int} (h : IntsAt w (.slice ad n cap) l) (i : Nat) (hi : i < l.length) : ∃ b off, ad = some ⟨b, off, none⟩ ∧ w.cell? ⟨b, off + i, none⟩ = some (.int .i64 l[i]) := by
  obtain ⟨_, _, he, hc⟩ := h
  simp only [Value.slice.injEq] at he
  obtain ⟨b, off, e1, e2⟩ := hc i hi
  refine ⟨b, off, he.1.trans e1, ?_⟩
  rw [e2, List.getD_eq_getElem?_getD, List.getElem?_eq_getElem hi]; rfl
theorem pairs_get {w : World} {ad : Option Addr} {n cap : Nat} {l : List (Int × Int)} (h : PairsAt w (.slice ad n cap) l) (i : Nat) (hi : i < l.length) : ∃ g, ad = some ⟨g, 0, none⟩ ∧ w.cell? ⟨g, i * 2, none⟩ = some (.int .i64 l[i].1) ∧ w.cell? ⟨g, i * 2 + 1, none⟩ = some (.int .i64 l[i].2) := by
  obtain ⟨_, _, he, hc⟩ := h
  simp only [Value.slice.injEq] at he
  obtain ⟨g, e1, e2, e3⟩ := hc i hi
  exact ⟨g, he.1.trans e1, e2, e3⟩

set_option maxRecDepth 100000 in
set_option maxHeartbeats 1000000 in
theorem IsHome_any (ins : List (Int × Int)) (home : List Int) (b : Nat) (vi vh : Value) (w : World) (hvi : w.cell? ⟨b, 0, none⟩ = some vi) (hpi : PairsAt w vi ins) (hh : IntsAt w vh home) (hl : ins.length ≤ 1000) :
    Calls Tryz.prog 96 #[.pointer (some ⟨b, 0, none⟩), vh] w fun e w' => e = .returned (.bool (Pl.isHomeB ins home)) ∧ ∃ n, w' = w.drewN n := by
  obtain ⟨adi, capi, rfl, hci⟩ := hpi
  obtain ⟨adh, caph, rfl, hch⟩ := hh
  have HP : Hid (PairsAt w (.slice adi ins.length capi) ins ∧ IntsAt w (.slice adh home.length caph) home) := ⟨⟨_, _, rfl, hci⟩, ⟨_, _, rfl, hch⟩⟩
  clear hci hch
  by_cases hlen : home.length = ins.length
  · have hne : ((home.length : Int) != ins.length) = false := by rw [hlen]; simp
    have hT : Hid (Pl.isHomeB ins home = Pl.homeFrom ins home) := by unfold Pl.isHomeB Hid; rw [decide_eq_true hlen, Bool.true_and]
    have HL : Hid (home.length = ins.length) := hlen
    clear hlen
    go_enter Tryz.func96, Tryz.ntmps96
    go_wp2
    go_loopw [5] (fun i wr => ∃ k n : Nat, k ≤ home.length ∧ i = .int .i64 k ∧ wr = w.drewN n ∧ Hid (Pl.homeFrom (ins.drop k) (home.drop k) = Pl.homeFrom ins home)) (fun i _ => home.length - (intOf i).toNat)
    case atStart => exact ⟨0, 0, by omega, rfl, rfl, rfl⟩
    case round =>
      obtain ⟨k, n, hk, rfl, rfl, hr⟩ := hrel
      have hle : home.length ≤ 1000 := by have := HL.out; omega
      by_cases hlt : k < home.length
      · have hlt2 : k < ins.length := by have := HL.out; omega
        obtain ⟨gb, go, rfl, hcx⟩ := ints_get HP.out.2 k hlt
        obtain ⟨g, rfl, hc1, hc2⟩ := pairs_get HP.out.1 k hlt2
        have hst := home_step ins home k hlt2 hlt
        generalize home[k] = x at *
        generalize ins[k].1 = lo at *
        generalize ins[k].2 = hi at *
        by_cases h1 : x < lo
        · have hx : Hid (Pl.isHomeB ins home = false) := by
            have := hr.out; rw [hst, decide_eq_false (by omega), Bool.false_and] at this; exact hT.out.trans this.symm
          have hd : decide (x < lo) = true := by simpa using h1
          clear hst hr h1
          go_wp2
          go_quiet (fail)
          go_wp2
          go_ret
          exact ⟨ret_bool hx.out.symm, _, World.drewN_drewN _ _ _⟩
        · by_cases h2 : hi < x
          · have hx : Hid (Pl.isHomeB ins home = false) := by
              have := hr.out; rw [hst, decide_eq_false (by omega), Bool.false_and] at this; exact hT.out.trans this.symm
            have hd : decide (x < lo) = false := by simpa using h1
            have hd2 : decide (hi < x) = true := by simpa using h2
            clear hst hr h1 h2
            go_wp2
            go_quiet (fail)
            go_wp2
            go_ret
            exact ⟨ret_bool hx.out.symm, _, World.drewN_drewN _ _ _⟩
          · have hx : Hid (Pl.homeFrom (ins.drop (k + 1)) (home.drop (k + 1)) = Pl.homeFrom ins home) := by
              have := hr.out; rw [hst, decide_eq_true ⟨by omega, by omega⟩, Bool.true_and] at this; exact this
            have hd : decide (x < lo) = false := by simpa using h1
            have hd2 : decide (hi < x) = false := by simpa using h2
            clear hst hr h1 h2
            go_wp2
            go_quiet (fail)
            go_wp2
            go_roundw
            case rel => exact ⟨k + 1, _, by omega, by go_num, rfl, hx.out⟩
            case measure => simp [intOf]; omega
      · have hx : Hid (Pl.isHomeB ins home = true) := hT.out.trans (hr.out.symm.trans (home_end ins home k (by omega)))
        clear hr
        go_wp2
        go_ret
        exact ⟨ret_bool hx.out.symm, n, rfl⟩
  · have hne : ((home.length : Int) != ins.length) = true := by simp; omega
    have hT : Hid (Pl.isHomeB ins home = false) := by unfold Pl.isHomeB Hid; rw [decide_eq_false hlen, Bool.false_and]
    clear hlen
    go_enter Tryz.func96, Tryz.ntmps96
    go_wp2
    go_ret
    exact ⟨ret_bool hT.out.symm, 0, rfl⟩

theorem val_step (nodes : List Pl.NodeM) (home : List Int) (len k : Nat) (vs : List Int) (h : k < nodes.length) (x : Int) (hx : Pl.nodeValueW nodes[k] (padded vs len) home = x) :
    Pl.valuesFrom len home (nodes.drop k) vs = Pl.valuesFrom len home (nodes.drop (k + 1)) (vs ++ [x]) := by
  rw [List.drop_eq_getElem_cons h, Pl.valuesFrom]
  unfold padded at hx
  rw [hx]
theorem val_end (nodes : List Pl.NodeM) (home : List Int) (len k : Nat) (vs : List Int) (h : nodes.length ≤ k) : Pl.valuesFrom len home (nodes.drop k) vs = vs := by
  rw [List.drop_eq_nil_of_le h]; rfl
theorem padded_full (l : List Int) (n : Nat) (h : n ≤ l.length) : padded l n = l := by unfold padded; rw [show n - l.length = 0 by omega]; simp
/-- The facts that a store into a made list of ints wants and leaves. -/
theorem put_facts {B : Nat} {w : World} {g n : Nat} {l : List Int} (h : IntsOwn B w (.slice (some ⟨g, 0, none⟩) n n) (padded l n)) (hl : l.length < n) : w.frozen? ⟨g, l.length, none⟩ = false ∧ ∃ y, w.cell? ⟨g, l.length, none⟩ = some (.int .i64 y) := by
  have hp := padded_len l n (by omega)
  refine ⟨World.ownsRow.frozenAt (show w.ownsRow B 3 1 (.slice (some ⟨g, 0, none⟩) n n) n ((padded l n).map intV) from by unfold IntsOwn at h; rw [hp] at h; exact h) _, ?_⟩
  obtain ⟨b2, o2, hb3, hc3⟩ := ints_get (ints_own h) l.length (by omega)
  obtain ⟨rfl, rfl⟩ : g = b2 ∧ 0 = o2 := by simpa using hb3
  rw [Nat.zero_add] at hc3
  exact ⟨_, hc3⟩

set_option maxRecDepth 100000 in
set_option maxHeartbeats 2000000 in
theorem Run_any (ins : List (Int × Int)) (nodes : List Pl.NodeM) (outs home : List Int) (b : Nat) (vh : Value) (w : World) (h : PlanAt w b ins nodes outs) (hh : IntsAt w vh home) (hn : nodes.length ≤ 1000) (ho : outs.length ≤ 1000) (hbl : ∀ n ∈ nodes, n.bands.length ≤ 1000) :
    Calls Tryz.prog 97 #[.pointer (some ⟨b, 0, none⟩), vh] w fun e w' => ∃ v, e = .returned v ∧ IntsOwn w.heap.size w' v (Pl.runW nodes outs home) ∧ Below w.heap.size w w' := by
  obtain ⟨i0, hi, hz0, hz1, hz2⟩ := info_parts Tryz.infoInt
  obtain ⟨_, ⟨vn, hvn, hpn⟩, ⟨vo, hvo, hpo⟩⟩ := h
  have hall : Hid (NodesAt w vn nodes ∧ IntsAt w vh home ∧ IntsAt w vo outs) := ⟨hpn, hh, hpo⟩
  obtain ⟨ad, cap, rfl, hc⟩ := hpn
  obtain ⟨ado, capo, rfl, hco⟩ := hpo
  obtain ⟨adh, caph, rfl, hch⟩ := hh
  have HV : Hid (w.cell? ⟨b, 1, none⟩ = some (.slice ad nodes.length cap) ∧ w.cell? ⟨b, 2, none⟩ = some (.slice ado outs.length capo)) := ⟨hvn, hvo⟩
  clear hc hco hch hvo
  go_enter Tryz.func97, Tryz.ntmps97
  go_wp2_with (at_make; refine wpList_make_full _ rfl _ _ 22 rfl w.heap.size 3 i0 (.int .i64 0) 1 Tryz.underlying22 hi hz0 hz1 .i64 .i64 nodes.length nodes.length nodes.length rfl rfl rfl rfl ?c1 ?c2 ?c3 ?_)
  case c1 => rw [hz2]; omega
  case c2 => unfold maxLen; omega
  case c3 => omega
  · intro w1 hown hgrow
    have h1 : Hid (IntsOwn w.heap.size w1 (.slice (some ⟨w.heap.size, 0, none⟩) nodes.length nodes.length) (padded [] nodes.length) ∧ Below w.heap.size w w1) := ⟨IntsOwn.made hown, (Below.refl _ _).grown hgrow (Nat.le_refl _) (by intro k hk; cases hk)⟩
    clear hown hgrow hvn
    go_wp2_with fail
    go_loopw [6] (fun i wr => ∃ (k : Nat) (vs : List Int), k ≤ nodes.length ∧ vs.length = k ∧ i = .int .i64 k ∧ Hid (IntsOwn w.heap.size wr (.slice (some ⟨w.heap.size, 0, none⟩) nodes.length nodes.length) (padded vs nodes.length) ∧ Below w.heap.size w wr ∧ Pl.valuesFrom nodes.length home (nodes.drop k) vs = Pl.valuesFrom nodes.length home nodes [])) (fun i _ => nodes.length - (intOf i).toNat)
    case atStart => exact ⟨0, [], by omega, rfl, rfl, h1.out.1, h1.out.2, rfl⟩
    case round =>
      obtain ⟨k, vs, hk, hvs, rfl, hh⟩ := hrel
      obtain ⟨hown, hbel, hval⟩ := hh.out
      have cvn := cell_kept hbel HV.out.1
      by_cases hlt : k < nodes.length
      · have hbv0 := hall.out.2.1.below hbel
        obtain ⟨_, _, he, hcn⟩ := hall.out.1.below hbel
        obtain ⟨rfl, rfl⟩ : ad = _ ∧ cap = _ := by simpa using he
        obtain ⟨g, bv, rfl, k0, k1, k2, k3, k4, k5, hpb⟩ := hcn k hlt
        have hnb := nodeValue_any nodes[k] bv (padded vs nodes.length) home _ _ wr hpb (ints_own hown) hbv0 (hbl _ (List.getElem_mem hlt))
        have hvs' := val_step nodes home nodes.length k vs hlt _ rfl
        obtain ⟨adv, yl, cpv, hbv⟩ : ∃ adv yl cpv, bv = .slice adv yl cpv := by obtain ⟨x, y, e, _⟩ := hpb; exact ⟨_, _, _, e⟩
        clear hpb
        generalize Pl.nodeValueW nodes[k] (padded vs nodes.length) home = x at *
        unfold nodeV at hnb
        have hnb' := hide hnb
        have HS : Hid (Pl.valuesFrom nodes.length home (nodes.drop (k + 1)) (vs ++ [x]) = Pl.valuesFrom nodes.length home nodes []) := hvs'.symm.trans hval
        have HO : Hid (IntsOwn w.heap.size wr (.slice (some ⟨w.heap.size, 0, none⟩) nodes.length nodes.length) (padded vs nodes.length) ∧ Below w.heap.size w wr ∧ vs.length = k) := ⟨hown, hbel, hvs⟩
        generalize nodes[k].op = y0 at *
        generalize nodes[k].a = y1 at *
        generalize nodes[k].b = y2 at *
        generalize nodes[k].c = y3 at *
        generalize nodes[k].k = y4 at *
        subst hbv
        clear hnb hown hbel hval hvs' hcn hh hvs h1 hall he hbv0
        go_wp2_with fail
        refine (unhide hnb').mono ?_
        rintro e w2 ⟨rfl, hb2⟩
        have hown2 : IntsOwn w.heap.size w2 (.slice (some ⟨w.heap.size, 0, none⟩) nodes.length nodes.length) (padded vs nodes.length) := own_keep HO.out.1 (.of_below hb2)
        have hput := IntsOwn.put hown2 (by rw [HO.out.2.2]; exact hlt) x
        have hbl2 : Below w.heap.size w (w2.setCell ⟨w.heap.size, k, none⟩ (.int .i64 x)) := (HO.out.2.1.trans (hb2.mono HO.out.2.1.size)).setCell (p := ⟨w.heap.size, k, none⟩) (Nat.le_refl _) _
        obtain ⟨hfr, yc, hcl⟩ := put_facts hown2 (by rw [HO.out.2.2]; exact hlt)
        rw [HO.out.2.2] at hput hfr hcl
        have HH : Hid (IntsOwn w.heap.size (w2.setCell ⟨w.heap.size, k, none⟩ (.int .i64 x)) (.slice (some ⟨w.heap.size, 0, none⟩) nodes.length nodes.length) (padded (vs ++ [x]) nodes.length) ∧ Below w.heap.size w (w2.setCell ⟨w.heap.size, k, none⟩ (.int .i64 x)) ∧ Pl.valuesFrom nodes.length home (nodes.drop (k + 1)) (vs ++ [x]) = Pl.valuesFrom nodes.length home nodes []) := ⟨hput, hbl2, HS.out⟩
        have HL : Hid ((vs ++ [x]).length = k + 1) := by rw [List.length_append, HO.out.2.2]; rfl
        clear hb2 hnb' HO HS k0 k1 k2 k3 k4 k5 hown2 hput hbl2
        go_wp2_with fail
        go_roundw
        case rel => exact ⟨k + 1, vs ++ [x], by omega, HL.out, by go_num, HH⟩
        case measure => simp [intOf]; omega
      · have hvsv : vs = Pl.valuesFrom nodes.length home nodes [] := by rw [← hval]; exact (val_end _ _ _ _ _ (by omega)).symm
        have hown3 : IntsOwn w.heap.size wr (.slice (some ⟨w.heap.size, 0, none⟩) nodes.length nodes.length) vs := by rw [padded_full vs nodes.length (by omega)] at hown; exact hown
        have cvo := cell_kept hbel HV.out.2
        have H3 : Hid (IntsOwn w.heap.size wr (.slice (some ⟨w.heap.size, 0, none⟩) nodes.length nodes.length) vs ∧ Below w.heap.size w wr ∧ vs = Pl.valuesFrom nodes.length home nodes [] ∧ IntsAt wr (.slice ado outs.length capo) outs) := ⟨hown3, hbel, hvsv, hall.out.2.2.below hbel⟩
        clear hown hbel hval hvsv hown3 hh h1 hall HV hvs
        go_wp2_with (at_make; refine wpList_make_full _ rfl _ _ 22 rfl w.heap.size 3 i0 (.int .i64 0) 1 Tryz.underlying22 hi hz0 hz1 .i64 .i64 outs.length outs.length outs.length rfl rfl rfl rfl ?d1 ?d2 ?d3 ?_)
        case d1 => rw [hz2]; omega
        case d2 => unfold maxLen; omega
        case d3 => exact H3.out.2.1.size
        · intro w4 hown4 hgrow4
          have hb4 : Below wr.heap.size wr w4 := (Below.refl _ _).grown hgrow4 (Nat.le_refl _) (by intro k hk; cases hk)
          have H4 : Hid (IntsOwn w.heap.size w4 (.slice (some ⟨wr.heap.size, 0, none⟩) outs.length outs.length) (padded [] outs.length) ∧ Below wr.heap.size wr w4) := ⟨IntsOwn.made hown4, hb4⟩
          have HC : Hid (wr.cell? ⟨b, 2, none⟩ = some (.slice ado outs.length capo)) := cvo
          clear hown4 hgrow4 hb4 cvn
          have cvo4 := cell_kept H4.out.2 cvo
          clear cvo
          obtain ⟨wv, hwv⟩ : ∃ wv : World, wv = wr := ⟨wr, rfl⟩
          subst hwv
          go_wp2_with fail
          go_loopw [9] (fun i wr => ∃ (j : Nat) (os : List Int), j ≤ outs.length ∧ i = .int .i64 j ∧ Hid (IntsOwn w.heap.size wr (.slice (some ⟨wv.heap.size, 0, none⟩) outs.length outs.length) (padded os outs.length) ∧ Below wv.heap.size wv wr ∧ os.length = j ∧ os = (outs.take j).map (Pl.pickL vs))) (fun i _ => outs.length - (intOf i).toNat)
          case atStart => exact ⟨0, [], by omega, rfl, H4.out.1, H4.out.2, rfl, rfl⟩
          case round =>
            obtain ⟨j, os, hj, rfl, hh⟩ := hrel
            obtain ⟨hown, hbel, hos, hoe⟩ := hh.out
            have cvq : wr.cell? ⟨b, 2, none⟩ = some (.slice ado outs.length capo) := cell_kept hbel HC.out
            by_cases hlt : j < outs.length
            · obtain ⟨gb, go, rfl, hcx⟩ := ints_get (H3.out.2.2.2.below hbel) j hlt
              have hpk := pick_any vs outs[j] _ wr ((ints_own H3.out.1).below hbel)
              have hnext : os ++ [Pl.pickL vs outs[j]] = (outs.take (j + 1)).map (Pl.pickL vs) := by
                rw [hoe, List.take_succ_eq_append_getElem hlt, List.map_append]; rfl
              have hput := IntsOwn.put hown (by omega) (Pl.pickL vs outs[j])
              have hbl2 : Below wv.heap.size wv (wr.setCell ⟨wv.heap.size, os.length, none⟩ (.int .i64 (Pl.pickL vs outs[j]))) := hbel.setCell (p := ⟨wv.heap.size, os.length, none⟩) (Nat.le_refl _) _
              obtain ⟨hfr, yc, hcl⟩ := put_facts hown (by omega)
              rw [hos] at hput hbl2 hfr hcl
              have hpk' := hide hpk
              generalize Pl.pickL vs outs[j] = x at *
              generalize outs[j] = oj at *
              have HH : Hid (IntsOwn w.heap.size (wr.setCell ⟨wv.heap.size, j, none⟩ (.int .i64 x)) (.slice (some ⟨wv.heap.size, 0, none⟩) outs.length outs.length) (padded (os ++ [x]) outs.length) ∧ Below wv.heap.size wv (wr.setCell ⟨wv.heap.size, j, none⟩ (.int .i64 x)) ∧ (os ++ [x]).length = j + 1 ∧ os ++ [x] = (outs.take (j + 1)).map (Pl.pickL vs)) := ⟨hput, hbl2, by rw [List.length_append, hos]; rfl, hnext⟩
              clear hpk hown hbel hos hoe hh hnext hput hbl2
              go_wp2_with fail
              refine (unhide hpk').mono ?_
              rintro e w5 ⟨rfl, rfl⟩
              go_wp2_with fail
              go_roundw
              case rel => exact ⟨j + 1, os ++ [x], by omega, by go_num, HH⟩
              case measure => simp [intOf]; omega
            · have hje : j = outs.length := by omega
              have hfin : Hid (IntsOwn w.heap.size wr (.slice (some ⟨wv.heap.size, 0, none⟩) outs.length outs.length) (Pl.runW nodes outs home) ∧ Below w.heap.size w wr) := by
                refine ⟨?_, H3.out.2.1.trans (hbel.mono H3.out.2.1.size)⟩
                rw [padded_full os outs.length (by omega)] at hown
                unfold Pl.runW
                rw [← H3.out.2.2.1]
                rw [hje, List.take_of_length_le (Nat.le_refl _)] at hoe
                rw [← hoe]; exact hown
              clear hown hbel hos hoe hh
              go_wp2_with fail
              go_ret
              exact ⟨_, rfl, hfin.out.1, hfin.out.2⟩
end Go.Proofs.YtfaljekgpnbmiaaGreat
