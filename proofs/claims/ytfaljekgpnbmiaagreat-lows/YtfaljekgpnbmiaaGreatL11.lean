/- Joined: Plan6 Law1. -/
import Derived.Test.YtfaljekgpnbmiaaGreatL10
/-
  Contracts of the plan's IsHome and Run.
-/
namespace Go.Proofs.YtfaljekgpnbmiaaGreat
open Go.RowKit

theorem home_step (ins : List (Int × Int)) (home : List Int) (k : Nat) (h : k < ins.length) (h' : k < home.length) :
    Pl.homeFrom (ins.drop k) (home.drop k) = (decide (ins[k].1 ≤ home[k] ∧ home[k] ≤ ins[k].2) && Pl.homeFrom (ins.drop (k + 1)) (home.drop (k + 1))) := by
  rw [List.drop_eq_getElem_cons h, List.drop_eq_getElem_cons h', Pl.homeFrom]
theorem home_end (ins : List (Int × Int)) (home : List Int) (k : Nat) (h : home.length ≤ k) : Pl.homeFrom (ins.drop k) (home.drop k) = true := by
  rw [List.drop_eq_nil_of_le h]
  cases ins.drop k <;> rfl
theorem ints_get {w : World} {ad : Option Addr} {n cap : Nat} {l : List Int} (h : IntsAt w (.slice ad n cap) l) (i : Nat) (hi : i < l.length) : ∃ b off, ad = some ⟨b, off, none⟩ ∧ w.cell? ⟨b, off + i, none⟩ = some (.int .i64 l[i]) := by
  obtain ⟨_, _, he, hc⟩ := h
  simp only [Value.slice.injEq] at he
  obtain ⟨b, off, e1, e2⟩ := hc i hi
  refine ⟨b, off, he.1.trans e1, ?_⟩
  rw [e2, List.getD_eq_getElem?_getD, List.getElem?_eq_getElem hi]; rfl
theorem pairs_get {w : World} {ad : Option Addr} {n cap : Nat} {l : List (Int × Int)} (h : PairsAt w (.slice ad n cap) l) (i : Nat) (hi : i < l.length) : ∃ g, ad = some ⟨g, 0, none⟩ ∧ w.cell? ⟨g, i * 2, none⟩ = some (.int .i64 l[i].1) ∧ w.cell? ⟨g, i * 2 + 1, none⟩ = some (.int .i64 l[i].2) := by
  obtain ⟨_, _, he, hc⟩ := h
  simp only [Value.slice.injEq] at he
  obtain ⟨g, e1, e2, e3⟩ := hc i hi
  exact ⟨g, he.1.trans e1, e2, e3⟩

set_option maxRecDepth 100000 in
set_option maxHeartbeats 1000000 in
theorem IsHome_any (ins : List (Int × Int)) (home : List Int) (b : Nat) (vi vh : Value) (w : World) (hvi : w.cell? ⟨b, 0, none⟩ = some vi) (hpi : PairsAt w vi ins) (hh : IntsAt w vh home) (hl : ins.length ≤ 1000) :
    Calls Tryz.prog 96 #[.pointer (some ⟨b, 0, none⟩), vh] w fun e w' => e = .returned (.bool (Pl.isHomeB ins home)) ∧ ∃ n, w' = w.drewN n := by
  obtain ⟨adi, capi, rfl, hci⟩ := hpi
  obtain ⟨adh, caph, rfl, hch⟩ := hh
  have HP : Hid (PairsAt w (.slice adi ins.length capi) ins ∧ IntsAt w (.slice adh home.length caph) home) := ⟨⟨_, _, rfl, hci⟩, ⟨_, _, rfl, hch⟩⟩
  clear hci hch
  by_cases hlen : home.length = ins.length
  · have hne : ((home.length : Int) != ins.length) = false := by rw [hlen]; simp
    have hT : Hid (Pl.isHomeB ins home = Pl.homeFrom ins home) := by unfold Pl.isHomeB Hid; rw [decide_eq_true hlen, Bool.true_and]
    have HL : Hid (home.length = ins.length) := hlen
    clear hlen
    go_enter Tryz.func96, Tryz.ntmps96
    go_wp2
    go_loopw [5] (fun i wr => ∃ k n : Nat, k ≤ home.length ∧ i = .int .i64 k ∧ wr = w.drewN n ∧ Hid (Pl.homeFrom (ins.drop k) (home.drop k) = Pl.homeFrom ins home)) (fun i _ => home.length - (intOf i).toNat)
    case atStart => exact ⟨0, 0, by omega, rfl, rfl, rfl⟩
    case round =>
      obtain ⟨k, n, hk, rfl, rfl, hr⟩ := hrel
      have hle : home.length ≤ 1000 := by have := HL.out; omega
      by_cases hlt : k < home.length
      · have hlt2 : k < ins.length := by have := HL.out; omega
        obtain ⟨gb, go, rfl, hcx⟩ := ints_get HP.out.2 k hlt
        obtain ⟨g, rfl, hc1, hc2⟩ := pairs_get HP.out.1 k hlt2
        have hst := home_step ins home k hlt2 hlt
        generalize home[k] = x at *
        generalize ins[k].1 = lo at *
        generalize ins[k].2 = hi at *
        by_cases h1 : x < lo
        · have hx : Hid (Pl.isHomeB ins home = false) := by
            have := hr.out; rw [hst, decide_eq_false (by omega), Bool.false_and] at this; exact hT.out.trans this.symm
          have hd : decide (x < lo) = true := by simpa using h1
          clear hst hr h1
          go_wp2
          go_quiet (fail)
          go_wp2
          go_ret
          exact ⟨ret_bool hx.out.symm, _, World.drewN_drewN _ _ _⟩
        · by_cases h2 : hi < x
          · have hx : Hid (Pl.isHomeB ins home = false) := by
              have := hr.out; rw [hst, decide_eq_false (by omega), Bool.false_and] at this; exact hT.out.trans this.symm
            have hd : decide (x < lo) = false := by simpa using h1
            have hd2 : decide (hi < x) = true := by simpa using h2
            clear hst hr h1 h2
            go_wp2
            go_quiet (fail)
            go_wp2
            go_ret
            exact ⟨ret_bool hx.out.symm, _, World.drewN_drewN _ _ _⟩
          · have hx : Hid (Pl.homeFrom (ins.drop (k + 1)) (home.drop (k + 1)) = Pl.homeFrom ins home) := by
              have := hr.out; rw [hst, decide_eq_true ⟨by omega, by omega⟩, Bool.true_and] at this; exact this
            have hd : decide (x < lo) = false := by simpa using h1
            have hd2 : decide (hi < x) = false := by simpa using h2
            clear hst hr h1 h2
            go_wp2
            go_quiet (fail)
            go_wp2
            go_roundw
            case rel => exact ⟨k + 1, _, by omega, by go_num, rfl, hx.out⟩
            case measure => simp [intOf]; omega
      · have hx : Hid (Pl.isHomeB ins home = true) := hT.out.trans (hr.out.symm.trans (home_end ins home k (by omega)))
        clear hr
        go_wp2
        go_ret
        exact ⟨ret_bool hx.out.symm, n, rfl⟩
  · have hne : ((home.length : Int) != ins.length) = true := by simp; omega
    have hT : Hid (Pl.isHomeB ins home = false) := by unfold Pl.isHomeB Hid; rw [decide_eq_false hlen, Bool.false_and]
    clear hlen
    go_enter Tryz.func96, Tryz.ntmps96
    go_wp2
    go_ret
    exact ⟨ret_bool hT.out.symm, 0, rfl⟩

theorem val_step (nodes : List Pl.NodeM) (home : List Int) (len k : Nat) (vs : List Int) (h : k < nodes.length) (x : Int) (hx : Pl.nodeValueW nodes[k] (padded vs len) home = x) :
    Pl.valuesFrom len home (nodes.drop k) vs = Pl.valuesFrom len home (nodes.drop (k + 1)) (vs ++ [x]) := by
  rw [List.drop_eq_getElem_cons h, Pl.valuesFrom]
  unfold padded at hx
  rw [hx]
theorem val_end (nodes : List Pl.NodeM) (home : List Int) (len k : Nat) (vs : List Int) (h : nodes.length ≤ k) : Pl.valuesFrom len home (nodes.drop k) vs = vs := by
  rw [List.drop_eq_nil_of_le h]; rfl
theorem padded_full (l : List Int) (n : Nat) (h : n ≤ l.length) : padded l n = l := by unfold padded; rw [show n - l.length = 0 by omega]; simp
/-- The facts that a store into a made list of ints wants and leaves. -/
theorem put_facts {B : Nat} {w : World} {g n : Nat} {l : List Int} (h : IntsOwn B w (.slice (some ⟨g, 0, none⟩) n n) (padded l n)) (hl : l.length < n) : w.frozen? ⟨g, l.length, none⟩ = false ∧ ∃ y, w.cell? ⟨g, l.length, none⟩ = some (.int .i64 y) := by
  have hp := padded_len l n (by omega)
  refine ⟨World.ownsRow.frozenAt (show w.ownsRow B 3 1 (.slice (some ⟨g, 0, none⟩) n n) n ((padded l n).map intV) from by unfold IntsOwn at h; rw [hp] at h; exact h) _, ?_⟩
  obtain ⟨b2, o2, hb3, hc3⟩ := ints_get (ints_own h) l.length (by omega)
  obtain ⟨rfl, rfl⟩ : g = b2 ∧ 0 = o2 := by simpa using hb3
  rw [Nat.zero_add] at hc3
  exact ⟨_, hc3⟩

set_option maxRecDepth 100000 in
set_option maxHeartbeats 2000000 in
theorem Run_any (ins : List (Int × Int)) (nodes : List Pl.NodeM) (outs home : List Int) (b : Nat) (vh : Value) (w : World) (h : PlanAt w b ins nodes outs) (hh : IntsAt w vh home) (hn : nodes.length ≤ 1000) (ho : outs.length ≤ 1000) (hbl : ∀ n ∈ nodes, n.bands.length ≤ 1000) :
    Calls Tryz.prog 97 #[.pointer (some ⟨b, 0, none⟩), vh] w fun e w' => ∃ v, e = .returned v ∧ IntsOwn w.heap.size w' v (Pl.runW nodes outs home) ∧ Below w.heap.size w w' := by
  obtain ⟨i0, hi, hz0, hz1, hz2⟩ := info_parts Tryz.infoInt
  obtain ⟨_, ⟨vn, hvn, hpn⟩, ⟨vo, hvo, hpo⟩⟩ := h
  have hall : Hid (NodesAt w vn nodes ∧ IntsAt w vh home ∧ IntsAt w vo outs) := ⟨hpn, hh, hpo⟩
  obtain ⟨ad, cap, rfl, hc⟩ := hpn
  obtain ⟨ado, capo, rfl, hco⟩ := hpo
  obtain ⟨adh, caph, rfl, hch⟩ := hh
  have HV : Hid (w.cell? ⟨b, 1, none⟩ = some (.slice ad nodes.length cap) ∧ w.cell? ⟨b, 2, none⟩ = some (.slice ado outs.length capo)) := ⟨hvn, hvo⟩
  clear hc hco hch hvo
  go_enter Tryz.func97, Tryz.ntmps97
  go_wp2_with (at_make; refine wpList_make_full _ rfl _ _ 22 rfl w.heap.size 3 i0 (.int .i64 0) 1 Tryz.underlying22 hi hz0 hz1 .i64 .i64 nodes.length nodes.length nodes.length rfl rfl rfl rfl ?c1 ?c2 ?c3 ?_)
  case c1 => rw [hz2]; omega
  case c2 => unfold maxLen; omega
  case c3 => omega
  · intro w1 hown hgrow
    have h1 : Hid (IntsOwn w.heap.size w1 (.slice (some ⟨w.heap.size, 0, none⟩) nodes.length nodes.length) (padded [] nodes.length) ∧ Below w.heap.size w w1) := ⟨IntsOwn.made hown, (Below.refl _ _).grown hgrow (Nat.le_refl _) (by intro k hk; cases hk)⟩
    clear hown hgrow hvn
    go_wp2_with fail
    go_loopw [6] (fun i wr => ∃ (k : Nat) (vs : List Int), k ≤ nodes.length ∧ vs.length = k ∧ i = .int .i64 k ∧ Hid (IntsOwn w.heap.size wr (.slice (some ⟨w.heap.size, 0, none⟩) nodes.length nodes.length) (padded vs nodes.length) ∧ Below w.heap.size w wr ∧ Pl.valuesFrom nodes.length home (nodes.drop k) vs = Pl.valuesFrom nodes.length home nodes [])) (fun i _ => nodes.length - (intOf i).toNat)
    case atStart => exact ⟨0, [], by omega, rfl, rfl, h1.out.1, h1.out.2, rfl⟩
    case round =>
      obtain ⟨k, vs, hk, hvs, rfl, hh⟩ := hrel
      obtain ⟨hown, hbel, hval⟩ := hh.out
      have cvn := cell_kept hbel HV.out.1
      by_cases hlt : k < nodes.length
      · have hbv0 := hall.out.2.1.below hbel
        obtain ⟨_, _, he, hcn⟩ := hall.out.1.below hbel
        obtain ⟨rfl, rfl⟩ : ad = _ ∧ cap = _ := by simpa using he
        obtain ⟨g, bv, rfl, k0, k1, k2, k3, k4, k5, hpb⟩ := hcn k hlt
        have hnb := nodeValue_any nodes[k] bv (padded vs nodes.length) home _ _ wr hpb (ints_own hown) hbv0 (hbl _ (List.getElem_mem hlt))
        have hvs' := val_step nodes home nodes.length k vs hlt _ rfl
        obtain ⟨adv, yl, cpv, hbv⟩ : ∃ adv yl cpv, bv = .slice adv yl cpv := by obtain ⟨x, y, e, _⟩ := hpb; exact ⟨_, _, _, e⟩
        clear hpb
        generalize Pl.nodeValueW nodes[k] (padded vs nodes.length) home = x at *
        unfold nodeV at hnb
        have hnb' := hide hnb
        have HS : Hid (Pl.valuesFrom nodes.length home (nodes.drop (k + 1)) (vs ++ [x]) = Pl.valuesFrom nodes.length home nodes []) := hvs'.symm.trans hval
        have HO : Hid (IntsOwn w.heap.size wr (.slice (some ⟨w.heap.size, 0, none⟩) nodes.length nodes.length) (padded vs nodes.length) ∧ Below w.heap.size w wr ∧ vs.length = k) := ⟨hown, hbel, hvs⟩
        generalize nodes[k].op = y0 at *
        generalize nodes[k].a = y1 at *
        generalize nodes[k].b = y2 at *
        generalize nodes[k].c = y3 at *
        generalize nodes[k].k = y4 at *
        subst hbv
        clear hnb hown hbel hval hvs' hcn hh hvs h1 hall he hbv0
        go_wp2_with fail
        refine (unhide hnb').mono ?_
        rintro e w2 ⟨rfl, hb2⟩
        have hown2 : IntsOwn w.heap.size w2 (.slice (some ⟨w.heap.size, 0, none⟩) nodes.length nodes.length) (padded vs nodes.length) := own_keep HO.out.1 (.of_below hb2)
        have hput := IntsOwn.put hown2 (by rw [HO.out.2.2]; exact hlt) x
        have hbl2 : Below w.heap.size w (w2.setCell ⟨w.heap.size, k, none⟩ (.int .i64 x)) := (HO.out.2.1.trans (hb2.mono HO.out.2.1.size)).setCell (p := ⟨w.heap.size, k, none⟩) (Nat.le_refl _) _
        obtain ⟨hfr, yc, hcl⟩ := put_facts hown2 (by rw [HO.out.2.2]; exact hlt)
        rw [HO.out.2.2] at hput hfr hcl
        have HH : Hid (IntsOwn w.heap.size (w2.setCell ⟨w.heap.size, k, none⟩ (.int .i64 x)) (.slice (some ⟨w.heap.size, 0, none⟩) nodes.length nodes.length) (padded (vs ++ [x]) nodes.length) ∧ Below w.heap.size w (w2.setCell ⟨w.heap.size, k, none⟩ (.int .i64 x)) ∧ Pl.valuesFrom nodes.length home (nodes.drop (k + 1)) (vs ++ [x]) = Pl.valuesFrom nodes.length home nodes []) := ⟨hput, hbl2, HS.out⟩
        have HL : Hid ((vs ++ [x]).length = k + 1) := by rw [List.length_append, HO.out.2.2]; rfl
        clear hb2 hnb' HO HS k0 k1 k2 k3 k4 k5 hown2 hput hbl2
        go_wp2_with fail
        go_roundw
        case rel => exact ⟨k + 1, vs ++ [x], by omega, HL.out, by go_num, HH⟩
        case measure => simp [intOf]; omega
      · have hvsv : vs = Pl.valuesFrom nodes.length home nodes [] := by rw [← hval]; exact (val_end _ _ _ _ _ (by omega)).symm
        have hown3 : IntsOwn w.heap.size wr (.slice (some ⟨w.heap.size, 0, none⟩) nodes.length nodes.length) vs := by rw [padded_full vs nodes.length (by omega)] at hown; exact hown
        have cvo := cell_kept hbel HV.out.2
        have H3 : Hid (IntsOwn w.heap.size wr (.slice (some ⟨w.heap.size, 0, none⟩) nodes.length nodes.length) vs ∧ Below w.heap.size w wr ∧ vs = Pl.valuesFrom nodes.length home nodes [] ∧ IntsAt wr (.slice ado outs.length capo) outs) := ⟨hown3, hbel, hvsv, hall.out.2.2.below hbel⟩
        clear hown hbel hval hvsv hown3 hh h1 hall HV hvs
        go_wp2_with (at_make; refine wpList_make_full _ rfl _ _ 22 rfl w.heap.size 3 i0 (.int .i64 0) 1 Tryz.underlying22 hi hz0 hz1 .i64 .i64 outs.length outs.length outs.length rfl rfl rfl rfl ?d1 ?d2 ?d3 ?_)
        case d1 => rw [hz2]; omega
        case d2 => unfold maxLen; omega
        case d3 => exact H3.out.2.1.size
        · intro w4 hown4 hgrow4
          have hb4 : Below wr.heap.size wr w4 := (Below.refl _ _).grown hgrow4 (Nat.le_refl _) (by intro k hk; cases hk)
          have H4 : Hid (IntsOwn w.heap.size w4 (.slice (some ⟨wr.heap.size, 0, none⟩) outs.length outs.length) (padded [] outs.length) ∧ Below wr.heap.size wr w4) := ⟨IntsOwn.made hown4, hb4⟩
          have HC : Hid (wr.cell? ⟨b, 2, none⟩ = some (.slice ado outs.length capo)) := cvo
          clear hown4 hgrow4 hb4 cvn
          have cvo4 := cell_kept H4.out.2 cvo
          clear cvo
          obtain ⟨wv, hwv⟩ : ∃ wv : World, wv = wr := ⟨wr, rfl⟩
          subst hwv
          go_wp2_with fail
          go_loopw [9] (fun i wr => ∃ (j : Nat) (os : List Int), j ≤ outs.length ∧ i = .int .i64 j ∧ Hid (IntsOwn w.heap.size wr (.slice (some ⟨wv.heap.size, 0, none⟩) outs.length outs.length) (padded os outs.length) ∧ Below wv.heap.size wv wr ∧ os.length = j ∧ os = (outs.take j).map (Pl.pickL vs))) (fun i _ => outs.length - (intOf i).toNat)
          case atStart => exact ⟨0, [], by omega, rfl, H4.out.1, H4.out.2, rfl, rfl⟩
          case round =>
            obtain ⟨j, os, hj, rfl, hh⟩ := hrel
            obtain ⟨hown, hbel, hos, hoe⟩ := hh.out
            have cvq : wr.cell? ⟨b, 2, none⟩ = some (.slice ado outs.length capo) := cell_kept hbel HC.out
            by_cases hlt : j < outs.length
            · obtain ⟨gb, go, rfl, hcx⟩ := ints_get (H3.out.2.2.2.below hbel) j hlt
              have hpk := pick_any vs outs[j] _ wr ((ints_own H3.out.1).below hbel)
              have hnext : os ++ [Pl.pickL vs outs[j]] = (outs.take (j + 1)).map (Pl.pickL vs) := by
                rw [hoe, List.take_succ_eq_append_getElem hlt, List.map_append]; rfl
              have hput := IntsOwn.put hown (by omega) (Pl.pickL vs outs[j])
              have hbl2 : Below wv.heap.size wv (wr.setCell ⟨wv.heap.size, os.length, none⟩ (.int .i64 (Pl.pickL vs outs[j]))) := hbel.setCell (p := ⟨wv.heap.size, os.length, none⟩) (Nat.le_refl _) _
              obtain ⟨hfr, yc, hcl⟩ := put_facts hown (by omega)
              rw [hos] at hput hbl2 hfr hcl
              have hpk' := hide hpk
              generalize Pl.pickL vs outs[j] = x at *
              generalize outs[j] = oj at *
              have HH : Hid (IntsOwn w.heap.size (wr.setCell ⟨wv.heap.size, j, none⟩ (.int .i64 x)) (.slice (some ⟨wv.heap.size, 0, none⟩) outs.length outs.length) (padded (os ++ [x]) outs.length) ∧ Below wv.heap.size wv (wr.setCell ⟨wv.heap.size, j, none⟩ (.int .i64 x)) ∧ (os ++ [x]).length = j + 1 ∧ os ++ [x] = (outs.take (j + 1)).map (Pl.pickL vs)) := ⟨hput, hbl2, by rw [List.length_append, hos]; rfl, hnext⟩
              clear hpk hown hbel hos hoe hh hnext hput hbl2
              go_wp2_with fail
              refine (unhide hpk').mono ?_
              rintro e w5 ⟨rfl, rfl⟩
              go_wp2_with fail
              go_roundw
              case rel => exact ⟨j + 1, os ++ [x], by omega, by go_num, HH⟩
              case measure => simp [intOf]; omega
            · have hje : j = outs.length := by omega
              have hfin : Hid (IntsOwn w.heap.size wr (.slice (some ⟨wv.heap.size, 0, none⟩) outs.length outs.length) (Pl.runW nodes outs home) ∧ Below w.heap.size w wr) := by
                refine ⟨?_, H3.out.2.1.trans (hbel.mono H3.out.2.1.size)⟩
                rw [padded_full os outs.length (by omega)] at hown
                unfold Pl.runW
                rw [← H3.out.2.2.1]
                rw [hje, List.take_of_length_le (Nat.le_refl _)] at hoe
                rw [← hoe]; exact hown
              clear hown hbel hos hoe hh
              go_wp2_with fail
              go_ret
              exact ⟨_, rfl, hfin.out.1, hfin.out.2⟩
end Go.Proofs.YtfaljekgpnbmiaaGreat

/-
  Contracts of the statement's own num, sameInts, lend, lent.
-/
namespace Go.Proofs.YtfaljekgpnbmiaaGreat
open Go.RowKit

set_option maxHeartbeats 400000 in
theorem num_law (n : Int) (w : World) : Calls Tryz.prog 37 #[.int .i64 n] w fun e w' => e = .returned (.int .i64 n) ∧ w' = w := by
  go_enter Tryz.func37, Tryz.ntmps37
  go_wp2
  go_ret
  exact ⟨rfl, rfl⟩

set_option maxHeartbeats 1000000 in
theorem sameInts_law (l : List Int) (va vb : Value) (w : World) (ha : IntsAt w va l) (hb : IntsAt w vb l) (hl : l.length ≤ maxLen) :
    Calls Tryz.prog 43 #[va, vb] w fun e w' => e = .returned (.bool true) ∧ ∃ n, w' = w.drewN n := by
  unfold maxLen at hl
  obtain ⟨ada, capa, rfl, ca⟩ := ha
  obtain ⟨adb, capb, rfl, cb⟩ := hb
  have HA := hide ca
  have HB := hide cb
  clear ca cb
  go_enter Tryz.func43, Tryz.ntmps43
  go_wp2
  go_loopw [5] (fun i wr => ∃ (k n : Nat), k ≤ l.length ∧ i = .int .i64 k ∧ wr = w.drewN n) (fun i _ => l.length - (intOf i).toNat)
  case atStart => exact ⟨0, 0, by omega, rfl, rfl⟩
  case round =>
    obtain ⟨k, n, hk, rfl, rfl⟩ := hrel
    by_cases hlt : k < l.length
    · obtain ⟨b1, o1, rfl, c1⟩ := unhide HA k hlt
      obtain ⟨b2, o2, rfl, c2⟩ := unhide HB k hlt
      go_wp2
      go_quiet (fail)
      go_wp2
      go_roundw
      case rel => exact ⟨k + 1, _, by omega, by go_num, rfl⟩
      case measure => simp [intOf]; omega
    · go_wp2
      go_ret
      exact ⟨rfl, _, rfl⟩

def ink : Int := 1099511627783
/-- What lend lays: the numbers, then j times ink, then zeros. -/
def lendCells (home : List Int) (j : Nat) : List Value := home.map intV ++ (List.replicate j (intV ink) ++ List.replicate (2 - j) (intV 0))
theorem madeCells_int (n : Nat) : (madeCells #[Value.int .i64 0] n).toList = List.replicate n (intV 0) := by
  apply List.ext_getElem
  · simp [madeCells]
  · intro i h1 h2
    simp [madeCells, intV, Nat.mod_one]
theorem own_block {w : World} {B : Nat} {e : TypeId} {g n : Nat} {xs : List Value} (h : w.ownsRow B e 1 (.slice (some ⟨g, 0, none⟩) n n) n xs) : w.heap[g]? = some (.cells xs.toArray e (0, 0)) := by
  rcases h.2 with ⟨h1, _⟩ | ⟨g', cap, cur, he, hb, hgg, hle, hm, hcs, htk⟩
  · simp at h1
  · simp only [Value.slice.injEq, Option.some.injEq, Addr.mk.injEq, and_true, true_and] at he
    obtain ⟨rfl, rfl⟩ := he
    have : cur = xs.toArray := by
      apply Array.ext'
      rw [← htk]
      simp only [Nat.mul_one] at hcs ⊢
      rw [List.take_of_length_le (by simp [hcs])]
    rw [hgg, this]
theorem splice_lend (home : List Int) : splice (List.replicate (home.length + 2) (intV 0)) 0 (home.map intV) = lendCells home 0 := by
  simp [splice, lendCells, List.drop_replicate]
theorem lend_set (home : List Int) (j : Nat) (hj : j < 2) : (lendCells home j).toArray.setIfInBounds (home.length + j) (intV ink) = (lendCells home (j + 1)).toArray := by
  have : j = 0 ∨ j = 1 := by omega
  apply Array.ext'
  rcases this with rfl | rfl
  · simp [lendCells, List.replicate]
  · simp [lendCells, List.replicate]

set_option maxRecDepth 100000 in
set_option maxHeartbeats 2000000 in
theorem lend_law (home : List Int) (vh : Value) (w : World) (hh : IntsAt w vh home) (hl : home.length ≤ 17592186043904) :
    Calls Tryz.prog 40 #[vh] w fun e w' => ∃ g, e = .returned (.slice (some ⟨g, 0, none⟩) (home.length + 2) (home.length + 2)) ∧ w.heap.size ≤ g ∧ w'.heap[g]? = some (.cells (lendCells home 2).toArray 3 (0, 0)) ∧ Below w.heap.size w w' := by
  obtain ⟨i0, hi, hz0, hz1, hz2⟩ := info_parts Tryz.infoInt
  have HH := hide hh
  obtain ⟨a8, p8, rfl, _⟩ := hh
  go_enter Tryz.func40, Tryz.ntmps40
  go_wp2_with (at_make; refine wpList_make_full _ rfl _ _ 22 rfl w.heap.size 3 i0 (.int .i64 0) 1 Tryz.underlying22 hi hz0 hz1 .i64 .i64 _ _ (home.length + 2) rfl rfl ?e1 ?e2 ?c1 ?c2 ?c3 ?_)
  case e1 => first | rfl | omega | simp
  case e2 => first | rfl | omega | simp
  case c1 => rw [hz2]; omega
  case c2 => unfold maxLen; omega
  case c3 => omega
  · intro w1 hown hgrow
    have hb1 : Below w.heap.size w w1 := (Below.refl _ _).grown hgrow (Nat.le_refl _) (by intro k hk; cases hk)
    have hblk : w1.heap[w.heap.size]? = some (.cells (List.replicate (home.length + 2) (intV 0)).toArray 3 (0, 0)) := by
      have := own_block hown; rw [madeCells_int] at this; exact this
    have hsz : (Tryz.prog.info? 3).map (·.size) = some 1 := by rw [hi]; simp [hz1]
    obtain ⟨cs, hcs⟩ : ∃ cs, cs = home.map intV := ⟨_, rfl⟩
    have hcl : cs.length = home.length := by rw [hcs]; simp
    have HCS := hide hcs
    have hsrc : 0 < cs.length → ∃ ad, a8 = some ad ∧ ∀ j v, cs[j]? = some v → w1.cell? (ad.add j) = some v := by
      intro hpos
      obtain ⟨b8, o8, rfl, _⟩ := ints_get (unhide HH) 0 (by omega)
      refine ⟨_, rfl, fun j v hj => ?_⟩
      have hjl : j < home.length := by rw [← hcl]; exact (List.getElem?_eq_some_iff.1 hj).1
      obtain ⟨b9, o9, e9, c9⟩ := ints_get (unhide HH) j hjl
      simp only [Option.some.injEq, Addr.mk.injEq, and_true] at e9
      obtain ⟨rfl, rfl⟩ := e9
      have e3 : (⟨b8, o8, none⟩ : Addr).add j = ⟨b8, o8 + j, none⟩ := by unfold Addr.add; split <;> simp_all
      rw [e3, cell_kept hb1 c9]
      rw [hcs, List.getElem?_map, List.getElem?_eq_getElem hjl] at hj
      simpa [intV] using hj
    obtain ⟨w2, hcp, hblk2, hb2⟩ : ∃ w2, (Builtin.copy_ #[22, 22] 3 #[.slice (some ⟨w.heap.size, 0, none⟩) (home.length + 2) (home.length + 2), .slice a8 home.length p8]).run Tryz.prog w1 = .ok (.int .i64 home.length) w2 ∧ w2.heap[w.heap.size]? = some (.cells (lendCells home 0).toArray 3 (0, 0)) ∧ Below w.heap.size w w2 := by
      by_cases h0 : home.length = 0
      · have hnil : home = [] := List.eq_nil_of_length_eq_zero h0
        subst hnil
        exact ⟨w1, run_copy_none (P := Tryz.prog) w1 22 22 3 3 _ _ _ _ _ _ Tryz.underlying22 hsz (by simp), hblk, hb1⟩
      · obtain ⟨ad, rfl, hsr⟩ := hsrc (by omega)
        have hr := run_copy_row (P := Tryz.prog) w1 22 22 3 3 w.heap.size 0 (home.length + 2) (home.length + 2) ad home.length p8 _ 3 cs Tryz.underlying22 hsz hblk (by rw [hcl]; exact (Nat.min_eq_left (by omega)).symm) hsr (by rw [hcl]; simp) (by intro v hv; rw [hcs] at hv; obtain ⟨x, _, rfl⟩ := List.mem_map.1 hv; rfl)
        rw [hcl] at hr
        refine ⟨_, hr, ?_, below_setRow hb1 (Nat.le_refl _) _⟩
        rw [setRow_heap w1 w.heap.size _ _ 3 _ hblk]
        congr 2
        rw [← splice_lend, ← hcs]
        simp [splice, hcl]
    have H2 : Hid (w2.heap[w.heap.size]? = some (.cells (lendCells home 0).toArray 3 (0, 0)) ∧ Below w.heap.size w w2) := ⟨hblk2, hb2⟩
    clear hown hgrow hblk hcs hsrc hb1 hblk2 hb2 hcl hsz
    · go_wp2
      go_loopw [4] (fun i wr => ∃ j : Nat, j ≤ 2 ∧ i = .int .i64 ((home.length : Int) + j) ∧ Hid (wr.heap[w.heap.size]? = some (.cells (lendCells home j).toArray 3 (0, 0)) ∧ Below w.heap.size w wr)) (fun i _ => home.length + 2 - (intOf i).toNat)
      case atStart => exact ⟨0, by omega, by simp, H2⟩
      case round =>
        obtain ⟨j, hj, rfl, hh⟩ := hrel
        clear H2
        by_cases hlt : j < 2
        · have hlen : (lendCells home j).length = home.length + 2 := by unfold lendCells; simp; omega
          have hc : ∃ u, wr.cell? ⟨w.heap.size, home.length + j, none⟩ = some u := by
            rw [cellsOf (unhide hh).1]
            exact ⟨(lendCells home j)[home.length + j]'(by omega), by simp⟩
          obtain ⟨u, hcu⟩ := hc
          have hfr : wr.frozen? ⟨w.heap.size, home.length + j, none⟩ = false := freeOf (unhide hh).1 _
          have HN : Hid ((wr.setCell ⟨w.heap.size, home.length + j, none⟩ (.int .i64 1099511627783)).heap[w.heap.size]? = some (.cells (lendCells home (j + 1)).toArray 3 (0, 0)) ∧ Below w.heap.size w (wr.setCell ⟨w.heap.size, home.length + j, none⟩ (.int .i64 1099511627783))) := by
            refine ⟨?_, (unhide hh).2.setCell (p := ⟨w.heap.size, home.length + j, none⟩) (Nat.le_refl _) _⟩
            rw [heap_setCell_same wr _ _ _ _ _ (unhide hh).1]
            have := lend_set home j hlt
            rw [← this]; rfl
          clear hh hlen
          go_wp2
          go_roundw
          case rel => exact ⟨j + 1, by omega, by go_num, HN⟩
          case measure => simp [intOf]; omega
        · have hj2 : j = 2 := by omega
          subst hj2
          go_wp2
          go_ret
          exact ⟨_, rfl, Nat.le_refl _, (unhide hh).1, (unhide hh).2⟩
end Go.Proofs.YtfaljekgpnbmiaaGreat
