/-
  Contracts of the plan's IsHome and Run.
-/
import Derived.Test.YtfaljekgpnbmiaaPlan5
namespace Go.Proofs.Ytfaljekgpnbmiaa
open Go.RowKit

theorem home_step (ins : List (Int × Int)) (home : List Int) (k : Nat) (h : k < ins.length) (h' : k < home.length) :
    Pl.homeFrom (ins.drop k) (home.drop k) = (decide (ins[k].1 ≤ home[k] ∧ home[k] ≤ ins[k].2) && Pl.homeFrom (ins.drop (k + 1)) (home.drop (k + 1))) := by
  rw [List.drop_eq_getElem_cons h, List.drop_eq_getElem_cons h', Pl.homeFrom]
theorem home_end (ins : List (Int × Int)) (home : List Int) (k : Nat) (h : home.length ≤ k) : Pl.homeFrom (ins.drop k) (home.drop k) = true := by
  rw [List.drop_eq_nil_of_le h]
  cases ins.drop k <;> rfl
theorem ints_get {w : World} {ad : Option Addr} {n cap : Nat} {l : List Int} (h : IntsAt w (.slice ad n cap) l) (i : Nat) (hi : i < l.length) : ∃ b off, ad = some ⟨b, off, none⟩ ∧ w.cell? ⟨b, off + i, none⟩ = some (.int .i64 l[i]) := by
  obtain ⟨_, _, he, hc⟩ := h
  simp only [Value.slice.injEq] at he
  obtain ⟨b, off, e1, e2⟩ := hc i hi
  refine ⟨b, off, he.1.trans e1, ?_⟩
  rw [e2, List.getD_eq_getElem?_getD, List.getElem?_eq_getElem hi]; rfl
theorem pairs_get {w : World} {ad : Option Addr} {n cap : Nat} {l : List (Int × Int)} (h : PairsAt w (.slice ad n cap) l) (i : Nat) (hi : i < l.length) : ∃ g, ad = some ⟨g, 0, none⟩ ∧ w.cell? ⟨g, i * 2, none⟩ = some (.int .i64 l[i].1) ∧ w.cell? ⟨g, i * 2 + 1, none⟩ = some (.int .i64 l[i].2) := by
  obtain ⟨_, _, he, hc⟩ := h
  simp only [Value.slice.injEq] at he
  obtain ⟨g, e1, e2, e3⟩ := hc i hi
  exact ⟨g, he.1.trans e1, e2, e3⟩

set_option maxRecDepth 100000 in
set_option maxHeartbeats 1000000 in
theorem IsHome_any (ins : List (Int × Int)) (home : List Int) (b : Nat) (vi vh : Value) (w : World) (hvi : w.cell? ⟨b, 0, none⟩ = some vi) (hpi : PairsAt w vi ins) (hh : IntsAt w vh home) (hl : ins.length ≤ 1000) :
    Calls Try.prog 35 #[.pointer (some ⟨b, 0, none⟩), vh] w fun e w' => e = .returned (.bool (Pl.isHomeB ins home)) ∧ ∃ n, w' = w.drewN n := by
  obtain ⟨adi, capi, rfl, hci⟩ := hpi
  obtain ⟨adh, caph, rfl, hch⟩ := hh
  have HP : Hid (PairsAt w (.slice adi ins.length capi) ins ∧ IntsAt w (.slice adh home.length caph) home) := ⟨⟨_, _, rfl, hci⟩, ⟨_, _, rfl, hch⟩⟩
  clear hci hch
  by_cases hlen : home.length = ins.length
  · have hne : ((home.length : Int) != ins.length) = false := by rw [hlen]; simp
    have hT : Hid (Pl.isHomeB ins home = Pl.homeFrom ins home) := by unfold Pl.isHomeB Hid; rw [decide_eq_true hlen, Bool.true_and]
    have HL : Hid (home.length = ins.length) := hlen
    clear hlen
    go_enter Try.func35, Try.ntmps35
    go_wp2
    go_loopw [5] (fun i wr => ∃ k n : Nat, k ≤ home.length ∧ i = .int .i64 k ∧ wr = w.drewN n ∧ Hid (Pl.homeFrom (ins.drop k) (home.drop k) = Pl.homeFrom ins home)) (fun i _ => home.length - (intOf i).toNat)
    case atStart => exact ⟨0, 0, by omega, rfl, rfl, rfl⟩
    case round =>
      obtain ⟨k, n, hk, rfl, rfl, hr⟩ := hrel
      have hle : home.length ≤ 1000 := by have := HL.out; omega
      by_cases hlt : k < home.length
      · have hlt2 : k < ins.length := by have := HL.out; omega
        obtain ⟨gb, go, rfl, hcx⟩ := ints_get HP.out.2 k hlt
        obtain ⟨g, rfl, hc1, hc2⟩ := pairs_get HP.out.1 k hlt2
        have hst := home_step ins home k hlt2 hlt
        generalize home[k] = x at *
        generalize ins[k].1 = lo at *
        generalize ins[k].2 = hi at *
        by_cases h1 : x < lo
        · have hx : Hid (Pl.isHomeB ins home = false) := by
            have := hr.out; rw [hst, decide_eq_false (by omega), Bool.false_and] at this; exact hT.out.trans this.symm
          have hd : decide (x < lo) = true := by simpa using h1
          clear hst hr h1
          go_wp2
          go_quiet (fail)
          go_wp2
          go_ret
          exact ⟨ret_bool hx.out.symm, _, World.drewN_drewN _ _ _⟩
        · by_cases h2 : hi < x
          · have hx : Hid (Pl.isHomeB ins home = false) := by
              have := hr.out; rw [hst, decide_eq_false (by omega), Bool.false_and] at this; exact hT.out.trans this.symm
            have hd : decide (x < lo) = false := by simpa using h1
            have hd2 : decide (hi < x) = true := by simpa using h2
            clear hst hr h1 h2
            go_wp2
            go_quiet (fail)
            go_wp2
            go_ret
            exact ⟨ret_bool hx.out.symm, _, World.drewN_drewN _ _ _⟩
          · have hx : Hid (Pl.homeFrom (ins.drop (k + 1)) (home.drop (k + 1)) = Pl.homeFrom ins home) := by
              have := hr.out; rw [hst, decide_eq_true ⟨by omega, by omega⟩, Bool.true_and] at this; exact this
            have hd : decide (x < lo) = false := by simpa using h1
            have hd2 : decide (hi < x) = false := by simpa using h2
            clear hst hr h1 h2
            go_wp2
            go_quiet (fail)
            go_wp2
            go_roundw
            case rel => exact ⟨k + 1, _, by omega, by go_num, rfl, hx.out⟩
            case measure => simp [intOf]; omega
      · have hx : Hid (Pl.isHomeB ins home = true) := hT.out.trans (hr.out.symm.trans (home_end ins home k (by omega)))
        clear hr
        go_wp2
        go_ret
        exact ⟨ret_bool hx.out.symm, n, rfl⟩
  · have hne : ((home.length : Int) != ins.length) = true := by simp; omega
    have hT : Hid (Pl.isHomeB ins home = false) := by unfold Pl.isHomeB Hid; rw [decide_eq_false hlen, Bool.false_and]
    clear hlen
    go_enter Try.func35, Try.ntmps35
    go_wp2
    go_ret
    exact ⟨ret_bool hT.out.symm, 0, rfl⟩

theorem val_step (nodes : List Pl.NodeM) (home : List Int) (len k : Nat) (vs : List Int) (h : k < nodes.length) (x : Int) (hx : Pl.nodeValueW nodes[k] (padded vs len) home = x) :
    Pl.valuesFrom len home (nodes.drop k) vs = Pl.valuesFrom len home (nodes.drop (k + 1)) (vs ++ [x]) := by
  rw [List.drop_eq_getElem_cons h, Pl.valuesFrom]
  unfold padded at hx
  rw [hx]
theorem val_end (nodes : List Pl.NodeM) (home : List Int) (len k : Nat) (vs : List Int) (h : nodes.length ≤ k) : Pl.valuesFrom len home (nodes.drop k) vs = vs := by
  rw [List.drop_eq_nil_of_le h]; rfl
theorem padded_full (l : List Int) (n : Nat) (h : n ≤ l.length) : padded l n = l := by unfold padded; rw [show n - l.length = 0 by omega]; simp
/-- The facts that a store into a made list of ints wants and leaves. -/
theorem put_facts {B : Nat} {w : World} {g n : Nat} {l : List Int} (h : IntsOwn B w (.slice (some ⟨g, 0, none⟩) n n) (padded l n)) (hl : l.length < n) : w.frozen? ⟨g, l.length, none⟩ = false ∧ ∃ y, w.cell? ⟨g, l.length, none⟩ = some (.int .i64 y) := by
  have hp := padded_len l n (by omega)
  refine ⟨World.ownsRow.frozenAt (show w.ownsRow B 3 1 (.slice (some ⟨g, 0, none⟩) n n) n ((padded l n).map intV) from by unfold IntsOwn at h; rw [hp] at h; exact h) _, ?_⟩
  obtain ⟨b2, o2, hb3, hc3⟩ := ints_get (ints_own h) l.length (by omega)
  obtain ⟨rfl, rfl⟩ : g = b2 ∧ 0 = o2 := by simpa using hb3
  rw [Nat.zero_add] at hc3
  exact ⟨_, hc3⟩

set_option maxRecDepth 100000 in
set_option maxHeartbeats 2000000 in
theorem Run_any (ins : List (Int × Int)) (nodes : List Pl.NodeM) (outs home : List Int) (b : Nat) (vh : Value) (w : World) (h : PlanAt w b ins nodes outs) (hh : IntsAt w vh home) (hn : nodes.length ≤ 1000) (ho : outs.length ≤ 1000) (hbl : ∀ n ∈ nodes, n.bands.length ≤ 1000) :
    Calls Try.prog 36 #[.pointer (some ⟨b, 0, none⟩), vh] w fun e w' => ∃ v, e = .returned v ∧ IntsOwn w.heap.size w' v (Pl.runW nodes outs home) ∧ Below w.heap.size w w' := by
  obtain ⟨i0, hi, hz0, hz1, hz2⟩ := info_parts Try.infoInt
  obtain ⟨_, ⟨vn, hvn, hpn⟩, ⟨vo, hvo, hpo⟩⟩ := h
  have hall : Hid (NodesAt w vn nodes ∧ IntsAt w vh home ∧ IntsAt w vo outs) := ⟨hpn, hh, hpo⟩
  obtain ⟨ad, cap, rfl, hc⟩ := hpn
  obtain ⟨ado, capo, rfl, hco⟩ := hpo
  obtain ⟨adh, caph, rfl, hch⟩ := hh
  have HV : Hid (w.cell? ⟨b, 1, none⟩ = some (.slice ad nodes.length cap) ∧ w.cell? ⟨b, 2, none⟩ = some (.slice ado outs.length capo)) := ⟨hvn, hvo⟩
  clear hc hco hch hvo
  go_enter Try.func36, Try.ntmps36
  go_wp2_with (at_make; refine wpList_make_full _ rfl _ _ 24 rfl w.heap.size 3 i0 (.int .i64 0) 1 Try.underlying24 hi hz0 hz1 .i64 .i64 nodes.length nodes.length nodes.length rfl rfl rfl rfl ?c1 ?c2 ?c3 ?_)
  case c1 => rw [hz2]; omega
  case c2 => unfold maxLen; omega
  case c3 => omega
  · intro w1 hown hgrow
    have h1 : Hid (IntsOwn w.heap.size w1 (.slice (some ⟨w.heap.size, 0, none⟩) nodes.length nodes.length) (padded [] nodes.length) ∧ Below w.heap.size w w1) := ⟨IntsOwn.made hown, (Below.refl _ _).grown hgrow (Nat.le_refl _) (by intro k hk; cases hk)⟩
    clear hown hgrow hvn
    go_wp2_with fail
    go_loopw [6] (fun i wr => ∃ (k : Nat) (vs : List Int), k ≤ nodes.length ∧ vs.length = k ∧ i = .int .i64 k ∧ Hid (IntsOwn w.heap.size wr (.slice (some ⟨w.heap.size, 0, none⟩) nodes.length nodes.length) (padded vs nodes.length) ∧ Below w.heap.size w wr ∧ Pl.valuesFrom nodes.length home (nodes.drop k) vs = Pl.valuesFrom nodes.length home nodes [])) (fun i _ => nodes.length - (intOf i).toNat)
    case atStart => exact ⟨0, [], by omega, rfl, rfl, h1.out.1, h1.out.2, rfl⟩
    case round =>
      obtain ⟨k, vs, hk, hvs, rfl, hh⟩ := hrel
      obtain ⟨hown, hbel, hval⟩ := hh.out
      have cvn := cell_kept hbel HV.out.1
      by_cases hlt : k < nodes.length
      · have hbv0 := hall.out.2.1.below hbel
        obtain ⟨_, _, he, hcn⟩ := hall.out.1.below hbel
        obtain ⟨rfl, rfl⟩ : ad = _ ∧ cap = _ := by simpa using he
        obtain ⟨g, bv, rfl, k0, k1, k2, k3, k4, k5, hpb⟩ := hcn k hlt
        have hnb := nodeValue_any nodes[k] bv (padded vs nodes.length) home _ _ wr hpb (ints_own hown) hbv0 (hbl _ (List.getElem_mem hlt))
        have hvs' := val_step nodes home nodes.length k vs hlt _ rfl
        obtain ⟨adv, yl, cpv, hbv⟩ : ∃ adv yl cpv, bv = .slice adv yl cpv := by obtain ⟨x, y, e, _⟩ := hpb; exact ⟨_, _, _, e⟩
        clear hpb
        generalize Pl.nodeValueW nodes[k] (padded vs nodes.length) home = x at *
        unfold nodeV at hnb
        have hnb' := hide hnb
        have HS : Hid (Pl.valuesFrom nodes.length home (nodes.drop (k + 1)) (vs ++ [x]) = Pl.valuesFrom nodes.length home nodes []) := hvs'.symm.trans hval
        have HO : Hid (IntsOwn w.heap.size wr (.slice (some ⟨w.heap.size, 0, none⟩) nodes.length nodes.length) (padded vs nodes.length) ∧ Below w.heap.size w wr ∧ vs.length = k) := ⟨hown, hbel, hvs⟩
        generalize nodes[k].op = y0 at *
        generalize nodes[k].a = y1 at *
        generalize nodes[k].b = y2 at *
        generalize nodes[k].c = y3 at *
        generalize nodes[k].k = y4 at *
        subst hbv
        clear hnb hown hbel hval hvs' hcn hh hvs h1 hall he hbv0
        go_wp2_with fail
        refine (unhide hnb').mono ?_
        rintro e w2 ⟨rfl, hb2⟩
        have hown2 : IntsOwn w.heap.size w2 (.slice (some ⟨w.heap.size, 0, none⟩) nodes.length nodes.length) (padded vs nodes.length) := own_keep HO.out.1 (.of_below hb2)
        have hput := IntsOwn.put hown2 (by rw [HO.out.2.2]; exact hlt) x
        have hbl2 : Below w.heap.size w (w2.setCell ⟨w.heap.size, k, none⟩ (.int .i64 x)) := (HO.out.2.1.trans (hb2.mono HO.out.2.1.size)).setCell (p := ⟨w.heap.size, k, none⟩) (Nat.le_refl _) _
        obtain ⟨hfr, yc, hcl⟩ := put_facts hown2 (by rw [HO.out.2.2]; exact hlt)
        rw [HO.out.2.2] at hput hfr hcl
        have HH : Hid (IntsOwn w.heap.size (w2.setCell ⟨w.heap.size, k, none⟩ (.int .i64 x)) (.slice (some ⟨w.heap.size, 0, none⟩) nodes.length nodes.length) (padded (vs ++ [x]) nodes.length) ∧ Below w.heap.size w (w2.setCell ⟨w.heap.size, k, none⟩ (.int .i64 x)) ∧ Pl.valuesFrom nodes.length home (nodes.drop (k + 1)) (vs ++ [x]) = Pl.valuesFrom nodes.length home nodes []) := ⟨hput, hbl2, HS.out⟩
        have HL : Hid ((vs ++ [x]).length = k + 1) := by rw [List.length_append, HO.out.2.2]; rfl
        clear hb2 hnb' HO HS k0 k1 k2 k3 k4 k5 hown2 hput hbl2
        go_wp2_with fail
        go_roundw
        case rel => exact ⟨k + 1, vs ++ [x], by omega, HL.out, by go_num, HH⟩
        case measure => simp [intOf]; omega
      · have hvsv : vs = Pl.valuesFrom nodes.length home nodes [] := by rw [← hval]; exact (val_end _ _ _ _ _ (by omega)).symm
        have hown3 : IntsOwn w.heap.size wr (.slice (some ⟨w.heap.size, 0, none⟩) nodes.length nodes.length) vs := by rw [padded_full vs nodes.length (by omega)] at hown; exact hown
        have cvo := cell_kept hbel HV.out.2
        have H3 : Hid (IntsOwn w.heap.size wr (.slice (some ⟨w.heap.size, 0, none⟩) nodes.length nodes.length) vs ∧ Below w.heap.size w wr ∧ vs = Pl.valuesFrom nodes.length home nodes [] ∧ IntsAt wr (.slice ado outs.length capo) outs) := ⟨hown3, hbel, hvsv, hall.out.2.2.below hbel⟩
        clear hown hbel hval hvsv hown3 hh h1 hall HV hvs
        go_wp2_with (at_make; refine wpList_make_full _ rfl _ _ 24 rfl w.heap.size 3 i0 (.int .i64 0) 1 Try.underlying24 hi hz0 hz1 .i64 .i64 outs.length outs.length outs.length rfl rfl rfl rfl ?d1 ?d2 ?d3 ?_)
        case d1 => rw [hz2]; omega
        case d2 => unfold maxLen; omega
        case d3 => exact H3.out.2.1.size
        · intro w4 hown4 hgrow4
          have hb4 : Below wr.heap.size wr w4 := (Below.refl _ _).grown hgrow4 (Nat.le_refl _) (by intro k hk; cases hk)
          have H4 : Hid (IntsOwn w.heap.size w4 (.slice (some ⟨wr.heap.size, 0, none⟩) outs.length outs.length) (padded [] outs.length) ∧ Below wr.heap.size wr w4) := ⟨IntsOwn.made hown4, hb4⟩
          have HC : Hid (wr.cell? ⟨b, 2, none⟩ = some (.slice ado outs.length capo)) := cvo
          clear hown4 hgrow4 hb4 cvn
          have cvo4 := cell_kept H4.out.2 cvo
          clear cvo
          obtain ⟨wv, hwv⟩ : ∃ wv : World, wv = wr := ⟨wr, rfl⟩
          subst hwv
          go_wp2_with fail
          go_loopw [9] (fun i wr => ∃ (j : Nat) (os : List Int), j ≤ outs.length ∧ i = .int .i64 j ∧ Hid (IntsOwn w.heap.size wr (.slice (some ⟨wv.heap.size, 0, none⟩) outs.length outs.length) (padded os outs.length) ∧ Below wv.heap.size wv wr ∧ os.length = j ∧ os = (outs.take j).map (Pl.pickL vs))) (fun i _ => outs.length - (intOf i).toNat)
          case atStart => exact ⟨0, [], by omega, rfl, H4.out.1, H4.out.2, rfl, rfl⟩
          case round =>
            obtain ⟨j, os, hj, rfl, hh⟩ := hrel
            obtain ⟨hown, hbel, hos, hoe⟩ := hh.out
            have cvq : wr.cell? ⟨b, 2, none⟩ = some (.slice ado outs.length capo) := cell_kept hbel HC.out
            by_cases hlt : j < outs.length
            · obtain ⟨gb, go, rfl, hcx⟩ := ints_get (H3.out.2.2.2.below hbel) j hlt
              have hpk := pick_any vs outs[j] _ wr ((ints_own H3.out.1).below hbel)
              have hnext : os ++ [Pl.pickL vs outs[j]] = (outs.take (j + 1)).map (Pl.pickL vs) := by
                rw [hoe, List.take_succ_eq_append_getElem hlt, List.map_append]; rfl
              have hput := IntsOwn.put hown (by omega) (Pl.pickL vs outs[j])
              have hbl2 : Below wv.heap.size wv (wr.setCell ⟨wv.heap.size, os.length, none⟩ (.int .i64 (Pl.pickL vs outs[j]))) := hbel.setCell (p := ⟨wv.heap.size, os.length, none⟩) (Nat.le_refl _) _
              obtain ⟨hfr, yc, hcl⟩ := put_facts hown (by omega)
              rw [hos] at hput hbl2 hfr hcl
              have hpk' := hide hpk
              generalize Pl.pickL vs outs[j] = x at *
              generalize outs[j] = oj at *
              have HH : Hid (IntsOwn w.heap.size (wr.setCell ⟨wv.heap.size, j, none⟩ (.int .i64 x)) (.slice (some ⟨wv.heap.size, 0, none⟩) outs.length outs.length) (padded (os ++ [x]) outs.length) ∧ Below wv.heap.size wv (wr.setCell ⟨wv.heap.size, j, none⟩ (.int .i64 x)) ∧ (os ++ [x]).length = j + 1 ∧ os ++ [x] = (outs.take (j + 1)).map (Pl.pickL vs)) := ⟨hput, hbl2, by rw [List.length_append, hos]; rfl, hnext⟩
              clear hpk hown hbel hos hoe hh hnext hput hbl2
              go_wp2_with fail
              refine (unhide hpk').mono ?_
              rintro e w5 ⟨rfl, rfl⟩
              go_wp2_with fail
              go_roundw
              case rel => exact ⟨j + 1, os ++ [x], by omega, by go_num, HH⟩
              case measure => simp [intOf]; omega
            · have hje : j = outs.length := by omega
              have hfin : Hid (IntsOwn w.heap.size wr (.slice (some ⟨wv.heap.size, 0, none⟩) outs.length outs.length) (Pl.runW nodes outs home) ∧ Below w.heap.size w wr) := by
                refine ⟨?_, H3.out.2.1.trans (hbel.mono H3.out.2.1.size)⟩
                rw [padded_full os outs.length (by omega)] at hown
                unfold Pl.runW
                rw [← H3.out.2.2.1]
                rw [hje, List.take_of_length_le (Nat.le_refl _)] at hoe
                rw [← hoe]; exact hown
              clear hown hbel hos hoe hh
              go_wp2_with fail
              go_ret
              exact ⟨_, rfl, hfin.out.1, hfin.out.2⟩
end Go.Proofs.Ytfaljekgpnbmiaa
