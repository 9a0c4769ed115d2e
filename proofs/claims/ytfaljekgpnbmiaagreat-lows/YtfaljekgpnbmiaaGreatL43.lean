/- Joined: Law9 Law10 Law11 Law12. -/
import Derived.Test.YtfaljekgpnbmiaaGreatL42
/-
  Contract of the statement's own ints: the walk.
-/
namespace Go.Proofs.YtfaljekgpnbmiaaGreat
open Go.RowKit

theorem fill_step (xs : List Int) (k : Nat) (hk : k < xs.length) (n : Int) : (List.replicate k n ++ xs.drop k).set k n = List.replicate (k + 1) n ++ xs.drop (k + 1) := by
  rw [List.set_append, if_neg (by simp), List.length_replicate, Nat.sub_self, List.drop_eq_getElem_cons hk, List.set_cons_zero, List.replicate_succ', List.append_assoc]; rfl
theorem ints_shape {B : Nat} {w : World} {v : Value} {l : List Int} (h : IntsOwn B w v l) : ∃ ad cap, v = .slice ad l.length cap ∧ cap ≤ maxLen := by
  rcases h.2 with ⟨rfl, hn⟩ | ⟨g, cap, cur, rfl, _, _, _, hm, _⟩
  · exact ⟨none, 0, by rw [hn], by unfold maxLen; omega⟩
  · exact ⟨_, _, rfl, hm⟩
set_option maxRecDepth 100000 in
set_option maxHeartbeats 4000000 in
theorem ints_law {B : Nat} {w : World} {b N : Nat} {ents : List (Value × Int)} {v0 : Value} (v : Value) (xs : List Int) (hH : HeldAt B w b N ents v0) (hv : IntsOwn B w v xs) (hE : ∀ e ∈ ents, EntOk w e ∧ ∀ k, v.ownBlock = some k → e.1.ownBlock ≠ some k) (hB : B ≤ w.heap.size) (hx : xs.length ≤ 17592186043906) (hn : ents.length ≤ 100) (hN : N ≤ 100) :
    Calls Tryz.prog 44 #[.pointer (some ⟨b, 0, none⟩), v] w fun e w' => e = .returned (.int .i64 (1099511627783 + (N + 1 : Int))) ∧ ∃ new v1, HeldAt B w' b (N + 1) (ents ++ new) v1 ∧ new.length = 4 ∧ (∀ e ∈ ents ++ new, EntOk w' e) ∧ (∀ e ∈ new, ∀ k, e.1.ownBlock = some k → v.ownBlock = some k ∨ w.heap.size ≤ k) ∧ KeepX v.ownBlock w w' ∧ Below B w w' := by
  obtain ⟨i0, hi, hz0, hz1, hz2⟩ := info_parts Tryz.infoHI
  obtain ⟨j0, hj, hy0, hy1, hy2⟩ := info_parts Tryz.infoInt
  obtain ⟨vad, vcap, rfl, hvc⟩ := ints_shape hv
  obtain ⟨va0, vc0, rfl⟩ := slice_shape hH.own
  obtain ⟨n, hnn⟩ : ∃ n : Int, n = 1099511627783 + (N + 1 : Int) := ⟨_, rfl⟩
  have hM := hide (mark_law b N _ _ _ w hH.blk (by omega))
  rw [← hnn] at hM ⊢
  -- behind mark
  have H1 : Hid (HeldAt B (w.setCell ⟨b, 0, none⟩ (.int .i64 (N + 1 : Int))) b (N + 1) ents (.slice va0 ents.length vc0) ∧ IntsOwn B (w.setCell ⟨b, 0, none⟩ (.int .i64 (N + 1 : Int))) (.slice vad xs.length vcap) (List.replicate 0 n ++ xs.drop 0) ∧ KeepX (Value.ownBlock (.slice vad xs.length vcap)) w (w.setCell ⟨b, 0, none⟩ (.int .i64 (N + 1 : Int))) ∧ Below B w (w.setCell ⟨b, 0, none⟩ (.int .i64 (N + 1 : Int)))) :=
    ⟨hH.mark, own_keep hv (.setCell hH.blk (by decide) _ _), .of (.setCell hH.blk (by decide) _ _), (Below.refl B w).setCell (p := ⟨b, 0, none⟩) hH.base _⟩
  have HE := hide hE
  have HV := hide hv
  clear hE hv hH hnn
  go_enter Tryz.func44, Tryz.ntmps44
  go_wp2_with fail
  refine (unhide hM).mono ?_
  rintro e w1 ⟨rfl, hw1⟩
  rw [hw1]
  clear hw1 w1 hM
  go_wp2
  go_loopw [6] (fun i wr => ∃ k : Nat, k ≤ xs.length ∧ i = .int .i64 k ∧ Hid (HeldAt B wr b (N + 1) ents (.slice va0 ents.length vc0) ∧ IntsOwn B wr (.slice vad xs.length vcap) (List.replicate k n ++ xs.drop k) ∧ KeepX (Value.ownBlock (.slice vad xs.length vcap)) w wr ∧ Below B w wr)) (fun i _ => xs.length - (intOf i).toNat)
  case atStart => exact ⟨0, by omega, rfl, H1⟩
  case round =>
    obtain ⟨k, hk, rfl, hh⟩ := hrel
    clear H1
    by_cases hlt : k < xs.length
    · obtain ⟨q1, q2, q3, q4⟩ := unhide hh
      have hll : (List.replicate k n ++ xs.drop k).length = xs.length := by simp; omega
      obtain ⟨g, cap, cur, hvv, hgb, hgg, hgl, hgm, hgs, hgt⟩ : ∃ g cap cur, Value.slice vad xs.length vcap = .slice (some ⟨g, 0, none⟩) xs.length cap ∧ B ≤ g ∧ wr.heap[g]? = some (.cells cur 3 (0, 0)) ∧ xs.length ≤ cap ∧ cap ≤ maxLen ∧ cur.size = cap ∧ True := by
        rcases q2.2 with ⟨_, h0⟩ | ⟨g, cap, cur, h1, h2, h3, h4, h5, h6, h7⟩
        · omega
        · exact ⟨g, cap, cur, by rw [h1, hll], h2, h3, by omega, h5, by omega, trivial⟩
      injection hvv with e1 _ e3
      subst e1
      subst e3
      have hc : ∃ u, wr.cell? ⟨g, k, none⟩ = some u := by
        rw [cellsOf hgg]
        exact ⟨cur[k]'(by omega), by simp⟩
      obtain ⟨u, hcu⟩ := hc
      have hfr : wr.frozen? ⟨g, k, none⟩ = false := freeOf hgg _
      have HN : Hid (HeldAt B (wr.setCell ⟨g, k, none⟩ (.int .i64 n)) b (N + 1) ents (.slice va0 ents.length vc0) ∧ IntsOwn B (wr.setCell ⟨g, k, none⟩ (.int .i64 n)) (.slice (some ⟨g, 0, none⟩) xs.length vcap) (List.replicate (k + 1) n ++ xs.drop (k + 1)) ∧ KeepX (Value.ownBlock (.slice (some ⟨g, 0, none⟩) xs.length vcap)) w (wr.setCell ⟨g, k, none⟩ (.int .i64 n)) ∧ Below B w (wr.setCell ⟨g, k, none⟩ (.int .i64 n))) := by
        refine ⟨q1.keep (.setCell hgg (by decide) _ _) (.setCell hgg (by decide) _ _), ?_, q3.trans (.setCell _ _ _ _), q4.setCell (p := ⟨g, k, none⟩) hgb _⟩
        rw [← fill_step xs k hlt n]
        exact ints_write q2 k (by omega) n
      clear hh q1 q2 q3 q4 hll hgg hgs hgt
      go_wp2
      go_roundw
      case rel => exact ⟨k + 1, by omega, by go_num, HN⟩
      case measure => simp [intOf]; omega
    · have hkx : k = xs.length := by omega
      have HB : Hid (Busy B w wr b (N + 1) ents [] (.slice va0 ents.length vc0) (Value.ownBlock (.slice vad xs.length vcap)) vad xs.length vcap n) := by
        obtain ⟨q1, q2, q3, q4⟩ := unhide hh
        subst hkx
        rw [List.drop_length, List.append_nil] at q2
        refine ⟨by rw [List.append_nil]; exact q1, q2, fun e he => ?_, fun e he => absurd he (by simp), fun a ha => ?_, q3, q4⟩
        · rw [List.append_nil] at he
          obtain ⟨h1, h2⟩ := unhide HE e he
          refine .inr ⟨h1.keep (fun k hk hc => h2 k hc hk) q3, fun a ha => h2 _ (by rw [ha]; rfl)⟩
        · left; rw [ha]; rfl
      clear hh HE HV hkx
      obtain ⟨wv, hwv⟩ : ∃ wv : World, wv = wr := ⟨wr, rfl⟩
      subst hwv
      go_wp2
      go_loopw [7, 8] (fun gv i wr => ∃ (j glen : Nat) (gad : Option Addr) (gcap : Nat) (va : Option Addr) (vn vc : Nat), j ≤ 3 ∧ glen ≤ 17592186043909 ∧ vn ≤ 103 ∧ gv = .slice gad glen gcap ∧ i = .int .i64 j ∧ Hid (∃ new, new.length = j ∧ vn = (ents ++ new).length ∧ Busy B w wr b (N + 1) ents new (.slice va vn vc) (Value.ownBlock (.slice vad xs.length vcap)) gad glen gcap n ∧ glen = xs.length + j)) (fun _ i _ => 3 - (intOf i).toNat)
      case atStart => exact ⟨0, xs.length, vad, vcap, va0, ents.length, vc0, by omega, by omega, by omega, rfl, rfl, [], rfl, by simp, HB.out, rfl⟩
      case round =>
        obtain ⟨j, glen, gad, gcap, va, vn, vc, hj3, hgl, hvn, rfl, rfl, hh⟩ := hrel
        clear HB
        obtain ⟨new, hnl, hvl, hbz, hgx⟩ := unhide hh
        have HZ := hide hbz
        have HL := hide (show vn = (ents ++ new).length ∧ new.length = j ∧ glen = xs.length + j from ⟨hvl, hnl, hgx⟩)
        have hsz : B ≤ wr.heap.size := Nat.le_trans hB hbz.below.size
        have c1 : wr.cell? ⟨b, 1, none⟩ = some (.slice va vn vc) := by rw [cellsOf hbz.held.blk]; rfl
        have f1 : wr.frozen? ⟨b, 1, none⟩ = false := freeOf hbz.held.blk 1
        have hal : (wr.alloc (.cells #[.slice gad glen gcap, .int .i64 n] 78)).ownsRow B 78 2 (.slice va vn vc) vn (entCellsH (ents ++ new)) := by
          have := own_keep hbz.held.own (.alloc _ wr (.cells #[.slice gad glen gcap, .int .i64 n] 78))
          rw [← hvl] at this; exact this
        clear hh hnl hvl hbz hgx
        by_cases hlt : j < 3
        · go_wp2_with (at_builtin; refine wpList_append_lies _ rfl _ _ 24 rfl B 78 i0 (.agg #[.slice none 0 0, .int .i64 0]) 2 32 Tryz.underlying24 hi hz0 hz1 hz2 rfl (by decide) _ _ _ rfl hal ⟨_, 0, none⟩ 1 1 [.slice gad glen gcap, intV n] rfl rfl ?c1 (two_cell _ _ rfl rfl) (by decide) ?c3 ?c4 ?c5 _ rfl ?_)
          case c1 => exact news_at #[.slice gad glen gcap, intV n] _
          case c3 => unfold maxLen; omega
          case c4 => omega
          case c5 => simp; omega
          · intro g1 cap1 w1 hown1 hgrow1 _ _
            have HA : Hid (Busy B w (w1.setCell ⟨b, 1, none⟩ (.slice (some ⟨g1, 0, none⟩) (vn + 1) cap1)) b (N + 1) ents (new ++ [(.slice gad glen gcap, n)]) (.slice (some ⟨g1, 0, none⟩) (vn + 1) cap1) (Value.ownBlock (.slice vad xs.length vcap)) gad glen gcap n ∧ w1.heap[b]? = some (.cells #[.int .i64 (N + 1 : Nat), .slice va vn vc, .slice none 0 0, .slice none 0 0] 28 (0, 0))) :=
              (unhide HZ).add hsz _ hgrow1 (by rw [← (unhide HL).1]; exact hown1)
            have c1' : w1.cell? ⟨b, 1, none⟩ = some (.slice va vn vc) := by rw [cellsOf (unhide HA).2]; rfl
            have f1' : w1.frozen? ⟨b, 1, none⟩ = false := freeOf (unhide HA).2 1
            have hsz2 : B ≤ (w1.setCell ⟨b, 1, none⟩ (.slice (some ⟨g1, 0, none⟩) (vn + 1) cap1)).heap.size := Nat.le_trans hB (unhide HA).1.below.size
            have hsz3 : B ≤ w1.heap.size := by simpa using hsz2
            clear hown1 hgrow1 hal HZ
            have hal2 : ((w1.setCell ⟨b, 1, none⟩ (.slice (some ⟨g1, 0, none⟩) (vn + 1) cap1)).alloc (.cells #[.int .i64 n] 3)).ownsRow B 3 1 (.slice gad glen gcap) glen ((List.replicate glen n).map intV) := by
              have := own_keep (unhide HA).1.own (.alloc _ _ (.cells #[.int .i64 n] 3))
              rw [List.length_replicate] at this; exact this
            go_wp2_with (at_builtin; refine wpList_append_two _ rfl _ _ 22 rfl B 3 j0 (.int .i64 0) 1 8 Tryz.underlying22 hj hy0 hy1 hy2 rfl (by decide) _ _ _ rfl hal2 ⟨_, 0, none⟩ 1 1 [intV n] rfl rfl ?d1 (fun u hu => by simp at hu; subst hu; rfl) (by decide) ?d3 ?d4 ?d5 ?_)
            case d1 =>
              have e9 : (w1.setCell ⟨b, 1, none⟩ (.slice (some ⟨g1, 0, none⟩) (vn + 1) cap1)).heap.size = w1.heap.size := by simp
              have n9 := news_at (w := w1.setCell ⟨b, 1, none⟩ (.slice (some ⟨g1, 0, none⟩) (vn + 1) cap1)) #[intV n] 3
              rw [e9] at n9
              exact n9
            case d3 => unfold maxLen; omega
            case d4 => omega
            case d5 => simp; omega
            · intro g2 cap2 w3 hown3 htwo0 _
              have htwo : Two ((w1.setCell ⟨b, 1, none⟩ (.slice (some ⟨g1, 0, none⟩) (vn + 1) cap1)).alloc (.cells #[.int .i64 n] 3)) w3 gad glen gcap g2 cap2 := by
                rcases htwo0 with ⟨h1, h3⟩ | ⟨h1, h3⟩
                · exact .inl ⟨by simpa using h1, h3⟩
                · exact .inr ⟨by rw [h1]; simp, h3⟩
              have HG : Hid (Busy B w w3 b (N + 1) ents (new ++ [(.slice gad glen gcap, n)]) (.slice (some ⟨g1, 0, none⟩) (vn + 1) cap1) (Value.ownBlock (.slice vad xs.length vcap)) (some ⟨g2, 0, none⟩) (glen + 1) cap2 n) := (unhide HA).1.grow hsz2 _ htwo (by rw [List.map_replicate]; exact hown3)
              clear hown3 htwo htwo0 hal2 HA c1 f1 c1' f1'
              go_wp2
              go_roundw
              case rel => exact ⟨j + 1, glen + 1, some ⟨g2, 0, none⟩, cap2, some ⟨g1, 0, none⟩, vn + 1, cap1, by omega, by have := (unhide HL).2.2; omega, by have := (unhide HL).1; have := (unhide HL).2.1; simp at *; omega, rfl, by go_num, new ++ [(.slice gad glen gcap, n)], by have := (unhide HL).2.1; simp; omega, by have := (unhide HL).1; simp at *; omega, unhide HG, by have := (unhide HL).2.2; omega⟩
              case measure => simp [intOf]; omega
        · go_wp2_with (at_builtin; refine wpList_append_lies _ rfl _ _ 24 rfl B 78 i0 (.agg #[.slice none 0 0, .int .i64 0]) 2 32 Tryz.underlying24 hi hz0 hz1 hz2 rfl (by decide) _ _ _ rfl hal ⟨_, 0, none⟩ 1 1 [.slice gad glen gcap, intV n] rfl rfl ?c1 (two_cell _ _ rfl rfl) (by decide) ?c3 ?c4 ?c5 _ rfl ?_)
          case c1 => exact news_at #[.slice gad glen gcap, intV n] _
          case c3 => unfold maxLen; omega
          case c4 => omega
          case c5 => simp; omega
          · intro g1 cap1 w1 hown1 hgrow1 _ _
            have HA : Hid (Busy B w (w1.setCell ⟨b, 1, none⟩ (.slice (some ⟨g1, 0, none⟩) (vn + 1) cap1)) b (N + 1) ents (new ++ [(.slice gad glen gcap, n)]) (.slice (some ⟨g1, 0, none⟩) (vn + 1) cap1) (Value.ownBlock (.slice vad xs.length vcap)) gad glen gcap n ∧ w1.heap[b]? = some (.cells #[.int .i64 (N + 1 : Nat), .slice va vn vc, .slice none 0 0, .slice none 0 0] 28 (0, 0))) :=
              (unhide HZ).add hsz _ hgrow1 (by rw [← (unhide HL).1]; exact hown1)
            have c1' : w1.cell? ⟨b, 1, none⟩ = some (.slice va vn vc) := by rw [cellsOf (unhide HA).2]; rfl
            have f1' : w1.frozen? ⟨b, 1, none⟩ = false := freeOf (unhide HA).2 1
            have hsz2 : B ≤ (w1.setCell ⟨b, 1, none⟩ (.slice (some ⟨g1, 0, none⟩) (vn + 1) cap1)).heap.size := Nat.le_trans hB (unhide HA).1.below.size
            have hsz3 : B ≤ w1.heap.size := by simpa using hsz2
            clear hown1 hgrow1 hal HZ
            go_wp2
            go_ret
            refine ⟨rfl, new ++ [(.slice gad glen gcap, n)], _, (unhide HA).1.held, by have := (unhide HL).2.1; simp; omega, fun e he => ((unhide HA).1.ent e he).ok (unhide HA).1.own, (unhide HA).1.news, (unhide HA).1.keep, (unhide HA).1.below⟩
end Go.Proofs.YtfaljekgpnbmiaaGreat

/-
  Contract of the statement's own runLow.
-/
namespace Go.Proofs.YtfaljekgpnbmiaaGreat
open Go.RowKit

theorem Pl.Built.outs_len {toks : List (List UInt8)} {names : List Pl.DeclM} {r : Pl.RdM} (h : Pl.Built toks names r) : r.outs.length ≤ names.length := by
  induction h using Pl.Built.ind with
  | start => simp
  | input h d i hk hn h1 h2 h3 hne hfr ih => simp; omega
  | step h i op ws k more name hw hs hm hne hl hl6 hfr ih => simp; omega
  | out h i a m name ha hne hl hl6 hfr ih => simp; omega
theorem runLow_len (l : List UInt8) (home : List Int) : (Pl.runLow l home).2.length ≤ 88 := by
  unfold Pl.runLow Pl.toldR
  by_cases h0 : (Pl.readLow l).1 = 0
  · rw [if_neg (fun h => h h0)]
    split
    · obtain ⟨q1, _, q3⟩ := Pl.low_read l
      have h1 : (Pl.refLow l).1 = 0 := by rw [q1]; exact h0
      have hB := (q3 h1).1
      have h2 := (refLow_zero l h1).2.1
      have h3 := Pl.lowD_len _ _ [] 0 _ (by simp [Pl.countD]) (by simp [Pl.countD]) (by simp) h2
      have h4 := hB.outs_len
      simp only [Pl.runW, List.length_map]
      omega
    · simp
  · rw [if_pos h0]; simp
theorem lend_own {B : Nat} {w : World} {g : Nat} {home : List Int} (h : w.heap[g]? = some (.cells (lendCells home 2).toArray 3 (0, 0))) (hB : B ≤ g) (hl : home.length ≤ 17592186043904) : IntsOwn B w (.slice (some ⟨g, 0, none⟩) (home.length + 2) (home.length + 2)) (home ++ [ink, ink]) := by
  refine ⟨by simp, .inr ⟨g, home.length + 2, _, by simp, hB, h, by simp, by unfold maxLen; omega, ?_, ?_⟩⟩
  · simp [lendCells]
  · rw [List.take_of_length_le (by simp [lendCells])]
    simp [lendCells, List.replicate]
theorem HeldAt.below {B : Nat} {w w' : World} {b N : Nat} {ents : List (Value × Int)} {v : Value} (h : HeldAt B w b N ents v) (hb : Below w.heap.size w w') : HeldAt B w' b N ents v := h.keep (.of_below hb) (.of_below hb)
end Go.Proofs.YtfaljekgpnbmiaaGreat

/-
  Contract of the statement's own runLow: the walk.
-/
namespace Go.Proofs.YtfaljekgpnbmiaaGreat
open Go.RowKit

set_option maxRecDepth 100000 in
set_option maxHeartbeats 4000000 in
theorem runLow_law {B : Nat} {w : World} {b N : Nat} {ents : List (Value × Int)} {v0 : Value} (l : List UInt8) (home : List Int) (vh : Value) (hH : HeldAt B w b N ents v0) (hE : ∀ e ∈ ents, EntOk w e) (hh : IntsAt w vh home) (hlm : l.length ≤ maxLen) (hhl : home.length ≤ 17592186043904) (hB : B ≤ w.heap.size) (hn : ents.length ≤ 90) (hN : N ≤ 90) :
    Calls Tryz.prog 17 #[.pointer (some ⟨b, 0, none⟩), .string ⟨l.toArray⟩, vh] w fun e w' => e = .returned (.bool true) ∧ ∃ new v1, HeldAt B w' b (N + 2) (ents ++ new) v1 ∧ new.length = 8 ∧ (∀ e ∈ ents ++ new, EntOk w' e) ∧ Below B w w' := by
  have hml : home.length ≤ maxLen := by unfold maxLen; omega
  have hLd := hide (lend_law home vh w hh hhl)
  have HHm := hide hh
  have HH := hide hH
  have HE := hide hE
  obtain ⟨a8, p8, rfl, _⟩ := hh
  clear hH hE
  go_enter Tryz.func17, Tryz.ntmps17
  go_wp2_with fail
  refine (unhide hLd).mono ?_
  rintro e w1 ⟨g, rfl, hg, hgb, hb1⟩
  have hm1 : IntsAt w1 (.slice a8 home.length p8) home := (unhide HHm).below hb1
  have hR := hide (RunLow_all l home (.slice (some ⟨g, 0, none⟩) home.length (home.length + 2)) w1 hlm (lent_front hgb _))
  have HG1 := hide hgb
  have HB1 := hide hb1
  have HM1 := hide hm1
  clear hLd hgb hb1 hm1
  go_wp2_with fail
  refine (unhide hR).mono ?_
  rintro e w2 ⟨v, rfl, hv2, hb2⟩
  have hm2 := (unhide HM1).below hb2
  obtain ⟨va, vc, rfl, hvc⟩ := ints_shape hv2
  have hRf := hide (RunLow_ref l home (.slice a8 home.length p8) w2 hlm (Pl.low_fine l) hm2 hml (fun h0 hf => Pl.low_safe l home h0 hf))
  rw [Pl.low_run] at hRf
  have hgl : g < w1.heap.size := lt_of_block (unhide HG1)
  have HG2 : Hid (w2.heap[g]? = some (.cells (lendCells home 2).toArray 3 (0, 0))) := by rw [hb2.block g hgl]; exact unhide HG1
  have HB2 := hide hb2
  have HM2 := hide hm2
  have HV2 := hide hv2
  clear hR hb2 hm2 hv2
  go_wp2_with fail
  refine (unhide hRf).mono ?_
  rintro e w3 ⟨v', rfl, hv3, hb3⟩
  have hm3 := (unhide HM2).below hb3
  obtain ⟨va', vc', rfl, hvc'⟩ := ints_shape hv3
  have hgl2 : g < w2.heap.size := Nat.lt_of_lt_of_le hgl (unhide HB2).size
  have hg3 : w3.heap[g]? = some (.cells (lendCells home 2).toArray 3 (0, 0)) := by rw [hb3.block g hgl2]; exact unhide HG2
  have hS1 := hide (lent_law home _ g w3 hm3 hg3 hhl)
  have HV3 : Hid (IntsOwn w1.heap.size w3 (.slice va (Pl.runLow l home).2.length vc) (Pl.runLow l home).2 ∧ IntsOwn w2.heap.size w3 (.slice va' (Pl.runLow l home).2.length vc') (Pl.runLow l home).2 ∧ w3.heap[g]? = some (.cells (lendCells home 2).toArray 3 (0, 0)) ∧ Below w.heap.size w w3) :=
    ⟨own_keep (unhide HV2) (.of_below hb3), hv3, hg3, ((unhide HB1).trans ((unhide HB2).mono (unhide HB1).size)).trans (hb3.mono (Nat.le_trans (unhide HB1).size (unhide HB2).size))⟩
  have hz23 : w1.heap.size ≤ w2.heap.size ∧ w2.heap.size ≤ w3.heap.size := ⟨(unhide HB2).size, hb3.size⟩
  have HVB : Hid (∀ k, Value.ownBlock (.slice va (Pl.runLow l home).2.length vc) = some k → w1.heap.size ≤ k ∧ k < w2.heap.size) := by
    intro k hk
    rcases (unhide HV2).2 with ⟨h1, _⟩ | ⟨k', cap, cur, h1, h2, h3, _⟩
    · rw [h1] at hk; simp [Value.ownBlock] at hk
    · rw [h1] at hk; simp [Value.ownBlock] at hk; subst hk; exact ⟨h2, lt_of_block h3⟩
  clear hRf HV2 HM2 HG2 HB2 HB1 HM1 HG1 hv3 hb3 hm3 hg3
  go_wp2_with fail
  refine (unhide hS1).mono ?_
  rintro e w4 ⟨rfl, m1, hw4⟩
  have hb4 : Below w3.heap.size w3 w4 := by rw [hw4]; exact below_drewN (Below.refl _ _) _
  have hS2 := hide (sameInts_law (Pl.runLow l home).2 _ _ w4 ((ints_own (unhide HV3).1).below hb4) ((ints_own (unhide HV3).2.1).below hb4) (by have := runLow_len l home; unfold maxLen; omega))
  have HB4 := hide hb4
  clear hS1 hw4 hb4
  go_wp2_with fail
  refine (unhide hS2).mono ?_
  rintro e w5 ⟨rfl, m2, hw5⟩
  have hb5 : Below w3.heap.size w3 w5 := by rw [hw5]; exact below_drewN (unhide HB4) _
  have hz5 : w3.heap.size ≤ w5.heap.size := hb5.size
  obtain ⟨q1, _, q3, q4⟩ := unhide HV3
  have hb05 : Below w.heap.size w w5 := q4.trans (hb5.mono q4.size)
  have hg5 : w5.heap[g]? = some (.cells (lendCells home 2).toArray 3 (0, 0)) := by rw [hb5.block g (lt_of_block q3)]; exact q3
  have hI1 := hide (ints_law _ _ ((unhide HH).below hb05) (lend_own hg5 (Nat.le_trans hB hg) hhl) (fun e he => ⟨(unhide HE e he).keepT (.of_below hb05), fun k hk hc => by have := (unhide HE e he).lt hc; simp [Value.ownBlock] at hk; omega⟩) (Nat.le_trans hB hb05.size) (by simp; omega) (by omega) (by omega))
  have HQ : Hid (IntsOwn w1.heap.size w5 (.slice va (Pl.runLow l home).2.length vc) (Pl.runLow l home).2 ∧ Below w.heap.size w w5) := ⟨own_keep q1 (.of_below hb5), hb05⟩
  clear hS2 hw5 hb5 HV3 HB4 q1 q3 q4 hg5 hb05
  go_wp2_with fail
  refine (unhide hI1).mono ?_
  rintro e w6 ⟨rfl, new1, v1, h61, h62, h63, h64, h65, h66⟩
  have hI2 := hide (ints_law (.slice va (Pl.runLow l home).2.length vc) (Pl.runLow l home).2 h61 (ints_keepX (own_mono (unhide HQ).1 (Nat.le_trans hB (Nat.le_trans (Nat.le_of_lt (Nat.lt_of_le_of_lt hg hgl)) (Nat.le_refl _)))) (fun k hk hc => by have := (unhide HVB k hk).1; simp [Value.ownBlock] at hc; omega) h65)
    (fun e he => ⟨h63 e he, fun k hk hc => by
      have hk2 := unhide HVB k hk
      rcases List.mem_append.1 he with he | he
      · have := (unhide HE e he).lt hc; omega
      · rcases h64 e he k hc with h | h
        · simp [Value.ownBlock] at h; omega
        · omega⟩)
    (Nat.le_trans (Nat.le_trans hB (unhide HQ).2.size) h66.size) (by have := runLow_len l home; omega) (by simp; omega) (by omega))
  have HB6 := hide ((unhide HQ).2.mono hB |>.trans h66)
  have hl1 := h62
  clear hI1 h61 h62 h63 h64 h65 h66
  go_wp2_with fail
  refine (unhide hI2).mono ?_
  rintro e w7 ⟨rfl, new2, v2, h71, h72, h73, h74, h75, h76⟩
  have HF : Hid (HeldAt B w7 b (N + 2) (ents ++ (new1 ++ new2)) v2 ∧ (new1 ++ new2).length = 8 ∧ (∀ e ∈ ents ++ (new1 ++ new2), EntOk w7 e) ∧ Below B w w7) :=
    ⟨by rw [← List.append_assoc]; exact h71, by simp [hl1, h72], by rw [← List.append_assoc]; exact h73, (unhide HB6).trans h76⟩
  clear hI2 h71 h72 h73 h74 h75 h76
  go_wp2_with (go_at_call 37; refine (num_law _ _).mono ?_; rintro e w' ⟨rfl, rfl⟩)
  go_ret
  exact ⟨by simp, new1 ++ new2, v2, unhide HF⟩
end Go.Proofs.YtfaljekgpnbmiaaGreat

/-
  Contract of the statement's own dry.
-/
namespace Go.Proofs.YtfaljekgpnbmiaaGreat
open Go.RowKit

theorem entCellsH_get (ents : List (Value × Int)) : ∀ k, (h : k < ents.length) → (entCellsH ents)[2 * k]? = some ents[k].1 ∧ (entCellsH ents)[2 * k + 1]? = some (intV ents[k].2) := by
  induction ents with
  | nil => intro k h; simp at h
  | cons e r ih =>
    intro k h
    cases k with
    | zero => exact ⟨rfl, rfl⟩
    | succ k =>
      have := ih k (by simpa using h)
      have e1 : 2 * (k + 1) = 2 * k + 2 := by omega
      rw [e1]
      exact this
theorem held_get {B : Nat} {w : World} {b N : Nat} {ents : List (Value × Int)} {va : Option Addr} {vn vc : Nat} (h : HeldAt B w b N ents (.slice va vn vc)) (k : Nat) (hk : k < ents.length) : ∃ g, va = some ⟨g, 0, none⟩ ∧ w.cell? ⟨g, k * 2, none⟩ = some ents[k].1 ∧ w.cell? ⟨g, k * 2 + 1, none⟩ = some (.int .i64 ents[k].2) := by
  rcases h.own.2 with ⟨_, hn⟩ | ⟨g, cap, cur, he, hb, hgg, hle, hm, hcs, htk⟩
  · omega
  · injection he with e1 _ _
    obtain ⟨c1, c2⟩ := entCellsH_get ents k hk
    rw [Nat.mul_comm] at c1 c2
    rw [← htk] at c1 c2
    refine ⟨g, e1, ?_, ?_⟩
    · rw [cellsOf hgg, ← Array.getElem?_toList]
      rw [List.getElem?_take, if_pos (by omega)] at c1; exact c1
    · rw [cellsOf hgg, ← Array.getElem?_toList]
      rw [List.getElem?_take, if_pos (by omega)] at c2; exact c2

set_option maxRecDepth 100000 in
set_option maxHeartbeats 4000000 in
theorem dry_law {B : Nat} {w : World} {b N : Nat} {ents : List (Value × Int)} {v0 : Value} (hH : HeldAt B w b N ents v0) (hE : ∀ e ∈ ents, EntOk w e) (hn : ents.length ≤ 100) :
    Calls Tryz.prog 14 #[.pointer (some ⟨b, 0, none⟩)] w fun e w' => e = .returned (.bool true) ∧ Below w.heap.size w w' := by
  obtain ⟨va, vc, rfl⟩ := slice_shape hH.own
  have HH := hide hH
  have HE := hide hE
  obtain ⟨T, hT⟩ : ∃ T : Nat, T = ents.length := ⟨_, rfl⟩
  rw [← hT] at HH hn
  have HT := hide hT
  clear hH hE hT
  go_enter Tryz.func14, Tryz.ntmps14
  go_wp2
  go_loopw [3] (fun i wr => ∃ k : Nat, k ≤ T ∧ i = .int .i64 k ∧ Hid (Below w.heap.size w wr)) (fun i _ => T - (intOf i).toNat)
  case atStart => exact ⟨0, by omega, rfl, Below.refl _ _⟩
  case round =>
    obtain ⟨k, hk, rfl, hh⟩ := hrel
    have hHr := (unhide HH).below (unhide hh)
    have c1 : wr.cell? ⟨b, 1, none⟩ = some (.slice va T vc) := by rw [cellsOf hHr.blk]; rfl
    have c2 : wr.cell? ⟨b, 2, none⟩ = some (.slice none 0 0) := by rw [cellsOf hHr.blk]; rfl
    have c3 : wr.cell? ⟨b, 3, none⟩ = some (.slice none 0 0) := by rw [cellsOf hHr.blk]; rfl
    by_cases hlt : k < T
    · have hke : k < ents.length := by have := unhide HT; omega
      obtain ⟨g, rfl, d1, d2⟩ := held_get hHr k hke
      have hok := (unhide HE ents[k] (List.getElem_mem hke)).keepT (.of_below (unhide hh))
      generalize ents[k] = en at *
      obtain ⟨ev, n⟩ := en
      obtain ⟨m, hev⟩ := hok
      simp only at d1 d2 hev
      obtain ⟨ea, ec, rfl, hec⟩ := ints_shape hev
      rw [List.length_replicate] at d1 hev
      have hmm : m ≤ maxLen := by
        rcases hev.2 with ⟨_, h0⟩ | ⟨_, cap, _, _, _, _, h1, h2, _⟩
        · simp at h0; omega
        · simp at h1; omega
      unfold maxLen at hmm
      have hI := hide ((ints_own hev).below ((Below.refl _ _).alloc (Nat.le_refl _) (.cells #[.slice ea m ec, .int .i64 n] 78)))
      have x0 : (wr.alloc (.cells #[.slice ea m ec, .int .i64 n] 78)).cell? ⟨wr.heap.size, 0, none⟩ = some (.slice ea m ec) := by rw [cellsOf (heap_alloc_new wr _)]; rfl
      have x1 : (wr.alloc (.cells #[.slice ea m ec, .int .i64 n] 78)).cell? ⟨wr.heap.size, 1, none⟩ = some (.int .i64 n) := by rw [cellsOf (heap_alloc_new wr _)]; rfl
      have HB : Hid (∀ q, Below w.heap.size w ((wr.alloc (.cells #[.slice ea m ec, .int .i64 n] 78)).drewN q)) := fun q => below_drewN ((unhide hh).alloc (unhide hh).size _) q
      clear hh hev hHr
      obtain ⟨wv, hwv⟩ : ∃ wv : World, wv = wr := ⟨wr, rfl⟩
      subst hwv
      go_wp2
      go_loopw [5] (fun i wr => ∃ (j q : Nat), j ≤ m ∧ i = .int .i64 j ∧ wr = (wv.alloc (.cells #[.slice ea m ec, .int .i64 n] 78)).drewN q) (fun i _ => m - (intOf i).toNat)
      case atStart => exact ⟨0, 0, by omega, rfl, rfl⟩
      case round =>
        obtain ⟨j, q, hj, rfl, rfl⟩ := hrel
        by_cases hjm : j < m
        · obtain ⟨b1, o1, rfl, y1⟩ := ints_get (unhide hI) j (by simpa using hjm)
          have y2 : (wv.alloc (.cells #[.slice (some ⟨b1, o1, none⟩) m ec, .int .i64 n] 78)).cell? ⟨b1, o1 + j, none⟩ = some (.int .i64 n) := by
            simpa using y1
          go_wp2
          go_quiet (fail)
          go_wp2
          go_roundw
          case rel => exact ⟨j + 1, _, by omega, by go_num, rfl⟩
          case measure => simp [intOf]; omega
        · go_wp2
          go_roundw
          case rel => exact ⟨k + 1, by omega, by go_num, unhide HB _⟩
          case measure => simp [intOf]; omega
    · have HB : Hid (Below w.heap.size w wr) := hh
      clear hh hHr
      obtain ⟨wv, hwv⟩ : ∃ wv : World, wv = wr := ⟨wr, rfl⟩
      subst hwv
      go_wp2
      go_loopw [6] (fun i wr => i = .int .i64 0 ∧ wr = wv) (fun _ _ => 0)
      case atStart => exact ⟨rfl, rfl⟩
      case round =>
        obtain ⟨rfl, hw6⟩ := hrel
        rw [hw6]
        clear hw6 wr
        go_wp2
        go_loopw [9] (fun i wr => i = .int .i64 0 ∧ wr = wv) (fun _ _ => 0)
        case atStart => exact ⟨rfl, rfl⟩
        case round =>
          obtain ⟨rfl, hw9⟩ := hrel
          rw [hw9]
          clear hw9 wr
          go_wp2
          go_ret
          exact ⟨rfl, unhide HB⟩
end Go.Proofs.YtfaljekgpnbmiaaGreat
