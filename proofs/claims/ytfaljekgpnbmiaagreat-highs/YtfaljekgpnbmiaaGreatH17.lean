/- Joined: High3. -/
import Derived.Test.YtfaljekgpnbmiaaGreatH16
/-
  The contract of package high's table.
-/
namespace Go.Proofs.YtfaljekgpnbmiaaGreat
open Go.RowKit

theorem bandR_bd (least : Int) (r : Pl.RdM) (p : Int × Int) (r1 : Pl.RdM) (h : Pl.bandR least r = (some p, r1)) : least ≤ p.1 ∧ p.1 ≤ 1000000000 := by
  unfold Pl.bandR at h
  split at h
  · cases h
  · rename_i hn
    split at h
    · cases h
    · cases h; exact (Pl.num_some hn).2
theorem bandR_pos (least : Int) (r : Pl.RdM) : { r with pos := (Pl.bandR least r).2.pos } = (Pl.bandR least r).2 := by
  unfold Pl.bandR
  split
  · rfl
  · split
    · exact skip_eq r
    · show { r with pos := r.skip.skip.pos } = r.skip.skip
      rw [← skip_eq r.skip, ← skip_eq r]
theorem BandsOwn.grown {B : Nat} {w1 : World} {v' : Value} {l : List (Int × Int)} {p : Int × Int} (h : w1.ownsRow B 312 2 v' (l.length + 1) (spanCells l ++ [intV p.1, intV p.2])) : BandsOwn B w1 v' (l ++ [p]) := by
  unfold BandsOwn; rw [spanCells_snoc, List.length_append]; exact h
theorem Moves.alloc {b p : Nat} {w w' : World} (m : Moves b p w w') (hb : b < w.heap.size) (o : Obj) : Moves b p w (w'.alloc o) := by
  obtain ⟨o1, vi, vn, vo, vx, vy, vt, ve, q, T, e1, e2⟩ := m
  have hs := o1.size
  refine ⟨⟨o1.os, o1.tape, o1.output, by simp; omega, fun k hk hne => by rw [Below.heap_alloc _ _ _ (by omega)]; exact o1.block k hk hne⟩, _, _, _, _, _, _, _, _, _, e1, ?_⟩
  rw [Below.heap_alloc _ _ _ (by omega)]; exact e2
theorem Moves.grown {b p : Nat} {w w' w2 : World} {e : TypeId} {size n : Nat} {v : Value} {xs : List Value} (m : Moves b p w w') (hb : b < w.heap.size) (ho : w'.ownsRow w.heap.size e size v n xs) (hg : w'.grownBy w2 v.ownBlock) : Moves b p w w2 := by
  obtain ⟨o1, vi, vn, vo, vx, vy, vt, ve, q, T, e1, e2⟩ := m
  have hs := o1.size
  have hk : ∀ k : Nat, k < w.heap.size → w2.heap[k]? = w'.heap[k]? := fun k hk => hg.block k (by omega) (fun e => by have := (ho.lt k e.symm).1; omega)
  exact ⟨⟨hg.os.trans o1.os, hg.tape.trans o1.tape, hg.output.trans o1.output, Nat.le_trans hs hg.size, fun k h1 hne => (hk k h1).trans (o1.block k h1 hne)⟩, _, _, _, _, _, _, _, _, _, e1, (hk b hb).trans e2⟩
theorem Moves.keepBand {b p : Nat} {w w' : World} {B : Nat} {r : Pl.RdM} (m : Moves b p w w') (h : Rd B w b r) : KeepT 312 w w' := by
  obtain ⟨vi, vn, vo, vt, ve, bvs, vx, vy, lx, ly, h, hnm⟩ := h
  exact KeepT.only m.only h.blk (by decide)

section
variable {f : Pl.RdM → Option Int × Pl.RdM} {lo : Nat}

set_option maxRecDepth 100000 in
set_option maxHeartbeats 2000000 in
theorem table_any (E : ReadC 249 f lo) (hk : ∀ r, Pl.Keeps r (f r).2) {B : Nat} {w : World} {b : Nat} {r : Pl.RdM} {s : Nat} (h : Rd B w b r) (ok : Pl.Ok s r) (hp : r.peek ≠ []) (hl : lo ≤ r.pos + 1) :
    Calls Tryz.prog 326 #[.pointer (some ⟨b, 0, none⟩)] w fun e w' => e = .returned (optV (Pl.tableR f r.skip).1) ∧ Rd B w' b (Pl.tableR f r.skip).2 ∧ Below B w w' := by
  obtain ⟨i0, hi, hz0, hz1, hz2⟩ := info_parts Tryz.infoBand
  have ok1 := ok.step hp
  have hl1 : lo ≤ r.skip.pos := by rw [(Pl.skip_of hp).1]; exact hl
  have hpos := ok.pos
  generalize hT : Pl.tableR f r.skip = T
  cases hf1 : f r.skip with
  | mk o r1 =>
  cases o with
  | none =>
    rw [Pl.tableR, hf1] at hT
    subst hT
    go_enter Tryz.func326, Tryz.ntmps326
    go_wp2_with fail
    refine (Skip_any h hpos).mono ?_
    rintro e w1 ⟨rfl, hrw1, hbw1⟩
    go_wp2_with fail
    refine (E.no hrw1 ok1 hl1 hf1).mono ?_
    rintro e w2 ⟨rfl, hrw2, hbw2⟩
    have HH : Hid (Rd B w2 b r1 ∧ Below B w w2) := ⟨hrw2, (hbw1.trans hbw2)⟩
    clear hrw1 hbw1 hrw2 hbw2 h
    go_wp2
    go_ret2
    exact ⟨rfl, HH.out.1, HH.out.2⟩
  | some a =>
    have k1 := keeps_of hk hf1
    have ok2 := k1.ok _ ok1
    cases hn : r1.num 1 6 with
    | none =>
      simp only [Pl.tableR, hf1, hn] at hT
      subst hT
      go_enter Tryz.func326, Tryz.ntmps326
      go_wp2_with fail
      refine (Skip_any h hpos).mono ?_
      rintro e w1 ⟨rfl, hrw1, hbw1⟩
      go_wp2_with fail
      refine (E.yes hrw1 ok1 hl1 hf1).mono ?_
      rintro e w2 ⟨rfl, hrw2, hbw2⟩
      go_wp2_with fail
      refine (RNum_no hrw2 ok2.pos ok2.peek_len _ _ hn).mono ?_
      rintro e w3 ⟨rfl, hrw3, hbw3⟩
      have HH : Hid (Rd B w3 b r1 ∧ Below B w w3) := ⟨hrw3, ((hbw1.trans hbw2).trans hbw3)⟩
      clear hrw1 hbw1 hrw2 hbw2 hrw3 hbw3 h
      go_wp2
      go_ret2
      exact ⟨rfl, HH.out.1, HH.out.2⟩
    | some n =>
      have ok3 := ok2.skip
      obtain ⟨_, hn1, hn2⟩ := Pl.num_some hn
      obtain ⟨N, rfl⟩ := Int.eq_ofNat_of_zero_le (show 0 ≤ n by omega)
      simp only [Pl.tableR, hf1, hn, Int.toNat_natCast] at hT
      generalize hR : Pl.bandsR N (-1000000000) [] r1.skip = R at hT
      have HT : Hid (∀ o r2, R = (o, r2) → T = match o with | none => (none, r2) | some l => (some r2.nodes.length, r2.addNode ⟨12, a, 0, 0, 0, l⟩)) := by
        intro o r2 e
        rw [e] at hT
        cases o <;> exact hT.symm
      clear hT
      have hR' : Hid (Pl.bandsR N (-1000000000) [] r1.skip = R) := hR
      have Hn : Hid (r1.num 1 6 = some (N : Int)) := hn
      clear hR hn
      go_enter Tryz.func326, Tryz.ntmps326
      go_wp2_with fail
      refine (Skip_any h hpos).mono ?_
      rintro e w1 ⟨rfl, hrw1, hbw1⟩
      go_wp2_with fail
      refine (E.yes hrw1 ok1 hl1 hf1).mono ?_
      rintro e w2 ⟨rfl, hrw2, hbw2⟩
      go_wp2_with fail
      refine (RNum_yes hrw2 ok2.pos ok2.peek_len _ _ N Hn.out).mono ?_
      rintro e w3 ⟨rfl, hrw3, hbw3⟩
      have HB3 : Hid (Below B w w3) := (hbw1.trans hbw2).trans hbw3
      have HR3 : Hid (Rd B w3 b r1.skip) := hrw3
      have hbd := hrw3.bd
      clear hrw1 hbw1 hrw2 hbw2 hbw3 h hrw3
      go_wp2
      go_loopw [7, 8, 9] (fun v l i wr => ∃ (k : Nat) (least : Int) (acc : List (Int × Int)) (rk : Pl.RdM), k ≤ N ∧ acc.length = k ∧ i = .int .i64 k ∧ l = .int .i64 least ∧ -1000000000 ≤ least ∧ least ≤ 1000000001 ∧ BandsOwn w3.heap.size wr v acc ∧ Moves b rk.pos w3 wr ∧ Hid (rk = { r1.skip with pos := rk.pos } ∧ Pl.Ok (s + 1) rk ∧ Pl.bandsR (N - k) least acc rk = R)) (fun _ _ i _ => N - (intOf i).toNat)
      case atStart => exact ⟨0, -1000000000, [], r1.skip, by omega, rfl, rfl, rfl, by omega, by omega, World.ownsRow_nil _ _ _ _, HR3.out.stays (Below.refl _ _), rfl, ok3, hR'.out⟩
      case round =>
        obtain ⟨k, least, acc, rk, hk, hacc, rfl, rfl, hle1, hle2, hown, hmv, hkk⟩ := hrel
        have hRk : Rd B wr b rk := by have := HR3.out.moves hmv; rw [← hkk.out.1] at this; exact this
        by_cases hlt : k < N
        · have hob := oneBand_any hRk hkk.out.2.1 least
          have hstep : Hid (Pl.bandsR (N - k) least acc rk = R) := hkk.out.2.2
          have hpk := bandR_pos least rk
          have hok := (Pl.bandR_keeps least rk).ok _ hkk.out.2.1
          cases hbr : Pl.bandR least rk with
          | mk o r4 =>
          rw [hbr] at hob hpk hok
          cases o with
          | none =>
            simp only [Option.getD_none, Option.isSome_none] at hob
            have hres : Hid (T = (none, r4)) := by
              have := hstep.out; rw [show N - k = (N - k - 1) + 1 by omega, Pl.bandsR, hbr] at this; exact HT.out _ _ this.symm
            go_wp2_with fail
            refine hob.mono ?_
            rintro e w5 ⟨rfl, hm5⟩
            have HH : Hid (∀ x, Rd B (w5.alloc x) b r4 ∧ Below B w (w5.alloc x)) := fun x => by
              have h5 := hRk.moves hm5
              rw [hpk] at h5
              exact ⟨h5.below ((Below.refl _ _).alloc (Nat.le_refl _) x), HB3.out.trans ((hmv.trans hm5).alloc hbd.2.2 x |>.only.below hbd.1 hbd.2.1)⟩
            clear hob hm5 hmv hown hRk hkk hpk hok hbr
            go_wp2_with fail
            go_ret2
            rw [hres.out]
            exact ⟨rfl, (HH.out _).1, (HH.out _).2⟩
          | some p =>
            obtain ⟨hp1, hp2⟩ := bandR_bd least rk p r4 hbr
            simp only [Option.getD_some, Option.isSome_some] at hob
            have hres : Hid (Pl.bandsR (N - (k + 1)) (p.1 + 1) (acc ++ [p]) r4 = R) := by
              have := hstep.out; rw [show N - k = (N - (k + 1)) + 1 by omega, Pl.bandsR, hbr] at this; exact this
            go_wp2_with fail
            refine hob.mono ?_
            rintro e w5 ⟨rfl, hm5⟩
            have hm6 := (((hmv.trans hm5).alloc hbd.2.2 (.cells #[.int .i64 p.1, .int .i64 p.2] 312)).alloc hbd.2.2 (.cells #[.int .i64 p.1, .int .i64 p.2] 312))
            have hown5 : BandsOwn w3.heap.size ((w5.alloc (.cells #[.int .i64 p.1, .int .i64 p.2] 312)).alloc (.cells #[.int .i64 p.1, .int .i64 p.2] 312)) _ acc := own_keep (own_keep (own_keep hown (hm5.keepBand hRk)) (KeepT.alloc _ _ _)) (KeepT.alloc _ _ _)
            have hs5 := (hmv.trans hm5).only.size
            have hlt5 : ∀ g, u7.ownBlock = some g → g < w5.heap.size := fun g hg => ((own_keep hown (hm5.keepBand hRk)).lt g hg).2
            have HK : Hid (r4 = { r1.skip with pos := r4.pos } ∧ Pl.Ok (s + 1) r4) := by
              refine ⟨?_, hok⟩
              have h1 := hkk.out.1
              rw [← hpk]
              rw [h1]
            clear hob hmv hown hRk hkk hpk hok hbr hm5 hstep
            go_wp2_with (at_builtin; refine wpList_append_lies _ rfl _ _ 192 rfl w3.heap.size 312 i0 (.agg #[.int .i64 0, .int .i64 0]) 2 16 Tryz.underlying192 hi hz0 hz1 hz2 rfl (by decide) _ _ _ rfl hown5 ⟨_, 0, none⟩ 1 1 [intV p.1, intV p.2] rfl rfl ?c1 (two_cell _ _ rfl rfl) (by decide) ?c3 ?c4 ?c5 _ rfl ?_)
            case c1 => exact news_far _ #[intV p.1, intV p.2] 312 (by have := heap_alloc_new (w5.alloc (.cells #[.int .i64 p.1, .int .i64 p.2] 312)) (.cells #[.int .i64 p.1, .int .i64 p.2] 312); simpa [intV] using this) rfl
            case c3 => unfold maxLen; omega
            case c4 => omega
            case c5 => simp; omega
            · intro g cap w6 hown6 hgrow6 _ _
              have hA : Hid (BandsOwn w3.heap.size w6 (.slice (some ⟨g, 0, none⟩) (k + 1) cap) (acc ++ [p])) := by
                have := BandsOwn.grown (l := acc) (by rw [hacc]; exact hown6); exact this
              have hM : Hid (Moves b r4.pos w3 w6) := hm6.grown hbd.2.2 hown5 hgrow6
              have hblk : w6.heap[w5.heap.size]? = some (.cells #[.int .i64 p.1, .int .i64 p.2] 312 (0, 0)) := by
                have e0 := heap_alloc_new w5 (.cells #[.int .i64 p.1, .int .i64 p.2] 312)
                have e1 := Below.heap_alloc (w5.alloc (.cells #[.int .i64 p.1, .int .i64 p.2] 312)) (.cells #[.int .i64 p.1, .int .i64 p.2] 312) w5.heap.size (by simp)
                rw [hgrow6.block w5.heap.size (by simp; omega) (fun e => ?_), e1, e0]
                have := hlt5 _ e.symm
                omega
              have hcf : w6.cell? ⟨w5.heap.size, 0, none⟩ = some (.int .i64 p.1) := by rw [cellsOf hblk]; rfl
              clear hown6 hgrow6 hm6 hown5 hblk
              go_wp2
              go_roundw
              case rel => exact ⟨k + 1, p.1 + 1, acc ++ [p], r4, by omega, by simp [hacc], by go_num, by go_num, by omega, by omega, hA.out, hM.out, HK.out.1, HK.out.2, hres.out⟩
              case measure => simp [intOf]; omega
        · have hkN : k = N := by omega
          have hres : Hid (T = (some (rk.nodes.length : Int), rk.addNode ⟨12, a, 0, 0, 0, acc⟩)) := by have := hkk.out.2.2; rw [hkN, Nat.sub_self, Pl.bandsR] at this; exact HT.out _ _ this.symm
          obtain ⟨ad, cp, rfl⟩ := slice_shape hown
          have hap := Append_any hRk ⟨12, a, 0, 0, 0, acc⟩ _ (own_mono hown hbd.2.1) (nodes_le hkk.out.2.1)
          have HB : Hid (Below B w wr) := HB3.out.trans (hmv.only.below hbd.1 hbd.2.1)
          clear hmv hown hRk hkk hkN hacc
          go_wp2_with fail
          refine hap.mono ?_
          rintro e w7 ⟨rfl, hr7, hb7⟩
          have HH : Hid (Rd B w7 b (rk.addNode ⟨12, a, 0, 0, 0, acc⟩) ∧ Below B w w7) := ⟨hr7, HB.out.trans hb7⟩
          clear hap hr7 hb7
          go_wp2_with fail
          go_ret2
          rw [hres.out]
          exact ⟨rfl, HH.out.1, HH.out.2⟩
end
end Go.Proofs.YtfaljekgpnbmiaaGreat
