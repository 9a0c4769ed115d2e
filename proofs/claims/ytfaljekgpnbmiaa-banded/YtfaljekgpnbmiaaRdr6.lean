/-
  Contracts of the reader's known, Argument and Flag, as steps of the plain reader.
-/
import Derived.Test.YtfaljekgpnbmiaaRdr5
import Derived.Test.YtfaljekgpnbmiaaPlainHigh
namespace Go.Proofs.Ytfaljekgpnbmiaa
open Go.RowKit

def optV (o : Option Int) : Value := .tuple #[.int .i64 (o.getD 0), .bool o.isSome]

set_option maxHeartbeats 400000 in
theorem known_some {B : Nat} {w : World} {b : Nat} {r : Pl.RdM} (h : Rd B w b r) (hp : r.pos ≤ 600) (hn : r.ents.length ≤ 1000) (kd m : Int) (hk : r.known kd = some m) :
    Calls Try.prog 147 #[.pointer (some ⟨b, 0, none⟩), .int .i64 kd] w fun e w' => e = .returned (.tuple #[.int .i64 m, .bool true]) ∧ Rd B w' b r.skip ∧ Below B w w' := by
  have hpc := Peek_any h hp
  have hf := fun n t => find_any (h.drewN n) t hn
  have h1 : Hid (∀ n, Rd B (w.drewN n) b r) := h.drewN
  have hb1 : Hid (∀ n, Below B w (w.drewN n)) := fun n => below_drewN (Below.refl B w) n
  obtain ⟨vi, vn, vo, vt, ve, bvs, vx, vy, lx, ly, h, hnm⟩ := h
  have c5 : w.cell? ⟨b, 7, none⟩ = some ve := by rw [cellsOf h.blk]; rfl
  obtain ⟨ad, cap, rfl, hcell⟩ := ents_shape h.ents
  unfold Pl.RdM.known at hk
  generalize r.peek = t at *
  generalize hfe : Pl.findEnt r.ents t = k at *
  have hf' : Hid (∀ n : Nat, Calls Try.prog 133 #[.pointer (some ⟨b, 0, none⟩), .string ⟨t.toArray⟩] (w.drewN n) fun e w' => e = .returned (.int .i64 k) ∧ w' = w.drewN n) := fun n => by
    have := hf n t; rw [hfe] at this; exact this
  clear h hf hfe
  have hlt : k < r.ents.length := by
    by_cases hlt : k < r.ents.length
    · exact hlt
    · rw [List.getElem?_eq_none (by omega)] at hk; cases hk
  rw [List.getElem?_eq_getElem hlt] at hk
  have hm : r.ents[k].2.1 = kd ∧ r.ents[k].2.2 = m := by simp only at hk; split at hk <;> simp_all
  obtain ⟨g, rfl, _, hc, _⟩ := hcell k hlt
  have hse : r.skip.ents = r.ents := (Pl.Keeps.skip r).ents
  have hm' : Hid (r.ents[k].2.2 = m) := hm.2
  rw [hm.1] at hc
  have hd : decide ((r.ents.length : Int) ≤ k) = false := by simp; omega
  have hse' : Hid (r.skip.ents = r.ents) := hse
  clear hcell hk hm hse
  go_enter Try.func147, Try.ntmps147
  go_wp2_with fail
  refine hpc.mono ?_
  rintro e w' ⟨rfl, n, rfl⟩
  unfold strV
  go_wp2_with fail
  refine (hf'.out n).mono ?_
  rintro e w' ⟨rfl, rfl⟩
  clear hpc hf'
  go_wp2_with fail
  refine (Skip_any (h1.out n) hp).mono ?_
  rintro e w2 ⟨rfl, hr, hbb⟩
  have hr' : Hid (Rd B w2 b r.skip ∧ Below B w w2) := ⟨hr, (hb1.out n).trans hbb⟩
  obtain ⟨vi2, vn2, vo2, vt2, ve2, bvs2, vx2, vy2, lx2, ly2, h2, _⟩ := hr
  have d5 : w2.cell? ⟨b, 7, none⟩ = some ve2 := by rw [cellsOf h2.blk]; rfl
  have h2e := h2.ents
  rw [hse'.out] at h2e
  obtain ⟨ad2, cap2, rfl, hcell2⟩ := ents_shape h2e
  obtain ⟨g2, rfl, _, _, hc2⟩ := hcell2 k hlt
  rw [hm'.out] at hc2
  clear hcell2 h2 h2e hbb h1 hb1 hc c5
  go_wp2
  go_ret2
  exact ⟨rfl, hr'.out.1, hr'.out.2⟩

theorem known_any {B : Nat} {w : World} {b : Nat} {r : Pl.RdM} {s : Nat} (h : Rd B w b r) (ok : Pl.Ok s r) (kd : Int) :
    Calls Try.prog 147 #[.pointer (some ⟨b, 0, none⟩), .int .i64 kd] w fun e w' => e = .returned (optV (r.knownStep kd).1) ∧ Rd B w' b (r.knownStep kd).2 ∧ Below B w w' := by
  have h1 := ok.size
  have h2 := ok.pos
  have h3 : r.ents.length ≤ 1000 := by unfold Pl.RdM.sz at h1; omega
  cases hk : r.known kd with
  | none => unfold Pl.RdM.knownStep; rw [hk]; exact known_none h h2 h3 kd hk
  | some m => unfold Pl.RdM.knownStep; rw [hk]; exact known_some h h2 h3 kd m hk

set_option maxHeartbeats 400000 in
theorem Argument_any {B : Nat} {w : World} {b : Nat} {r : Pl.RdM} {s : Nat} (h : Rd B w b r) (ok : Pl.Ok s r) :
    Calls Try.prog 108 #[.pointer (some ⟨b, 0, none⟩)] w fun e w' => e = .returned (optV r.leaf.1) ∧ Rd B w' b r.leaf.2 ∧ Below B w w' := by
  have h1 := ok.size
  have h2 := ok.pos
  have h3 : r.nodes.length ≤ 1000 := by unfold Pl.RdM.sz at h1; omega
  have h4 := ok.peek_len
  cases hk : r.num (-1000000000) 1000000000 with
  | none =>
    have hc := RNum_no h h2 h4 _ _ hk
    have hL : r.leaf = r.knownStep 0 := by unfold Pl.RdM.leaf Pl.RdM.constant; rw [hk]
    rw [hL]
    have hK := fun (w' : World) (h' : Rd B w' b r) => known_any h' ok 0
    generalize r.knownStep 0 = T at *
    unfold optV at hK ⊢
    clear hL
    go_enter Try.func108, Try.ntmps108
    go_wp2_with fail
    refine hc.mono ?_
    rintro e w2 ⟨rfl, hr, hbb⟩
    clear hc
    have hK2 := hK _ hr
    clear hr h hK
    go_wp2_with fail
    refine hK2.mono ?_
    rintro e w3 ⟨rfl, hr3, hb3⟩
    have HH : Hid (Rd B w3 b T.2 ∧ Below B w w3) := ⟨hr3, hbb.trans hb3⟩
    clear hr3 hb3 hK2 hbb
    go_wp2_with fail
    go_ret2
    exact ⟨rfl, HH.out.1, HH.out.2⟩
  | some m =>
    have hc := RNum_yes h h2 h4 _ _ m hk
    have hL : r.leaf = (some (r.nodes.length : Int), r.skip.addNode ⟨0, 0, 0, 0, m, []⟩) := by unfold Pl.RdM.leaf Pl.RdM.constant; rw [hk]
    rw [hL]
    unfold optV
    clear hL
    go_enter Try.func108, Try.ntmps108
    go_wp2_with fail
    refine hc.mono ?_
    rintro e w2 ⟨rfl, hr, hbb⟩
    clear hc
    have e1 : r.skip.nodes = r.nodes := by unfold Pl.RdM.skip; split <;> rfl
    have ha := Append_any hr ⟨0, 0, 0, 0, m, []⟩ (.slice none 0 0) (World.ownsRow_nil _ _ _ _) (by rw [e1]; exact h3)
    rw [e1] at ha
    go_wp2_with fail
    refine ha.mono ?_
    rintro e w3 ⟨rfl, hr3, hb3⟩
    have hr' : Hid (Rd B w3 b (r.skip.addNode ⟨0, 0, 0, 0, m, []⟩) ∧ Below B w w3) := ⟨hr3, hbb.trans hb3⟩
    clear hr hbb h ha hr3 hb3
    go_wp2
    go_ret2
    exact ⟨rfl, hr'.out.1, hr'.out.2⟩
end Go.Proofs.Ytfaljekgpnbmiaa
