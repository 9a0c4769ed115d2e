/- Joined: High1 High2. -/
import Derived.Test.YtfaljekgpnbmiaaGreatH15
/-
  Contracts of package high's readers that take expressions or conditions, given those of expression and condition at what is left of the text.
-/
namespace Go.Proofs.YtfaljekgpnbmiaaGreat
open Go.RowKit

/-- The function fn reads as the plain function f does, from the token lo on. -/
def ReadC (fn : Nat) (f : Pl.RdM → Option Int × Pl.RdM) (lo : Nat) : Prop :=
  ∀ (B : Nat) (w : World) (b : Nat) (r : Pl.RdM) (s : Nat), Rd B w b r → Pl.Ok s r → lo ≤ r.pos →
    Calls Tryz.prog fn #[.pointer (some ⟨b, 0, none⟩)] w fun e w' => e = .returned (optV (f r).1) ∧ Rd B w' b (f r).2 ∧ Below B w w'
theorem ReadC.no {fn : Nat} {f : Pl.RdM → Option Int × Pl.RdM} {lo : Nat} (E : ReadC fn f lo) {B : Nat} {w : World} {b : Nat} {r r1 : Pl.RdM} {s : Nat} (h : Rd B w b r) (ok : Pl.Ok s r) (hl : lo ≤ r.pos) (hf : f r = (none, r1)) :
    Calls Tryz.prog fn #[.pointer (some ⟨b, 0, none⟩)] w fun e w' => e = .returned (.tuple #[.int .i64 0, .bool false]) ∧ Rd B w' b r1 ∧ Below B w w' := by
  have := E B w b r s h ok hl; rw [hf] at this; exact this
theorem ReadC.yes {fn : Nat} {f : Pl.RdM → Option Int × Pl.RdM} {lo : Nat} (E : ReadC fn f lo) {B : Nat} {w : World} {b : Nat} {r r1 : Pl.RdM} {s : Nat} {a : Int} (h : Rd B w b r) (ok : Pl.Ok s r) (hl : lo ≤ r.pos) (hf : f r = (some a, r1)) :
    Calls Tryz.prog fn #[.pointer (some ⟨b, 0, none⟩)] w fun e w' => e = .returned (.tuple #[.int .i64 a, .bool true]) ∧ Rd B w' b r1 ∧ Below B w w' := by
  have := E B w b r s h ok hl; rw [hf] at this; exact this
theorem nodes_le {s : Nat} {r : Pl.RdM} (ok : Pl.Ok s r) : r.nodes.length ≤ 1000 := by
  have h1 := ok.size
  have h2 := ok.pos
  unfold Pl.RdM.sz at h1; omega
theorem keeps_of {f : Pl.RdM → Option Int × Pl.RdM} (hk : ∀ r, Pl.Keeps r (f r).2) {r r1 : Pl.RdM} {o : Option Int} (e : f r = (o, r1)) : Pl.Keeps r r1 := by have := hk r; rw [e] at this; exact this

section
variable {f g : Pl.RdM → Option Int × Pl.RdM} {lo : Nat}

set_option maxHeartbeats 1000000 in
theorem pair_any (hk : ∀ r, Pl.Keeps r (f r).2) (E : ReadC 249 f lo) {B : Nat} {w : World} {b : Nat} {r : Pl.RdM} {s : Nat} (h : Rd B w b r) (ok : Pl.Ok s r) (hp : r.peek ≠ []) (hl : lo ≤ r.pos + 1) (op : Int) :
    Calls Tryz.prog 322 #[.pointer (some ⟨b, 0, none⟩), .int .i64 op] w fun e w' => e = .returned (optV (Pl.pairR f op r.skip).1) ∧ Rd B w' b (Pl.pairR f op r.skip).2 ∧ Below B w w' := by
  have ok1 := ok.step hp
  have hl1 : lo ≤ r.skip.pos := by rw [(Pl.skip_of hp).1]; exact hl
  have hpos := ok.pos
  unfold Pl.pairR
  cases hf1 : f r.skip with
  | mk o r1 =>
  cases o with
  | none =>
    go_enter Tryz.func322, Tryz.ntmps322
    go_wp2_with fail
    refine (Skip_any h hpos).mono ?_
    rintro e w1 ⟨rfl, hrw1, hbw1⟩
    go_wp2_with fail
    refine (E.no hrw1 ok1 hl1 hf1).mono ?_
    rintro e w2 ⟨rfl, hrw2, hbw2⟩
    have HH : Hid (Rd B w2 b r1 ∧ Below B w w2) := ⟨hrw2, (hbw1.trans hbw2)⟩
    clear hrw1 hbw1 hrw2 hbw2 h
    go_wp2
    go_ret2
    exact ⟨rfl, HH.out.1, HH.out.2⟩
  | some a =>
    have k1 := keeps_of hk hf1
    have ok2 := k1.ok _ ok1
    have hl2 : lo ≤ r1.pos := Nat.le_trans hl1 k1.pos
    simp only [Pl.oneR]
    cases hf2 : f r1 with
    | mk o r2 =>
    cases o with
    | none =>
      go_enter Tryz.func322, Tryz.ntmps322
      go_wp2_with fail
      refine (Skip_any h hpos).mono ?_
      rintro e w1 ⟨rfl, hrw1, hbw1⟩
      go_wp2_with fail
      refine (E.yes hrw1 ok1 hl1 hf1).mono ?_
      rintro e w2 ⟨rfl, hrw2, hbw2⟩
      go_wp2_with fail
      refine (E.no hrw2 ok2 hl2 hf2).mono ?_
      rintro e w3 ⟨rfl, hrw3, hbw3⟩
      have HH : Hid (Rd B w3 b r2 ∧ Below B w w3) := ⟨hrw3, ((hbw1.trans hbw2).trans hbw3)⟩
      clear hrw1 hbw1 hrw2 hbw2 hrw3 hbw3 h
      go_wp2
      go_ret2
      exact ⟨rfl, HH.out.1, HH.out.2⟩
    | some c =>
      have k2 := keeps_of hk hf2
      have ok3 := k2.ok _ ok2
      go_enter Tryz.func322, Tryz.ntmps322
      go_wp2_with fail
      refine (Skip_any h hpos).mono ?_
      rintro e w1 ⟨rfl, hrw1, hbw1⟩
      go_wp2_with fail
      refine (E.yes hrw1 ok1 hl1 hf1).mono ?_
      rintro e w2 ⟨rfl, hrw2, hbw2⟩
      go_wp2_with fail
      refine (E.yes hrw2 ok2 hl2 hf2).mono ?_
      rintro e w3 ⟨rfl, hrw3, hbw3⟩
      go_wp2_with fail
      refine (Append_any hrw3 ⟨op, a, c, 0, 0, []⟩ (.slice none 0 0) (World.ownsRow_nil _ _ _ _) (nodes_le ok3)).mono ?_
      rintro e w4 ⟨rfl, hrw4, hbw4⟩
      have HH : Hid (Rd B w4 b (r2.addNode ⟨op, a, c, 0, 0, []⟩) ∧ Below B w w4) := ⟨hrw4, (((hbw1.trans hbw2).trans hbw3).trans hbw4)⟩
      clear hrw1 hbw1 hrw2 hbw2 hrw3 hbw3 hrw4 hbw4 h
      go_wp2
      go_ret2
      exact ⟨rfl, HH.out.1, HH.out.2⟩

set_option maxHeartbeats 1000000 in
theorem joint_any (hk : ∀ r, Pl.Keeps r (g r).2) (E : ReadC 394 g lo) {B : Nat} {w : World} {b : Nat} {r : Pl.RdM} {s : Nat} (h : Rd B w b r) (ok : Pl.Ok s r) (hp : r.peek ≠ []) (hl : lo ≤ r.pos + 1) (op : Int) :
    Calls Tryz.prog 423 #[.pointer (some ⟨b, 0, none⟩), .int .i64 op] w fun e w' => e = .returned (optV (Pl.pairR g op r.skip).1) ∧ Rd B w' b (Pl.pairR g op r.skip).2 ∧ Below B w w' := by
  have ok1 := ok.step hp
  have hl1 : lo ≤ r.skip.pos := by rw [(Pl.skip_of hp).1]; exact hl
  have hpos := ok.pos
  unfold Pl.pairR
  cases hf1 : g r.skip with
  | mk o r1 =>
  cases o with
  | none =>
    go_enter Tryz.func423, Tryz.ntmps423
    go_wp2_with fail
    refine (Skip_any h hpos).mono ?_
    rintro e w1 ⟨rfl, hrw1, hbw1⟩
    go_wp2_with fail
    refine (E.no hrw1 ok1 hl1 hf1).mono ?_
    rintro e w2 ⟨rfl, hrw2, hbw2⟩
    have HH : Hid (Rd B w2 b r1 ∧ Below B w w2) := ⟨hrw2, (hbw1.trans hbw2)⟩
    clear hrw1 hbw1 hrw2 hbw2 h
    go_wp2
    go_ret2
    exact ⟨rfl, HH.out.1, HH.out.2⟩
  | some a =>
    have k1 := keeps_of hk hf1
    have ok2 := k1.ok _ ok1
    have hl2 : lo ≤ r1.pos := Nat.le_trans hl1 k1.pos
    simp only [Pl.oneR]
    cases hf2 : g r1 with
    | mk o r2 =>
    cases o with
    | none =>
      go_enter Tryz.func423, Tryz.ntmps423
      go_wp2_with fail
      refine (Skip_any h hpos).mono ?_
      rintro e w1 ⟨rfl, hrw1, hbw1⟩
      go_wp2_with fail
      refine (E.yes hrw1 ok1 hl1 hf1).mono ?_
      rintro e w2 ⟨rfl, hrw2, hbw2⟩
      go_wp2_with fail
      refine (E.no hrw2 ok2 hl2 hf2).mono ?_
      rintro e w3 ⟨rfl, hrw3, hbw3⟩
      have HH : Hid (Rd B w3 b r2 ∧ Below B w w3) := ⟨hrw3, ((hbw1.trans hbw2).trans hbw3)⟩
      clear hrw1 hbw1 hrw2 hbw2 hrw3 hbw3 h
      go_wp2
      go_ret2
      exact ⟨rfl, HH.out.1, HH.out.2⟩
    | some c =>
      have k2 := keeps_of hk hf2
      have ok3 := k2.ok _ ok2
      go_enter Tryz.func423, Tryz.ntmps423
      go_wp2_with fail
      refine (Skip_any h hpos).mono ?_
      rintro e w1 ⟨rfl, hrw1, hbw1⟩
      go_wp2_with fail
      refine (E.yes hrw1 ok1 hl1 hf1).mono ?_
      rintro e w2 ⟨rfl, hrw2, hbw2⟩
      go_wp2_with fail
      refine (E.yes hrw2 ok2 hl2 hf2).mono ?_
      rintro e w3 ⟨rfl, hrw3, hbw3⟩
      go_wp2_with fail
      refine (Append_any hrw3 ⟨op, a, c, 0, 0, []⟩ (.slice none 0 0) (World.ownsRow_nil _ _ _ _) (nodes_le ok3)).mono ?_
      rintro e w4 ⟨rfl, hrw4, hbw4⟩
      have HH : Hid (Rd B w4 b (r2.addNode ⟨op, a, c, 0, 0, []⟩) ∧ Below B w w4) := ⟨hrw4, (((hbw1.trans hbw2).trans hbw3).trans hbw4)⟩
      clear hrw1 hbw1 hrw2 hbw2 hrw3 hbw3 hrw4 hbw4 h
      go_wp2
      go_ret2
      exact ⟨rfl, HH.out.1, HH.out.2⟩

set_option maxHeartbeats 1000000 in
theorem contrary_any (E : ReadC 394 g lo) (hk : ∀ r, Pl.Keeps r (g r).2) {B : Nat} {w : World} {b : Nat} {r : Pl.RdM} {s : Nat} (h : Rd B w b r) (ok : Pl.Ok s r) (hp : r.peek ≠ []) (hl : lo ≤ r.pos + 1) :
    Calls Tryz.prog 424 #[.pointer (some ⟨b, 0, none⟩)] w fun e w' => e = .returned (optV (Pl.oneR g (fun a => ⟨18, a, 0, 0, 0, []⟩) r.skip).1) ∧ Rd B w' b (Pl.oneR g (fun a => ⟨18, a, 0, 0, 0, []⟩) r.skip).2 ∧ Below B w w' := by
  have ok1 := ok.step hp
  have hl1 : lo ≤ r.skip.pos := by rw [(Pl.skip_of hp).1]; exact hl
  have hpos := ok.pos
  unfold Pl.oneR
  cases hf1 : g r.skip with
  | mk o r1 =>
  cases o with
  | none =>
    go_enter Tryz.func424, Tryz.ntmps424
    go_wp2_with fail
    refine (Skip_any h hpos).mono ?_
    rintro e w1 ⟨rfl, hrw1, hbw1⟩
    go_wp2_with fail
    refine (E.no hrw1 ok1 hl1 hf1).mono ?_
    rintro e w2 ⟨rfl, hrw2, hbw2⟩
    have HH : Hid (Rd B w2 b r1 ∧ Below B w w2) := ⟨hrw2, (hbw1.trans hbw2)⟩
    clear hrw1 hbw1 hrw2 hbw2 h
    go_wp2
    go_ret2
    exact ⟨rfl, HH.out.1, HH.out.2⟩
  | some a =>
    have k1 := keeps_of hk hf1
    have ok2 := k1.ok _ ok1
    go_enter Tryz.func424, Tryz.ntmps424
    go_wp2_with fail
    refine (Skip_any h hpos).mono ?_
    rintro e w1 ⟨rfl, hrw1, hbw1⟩
    go_wp2_with fail
    refine (E.yes hrw1 ok1 hl1 hf1).mono ?_
    rintro e w2 ⟨rfl, hrw2, hbw2⟩
    go_wp2_with fail
    refine (Append_any hrw2 ⟨18, a, 0, 0, 0, []⟩ (.slice none 0 0) (World.ownsRow_nil _ _ _ _) (nodes_le ok2)).mono ?_
    rintro e w3 ⟨rfl, hrw3, hbw3⟩
    have HH : Hid (Rd B w3 b (r1.addNode ⟨18, a, 0, 0, 0, []⟩) ∧ Below B w w3) := ⟨hrw3, ((hbw1.trans hbw2).trans hbw3)⟩
    clear hrw1 hbw1 hrw2 hbw2 hrw3 hbw3 h
    go_wp2
    go_ret2
    exact ⟨rfl, HH.out.1, HH.out.2⟩

set_option maxHeartbeats 1000000 in
theorem product_any (E : ReadC 249 f lo) (hk : ∀ r, Pl.Keeps r (f r).2) {B : Nat} {w : World} {b : Nat} {r : Pl.RdM} {s : Nat} (h : Rd B w b r) (ok : Pl.Ok s r) (hp : r.peek ≠ []) (hl : lo ≤ r.pos + 1) :
    Calls Tryz.prog 323 #[.pointer (some ⟨b, 0, none⟩)] w fun e w' => e = .returned (optV (Pl.productR f r.skip).1) ∧ Rd B w' b (Pl.productR f r.skip).2 ∧ Below B w w' := by
  have ok1 := ok.step hp
  have hl1 : lo ≤ r.skip.pos := by rw [(Pl.skip_of hp).1]; exact hl
  have hpos := ok.pos
  unfold Pl.productR
  cases hn : r.skip.num (-1000) 1000 with
  | none =>
    go_enter Tryz.func323, Tryz.ntmps323
    go_wp2_with fail
    refine (Skip_any h hpos).mono ?_
    rintro e w1 ⟨rfl, hrw1, hbw1⟩
    go_wp2_with fail
    refine (RNum_no hrw1 ok1.pos ok1.peek_len _ _ hn).mono ?_
    rintro e w2 ⟨rfl, hrw2, hbw2⟩
    have HH : Hid (Rd B w2 b r.skip ∧ Below B w w2) := ⟨hrw2, (hbw1.trans hbw2)⟩
    clear hrw1 hbw1 hrw2 hbw2 h
    go_wp2
    go_ret2
    exact ⟨rfl, HH.out.1, HH.out.2⟩
  | some k =>
    have ks := Pl.Keeps.skip r.skip
    have ok2 := ks.ok _ ok1
    have hl2 : lo ≤ r.skip.skip.pos := Nat.le_trans hl1 ks.pos
    simp only [Pl.oneR]
    cases hf1 : f r.skip.skip with
    | mk o r1 =>
    cases o with
    | none =>
      go_enter Tryz.func323, Tryz.ntmps323
      go_wp2_with fail
      refine (Skip_any h hpos).mono ?_
      rintro e w1 ⟨rfl, hrw1, hbw1⟩
      go_wp2_with fail
      refine (RNum_yes hrw1 ok1.pos ok1.peek_len _ _ k hn).mono ?_
      rintro e w2 ⟨rfl, hrw2, hbw2⟩
      go_wp2_with fail
      refine (E.no hrw2 ok2 hl2 hf1).mono ?_
      rintro e w3 ⟨rfl, hrw3, hbw3⟩
      have HH : Hid (Rd B w3 b r1 ∧ Below B w w3) := ⟨hrw3, ((hbw1.trans hbw2).trans hbw3)⟩
      clear hrw1 hbw1 hrw2 hbw2 hrw3 hbw3 h
      go_wp2
      go_ret2
      exact ⟨rfl, HH.out.1, HH.out.2⟩
    | some a =>
      have k1 := keeps_of hk hf1
      have ok3 := k1.ok _ ok2
      go_enter Tryz.func323, Tryz.ntmps323
      go_wp2_with fail
      refine (Skip_any h hpos).mono ?_
      rintro e w1 ⟨rfl, hrw1, hbw1⟩
      go_wp2_with fail
      refine (RNum_yes hrw1 ok1.pos ok1.peek_len _ _ k hn).mono ?_
      rintro e w2 ⟨rfl, hrw2, hbw2⟩
      go_wp2_with fail
      refine (E.yes hrw2 ok2 hl2 hf1).mono ?_
      rintro e w3 ⟨rfl, hrw3, hbw3⟩
      go_wp2_with fail
      refine (Append_any hrw3 ⟨4, a, 0, 0, k, []⟩ (.slice none 0 0) (World.ownsRow_nil _ _ _ _) (nodes_le ok3)).mono ?_
      rintro e w4 ⟨rfl, hrw4, hbw4⟩
      have HH : Hid (Rd B w4 b (r1.addNode ⟨4, a, 0, 0, k, []⟩) ∧ Below B w w4) := ⟨hrw4, (((hbw1.trans hbw2).trans hbw3).trans hbw4)⟩
      clear hrw1 hbw1 hrw2 hbw2 hrw3 hbw3 hrw4 hbw4 h
      go_wp2
      go_ret2
      exact ⟨rfl, HH.out.1, HH.out.2⟩

end
end Go.Proofs.YtfaljekgpnbmiaaGreat

/-
  Contracts of package high's choice, rounding, quotient and oneBand.
-/
namespace Go.Proofs.YtfaljekgpnbmiaaGreat
open Go.RowKit

section
variable {f g : Pl.RdM → Option Int × Pl.RdM} {lo : Nat}

set_option maxHeartbeats 1000000 in
theorem choice_any (G : ReadC 394 g lo) (hkg : ∀ r, Pl.Keeps r (g r).2) (E : ReadC 249 f lo) (hk : ∀ r, Pl.Keeps r (f r).2) {B : Nat} {w : World} {b : Nat} {r : Pl.RdM} {s : Nat} (h : Rd B w b r) (ok : Pl.Ok s r) (hp : r.peek ≠ []) (hl : lo ≤ r.pos + 1) :
    Calls Tryz.prog 324 #[.pointer (some ⟨b, 0, none⟩)] w fun e w' => e = .returned (optV (Pl.choiceR g f r.skip).1) ∧ Rd B w' b (Pl.choiceR g f r.skip).2 ∧ Below B w w' := by
  have ok1 := ok.step hp
  have hl1 : lo ≤ r.skip.pos := by rw [(Pl.skip_of hp).1]; exact hl
  have hpos := ok.pos
  unfold Pl.choiceR
  cases hf1 : g r.skip with
  | mk o r1 =>
  cases o with
  | none =>
    go_enter Tryz.func324, Tryz.ntmps324
    go_wp2_with fail
    refine (Skip_any h hpos).mono ?_
    rintro e w1 ⟨rfl, hrw1, hbw1⟩
    go_wp2_with fail
    refine (G.no hrw1 ok1 hl1 hf1).mono ?_
    rintro e w2 ⟨rfl, hrw2, hbw2⟩
    have HH : Hid (Rd B w2 b r1 ∧ Below B w w2) := ⟨hrw2, (hbw1.trans hbw2)⟩
    clear hrw1 hbw1 hrw2 hbw2 h
    go_wp2
    go_ret2
    exact ⟨rfl, HH.out.1, HH.out.2⟩
  | some a =>
    have k1 := keeps_of hkg hf1
    have ok2 := k1.ok _ ok1
    have hl2 : lo ≤ r1.pos := Nat.le_trans hl1 k1.pos
    simp only
    cases hf2 : f r1 with
    | mk o r2 =>
    cases o with
    | none =>
      go_enter Tryz.func324, Tryz.ntmps324
      go_wp2_with fail
      refine (Skip_any h hpos).mono ?_
      rintro e w1 ⟨rfl, hrw1, hbw1⟩
      go_wp2_with fail
      refine (G.yes hrw1 ok1 hl1 hf1).mono ?_
      rintro e w2 ⟨rfl, hrw2, hbw2⟩
      go_wp2_with fail
      refine (E.no hrw2 ok2 hl2 hf2).mono ?_
      rintro e w3 ⟨rfl, hrw3, hbw3⟩
      have HH : Hid (Rd B w3 b r2 ∧ Below B w w3) := ⟨hrw3, ((hbw1.trans hbw2).trans hbw3)⟩
      clear hrw1 hbw1 hrw2 hbw2 hrw3 hbw3 h
      go_wp2
      go_ret2
      exact ⟨rfl, HH.out.1, HH.out.2⟩
    | some c =>
      have k2 := keeps_of hk hf2
      have ok3 := k2.ok _ ok2
      have hl3 : lo ≤ r2.pos := Nat.le_trans hl2 k2.pos
      simp only [Pl.oneR]
      cases hf3 : f r2 with
      | mk o r3 =>
      cases o with
      | none =>
        go_enter Tryz.func324, Tryz.ntmps324
        go_wp2_with fail
        refine (Skip_any h hpos).mono ?_
        rintro e w1 ⟨rfl, hrw1, hbw1⟩
        go_wp2_with fail
        refine (G.yes hrw1 ok1 hl1 hf1).mono ?_
        rintro e w2 ⟨rfl, hrw2, hbw2⟩
        go_wp2_with fail
        refine (E.yes hrw2 ok2 hl2 hf2).mono ?_
        rintro e w3 ⟨rfl, hrw3, hbw3⟩
        go_wp2_with fail
        refine (E.no hrw3 ok3 hl3 hf3).mono ?_
        rintro e w4 ⟨rfl, hrw4, hbw4⟩
        have HH : Hid (Rd B w4 b r3 ∧ Below B w w4) := ⟨hrw4, (((hbw1.trans hbw2).trans hbw3).trans hbw4)⟩
        clear hrw1 hbw1 hrw2 hbw2 hrw3 hbw3 hrw4 hbw4 h
        go_wp2
        go_ret2
        exact ⟨rfl, HH.out.1, HH.out.2⟩
      | some d =>
        have k3 := keeps_of hk hf3
        have ok4 := k3.ok _ ok3
        go_enter Tryz.func324, Tryz.ntmps324
        go_wp2_with fail
        refine (Skip_any h hpos).mono ?_
        rintro e w1 ⟨rfl, hrw1, hbw1⟩
        go_wp2_with fail
        refine (G.yes hrw1 ok1 hl1 hf1).mono ?_
        rintro e w2 ⟨rfl, hrw2, hbw2⟩
        go_wp2_with fail
        refine (E.yes hrw2 ok2 hl2 hf2).mono ?_
        rintro e w3 ⟨rfl, hrw3, hbw3⟩
        go_wp2_with fail
        refine (E.yes hrw3 ok3 hl3 hf3).mono ?_
        rintro e w4 ⟨rfl, hrw4, hbw4⟩
        go_wp2_with fail
        refine (Append_any hrw4 ⟨7, a, c, d, 0, []⟩ (.slice none 0 0) (World.ownsRow_nil _ _ _ _) (nodes_le ok4)).mono ?_
        rintro e w5 ⟨rfl, hrw5, hbw5⟩
        have HH : Hid (Rd B w5 b (r3.addNode ⟨7, a, c, d, 0, []⟩) ∧ Below B w w5) := ⟨hrw5, ((((hbw1.trans hbw2).trans hbw3).trans hbw4).trans hbw5)⟩
        clear hrw1 hbw1 hrw2 hbw2 hrw3 hbw3 hrw4 hbw4 hrw5 hbw5 h
        go_wp2
        go_ret2
        exact ⟨rfl, HH.out.1, HH.out.2⟩

set_option maxHeartbeats 1000000 in
theorem rounding_no {B : Nat} {w : World} {b : Nat} {r : Pl.RdM} (h : Rd B w b r) (hp : r.pos ≤ 600) (hno : Pl.roundingOf r.peek = none) :
    Calls Tryz.prog 395 #[.pointer (some ⟨b, 0, none⟩)] w fun e w' => e = .returned (.tuple #[.int .i64 8, .bool false]) ∧ Rd B w' b r ∧ Below B w w' := by
  have hpc := Peek_any h hp
  have h1 : Hid (∀ n, Rd B (w.drewN n) b r ∧ Below B w (w.drewN n)) := fun n => ⟨h.drewN n, below_drewN (Below.refl B w) n⟩
  generalize r.peek = t at *
  have hc : (t == Pl.kDown) = false ∧ (t == Pl.kUp) = false ∧ (t == Pl.kZero) = false ∧ (t == Pl.kNear) = false := by
    unfold Pl.roundingOf at hno
    refine ⟨?_, ?_, ?_, ?_⟩ <;> (rw [beq_eq_false_iff_ne]; rintro rfl; revert hno; decide)
  simp only [Pl.kDown, Pl.kUp, Pl.kZero, Pl.kNear] at hc
  obtain ⟨hc1, hc2, hc3, hc4⟩ := hc
  clear hno h
  go_enter Tryz.func395, Tryz.ntmps395
  go_wp2_with fail
  refine hpc.mono ?_
  rintro e w' ⟨rfl, n, rfl⟩
  unfold strV
  clear hpc
  go_wp2
  go_ret2
  exact ⟨rfl, (h1.out n).1, (h1.out n).2⟩

set_option maxHeartbeats 1000000 in
theorem rounding_yes {B : Nat} {w : World} {b : Nat} {r : Pl.RdM} (h : Rd B w b r) (hp : r.pos ≤ 600) (op : Int) (hno : Pl.roundingOf r.peek = some op) :
    Calls Tryz.prog 395 #[.pointer (some ⟨b, 0, none⟩)] w fun e w' => e = .returned (.tuple #[.int .i64 op, .bool true]) ∧ Rd B w' b r.skip ∧ Below B w w' := by
  have hpc := Peek_any h hp
  have h1 : Hid (∀ n, Rd B (w.drewN n) b r ∧ Below B w (w.drewN n)) := fun n => ⟨h.drewN n, below_drewN (Below.refl B w) n⟩
  have hc : (r.peek = Pl.kDown ∧ op = 8) ∨ (r.peek = Pl.kUp ∧ op = 9) ∨ (r.peek = Pl.kZero ∧ op = 10) ∨ (r.peek = Pl.kNear ∧ op = 11) := by
    unfold Pl.roundingOf at hno
    split at hno
    · cases hno; exact .inl ⟨‹_›, rfl⟩
    split at hno
    · cases hno; exact .inr (.inl ⟨‹_›, rfl⟩)
    split at hno
    · cases hno; exact .inr (.inr (.inl ⟨‹_›, rfl⟩))
    split at hno
    · cases hno; exact .inr (.inr (.inr ⟨‹_›, rfl⟩))
    · cases hno
  clear hno h
  rcases hc with ⟨e1, rfl⟩ | ⟨e1, rfl⟩ | ⟨e1, rfl⟩ | ⟨e1, rfl⟩
  all_goals
    rw [e1] at hpc
    clear e1
    go_enter Tryz.func395, Tryz.ntmps395
    go_wp2_with fail
    refine hpc.mono ?_
    rintro e w' ⟨rfl, n, rfl⟩
    simp only [strV, Pl.kDown, Pl.kUp, Pl.kZero, Pl.kNear]
    clear hpc
    go_wp2_with fail
    refine (Skip_any (h1.out n).1 hp).mono ?_
    rintro e w2 ⟨rfl, hr, hbb⟩
    have HH : Hid (Rd B w2 b r.skip ∧ Below B w w2) := ⟨hr, (h1.out n).2.trans hbb⟩
    clear hr hbb h1
    go_wp2
    go_ret2
    exact ⟨rfl, HH.out.1, HH.out.2⟩

set_option maxHeartbeats 1000000 in
theorem quotient_any (E : ReadC 249 f lo) (hk : ∀ r, Pl.Keeps r (f r).2) {B : Nat} {w : World} {b : Nat} {r : Pl.RdM} {s : Nat} (h : Rd B w b r) (ok : Pl.Ok s r) (hp : r.peek ≠ []) (hl : lo ≤ r.pos + 1) :
    Calls Tryz.prog 325 #[.pointer (some ⟨b, 0, none⟩)] w fun e w' => e = .returned (optV (Pl.quotientR f r.skip).1) ∧ Rd B w' b (Pl.quotientR f r.skip).2 ∧ Below B w w' := by
  have ok1 := ok.step hp
  have hl1 : lo ≤ r.skip.pos := by rw [(Pl.skip_of hp).1]; exact hl
  have hpos := ok.pos
  unfold Pl.quotientR
  cases hn : Pl.roundingOf r.skip.peek with
  | none =>
    go_enter Tryz.func325, Tryz.ntmps325
    go_wp2_with fail
    refine (Skip_any h hpos).mono ?_
    rintro e w1 ⟨rfl, hrw1, hbw1⟩
    go_wp2_with fail
    refine (rounding_no hrw1 ok1.pos hn).mono ?_
    rintro e w2 ⟨rfl, hrw2, hbw2⟩
    have HH : Hid (Rd B w2 b r.skip ∧ Below B w w2) := ⟨hrw2, (hbw1.trans hbw2)⟩
    clear hrw1 hbw1 hrw2 hbw2 h
    go_wp2
    go_ret2
    exact ⟨rfl, HH.out.1, HH.out.2⟩
  | some op =>
    have ks := Pl.Keeps.skip r.skip
    have ok2 := ks.ok _ ok1
    have hl2 : lo ≤ r.skip.skip.pos := Nat.le_trans hl1 ks.pos
    simp only
    cases hf1 : f r.skip.skip with
    | mk o r1 =>
    cases o with
    | none =>
      go_enter Tryz.func325, Tryz.ntmps325
      go_wp2_with fail
      refine (Skip_any h hpos).mono ?_
      rintro e w1 ⟨rfl, hrw1, hbw1⟩
      go_wp2_with fail
      refine (rounding_yes hrw1 ok1.pos op hn).mono ?_
      rintro e w2 ⟨rfl, hrw2, hbw2⟩
      go_wp2_with fail
      refine (E.no hrw2 ok2 hl2 hf1).mono ?_
      rintro e w3 ⟨rfl, hrw3, hbw3⟩
      have HH : Hid (Rd B w3 b r1 ∧ Below B w w3) := ⟨hrw3, ((hbw1.trans hbw2).trans hbw3)⟩
      clear hrw1 hbw1 hrw2 hbw2 hrw3 hbw3 h
      go_wp2
      go_ret2
      exact ⟨rfl, HH.out.1, HH.out.2⟩
    | some a =>
      have k1 := keeps_of hk hf1
      have ok3 := k1.ok _ ok2
      simp only
      cases hd : r1.num 1 1000000 with
      | none =>
        go_enter Tryz.func325, Tryz.ntmps325
        go_wp2_with fail
        refine (Skip_any h hpos).mono ?_
        rintro e w1 ⟨rfl, hrw1, hbw1⟩
        go_wp2_with fail
        refine (rounding_yes hrw1 ok1.pos op hn).mono ?_
        rintro e w2 ⟨rfl, hrw2, hbw2⟩
        go_wp2_with fail
        refine (E.yes hrw2 ok2 hl2 hf1).mono ?_
        rintro e w3 ⟨rfl, hrw3, hbw3⟩
        go_wp2_with fail
        refine (RNum_no hrw3 ok3.pos ok3.peek_len _ _ hd).mono ?_
        rintro e w4 ⟨rfl, hrw4, hbw4⟩
        have HH : Hid (Rd B w4 b r1 ∧ Below B w w4) := ⟨hrw4, (((hbw1.trans hbw2).trans hbw3).trans hbw4)⟩
        clear hrw1 hbw1 hrw2 hbw2 hrw3 hbw3 hrw4 hbw4 h
        go_wp2
        go_ret2
        exact ⟨rfl, HH.out.1, HH.out.2⟩
      | some d =>
        have ok4 := ok3.skip
        have e1 : r1.skip.nodes.length = r1.nodes.length := by unfold Pl.RdM.skip; split <;> rfl
        have ha := fun w4 (hr : Rd B w4 b r1.skip) => Append_any hr ⟨op, a, 0, 0, d, []⟩ (.slice none 0 0) (World.ownsRow_nil _ _ _ _) (nodes_le ok4)
        simp only [e1] at ha
        go_enter Tryz.func325, Tryz.ntmps325
        go_wp2_with fail
        refine (Skip_any h hpos).mono ?_
        rintro e w1 ⟨rfl, hrw1, hbw1⟩
        go_wp2_with fail
        refine (rounding_yes hrw1 ok1.pos op hn).mono ?_
        rintro e w2 ⟨rfl, hrw2, hbw2⟩
        go_wp2_with fail
        refine (E.yes hrw2 ok2 hl2 hf1).mono ?_
        rintro e w3 ⟨rfl, hrw3, hbw3⟩
        go_wp2_with fail
        refine (RNum_yes hrw3 ok3.pos ok3.peek_len _ _ d hd).mono ?_
        rintro e w4 ⟨rfl, hrw4, hbw4⟩
        go_wp2_with fail
        refine (ha _ hrw4).mono ?_
        rintro e w5 ⟨rfl, hrw5, hbw5⟩
        have HH : Hid (Rd B w5 b (r1.skip.addNode ⟨op, a, 0, 0, d, []⟩) ∧ Below B w w5) := ⟨hrw5, ((((hbw1.trans hbw2).trans hbw3).trans hbw4).trans hbw5)⟩
        clear hrw1 hbw1 hrw2 hbw2 hrw3 hbw3 hrw4 hbw4 hrw5 hbw5 h
        go_wp2
        go_ret2
        exact ⟨rfl, HH.out.1, HH.out.2⟩

end

theorem band_facts {w : World} {g : Nat} {x y : Value} (h : w.heap[g]? = some (.cells #[x, y] 312 (0, 0))) : w.cell? ⟨g, 0, none⟩ = some x ∧ w.cell? ⟨g, 1, none⟩ = some y ∧ w.frozen? ⟨g, 0, none⟩ = false ∧ w.frozen? ⟨g, 1, none⟩ = false :=
  ⟨by rw [cellsOf h]; rfl, by rw [cellsOf h]; rfl, freeOf h 0, freeOf h 1⟩
/-- A store into a new block of its own leaves the reader as it was. -/
theorem band_store {w w1 : World} {b p : Nat} (hlt : b < w.heap.size) (m : Moves b p w w1) (x y : Value) :
    Moves b p w ((w1.setCell ⟨w.heap.size, 0, none⟩ x).setCell ⟨w.heap.size, 1, none⟩ y) := (m.far (Nat.le_refl _) hlt 0 x).far (Nat.le_refl _) hlt 1 y

set_option maxHeartbeats 1000000 in
theorem oneBand_any {B : Nat} {w : World} {b : Nat} {r : Pl.RdM} {s : Nat} (h : Rd B w b r) (ok : Pl.Ok s r) (least : Int) :
    Calls Tryz.prog 396 #[.pointer (some ⟨b, 0, none⟩), .int .i64 least] w fun e w' => e = .returned (.tuple #[.agg #[.int .i64 ((Pl.bandR least r).1.getD (0, 0)).1, .int .i64 ((Pl.bandR least r).1.getD (0, 0)).2], .bool (Pl.bandR least r).1.isSome]) ∧ Moves b (Pl.bandR least r).2.pos w w' := by
  have hbd := h.bd
  have hal : Below w.heap.size w (w.alloc (.cells #[.int .i64 0, .int .i64 0] 312)) := (Below.refl _ w).alloc (Nat.le_refl _) _
  have h0 := h.below hal
  have hnew := heap_alloc_new w (.cells #[.int .i64 0, .int .i64 0] 312)
  have hO := h.stays hal
  unfold Pl.bandR
  cases hn : r.num least 1000000000 with
  | none =>
    have hc := RNumO_no h0 ok.pos ok.peek_len _ _ hn
    go_enter Tryz.func396, Tryz.ntmps396
    go_wp2_with fail
    refine hc.mono ?_
    rintro e w1 ⟨rfl, hb1⟩
    clear hc
    have hk := (hb1.only.block w.heap.size (by simp) (by omega)).trans hnew
    obtain ⟨hc0, hc1, hf0, hf1⟩ := band_facts hk
    have HH : Hid (∀ x y, Moves b r.pos w ((w1.setCell ⟨w.heap.size, 0, none⟩ x).setCell ⟨w.heap.size, 1, none⟩ y)) := fun x y => band_store hbd.2.2 (hO.trans hb1) x y
    clear hk hb1 hO hnew h0 hal h
    go_wp2
    exact bodyPost_ret (v := .tuple #[.agg #[.int .i64 0, .int .i64 0], .bool false]) (by simp [results, Tryz.results396, go_sem, hc0, hc1]) rfl ⟨rfl, HH.out _ _⟩
  | some t =>
    have hc := RNumO_yes h0 ok.pos ok.peek_len _ _ t hn
    simp only
    have ok1 := ok.skip
    cases hn2 : r.skip.num (-1000) 1000 with
    | none =>
      go_enter Tryz.func396, Tryz.ntmps396
      go_wp2_with fail
      refine hc.mono ?_
      rintro e w1 ⟨rfl, hb1⟩
      clear hc
      have hk := (hb1.only.block w.heap.size (by simp) (by omega)).trans hnew
      have hs1 := hb1.only.size
      go_wp2_with fail
      refine (RNumO_no (h0.skips hb1) ok1.pos ok1.peek_len _ _ hn2).mono ?_
      rintro e w2 ⟨rfl, hb2⟩
      have hk2 := (hb2.only.block w.heap.size (by simp at hs1; omega) (by omega)).trans hk
      obtain ⟨hc0, hc1, hf0, hf1⟩ := band_facts hk2
      have HH : Hid (∀ x y, Moves b r.skip.pos w ((w2.setCell ⟨w.heap.size, 0, none⟩ x).setCell ⟨w.heap.size, 1, none⟩ y)) := fun x y => band_store hbd.2.2 ((hO.trans hb1).trans hb2) x y
      clear hk hb1 hO hnew h0 hal h hk2 hb2 hs1
      go_wp2
      exact bodyPost_ret (v := .tuple #[.agg #[.int .i64 0, .int .i64 0], .bool false]) (by simp [results, Tryz.results396, go_sem, hc0, hc1]) rfl ⟨rfl, HH.out _ _⟩
    | some k =>
      go_enter Tryz.func396, Tryz.ntmps396
      go_wp2_with fail
      refine hc.mono ?_
      rintro e w1 ⟨rfl, hb1⟩
      clear hc
      have hk := (hb1.only.block w.heap.size (by simp) (by omega)).trans hnew
      have hs1 := hb1.only.size
      go_wp2_with fail
      refine (RNumO_yes (h0.skips hb1) ok1.pos ok1.peek_len _ _ k hn2).mono ?_
      rintro e w2 ⟨rfl, hb2⟩
      have hk2 := (hb2.only.block w.heap.size (by simp at hs1; omega) (by omega)).trans hk
      obtain ⟨hc0, hc1, hf0, hf1⟩ := band_facts hk2
      have HH : Hid (∀ x y, Moves b r.skip.skip.pos w ((w2.setCell ⟨w.heap.size, 0, none⟩ x).setCell ⟨w.heap.size, 1, none⟩ y)) := fun x y => band_store hbd.2.2 ((hO.trans hb1).trans hb2) x y
      clear hk hb1 hO hnew h0 hal h hk2 hb2 hs1
      go_wp2
      exact bodyPost_ret (v := .tuple #[.agg #[.int .i64 t, .int .i64 k], .bool true]) (by simp [results, Tryz.results396, go_sem, hc0, hc1]) rfl ⟨rfl, HH.out _ _⟩
end Go.Proofs.YtfaljekgpnbmiaaGreat
