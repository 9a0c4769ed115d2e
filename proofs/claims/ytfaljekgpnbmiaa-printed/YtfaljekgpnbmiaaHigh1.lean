/-
  Contracts of package high's readers that take expressions or conditions, given those of expression and condition at what is left of the text.
-/
import Derived.Test.YtfaljekgpnbmiaaRdr6
namespace Go.Proofs.Ytfaljekgpnbmiaa
open Go.RowKit

/-- The function fn reads as the plain function f does, from the token lo on. -/
def ReadC (fn : Nat) (f : Pl.RdM → Option Int × Pl.RdM) (lo : Nat) : Prop :=
  ∀ (B : Nat) (w : World) (b : Nat) (r : Pl.RdM) (s : Nat), Rd B w b r → Pl.Ok s r → lo ≤ r.pos →
    Calls Try.prog fn #[.pointer (some ⟨b, 0, none⟩)] w fun e w' => e = .returned (optV (f r).1) ∧ Rd B w' b (f r).2 ∧ Below B w w'
theorem ReadC.no {fn : Nat} {f : Pl.RdM → Option Int × Pl.RdM} {lo : Nat} (E : ReadC fn f lo) {B : Nat} {w : World} {b : Nat} {r r1 : Pl.RdM} {s : Nat} (h : Rd B w b r) (ok : Pl.Ok s r) (hl : lo ≤ r.pos) (hf : f r = (none, r1)) :
    Calls Try.prog fn #[.pointer (some ⟨b, 0, none⟩)] w fun e w' => e = .returned (.tuple #[.int .i64 0, .bool false]) ∧ Rd B w' b r1 ∧ Below B w w' := by
  have := E B w b r s h ok hl; rw [hf] at this; exact this
theorem ReadC.yes {fn : Nat} {f : Pl.RdM → Option Int × Pl.RdM} {lo : Nat} (E : ReadC fn f lo) {B : Nat} {w : World} {b : Nat} {r r1 : Pl.RdM} {s : Nat} {a : Int} (h : Rd B w b r) (ok : Pl.Ok s r) (hl : lo ≤ r.pos) (hf : f r = (some a, r1)) :
    Calls Try.prog fn #[.pointer (some ⟨b, 0, none⟩)] w fun e w' => e = .returned (.tuple #[.int .i64 a, .bool true]) ∧ Rd B w' b r1 ∧ Below B w w' := by
  have := E B w b r s h ok hl; rw [hf] at this; exact this
theorem nodes_le {s : Nat} {r : Pl.RdM} (ok : Pl.Ok s r) : r.nodes.length ≤ 1000 := by
  have h1 := ok.size
  have h2 := ok.pos
  unfold Pl.RdM.sz at h1; omega
theorem keeps_of {f : Pl.RdM → Option Int × Pl.RdM} (hk : ∀ r, Pl.Keeps r (f r).2) {r r1 : Pl.RdM} {o : Option Int} (e : f r = (o, r1)) : Pl.Keeps r r1 := by have := hk r; rw [e] at this; exact this

section
variable {f g : Pl.RdM → Option Int × Pl.RdM} {lo : Nat}

set_option maxHeartbeats 1000000 in
theorem pair_any (hk : ∀ r, Pl.Keeps r (f r).2) (E : ReadC 99 f lo) {B : Nat} {w : World} {b : Nat} {r : Pl.RdM} {s : Nat} (h : Rd B w b r) (ok : Pl.Ok s r) (hp : r.peek ≠ []) (hl : lo ≤ r.pos + 1) (op : Int) :
    Calls Try.prog 136 #[.pointer (some ⟨b, 0, none⟩), .int .i64 op] w fun e w' => e = .returned (optV (Pl.pairR f op r.skip).1) ∧ Rd B w' b (Pl.pairR f op r.skip).2 ∧ Below B w w' := by
  have ok1 := ok.step hp
  have hl1 : lo ≤ r.skip.pos := by rw [(Pl.skip_of hp).1]; exact hl
  have hpos := ok.pos
  unfold Pl.pairR
  cases hf1 : f r.skip with
  | mk o r1 =>
  cases o with
  | none =>
    go_enter Try.func136, Try.ntmps136
    go_wp2_with fail
    refine (Skip_any h hpos).mono ?_
    rintro e w1 ⟨rfl, hrw1, hbw1⟩
    go_wp2_with fail
    refine (E.no hrw1 ok1 hl1 hf1).mono ?_
    rintro e w2 ⟨rfl, hrw2, hbw2⟩
    have HH : Hid (Rd B w2 b r1 ∧ Below B w w2) := ⟨hrw2, (hbw1.trans hbw2)⟩
    clear hrw1 hbw1 hrw2 hbw2 h
    go_wp2
    go_ret2
    exact ⟨rfl, HH.out.1, HH.out.2⟩
  | some a =>
    have k1 := keeps_of hk hf1
    have ok2 := k1.ok _ ok1
    have hl2 : lo ≤ r1.pos := Nat.le_trans hl1 k1.pos
    simp only [Pl.oneR]
    cases hf2 : f r1 with
    | mk o r2 =>
    cases o with
    | none =>
      go_enter Try.func136, Try.ntmps136
      go_wp2_with fail
      refine (Skip_any h hpos).mono ?_
      rintro e w1 ⟨rfl, hrw1, hbw1⟩
      go_wp2_with fail
      refine (E.yes hrw1 ok1 hl1 hf1).mono ?_
      rintro e w2 ⟨rfl, hrw2, hbw2⟩
      go_wp2_with fail
      refine (E.no hrw2 ok2 hl2 hf2).mono ?_
      rintro e w3 ⟨rfl, hrw3, hbw3⟩
      have HH : Hid (Rd B w3 b r2 ∧ Below B w w3) := ⟨hrw3, ((hbw1.trans hbw2).trans hbw3)⟩
      clear hrw1 hbw1 hrw2 hbw2 hrw3 hbw3 h
      go_wp2
      go_ret2
      exact ⟨rfl, HH.out.1, HH.out.2⟩
    | some c =>
      have k2 := keeps_of hk hf2
      have ok3 := k2.ok _ ok2
      go_enter Try.func136, Try.ntmps136
      go_wp2_with fail
      refine (Skip_any h hpos).mono ?_
      rintro e w1 ⟨rfl, hrw1, hbw1⟩
      go_wp2_with fail
      refine (E.yes hrw1 ok1 hl1 hf1).mono ?_
      rintro e w2 ⟨rfl, hrw2, hbw2⟩
      go_wp2_with fail
      refine (E.yes hrw2 ok2 hl2 hf2).mono ?_
      rintro e w3 ⟨rfl, hrw3, hbw3⟩
      go_wp2_with fail
      refine (Append_any hrw3 ⟨op, a, c, 0, 0, []⟩ (.slice none 0 0) (World.ownsRow_nil _ _ _ _) (nodes_le ok3)).mono ?_
      rintro e w4 ⟨rfl, hrw4, hbw4⟩
      have HH : Hid (Rd B w4 b (r2.addNode ⟨op, a, c, 0, 0, []⟩) ∧ Below B w w4) := ⟨hrw4, (((hbw1.trans hbw2).trans hbw3).trans hbw4)⟩
      clear hrw1 hbw1 hrw2 hbw2 hrw3 hbw3 hrw4 hbw4 h
      go_wp2
      go_ret2
      exact ⟨rfl, HH.out.1, HH.out.2⟩

set_option maxHeartbeats 1000000 in
theorem joint_any (hk : ∀ r, Pl.Keeps r (g r).2) (E : ReadC 175 g lo) {B : Nat} {w : World} {b : Nat} {r : Pl.RdM} {s : Nat} (h : Rd B w b r) (ok : Pl.Ok s r) (hp : r.peek ≠ []) (hl : lo ≤ r.pos + 1) (op : Int) :
    Calls Try.prog 181 #[.pointer (some ⟨b, 0, none⟩), .int .i64 op] w fun e w' => e = .returned (optV (Pl.pairR g op r.skip).1) ∧ Rd B w' b (Pl.pairR g op r.skip).2 ∧ Below B w w' := by
  have ok1 := ok.step hp
  have hl1 : lo ≤ r.skip.pos := by rw [(Pl.skip_of hp).1]; exact hl
  have hpos := ok.pos
  unfold Pl.pairR
  cases hf1 : g r.skip with
  | mk o r1 =>
  cases o with
  | none =>
    go_enter Try.func181, Try.ntmps181
    go_wp2_with fail
    refine (Skip_any h hpos).mono ?_
    rintro e w1 ⟨rfl, hrw1, hbw1⟩
    go_wp2_with fail
    refine (E.no hrw1 ok1 hl1 hf1).mono ?_
    rintro e w2 ⟨rfl, hrw2, hbw2⟩
    have HH : Hid (Rd B w2 b r1 ∧ Below B w w2) := ⟨hrw2, (hbw1.trans hbw2)⟩
    clear hrw1 hbw1 hrw2 hbw2 h
    go_wp2
    go_ret2
    exact ⟨rfl, HH.out.1, HH.out.2⟩
  | some a =>
    have k1 := keeps_of hk hf1
    have ok2 := k1.ok _ ok1
    have hl2 : lo ≤ r1.pos := Nat.le_trans hl1 k1.pos
    simp only [Pl.oneR]
    cases hf2 : g r1 with
    | mk o r2 =>
    cases o with
    | none =>
      go_enter Try.func181, Try.ntmps181
      go_wp2_with fail
      refine (Skip_any h hpos).mono ?_
      rintro e w1 ⟨rfl, hrw1, hbw1⟩
      go_wp2_with fail
      refine (E.yes hrw1 ok1 hl1 hf1).mono ?_
      rintro e w2 ⟨rfl, hrw2, hbw2⟩
      go_wp2_with fail
      refine (E.no hrw2 ok2 hl2 hf2).mono ?_
      rintro e w3 ⟨rfl, hrw3, hbw3⟩
      have HH : Hid (Rd B w3 b r2 ∧ Below B w w3) := ⟨hrw3, ((hbw1.trans hbw2).trans hbw3)⟩
      clear hrw1 hbw1 hrw2 hbw2 hrw3 hbw3 h
      go_wp2
      go_ret2
      exact ⟨rfl, HH.out.1, HH.out.2⟩
    | some c =>
      have k2 := keeps_of hk hf2
      have ok3 := k2.ok _ ok2
      go_enter Try.func181, Try.ntmps181
      go_wp2_with fail
      refine (Skip_any h hpos).mono ?_
      rintro e w1 ⟨rfl, hrw1, hbw1⟩
      go_wp2_with fail
      refine (E.yes hrw1 ok1 hl1 hf1).mono ?_
      rintro e w2 ⟨rfl, hrw2, hbw2⟩
      go_wp2_with fail
      refine (E.yes hrw2 ok2 hl2 hf2).mono ?_
      rintro e w3 ⟨rfl, hrw3, hbw3⟩
      go_wp2_with fail
      refine (Append_any hrw3 ⟨op, a, c, 0, 0, []⟩ (.slice none 0 0) (World.ownsRow_nil _ _ _ _) (nodes_le ok3)).mono ?_
      rintro e w4 ⟨rfl, hrw4, hbw4⟩
      have HH : Hid (Rd B w4 b (r2.addNode ⟨op, a, c, 0, 0, []⟩) ∧ Below B w w4) := ⟨hrw4, (((hbw1.trans hbw2).trans hbw3).trans hbw4)⟩
      clear hrw1 hbw1 hrw2 hbw2 hrw3 hbw3 hrw4 hbw4 h
      go_wp2
      go_ret2
      exact ⟨rfl, HH.out.1, HH.out.2⟩

set_option maxHeartbeats 1000000 in
theorem contrary_any (E : ReadC 175 g lo) (hk : ∀ r, Pl.Keeps r (g r).2) {B : Nat} {w : World} {b : Nat} {r : Pl.RdM} {s : Nat} (h : Rd B w b r) (ok : Pl.Ok s r) (hp : r.peek ≠ []) (hl : lo ≤ r.pos + 1) :
    Calls Try.prog 182 #[.pointer (some ⟨b, 0, none⟩)] w fun e w' => e = .returned (optV (Pl.oneR g (fun a => ⟨18, a, 0, 0, 0, []⟩) r.skip).1) ∧ Rd B w' b (Pl.oneR g (fun a => ⟨18, a, 0, 0, 0, []⟩) r.skip).2 ∧ Below B w w' := by
  have ok1 := ok.step hp
  have hl1 : lo ≤ r.skip.pos := by rw [(Pl.skip_of hp).1]; exact hl
  have hpos := ok.pos
  unfold Pl.oneR
  cases hf1 : g r.skip with
  | mk o r1 =>
  cases o with
  | none =>
    go_enter Try.func182, Try.ntmps182
    go_wp2_with fail
    refine (Skip_any h hpos).mono ?_
    rintro e w1 ⟨rfl, hrw1, hbw1⟩
    go_wp2_with fail
    refine (E.no hrw1 ok1 hl1 hf1).mono ?_
    rintro e w2 ⟨rfl, hrw2, hbw2⟩
    have HH : Hid (Rd B w2 b r1 ∧ Below B w w2) := ⟨hrw2, (hbw1.trans hbw2)⟩
    clear hrw1 hbw1 hrw2 hbw2 h
    go_wp2
    go_ret2
    exact ⟨rfl, HH.out.1, HH.out.2⟩
  | some a =>
    have k1 := keeps_of hk hf1
    have ok2 := k1.ok _ ok1
    go_enter Try.func182, Try.ntmps182
    go_wp2_with fail
    refine (Skip_any h hpos).mono ?_
    rintro e w1 ⟨rfl, hrw1, hbw1⟩
    go_wp2_with fail
    refine (E.yes hrw1 ok1 hl1 hf1).mono ?_
    rintro e w2 ⟨rfl, hrw2, hbw2⟩
    go_wp2_with fail
    refine (Append_any hrw2 ⟨18, a, 0, 0, 0, []⟩ (.slice none 0 0) (World.ownsRow_nil _ _ _ _) (nodes_le ok2)).mono ?_
    rintro e w3 ⟨rfl, hrw3, hbw3⟩
    have HH : Hid (Rd B w3 b (r1.addNode ⟨18, a, 0, 0, 0, []⟩) ∧ Below B w w3) := ⟨hrw3, ((hbw1.trans hbw2).trans hbw3)⟩
    clear hrw1 hbw1 hrw2 hbw2 hrw3 hbw3 h
    go_wp2
    go_ret2
    exact ⟨rfl, HH.out.1, HH.out.2⟩

set_option maxHeartbeats 1000000 in
theorem product_any (E : ReadC 99 f lo) (hk : ∀ r, Pl.Keeps r (f r).2) {B : Nat} {w : World} {b : Nat} {r : Pl.RdM} {s : Nat} (h : Rd B w b r) (ok : Pl.Ok s r) (hp : r.peek ≠ []) (hl : lo ≤ r.pos + 1) :
    Calls Try.prog 137 #[.pointer (some ⟨b, 0, none⟩)] w fun e w' => e = .returned (optV (Pl.productR f r.skip).1) ∧ Rd B w' b (Pl.productR f r.skip).2 ∧ Below B w w' := by
  have ok1 := ok.step hp
  have hl1 : lo ≤ r.skip.pos := by rw [(Pl.skip_of hp).1]; exact hl
  have hpos := ok.pos
  unfold Pl.productR
  cases hn : r.skip.num (-1000) 1000 with
  | none =>
    go_enter Try.func137, Try.ntmps137
    go_wp2_with fail
    refine (Skip_any h hpos).mono ?_
    rintro e w1 ⟨rfl, hrw1, hbw1⟩
    go_wp2_with fail
    refine (RNum_no hrw1 ok1.pos ok1.peek_len _ _ hn).mono ?_
    rintro e w2 ⟨rfl, hrw2, hbw2⟩
    have HH : Hid (Rd B w2 b r.skip ∧ Below B w w2) := ⟨hrw2, (hbw1.trans hbw2)⟩
    clear hrw1 hbw1 hrw2 hbw2 h
    go_wp2
    go_ret2
    exact ⟨rfl, HH.out.1, HH.out.2⟩
  | some k =>
    have ks := Pl.Keeps.skip r.skip
    have ok2 := ks.ok _ ok1
    have hl2 : lo ≤ r.skip.skip.pos := Nat.le_trans hl1 ks.pos
    simp only [Pl.oneR]
    cases hf1 : f r.skip.skip with
    | mk o r1 =>
    cases o with
    | none =>
      go_enter Try.func137, Try.ntmps137
      go_wp2_with fail
      refine (Skip_any h hpos).mono ?_
      rintro e w1 ⟨rfl, hrw1, hbw1⟩
      go_wp2_with fail
      refine (RNum_yes hrw1 ok1.pos ok1.peek_len _ _ k hn).mono ?_
      rintro e w2 ⟨rfl, hrw2, hbw2⟩
      go_wp2_with fail
      refine (E.no hrw2 ok2 hl2 hf1).mono ?_
      rintro e w3 ⟨rfl, hrw3, hbw3⟩
      have HH : Hid (Rd B w3 b r1 ∧ Below B w w3) := ⟨hrw3, ((hbw1.trans hbw2).trans hbw3)⟩
      clear hrw1 hbw1 hrw2 hbw2 hrw3 hbw3 h
      go_wp2
      go_ret2
      exact ⟨rfl, HH.out.1, HH.out.2⟩
    | some a =>
      have k1 := keeps_of hk hf1
      have ok3 := k1.ok _ ok2
      go_enter Try.func137, Try.ntmps137
      go_wp2_with fail
      refine (Skip_any h hpos).mono ?_
      rintro e w1 ⟨rfl, hrw1, hbw1⟩
      go_wp2_with fail
      refine (RNum_yes hrw1 ok1.pos ok1.peek_len _ _ k hn).mono ?_
      rintro e w2 ⟨rfl, hrw2, hbw2⟩
      go_wp2_with fail
      refine (E.yes hrw2 ok2 hl2 hf1).mono ?_
      rintro e w3 ⟨rfl, hrw3, hbw3⟩
      go_wp2_with fail
      refine (Append_any hrw3 ⟨4, a, 0, 0, k, []⟩ (.slice none 0 0) (World.ownsRow_nil _ _ _ _) (nodes_le ok3)).mono ?_
      rintro e w4 ⟨rfl, hrw4, hbw4⟩
      have HH : Hid (Rd B w4 b (r1.addNode ⟨4, a, 0, 0, k, []⟩) ∧ Below B w w4) := ⟨hrw4, (((hbw1.trans hbw2).trans hbw3).trans hbw4)⟩
      clear hrw1 hbw1 hrw2 hbw2 hrw3 hbw3 hrw4 hbw4 h
      go_wp2
      go_ret2
      exact ⟨rfl, HH.out.1, HH.out.2⟩

end
end Go.Proofs.Ytfaljekgpnbmiaa
