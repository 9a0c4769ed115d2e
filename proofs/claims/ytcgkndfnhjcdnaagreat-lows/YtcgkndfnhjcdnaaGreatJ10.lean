/- Joined: Law1 Law2 PlainKeep PlainText PlainLow PlainRead. -/
import Derived.Test.YtcgkndfnhjcdnaaGreatJ09
import Derived.Laws.CopyOwn
/-
  Contracts of the statement's own num, sameInts, lend, lent.
-/
namespace Go.Proofs.YtcgkndfnhjcdnaaGreat
open Go.RowKit

set_option maxHeartbeats 400000 in
theorem num_law (n : Int) (w : World) : Calls Tryz.prog 14 #[.int .i64 n] w fun e w' => e = .returned (.int .i64 n) ∧ w' = w := by
  go_enter Tryz.func14, Tryz.ntmps14
  go_wp2
  go_ret
  exact ⟨rfl, rfl⟩

set_option maxHeartbeats 1000000 in
theorem sameInts_law (l : List Int) (va vb : Value) (w : World) (ha : IntsAt w va l) (hb : IntsAt w vb l) (hl : l.length ≤ maxLen) :
    Calls Tryz.prog 21 #[va, vb] w fun e w' => e = .returned (.bool true) ∧ ∃ n, w' = w.drewN n := by
  unfold maxLen at hl
  obtain ⟨ada, capa, rfl, ca⟩ := ha
  obtain ⟨adb, capb, rfl, cb⟩ := hb
  have HA := hide ca
  have HB := hide cb
  clear ca cb
  go_enter Tryz.func21, Tryz.ntmps21
  go_wp2
  go_loopw [5] (fun i wr => ∃ (k n : Nat), k ≤ l.length ∧ i = .int .i64 k ∧ wr = w.drewN n) (fun i _ => l.length - (intOf i).toNat)
  case atStart => exact ⟨0, 0, by omega, rfl, rfl⟩
  case round =>
    obtain ⟨k, n, hk, rfl, rfl⟩ := hrel
    by_cases hlt : k < l.length
    · obtain ⟨b1, o1, rfl, c1⟩ := unhide HA k hlt
      obtain ⟨b2, o2, rfl, c2⟩ := unhide HB k hlt
      go_wp2
      go_quiet (fail)
      go_wp2
      go_roundw
      case rel => exact ⟨k + 1, _, by omega, by go_num, rfl⟩
      case measure => simp [intOf]; omega
    · go_wp2
      go_ret
      exact ⟨rfl, _, rfl⟩

def ink : Int := 1099511627783
/-- What lend lays: the numbers, then j times ink, then zeros. -/
def lendCells (home : List Int) (j : Nat) : List Value := home.map intV ++ (List.replicate j (intV ink) ++ List.replicate (2 - j) (intV 0))
theorem madeCells_int (n : Nat) : (madeCells #[Value.int .i64 0] n).toList = List.replicate n (intV 0) := by
  apply List.ext_getElem
  · simp [madeCells]
  · intro i h1 h2
    simp [madeCells, intV, Nat.mod_one]
theorem own_block {w : World} {B : Nat} {e : TypeId} {g n : Nat} {xs : List Value} (h : w.ownsRow B e 1 (.slice (some ⟨g, 0, none⟩) n n) n xs) : w.heap[g]? = some (.cells xs.toArray e (0, 0)) := by
  rcases h.2 with ⟨h1, _⟩ | ⟨g', cap, cur, he, hb, hgg, hle, hm, hcs, htk⟩
  · simp at h1
  · simp only [Value.slice.injEq, Option.some.injEq, Addr.mk.injEq, and_true, true_and] at he
    obtain ⟨rfl, rfl⟩ := he
    have : cur = xs.toArray := by
      apply Array.ext'
      rw [← htk]
      simp only [Nat.mul_one] at hcs ⊢
      rw [List.take_of_length_le (by simp [hcs])]
    rw [hgg, this]
theorem splice_lend (home : List Int) : splice (List.replicate (home.length + 2) (intV 0)) 0 (home.map intV) = lendCells home 0 := by
  simp [splice, lendCells, List.drop_replicate]
theorem lend_set (home : List Int) (j : Nat) (hj : j < 2) : (lendCells home j).toArray.setIfInBounds (home.length + j) (intV ink) = (lendCells home (j + 1)).toArray := by
  have : j = 0 ∨ j = 1 := by omega
  apply Array.ext'
  rcases this with rfl | rfl
  · simp [lendCells, List.replicate]
  · simp [lendCells, List.replicate]

set_option maxRecDepth 100000 in
set_option maxHeartbeats 2000000 in
theorem lend_law (home : List Int) (vh : Value) (w : World) (hh : IntsAt w vh home) (hl : home.length ≤ 17592186043904) :
    Calls Tryz.prog 17 #[vh] w fun e w' => ∃ g, e = .returned (.slice (some ⟨g, 0, none⟩) (home.length + 2) (home.length + 2)) ∧ w.heap.size ≤ g ∧ w'.heap[g]? = some (.cells (lendCells home 2).toArray 3 (0, 0)) ∧ Below w.heap.size w w' := by
  obtain ⟨i0, hi, hz0, hz1, hz2⟩ := info_parts Tryz.infoInt
  have HH := hide hh
  obtain ⟨a8, p8, rfl, _⟩ := hh
  go_enter Tryz.func17, Tryz.ntmps17
  go_wp2_with (at_make; refine wpList_make_full _ rfl _ _ 22 rfl w.heap.size 3 i0 (.int .i64 0) 1 Tryz.underlying22 hi hz0 hz1 .i64 .i64 _ _ (home.length + 2) rfl rfl ?e1 ?e2 ?c1 ?c2 ?c3 ?_)
  case e1 => first | rfl | omega | simp
  case e2 => first | rfl | omega | simp
  case c1 => rw [hz2]; omega
  case c2 => unfold maxLen; omega
  case c3 => omega
  · intro w1 hown hgrow
    have hb1 : Below w.heap.size w w1 := (Below.refl _ _).grown hgrow (Nat.le_refl _) (by intro k hk; cases hk)
    have hblk : w1.heap[w.heap.size]? = some (.cells (List.replicate (home.length + 2) (intV 0)).toArray 3 (0, 0)) := by
      have := own_block hown; rw [madeCells_int] at this; exact this
    have hsz : (Tryz.prog.info? 3).map (·.size) = some 1 := by rw [hi]; simp [hz1]
    obtain ⟨cs, hcs⟩ : ∃ cs, cs = home.map intV := ⟨_, rfl⟩
    have hcl : cs.length = home.length := by rw [hcs]; simp
    have HCS := hide hcs
    have hsrc : 0 < cs.length → ∃ ad, a8 = some ad ∧ ∀ j v, cs[j]? = some v → w1.cell? (ad.add j) = some v := by
      intro hpos
      obtain ⟨b8, o8, rfl, _⟩ := ints_get (unhide HH) 0 (by omega)
      refine ⟨_, rfl, fun j v hj => ?_⟩
      have hjl : j < home.length := by rw [← hcl]; exact (List.getElem?_eq_some_iff.1 hj).1
      obtain ⟨b9, o9, e9, c9⟩ := ints_get (unhide HH) j hjl
      simp only [Option.some.injEq, Addr.mk.injEq, and_true] at e9
      obtain ⟨rfl, rfl⟩ := e9
      have e3 : (⟨b8, o8, none⟩ : Addr).add j = ⟨b8, o8 + j, none⟩ := by unfold Addr.add; split <;> simp_all
      rw [e3, cell_kept hb1 c9]
      rw [hcs, List.getElem?_map, List.getElem?_eq_getElem hjl] at hj
      simpa [intV] using hj
    obtain ⟨w2, hcp, hblk2, hb2⟩ : ∃ w2, (Builtin.copy_ #[22, 22] 3 #[.slice (some ⟨w.heap.size, 0, none⟩) (home.length + 2) (home.length + 2), .slice a8 home.length p8]).run Tryz.prog w1 = .ok (.int .i64 home.length) w2 ∧ w2.heap[w.heap.size]? = some (.cells (lendCells home 0).toArray 3 (0, 0)) ∧ Below w.heap.size w w2 := by
      by_cases h0 : home.length = 0
      · have hnil : home = [] := List.eq_nil_of_length_eq_zero h0
        subst hnil
        exact ⟨w1, run_copy_none (P := Tryz.prog) w1 22 22 3 3 _ _ _ _ _ _ Tryz.underlying22 hsz (by simp), hblk, hb1⟩
      · obtain ⟨ad, rfl, hsr⟩ := hsrc (by omega)
        have hr := run_copy_row (P := Tryz.prog) w1 22 22 3 3 w.heap.size 0 (home.length + 2) (home.length + 2) ad home.length p8 _ 3 cs Tryz.underlying22 hsz hblk (by rw [hcl]; exact (Nat.min_eq_left (by omega)).symm) hsr (by rw [hcl]; simp) (by intro v hv; rw [hcs] at hv; obtain ⟨x, _, rfl⟩ := List.mem_map.1 hv; rfl)
        rw [hcl] at hr
        refine ⟨_, hr, ?_, below_setRow hb1 (Nat.le_refl _) _⟩
        rw [setRow_heap w1 w.heap.size _ _ 3 _ hblk]
        congr 2
        rw [← splice_lend, ← hcs]
        simp [splice, hcl]
    have H2 : Hid (w2.heap[w.heap.size]? = some (.cells (lendCells home 0).toArray 3 (0, 0)) ∧ Below w.heap.size w w2) := ⟨hblk2, hb2⟩
    clear hown hgrow hblk hcs hsrc hb1 hblk2 hb2 hcl hsz
    · go_wp2
      go_loopw [4] (fun i wr => ∃ j : Nat, j ≤ 2 ∧ i = .int .i64 ((home.length : Int) + j) ∧ Hid (wr.heap[w.heap.size]? = some (.cells (lendCells home j).toArray 3 (0, 0)) ∧ Below w.heap.size w wr)) (fun i _ => home.length + 2 - (intOf i).toNat)
      case atStart => exact ⟨0, by omega, by simp, H2⟩
      case round =>
        obtain ⟨j, hj, rfl, hh⟩ := hrel
        clear H2
        by_cases hlt : j < 2
        · have hlen : (lendCells home j).length = home.length + 2 := by unfold lendCells; simp; omega
          have hc : ∃ u, wr.cell? ⟨w.heap.size, home.length + j, none⟩ = some u := by
            rw [cellsOf (unhide hh).1]
            exact ⟨(lendCells home j)[home.length + j]'(by omega), by simp⟩
          obtain ⟨u, hcu⟩ := hc
          have hfr : wr.frozen? ⟨w.heap.size, home.length + j, none⟩ = false := freeOf (unhide hh).1 _
          have HN : Hid ((wr.setCell ⟨w.heap.size, home.length + j, none⟩ (.int .i64 1099511627783)).heap[w.heap.size]? = some (.cells (lendCells home (j + 1)).toArray 3 (0, 0)) ∧ Below w.heap.size w (wr.setCell ⟨w.heap.size, home.length + j, none⟩ (.int .i64 1099511627783))) := by
            refine ⟨?_, (unhide hh).2.setCell (p := ⟨w.heap.size, home.length + j, none⟩) (Nat.le_refl _) _⟩
            rw [heap_setCell_same wr _ _ _ _ _ (unhide hh).1]
            have := lend_set home j hlt
            rw [← this]; rfl
          clear hh hlen
          go_wp2
          go_roundw
          case rel => exact ⟨j + 1, by omega, by go_num, HN⟩
          case measure => simp [intOf]; omega
        · have hj2 : j = 2 := by omega
          subst hj2
          go_wp2
          go_ret
          exact ⟨_, rfl, Nat.le_refl _, (unhide hh).1, (unhide hh).2⟩
end Go.Proofs.YtcgkndfnhjcdnaaGreat

/-
  Contracts of the statement's own lent, mark.
-/
namespace Go.Proofs.YtcgkndfnhjcdnaaGreat
open Go.RowKit

theorem lent_get (home : List Int) (i : Nat) (hi : i < home.length) : (lendCells home 2)[i]? = some (.int .i64 home[i]) := by
  unfold lendCells
  rw [List.getElem?_append_left (by simpa using hi), List.getElem?_map, List.getElem?_eq_getElem hi]; rfl
theorem lent_ink (home : List Int) (i : Nat) (h1 : home.length ≤ i) (h2 : i < home.length + 2) : (lendCells home 2)[i]? = some (.int .i64 1099511627783) := by
  unfold lendCells
  rw [List.getElem?_append_right (by simpa using h1)]
  simp only [List.length_map, List.replicate, Nat.sub_self, List.append_nil]
  have : i - home.length = 0 ∨ i - home.length = 1 := by omega
  rcases this with h | h <;> rw [h] <;> rfl
theorem lent_front {w : World} {g : Nat} {home : List Int} (h : w.heap[g]? = some (.cells (lendCells home 2).toArray 3 (0, 0))) (cap : Nat) : IntsAt w (.slice (some ⟨g, 0, none⟩) home.length cap) home := by
  refine ⟨_, _, rfl, fun i hi => ⟨g, 0, rfl, ?_⟩⟩
  rw [Nat.zero_add, cellsOf h, List.getElem?_toArray, lent_get home i hi, List.getD_eq_getElem?_getD, List.getElem?_eq_getElem hi]; rfl

set_option maxRecDepth 100000 in
set_option maxHeartbeats 1000000 in
theorem lent_law (home : List Int) (vh : Value) (g : Nat) (w : World) (hh : IntsAt w vh home) (hg : w.heap[g]? = some (.cells (lendCells home 2).toArray 3 (0, 0))) (hl : home.length ≤ 17592186043904) :
    Calls Tryz.prog 20 #[.slice (some ⟨g, 0, none⟩) (home.length + 2) (home.length + 2), vh] w fun e w' => e = .returned (.bool true) ∧ ∃ n, w' = w.drewN n := by
  have hS := hide (sameInts_law home (.slice (some ⟨g, 0, none⟩) home.length (home.length + 2)) vh w (lent_front hg _) hh (by unfold maxLen; omega))
  have HG := hide hg
  obtain ⟨a8, p8, rfl, _⟩ := hh
  clear hg
  go_enter Tryz.func20, Tryz.ntmps20
  go_wp2_with fail
  refine (unhide hS).mono ?_
  rintro e w1 ⟨rfl, m, hw1⟩
  rw [hw1]
  clear hw1 w1 hS
  go_wp2
  go_loopw [6] (fun i wr => ∃ (j n : Nat), j ≤ 2 ∧ i = .int .i64 ((home.length : Int) + j) ∧ wr = w.drewN n) (fun i _ => home.length + 2 - (intOf i).toNat)
  case atStart => exact ⟨0, m, by omega, by simp, rfl⟩
  case round =>
    obtain ⟨j, n, hj, rfl, rfl⟩ := hrel
    by_cases hlt : j < 2
    · have hc : (w.drewN n).cell? ⟨g, home.length + j, none⟩ = some (.int .i64 1099511627783) := by
        have : w.cell? ⟨g, home.length + j, none⟩ = some (.int .i64 1099511627783) := by
          rw [cellsOf (unhide HG), List.getElem?_toArray]; exact lent_ink home _ (by omega) (by omega)
        exact this
      go_wp2
      go_roundw
      case rel => exact ⟨j + 1, _, by omega, by go_num, rfl⟩
      case measure => simp [intOf]; omega
    · go_wp2
      go_ret
      exact ⟨rfl, _, rfl⟩
end Go.Proofs.YtcgkndfnhjcdnaaGreat

/-
  The statement's own small functions, as plain functions: which of n things, a number near 0, its decimal form.
-/
namespace Go.Proofs.YtcgkndfnhjcdnaaGreat.Pl

def kpick (c n : Int) : Int := if c < 0 then (-(c + 1)) % n else c % n
def knear (c m : Int) : Int := c.tmod (m + 1)
def digs : Nat → Nat → List UInt8 → List UInt8
  | 0, m, acc => UInt8.ofNat (48 + m) :: acc
  | f + 1, m, acc => if 9 < m then digs f (m / 10) (UInt8.ofNat (48 + m % 10) :: acc) else UInt8.ofNat (48 + m) :: acc
def digitsOf (m : Nat) : List UInt8 := digs m m []
def decimalOf (n : Int) : List UInt8 := if n < 0 then 45 :: digitsOf n.natAbs else digitsOf n.toNat
theorem kpick_bd (c n : Int) (hn : 1 ≤ n) : 0 ≤ kpick c n ∧ kpick c n < n := by
  unfold kpick
  split
  · exact ⟨Int.emod_nonneg _ (by omega), Int.emod_lt_of_pos _ (by omega)⟩
  · exact ⟨Int.emod_nonneg _ (by omega), Int.emod_lt_of_pos _ (by omega)⟩
theorem knear_bd (c m : Int) (hm : 0 ≤ m) : -m ≤ knear c m ∧ knear c m ≤ m := by
  unfold knear
  have h1 := Int.lt_tmod_of_pos c (show 0 < m + 1 by omega)
  have h2 := Int.tmod_lt_of_pos c (show 0 < m + 1 by omega)
  omega

/-- What digs lays ahead of acc: the digits of m, that read back as m. -/
theorem ofNat_toNat (m : Nat) (h : m ≤ 9) : (UInt8.ofNat (48 + m)).toNat = 48 + m := by rw [UInt8.toNat_ofNat']; omega
theorem isDig_ofNat (m : Nat) (h : m ≤ 9) : isDig (UInt8.ofNat (48 + m)) = true := by unfold isDig; rw [ofNat_toNat m h]; simp; omega
/-- digs: some digits, the first of them no 0 if m is above 0, that read (from v) as v times a power of ten and m. -/
theorem digs_spec (f : Nat) : ∀ (m : Nat) (acc : List UInt8), m ≤ f → ∃ ds : List UInt8, digs f m acc = ds ++ acc ∧ ds ≠ [] ∧ (∀ c ∈ ds, isDig c = true) ∧ (m < 10 → ds.length = 1) ∧ (∀ k, m < 10 ^ (k + 1) → ds.length ≤ k + 1) ∧
    (0 < m → ds.head? ≠ some 48) ∧ (m = 0 → ds = [48]) ∧ (∀ rest : List UInt8, m ≤ 1000000000 → numLoop (ds ++ rest) 0 = numLoop rest m) := by
  induction f with
  | zero =>
    intro m acc hm
    obtain rfl : m = 0 := by omega
    refine ⟨[48], rfl, by simp, by decide, by simp, by simp, by omega, by simp, fun rest _ => ?_⟩
    show numLoop (48 :: rest) 0 = _
    rw [numLoop, if_pos (by decide), if_neg (by decide)]
    rfl
  | succ f ih =>
    intro m acc hm
    rw [digs]
    by_cases h9 : 9 < m
    · rw [if_pos h9]
      obtain ⟨ds, e, h1, h2, h3, h4, h5, h6, h7⟩ := ih (m / 10) (UInt8.ofNat (48 + m % 10) :: acc) (by omega)
      refine ⟨ds ++ [UInt8.ofNat (48 + m % 10)], by rw [e]; simp, by simp, ?_, by omega, ?_, ?_, by omega, ?_⟩
      · intro c hc
        rcases List.mem_append.1 hc with hc | hc
        · exact h2 c hc
        · rw [List.mem_singleton] at hc; subst hc; exact isDig_ofNat _ (by omega)
      · intro k hk
        cases k with
        | zero => simp at hk; omega
        | succ k =>
          rw [List.length_append]
          have := h4 k (by rw [Nat.pow_succ] at hk; omega)
          simp; omega
      · intro _
        cases ds with
        | nil => exact absurd rfl h1
        | cons c r => exact h5 (by omega)
      · intro rest hle
        rw [List.append_assoc, h7 _ (by omega)]
        show numLoop (UInt8.ofNat (48 + m % 10) :: rest) _ = _
        rw [numLoop, if_pos (isDig_ofNat _ (by omega)), ofNat_toNat _ (by omega)]
        have e1 : 10 * ((m / 10 : Nat) : Int) + (((48 + m % 10 : Nat) : Int) - 48) = (m : Int) := by omega
        rw [e1, if_neg (by omega)]
    · rw [if_neg h9]
      refine ⟨[UInt8.ofNat (48 + m)], rfl, by simp, ?_, by simp, by simp, ?_, ?_, fun rest _ => ?_⟩
      · intro c hc; rw [List.mem_singleton] at hc; subst hc; exact isDig_ofNat _ (by omega)
      · intro h0 hc
        have : UInt8.ofNat (48 + m) = 48 := by simpa using hc
        have h2 := congrArg UInt8.toNat this
        rw [ofNat_toNat m (by omega)] at h2
        simp at h2; omega
      · rintro rfl; rfl
      · show numLoop (UInt8.ofNat (48 + m) :: rest) 0 = _
        rw [numLoop, if_pos (isDig_ofNat _ (by omega)), ofNat_toNat _ (by omega)]
        have e1 : 10 * (0 : Int) + (((48 + m : Nat) : Int) - 48) = (m : Int) := by omega
        rw [e1, if_neg (by omega)]
theorem digitsOf_spec (m : Nat) (h : m ≤ 1000000000) : digitsOf m ≠ [] ∧ (∀ c ∈ digitsOf m, isDig c = true) ∧ (digitsOf m).length ≤ 10 ∧ (0 < m → (digitsOf m).head? ≠ some 48) ∧ (m = 0 → digitsOf m = [48]) ∧ numLoop (digitsOf m) 0 = some (m : Int) := by
  obtain ⟨ds, e, h1, h2, _, h4, h5, h6, h7⟩ := digs_spec m m [] (Nat.le_refl _)
  have e' : digitsOf m = ds := by unfold digitsOf; rw [e, List.append_nil]
  rw [e']
  refine ⟨h1, h2, h4 9 (by omega), h5, h6, ?_⟩
  have := h7 [] h
  rw [List.append_nil] at this
  rw [this, numLoop]
theorem digitsOf_len (m : Nat) (h : m ≤ 1000000000) : (digitsOf m).length ≤ 100 := by have := (digitsOf_spec m h).2.2.1; omega
theorem numDigs_of (neg : Bool) (m : Nat) (h : m ≤ 1000000000) (h0 : 0 < m) : numDigs neg (digitsOf m) = (if neg then -(m : Int) else m, true) := by
  obtain ⟨h1, _, _, h4, _, h6⟩ := digitsOf_spec m h
  have h48 := h4 h0
  unfold numDigs
  rw [if_neg (by intro e; rw [e] at h48; exact h48 rfl), if_neg ?_]
  · exact numRest_some neg _ _ h6
  · intro hc
    rcases hc with hc | hc
    · cases hd : digitsOf m with
      | nil => exact h1 hd
      | cons c r => rw [hd] at hc; simp at hc
    · exact h48 hc
theorem isDig_ne45 {c : UInt8} (h : isDig c = true) : c ≠ 45 := by rintro rfl; exact absurd h (by decide)
theorem number_decimal (n : Int) (h : -1000000000 ≤ n) (h' : n ≤ 1000000000) : number (decimalOf n) = (n, true) := by
  unfold decimalOf
  split
  · rename_i hn
    unfold number
    rw [if_pos (by simp), List.tail_cons, numDigs_of true n.natAbs (by omega) (by omega)]
    simp; omega
  · rename_i hn
    by_cases h0 : n = 0
    · subst h0
      have := (digitsOf_spec 0 (by omega)).2.2.2.2.1 rfl
      show number (digitsOf 0) = _
      rw [this]; decide
    · have hs := digitsOf_spec n.toNat (by omega)
      unfold number
      rw [if_neg ?_, numDigs_of false n.toNat (by omega) (by omega)]
      · simp; omega
      · intro hc
        cases hd : digitsOf n.toNat with
        | nil => exact hs.1 hd
        | cons c r =>
          rw [hd] at hc
          have : c = 45 := by simpa using hc
          exact isDig_ne45 (hs.2.1 c (by rw [hd]; simp)) this
theorem isTok_dig {c : UInt8} (h : isDig c = true) : isTok c = true := by
  simp [isDig] at h; simp [isTok]; omega
theorem decimal_tok (n : Int) (h : -1000000000 ≤ n) (h' : n ≤ 1000000000) : decimalOf n ≠ [] ∧ (∀ c ∈ decimalOf n, isTok c = true) ∧ (decimalOf n).length ≤ 11 := by
  unfold decimalOf
  split
  · have hs := digitsOf_spec n.natAbs (by omega)
    refine ⟨by simp, fun c hc => ?_, by simp; omega⟩
    rcases List.mem_cons.1 hc with rfl | hc
    · decide
    · exact isTok_dig (hs.2.1 c hc)
  · have hs := digitsOf_spec n.toNat (by omega)
    exact ⟨hs.1, fun c hc => isTok_dig (hs.2.1 c hc), by omega⟩

end Go.Proofs.YtcgkndfnhjcdnaaGreat.Pl

/-
  How the program reads a whole text of the high form, as plain functions.
-/
namespace Go.Proofs.YtcgkndfnhjcdnaaGreat.Pl

def inputR (r : RdM) : Bool × RdM :=
  match r.newName with
  | none => (false, r)
  | some name =>
    match r.skip.num (-1000000000) 1000000000 with
    | none => (false, r.skip)
    | some lo =>
      match r.skip.skip.num lo 1000000000 with
      | none => (false, r.skip.skip)
      | some hi => (true, ((r.skip.skip.skip.addIn (lo, hi)).addNode ⟨1, 0, 0, 0, r.ins.length, []⟩).addEnt name 0 r.nodes.length)
def inputsR : Nat → Bool → RdM → Bool × RdM
  | 0, _, r => (true, r)
  | k + 1, any, r =>
    if r.peek = kIn then
      match inputR r.skip with
      | (false, r1) => (false, r1)
      | (true, r1) => inputsR k true r1
    else (any, r)
def namedR (r : RdM) : Option (List UInt8 × Int) × RdM :=
  match r.newName with
  | none => (none, r)
  | some name =>
    match read 600 false r.skip with
    | (none, r1) => (none, r1)
    | (some n, r1) => (some (name, n), r1)
def letsR : Nat → RdM → Bool × RdM
  | 0, r => (true, r)
  | k + 1, r =>
    if r.peek = kLet then
      match namedR r.skip with
      | (none, r1) => (false, r1)
      | (some p, r1) => letsR k (r1.addEnt p.1 0 p.2)
    else (true, r)
def outsR : Nat → Bool → RdM → Bool × RdM
  | 0, _, r => (decide (r.toks.length ≤ r.pos), r)
  | k + 1, any, r =>
    if any = true ∧ r.toks.length ≤ r.pos then (true, r)
    else if r.peek = kOut then
      match namedR r.skip with
      | (none, r1) => (false, r1)
      | (some p, r1) => outsR k true ((r1.addEnt p.1 2 p.2).addOut p.2)
    else (false, r)
def textR (r : RdM) : Bool × RdM :=
  match inputsR 4 false r with
  | (false, r1) => (false, r1)
  | (true, r1) =>
    match letsR 16 r1 with
    | (false, r2) => (false, r2)
    | (true, r2) => outsR 4 false r2

theorem Ok.addEnt {s : Nat} {r : RdM} (h : Ok (s + 1) r) (t : List UInt8) (k n : Int) : Ok s (r.addEnt t k n) := by
  refine ⟨?_, h.pos, h.toks⟩
  have := h.size
  simp [RdM.sz, RdM.addEnt] at *; omega
theorem Ok.addOut {s : Nat} {r : RdM} (h : Ok (s + 1) r) (n : Int) : Ok s (r.addOut n) := by
  refine ⟨?_, h.pos, h.toks⟩
  have := h.size
  simp [RdM.sz, RdM.addOut] at *; omega
theorem Ok.addIn {s : Nat} {r : RdM} (h : Ok (s + 1) r) (p : Int × Int) : Ok s (r.addIn p) := by
  refine ⟨?_, h.pos, h.toks⟩
  have := h.size
  simp [RdM.sz, RdM.addIn] at *; omega
theorem newName_some {r : RdM} {t : List UInt8} (h : r.newName = some t) : r.peek ≠ [] ∧ t = r.peek := by
  unfold RdM.newName at h
  split at h
  · rename_i hc
    cases h
    refine ⟨?_, rfl⟩
    intro e; rw [e] at hc; exact absurd hc.1 (by decide)
  · cases h
theorem skip_same (r : RdM) : r.skip.nodes = r.nodes ∧ r.skip.ins = r.ins ∧ r.skip.ents = r.ents ∧ r.skip.outs = r.outs ∧ r.skip.toks = r.toks := by
  unfold RdM.skip; split <;> exact ⟨rfl, rfl, rfl, rfl, rfl⟩
theorem inputR_ok {s : Nat} {r : RdM} (h : Ok s r) : Ok s (inputR r).2 := by
  unfold inputR
  split
  · exact h
  · rename_i name hn
    have h1 := h.step (newName_some hn).1
    split
    · exact h1.less (by omega)
    · rename_i lo hlo
      have h2 := h1.step (num_some hlo).1
      split
      · exact h2.less (by omega)
      · rename_i hi hhi
        have h3 := h2.step (num_some hhi).1
        exact ((h3.addIn _).addNode _).addEnt _ _ _
theorem namedR_keeps (r : RdM) : Keeps r (namedR r).2 := by
  unfold namedR
  split
  · exact Keeps.refl r
  · have h := read_keeps 600 false r.skip
    split
    · rename_i e; rw [e] at h; exact (Keeps.skip r).trans h
    · rename_i e; rw [e] at h; exact (Keeps.skip r).trans h
theorem namedR_more {s : Nat} {r r1 : RdM} {p : List UInt8 × Int} (h : Ok s r) (e : namedR r = (some p, r1)) : Ok (s + 1) r1 := by
  unfold namedR at e
  split at e
  · cases e
  · rename_i name hn
    have h1 := h.step (newName_some hn).1
    have hk := read_keeps 600 false r.skip
    split at e
    · cases e
    · rename_i e2
      rw [e2] at hk
      cases e
      exact hk.ok _ h1

end Go.Proofs.YtcgkndfnhjcdnaaGreat.Pl

/-
  How the program reads the low form, as plain functions on the reader's data.
-/
namespace Go.Proofs.YtcgkndfnhjcdnaaGreat.Pl

def RdM.flag (r : RdM) : Option Int × RdM := r.knownStep 1
def quotLR (r : RdM) : Option Int × RdM :=
  match r.leaf with
  | (none, r1) => (none, r1)
  | (some a, r1) =>
    match r1.num 1 1000000 with
    | none => (none, r1)
    | some d => (some r1.nodes.length, r1.skip.addNode ⟨8, a, 0, 0, d, []⟩)
def opOf (t : List UInt8) : Option Int :=
  if t = kAdd then some 2 else if t = kSub then some 3 else if t = kMul then some 4 else if t = kFlr then some 8 else if t = kSel then some 7
  else if t = kLt then some 13 else if t = kLe then some 14 else if t = kEq then some 15 else if t = kAnd then some 16 else if t = kOr then some 17
  else if t = kNot then some 18 else none
def isFlagB (op : Int) : Bool := decide (op = 13 ∨ op = 14 ∨ op = 15 ∨ op = 16 ∨ op = 17 ∨ op = 18)
def resultLR (op : Int) (r : RdM) : Option Int × RdM :=
  if op = 4 then productR RdM.leaf r
  else if op = 8 then quotLR r
  else if op = 7 then choiceR RdM.flag RdM.leaf r
  else if op = 16 ∨ op = 17 then pairR RdM.flag op r
  else if op = 18 then oneR RdM.flag (fun a => ⟨18, a, 0, 0, 0, []⟩) r
  else pairR RdM.leaf op r
def kindOf (op : Int) : Int := if isFlagB op = true then 1 else 0
def stepR (r : RdM) : Bool × RdM :=
  match r.newName with
  | none => (false, r)
  | some name =>
    match opOf r.skip.peek with
    | none => (false, r.skip)
    | some op =>
      match resultLR op r.skip.skip with
      | (none, r1) => (false, r1)
      | (some n, r1) => (true, r1.addEnt name (kindOf op) n)
def stepsR : Nat → RdM → Bool × RdM
  | 0, r => (true, r)
  | k + 1, r =>
    if r.peek = kSet then
      match stepR r.skip with
      | (false, r1) => (false, r1)
      | (true, r1) => stepsR k r1
    else (true, r)
def outLR (r : RdM) : Bool × RdM :=
  match r.newName with
  | none => (false, r)
  | some name =>
    match r.skip.leaf with
    | (none, r1) => (false, r1)
    | (some n, r1) => (true, (r1.addEnt name 2 n).addOut n)
def outsLR : Nat → Bool → RdM → Bool × RdM
  | 0, _, r => (decide (r.toks.length ≤ r.pos), r)
  | k + 1, any, r =>
    if any = true ∧ r.toks.length ≤ r.pos then (true, r)
    else if r.peek = kOut then
      match outLR r.skip with
      | (false, r1) => (false, r1)
      | (true, r1) => outsLR k true r1
    else (false, r)
def lowR (r : RdM) : Bool × RdM :=
  match inputsR 4 false r with
  | (false, r1) => (false, r1)
  | (true, r1) =>
    match stepsR 80 r1 with
    | (false, r2) => (false, r2)
    | (true, r2) => outsLR 4 false r2

theorem flag_keeps (r : RdM) : Keeps r r.flag.2 := knownStep_keeps 1 r
theorem quotLR_keeps (r : RdM) : Keeps1 r (quotLR r).2 := by
  have h := leaf_keeps r
  unfold quotLR
  split
  · rename_i e; rw [e] at h; exact h.less
  · rename_i e
    rw [e] at h
    split
    · exact h.less
    · exact (h.trans (Keeps.skip _)).then1 (.add _ _)
theorem resultLR_keeps (op : Int) (r : RdM) : Keeps1 r (resultLR op r).2 := by
  unfold resultLR
  split
  · exact productR_keeps leaf_keeps r
  split
  · exact quotLR_keeps r
  split
  · exact choiceR_keeps flag_keeps leaf_keeps r
  split
  · exact pairR_keeps flag_keeps _ r
  split
  · exact oneR_keeps flag_keeps _ r
  · exact pairR_keeps leaf_keeps _ r
theorem opOf_some {t : List UInt8} {op : Int} (h : opOf t = some op) : t ≠ [] := by
  rintro rfl
  have e : opOf [] = none := by decide
  rw [e] at h; cases h
theorem stepR_ok {s : Nat} {r : RdM} (h : Ok s r) : Ok s (stepR r).2 := by
  unfold stepR
  split
  · exact h
  · rename_i name hn
    have h1 := h.step (newName_some hn).1
    split
    · exact h1.less (by omega)
    · rename_i op ho
      have h2 := h1.step (opOf_some ho)
      have hk := resultLR_keeps op r.skip.skip
      split
      · rename_i e; rw [e] at hk; exact (hk.ok _ h2).less (by omega)
      · rename_i e; rw [e] at hk; exact ((hk.ok _ h2).addEnt _ _ _).less (by omega)
theorem stepsR_ok (n : Nat) : ∀ (r : RdM), Ok 0 r → Ok 0 (stepsR n r).2 := by
  induction n with
  | zero => intro r h; exact h
  | succ n ih =>
    intro r h
    rw [stepsR]
    split
    · have hk := stepR_ok h.skip
      split
      · rename_i e; rw [e] at hk; exact hk
      · rename_i e; rw [e] at hk; exact ih _ hk
    · exact h
theorem outLR_ok {s : Nat} {r : RdM} (h : Ok (s + 1) r) : Ok s (outLR r).2 := by
  unfold outLR
  split
  · exact h.less (by omega)
  · rename_i name hn
    have h1 := h.step (newName_some hn).1
    have hk := leaf_keeps r.skip
    split
    · rename_i e; rw [e] at hk; exact (hk.ok _ h1).less (by omega)
    · rename_i e; rw [e] at hk; exact ((hk.ok _ h1).addEnt _ _ _).addOut _
theorem outsLR_ok (n : Nat) : ∀ (any : Bool) (r : RdM), Ok 0 r → Ok 0 (outsLR n any r).2 := by
  induction n with
  | zero => intro _ r h; exact h
  | succ n ih =>
    intro any r h
    rw [outsLR]
    split
    · exact h
    · split
      · rename_i hp
        have hk := outLR_ok (h.step (by rw [hp]; decide))
        split
        · rename_i e; rw [e] at hk; exact hk
        · rename_i e; rw [e] at hk; exact ih _ _ hk
      · exact h

end Go.Proofs.YtcgkndfnhjcdnaaGreat.Pl

/-
  What the program reads out of a text of the high or the low form, and what it comes to, as plain functions.
-/
namespace Go.Proofs.YtcgkndfnhjcdnaaGreat.Pl

def startR (l : List UInt8) : RdM := ⟨[], [], [], tokens l, 0, []⟩
/-- The error and the place, of a text that was read to its end (right) or not. -/
def resultR (right : Bool) (r : RdM) : Int × Int :=
  if right = true then (if isBigW r.ins r.nodes = true then (3, 0) else (0, 0)) else (2, r.pos)
/-- The error, the place, the reader behind the text. -/
def readWith (T : Bool × RdM) (l : List UInt8) : Int × Int × RdM :=
  if 6000 < l.length then (1, 0, startR l) else ((resultR T.1 T.2).1, (resultR T.1 T.2).2, T.2)
def readHigh (l : List UInt8) : Int × Int × RdM := readWith (textR (startR l)) l
def readLow (l : List UInt8) : Int × Int × RdM := readWith (lowR (startR l)) l
/-- The error and the values of the outs. -/
def toldR (en : Int) (r : RdM) (home : List Int) : Int × List Int :=
  if en ≠ 0 then (en, []) else if isHomeB r.ins home = true then (0, runW r.nodes r.outs home) else (4, [])
def runHigh (l : List UInt8) (home : List Int) : Int × List Int := toldR (readHigh l).1 (readHigh l).2.2 home
def runLow (l : List UInt8) (home : List Int) : Int × List Int := toldR (readLow l).1 (readLow l).2.2 home
theorem readWith_zero (T : Bool × RdM) (l : List UInt8) (h : (readWith T l).1 = 0) : l.length ≤ 6000 ∧ (readWith T l).2.2 = T.2 := by
  unfold readWith at *
  split at h
  · simp at h
  · rename_i hl; rw [if_neg hl]; exact ⟨by omega, rfl⟩
theorem tokens_len_aux (l : List UInt8) : ∀ (cur : List UInt8) (rem : Bool), (∀ t ∈ scan l cur rem, t.length ≤ cur.length + l.length) := by
  induction l with
  | nil =>
    intro cur rem t ht
    simp only [scan, emit] at ht
    split at ht
    · simp at ht
    · simp at ht; subst ht; simp
  | cons c l ih =>
    intro cur rem t ht
    cases rem with
    | true =>
      rw [scan] at ht
      split at ht
      · have := ih _ _ t ht; simp; omega
      · have := ih _ _ t ht; simp; omega
    | false =>
      rw [scan] at ht
      split at ht
      · have := ih _ _ t ht; simp at this ⊢; omega
      · unfold emit at ht
        split at ht
        · have := ih _ _ t ht; simp at this ⊢; omega
        · rcases List.mem_cons.1 ht with rfl | ht
          · omega
          · have := ih _ _ t ht; simp at this ⊢; omega
theorem start_ok (l : List UInt8) (h : l.length ≤ 6000) : Ok 0 (startR l) :=
  ⟨by simp [RdM.sz, startR], by simp [startR], fun t ht => by have := tokens_len_aux l [] false t ht; simp at this; omega⟩

end Go.Proofs.YtcgkndfnhjcdnaaGreat.Pl
