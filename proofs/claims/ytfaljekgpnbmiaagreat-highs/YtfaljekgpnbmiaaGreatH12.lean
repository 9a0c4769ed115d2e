/- Joined: PlainTok RefLeaf Ref1. -/
import Derived.Test.YtfaljekgpnbmiaaGreatH11
/-
  How the reference finds the tokens: remarks and line feeds are blanked, then the text is parted at blanks. They are the same tokens. And which words stand in a list of words.
-/
namespace Go.Proofs.YtfaljekgpnbmiaaGreat.Pl

/-- Behind the byte c: is a remark open? -/
def inNext (c : UInt8) (rem : Bool) : Bool := if c = 10 then false else if c = 35 then true else rem
def clearB (c : UInt8) (rem : Bool) : UInt8 := if inNext c rem = true ∨ c = 10 then 32 else c
def clear : List UInt8 → Bool → List UInt8
  | [], _ => []
  | c :: r, rem => clearB c rem :: clear r (inNext c rem)
theorem clear_len (l : List UInt8) : ∀ rem, (clear l rem).length = l.length := by
  induction l with
  | nil => intro _; rfl
  | cons c l ih => intro rem; simp [clear, ih]
def scanB : List UInt8 → List UInt8 → List (List UInt8)
  | [], _ => []
  | c :: r, cur => if c = 32 then emit cur (scanB r []) else scanB r (cur ++ [c])
theorem clear_ok (l : List UInt8) : ∀ rem, ∀ c ∈ clear l rem, c = 32 ∨ isTok c = true := by
  induction l with
  | nil => intro _ c hc; simp [clear] at hc
  | cons c l ih =>
    intro rem x hx
    rw [clear] at hx
    rcases List.mem_cons.1 hx with rfl | hx
    · unfold clearB
      by_cases h : inNext c rem = true ∨ c = 10
      · rw [if_pos h]; exact .inl rfl
      · rw [if_neg h]
        by_cases h32 : c = 32
        · exact .inl h32
        · refine .inr (isTok_of c h32 (fun e => h (.inr e)) ?_)
          intro e
          apply h
          left
          subst e
          rfl
    · exact ih _ x hx
theorem scanB_eq (l : List UInt8) : ∀ cur, (∀ c ∈ l, c = 32 ∨ isTok c = true) → scanB (l ++ [32]) cur = scan l cur false := by
  induction l with
  | nil => intro cur _; simp [scanB, scan]
  | cons c l ih =>
    intro cur h
    have ih' := fun cur => ih cur (fun x hx => h x (by simp [hx]))
    rw [List.cons_append, scanB, scan]
    by_cases h32 : c = 32
    · subst h32
      rw [if_pos rfl, if_neg (by decide), ih']
      rfl
    · have ht : isTok c = true := (h c (by simp)).resolve_left h32
      rw [if_neg h32, if_pos ht, ih']
theorem scan_clear (l : List UInt8) : (∀ cur, scan (clear l false) cur false = scan l cur false) ∧ scan (clear l true) [] false = scan l [] true := by
  induction l with
  | nil => exact ⟨fun _ => rfl, rfl⟩
  | cons c l ih =>
    refine ⟨fun cur => ?_, ?_⟩
    · rw [clear, scan]
      by_cases h10 : c = 10
      · subst h10
        have e1 : clearB 10 false = 32 := rfl
        have e2 : inNext 10 false = false := rfl
        rw [e1, e2, if_neg (by decide), scan, if_neg (by decide)]
        show emit cur (scan (clear l false) [] false) = emit cur (scan l [] false)
        rw [ih.1]
      · by_cases h35 : c = 35
        · subst h35
          have e1 : clearB 35 false = 32 := rfl
          have e2 : inNext 35 false = true := rfl
          rw [e1, e2, if_neg (by decide), scan, if_neg (by decide)]
          show emit cur (scan (clear l true) [] false) = emit cur (scan l [] true)
          rw [ih.2]
        · have e2 : inNext c false = false := by unfold inNext; rw [if_neg h10, if_neg h35]
          have e1 : clearB c false = c := by unfold clearB; rw [e2, if_neg (by simp [h10])]
          rw [e1, e2, scan, ih.1]
          by_cases ht : isTok c = true
          · rw [if_pos ht, if_pos ht]
          · rw [if_neg ht, if_neg ht]
            have h35' : decide (c.toNat = 35) = false := by
              rw [decide_eq_false_iff_not]; intro e; exact h35 (UInt8.toNat_inj.1 (by rw [e]; rfl))
            rw [h35', ih.1]
    · have e0 : ∀ X : List UInt8, scan (32 :: X) [] false = scan X [] false := fun X => by
        rw [scan, if_neg (by decide)]; rfl
      rw [clear]
      by_cases h10 : c = 10
      · subst h10
        have e1 : clearB 10 true = 32 := rfl
        have e2 : inNext 10 true = false := rfl
        rw [e1, e2, e0, ih.1]
        show _ = (if (10 : UInt8).toNat = 10 then scan l [] false else scan l [] true)
        rw [if_pos (by decide)]
      · have e2 : inNext c true = true := by unfold inNext; rw [if_neg h10]; split <;> rfl
        have e1 : clearB c true = 32 := by unfold clearB; rw [if_pos (.inl e2)]
        have n10 : ¬ c.toNat = 10 := fun e => h10 (UInt8.toNat_inj.1 (by rw [e]; rfl))
        rw [e1, e2, e0, ih.2]
        show _ = (if c.toNat = 10 then scan l [] false else scan l [] true)
        rw [if_neg n10]
theorem tokens_clear (l : List UInt8) : scanB (clear l false ++ [32]) [] = tokens l := by
  rw [scanB_eq _ _ (clear_ok l false), (scan_clear l).1]; rfl

/-- Words with a blank ahead of each, and one behind. -/
def pad : List (List UInt8) → List UInt8
  | [] => [32]
  | w :: ws => 32 :: (w ++ pad ws)
def NoSp (t : List UInt8) : Prop := ∀ c ∈ t, c ≠ 32
theorem pad_head (ws : List (List UInt8)) : ∃ r, pad ws = 32 :: r := by cases ws with | nil => exact ⟨_, rfl⟩ | cons w ws => exact ⟨_, rfl⟩
theorem prefix_word (t : List UInt8) : ∀ (w : List UInt8) (r : List UInt8), NoSp t → NoSp w → (t ++ [32]).isPrefixOf (w ++ 32 :: r) = decide (t = w) := by
  induction t with
  | nil =>
    intro w r _ hw
    cases w with
    | nil => simp [List.isPrefixOf]
    | cons c w =>
      have := hw c (by simp)
      simp [List.isPrefixOf]
      exact fun e => this e.symm
  | cons a t ih =>
    intro w r ht hw
    cases w with
    | nil =>
      have := ht a (by simp)
      simp [List.isPrefixOf, this]
    | cons c w =>
      rw [List.cons_append, List.cons_append, List.isPrefixOf, ih w r (fun x hx => ht x (by simp [hx])) (fun x hx => hw x (by simp [hx]))]
      by_cases h : a = c
      · subst h; simp
      · simp [h]
theorem holdsR_skip (w : List UInt8) (s u : List UInt8) (hw : NoSp w) : holdsR (w ++ s) (32 :: u) = holdsR s (32 :: u) := by
  induction w with
  | nil => rfl
  | cons c w ih =>
    have hc := hw c (by simp)
    rw [List.cons_append, holdsR, ih (fun x hx => hw x (by simp [hx]))]
    have : (32 : UInt8) ≠ c := fun e => hc e.symm
    simp [List.isPrefixOf, this]
theorem holds_pad (ws : List (List UInt8)) (t : List UInt8) (ht : NoSp t) (hws : ∀ w ∈ ws, NoSp w) : holdsR (pad ws) (32 :: (t ++ [32])) = decide (t ∈ ws) := by
  induction ws with
  | nil => cases t <;> simp [pad, holdsR, List.isPrefixOf]
  | cons w ws ih =>
    obtain ⟨r, hr⟩ := pad_head ws
    have hw := hws w (by simp)
    rw [pad, holdsR, holdsR_skip w _ _ hw, ih (fun x hx => hws x (by simp [hx]))]
    have e1 : (32 :: (t ++ [32])).isPrefixOf (32 :: (w ++ pad ws)) = decide (t = w) := by
      rw [List.isPrefixOf, hr, prefix_word t w r ht hw]; simp
    rw [e1]
    by_cases h : t = w <;> simp [h]
theorem noSp_of_good {t : List UInt8} (h : ∀ c ∈ t, isTok c = true) : NoSp t := fun c hc e => by
  have := h c hc; subst e; exact absurd this (by decide)
def headWords : List (List UInt8) := [kIn, kLet, kSet, kOut]
theorem holds_heads (t : List UInt8) (h : NoSp t) : holdsW (pad headWords) t = decide (t = kIn ∨ t = kLet ∨ t = kSet ∨ t = kOut) := by
  have := holds_pad headWords t h (by intro w hw; simp [headWords] at hw; rcases hw with rfl | rfl | rfl | rfl <;> (unfold NoSp; decide))
  unfold holdsW
  rw [show ([32] ++ t ++ [32] : List UInt8) = 32 :: (t ++ [32]) from rfl, this]
  simp [headWords]

end Go.Proofs.YtfaljekgpnbmiaaGreat.Pl

/-
  Contracts of package statuteref's small functions on numbers and on one token.
-/
namespace Go.Proofs.YtfaljekgpnbmiaaGreat
open Go.RowKit

set_option maxHeartbeats 400000 in
theorem digit_any (c : UInt8) (w : World) :
    Calls Tryz.prog 205 #[.int .u8 c.toNat] w fun e w' => e = .returned (.bool (Pl.isDig c)) ∧ w' = w := by
  go_enter Tryz.func205, Tryz.ntmps205
  go_wp2
  all_goals go_ret
  all_goals exact ⟨ret_bool (by rw [Pl.isDig, Bool.eq_iff_iff]; simp; omega), rfl⟩

set_option maxHeartbeats 400000 in
theorem apart_any (a : Int) (w : World) (h : -9223372036854775807 ≤ a) (h' : a ≤ 9223372036854775807) :
    Calls Tryz.prog 145 #[.int .i64 a] w fun e w' => e = .returned (.int .i64 (Pl.absv a)) ∧ w' = w := by
  go_enter Tryz.func145, Tryz.ntmps145
  go_wp2
  all_goals go_ret
  all_goals exact ⟨ret_int (by unfold Pl.absv; split <;> omega), rfl⟩

set_option maxHeartbeats 400000 in
theorem most_any (a b : Int) (w : World) :
    Calls Tryz.prog 144 #[.int .i64 a, .int .i64 b] w fun e w' => e = .returned (.int .i64 (Pl.most a b)) ∧ w' = w := by
  go_enter Tryz.func144, Tryz.ntmps144
  go_wp2
  all_goals go_ret
  all_goals exact ⟨ret_int (by unfold Pl.most; split <;> omega), rfl⟩

set_option maxHeartbeats 400000 in
theorem capped_any (b : Int) (w : World) (h : -9223372036854775807 ≤ b) (h' : b ≤ 9223372036854775807) :
    Calls Tryz.prog 203 #[.int .i64 b] w fun e w' => e = .returned (.int .i64 (Pl.capped b)) ∧ w' = w := by
  have hm : -9223372036854775807 ≤ Pl.most (-b) (-1000000000000001) ∧ Pl.most (-b) (-1000000000000001) ≤ 9223372036854775807 := by unfold Pl.most; split <;> omega
  obtain ⟨hm1, hm2⟩ := hm
  have hx : Hid (-Pl.most (-b) (-1000000000000001) = Pl.capped b) := by unfold Pl.most Pl.capped Hid; split <;> split <;> omega
  go_enter Tryz.func203, Tryz.ntmps203
  go_wp2_with (go_at_call 144; refine (most_any _ _ _).mono ?_; rintro e w' ⟨rfl, rfl⟩)
  go_ret
  exact ⟨ret_int hx.out, rfl⟩

set_option maxHeartbeats 400000 in
theorem down_any (a d : Int) (w : World) (h : -4000000000000000000 ≤ a) (h' : a ≤ 4000000000000000000) (hd : 1 ≤ d) (hd' : d ≤ 4000000000000000000) :
    Calls Tryz.prog 160 #[.int .i64 a, .int .i64 d] w fun e w' => e = .returned (.int .i64 (a / d)) ∧ w' = w := by
  obtain ⟨hq, hq'⟩ := Pl.tdiv_bd a d 4000000000000000000 h h'
  have hf : a / d = if a.tmod d < 0 then a.tdiv d - 1 else a.tdiv d := by
    have := Pl.floor_tdiv a d hd; rw [Pl.floorI, if_neg (by omega)] at this; exact this
  have hst : a / d ≤ a.tdiv d ∧ a.tdiv d ≤ a / d + 1 := by rw [hf]; split <;> omega
  obtain ⟨p, hp⟩ : ∃ p, p = a / d := ⟨_, rfl⟩
  have hp1 : p * d ≤ a := by rw [hp]; exact Int.ediv_mul_le a (by omega)
  have hp2 : a < p * d + d := by rw [hp]; have := Int.lt_ediv_add_one_mul_self a (show 0 < d by omega); rw [Int.add_mul, Int.one_mul] at this; exact this
  rw [← hp] at hst ⊢
  clear hf hp
  have hpb : -4000000000000000000 - 1 ≤ p ∧ p ≤ 4000000000000000000 := by omega
  go_enter Tryz.func160, Tryz.ntmps160
  go_wp2
  go_loop [5] (fun i => ∃ q : Int, i = .int .i64 q ∧ p ≤ q ∧ q ≤ p + 1) (fun i => (intOf i - p).toNat)
  case atStart => exact ⟨_, rfl, hst.1, hst.2⟩
  case round =>
    obtain ⟨q, rfl, hq1, hq2⟩ := hrel
    clear hst
    by_cases hc : q = p
    · subst hc
      have hno : ¬ a < q * d := by omega
      go_wp2
      go_ret
      exact ⟨rfl, rfl⟩
    · obtain ⟨x, hx⟩ : ∃ x, x = q * d := ⟨_, rfl⟩
      have hx1 : x = p * d + d := by rw [hx, show q = p + 1 by omega, Int.add_mul, Int.one_mul]
      have hb1 : a < q * d := by omega
      have hb2 : q * d ≤ a + d := by omega
      clear hx hx1
      go_wp2
      go_round
      case rel => exact ⟨q - 1, rfl, by omega, by omega⟩
      case measure => simp [intOf]; omega

set_option maxHeartbeats 1000000 in
theorem RNumber_neg (t d : List UInt8) (c : UInt8) (w : World) (hl : t.length ≤ maxLen) (h0 : 0 < t.length) (hc : t[0] = c) (hneg : ((c.toNat : Int) == 45) = true)
    (hd : d = t.tail) (h48 : (d == [48]) = false) (h1 : 0 < d.length) (he : d.isEmpty = false) (c1 : UInt8) (hc1 : d[0] = c1) (hz : ((c1.toNat : Int) == 48) = false) :
    Calls Tryz.prog 151 #[.string ⟨t.toArray⟩] w fun e w' => e = .returned (.tuple #[.int .i64 (Pl.numRest true d).1, .bool (Pl.numRest true d).2]) ∧ w' = w := by
  unfold maxLen at hl
  have hb0 : (ByteArray.mk t.toArray)[0] = c := hc
  have hb1 : (ByteArray.mk d.toArray)[0] = c1 := hc1
  have hle : d.length ≤ t.length := by subst hd; simp
  have hx : (ByteArray.mk t.toArray).extract 1 t.length = ⟨d.toArray⟩ := by rw [bext, hd]; simp [List.take_of_length_le]
  clear hc hc1 hd
  go_enter Tryz.func151, Tryz.ntmps151
  go_wp2
  go_loop [6, 7] (fun n i => ∃ (k : Nat) (m : Int), k ≤ d.length ∧ i = .int .i64 k ∧ n = .int .i64 m ∧ 0 ≤ m ∧ m ≤ 1000000000 ∧ Hid (Pl.numLoop d 0 = Pl.numLoop (d.drop k) m)) (fun _ i => d.length - (intOf i).toNat)
  case atStart => exact ⟨0, 0, by omega, rfl, rfl, by omega, by omega, rfl⟩
  case round =>
    obtain ⟨k, m, hk, rfl, rfl, hm0, hm1, hr⟩ := hrel
    by_cases hlt : k < d.length
    · have hb := bget d k hlt
      cases hdg : Pl.isDig d[k]
      · have hx : Hid (Pl.numRest true d = (0, false)) := Pl.numRest_none _ d (hr.out.trans (Pl.numLoop_no d k m hlt hdg))
        go_wp2_with (go_at_call 205; refine (digit_any _ _).mono ?_; rintro e w' ⟨rfl, rfl⟩)
        go_ret2
        exact ⟨ret_num hx.out, rfl⟩
      · obtain ⟨hlo, hhi⟩ := Pl.isDig_bd hdg
        by_cases hbig : 1000000000 < 10 * m + ((d[k].toNat : Int) - 48)
        · have hx : Hid (Pl.numRest true d = (0, false)) := Pl.numRest_none _ d (hr.out.trans (Pl.numLoop_big d k m hlt hdg hbig))
          go_wp2_with (go_at_call 205; refine (digit_any _ _).mono ?_; rintro e w' ⟨rfl, rfl⟩)
          go_ret2
          exact ⟨ret_num hx.out, rfl⟩
        · have hx : Hid (Pl.numLoop d 0 = Pl.numLoop (d.drop (k + 1)) (10 * m + ((d[k].toNat : Int) - 48))) := hr.out.trans (Pl.numLoop_dig d k m hlt hdg (by omega))
          go_wp2_with (go_at_call 205; refine (digit_any _ _).mono ?_; rintro e w' ⟨rfl, rfl⟩)
          go_round
          case rel => exact ⟨k + 1, 10 * m + ((d[k].toNat : Int) - 48), by omega, by go_num, by go_num, by omega, by omega, hx.out⟩
          case measure => simp [intOf]; omega
    · have hx : Hid (Pl.numRest true d = (if true then -m else m, true)) := Pl.numRest_some _ d m (hr.out.trans (Pl.numLoop_end d k m (by omega)))
      go_wp2
      go_ret2
      exact ⟨ret_num (by simpa using hx.out), rfl⟩

set_option maxHeartbeats 1000000 in
theorem RNumber_pos (d : List UInt8) (c : UInt8) (w : World) (hl : d.length ≤ maxLen) (h1 : 0 < d.length) (hc : d[0] = c) (hneg : ((c.toNat : Int) == 45) = false)
    (h48 : (d == [48]) = false) (he : d.isEmpty = false) (hz : ((c.toNat : Int) == 48) = false) :
    Calls Tryz.prog 151 #[.string ⟨d.toArray⟩] w fun e w' => e = .returned (.tuple #[.int .i64 (Pl.numRest false d).1, .bool (Pl.numRest false d).2]) ∧ w' = w := by
  unfold maxLen at hl
  have hb0 : (ByteArray.mk d.toArray)[0] = c := hc
  clear hc
  go_enter Tryz.func151, Tryz.ntmps151
  go_wp2
  go_loop [6, 7] (fun n i => ∃ (k : Nat) (m : Int), k ≤ d.length ∧ i = .int .i64 k ∧ n = .int .i64 m ∧ 0 ≤ m ∧ m ≤ 1000000000 ∧ Hid (Pl.numLoop d 0 = Pl.numLoop (d.drop k) m)) (fun _ i => d.length - (intOf i).toNat)
  case atStart => exact ⟨0, 0, by omega, rfl, rfl, by omega, by omega, rfl⟩
  case round =>
    obtain ⟨k, m, hk, rfl, rfl, hm0, hm1, hr⟩ := hrel
    by_cases hlt : k < d.length
    · have hb := bget d k hlt
      cases hdg : Pl.isDig d[k]
      · have hx : Hid (Pl.numRest false d = (0, false)) := Pl.numRest_none _ d (hr.out.trans (Pl.numLoop_no d k m hlt hdg))
        go_wp2_with (go_at_call 205; refine (digit_any _ _).mono ?_; rintro e w' ⟨rfl, rfl⟩)
        go_ret2
        exact ⟨ret_num hx.out, rfl⟩
      · obtain ⟨hlo, hhi⟩ := Pl.isDig_bd hdg
        by_cases hbig : 1000000000 < 10 * m + ((d[k].toNat : Int) - 48)
        · have hx : Hid (Pl.numRest false d = (0, false)) := Pl.numRest_none _ d (hr.out.trans (Pl.numLoop_big d k m hlt hdg hbig))
          go_wp2_with (go_at_call 205; refine (digit_any _ _).mono ?_; rintro e w' ⟨rfl, rfl⟩)
          go_ret2
          exact ⟨ret_num hx.out, rfl⟩
        · have hx : Hid (Pl.numLoop d 0 = Pl.numLoop (d.drop (k + 1)) (10 * m + ((d[k].toNat : Int) - 48))) := hr.out.trans (Pl.numLoop_dig d k m hlt hdg (by omega))
          go_wp2_with (go_at_call 205; refine (digit_any _ _).mono ?_; rintro e w' ⟨rfl, rfl⟩)
          go_round
          case rel => exact ⟨k + 1, 10 * m + ((d[k].toNat : Int) - 48), by omega, by go_num, by go_num, by omega, by omega, hx.out⟩
          case measure => simp [intOf]; omega
    · have hx : Hid (Pl.numRest false d = (if false then -m else m, true)) := Pl.numRest_some _ d m (hr.out.trans (Pl.numLoop_end d k m (by omega)))
      go_wp2
      go_ret2
      exact ⟨ret_num (by simpa using hx.out), rfl⟩

set_option maxHeartbeats 1000000 in
theorem RNumber_zneg (t d : List UInt8) (c : UInt8) (w : World) (hl : t.length ≤ maxLen) (h0 : 0 < t.length) (hc : t[0] = c) (hneg : ((c.toNat : Int) == 45) = true)
    (hd : d = t.tail) (h48 : (d == [48]) = false) (h1 : 0 < d.length) (he : d.isEmpty = false) (c1 : UInt8) (hc1 : d[0] = c1) (hz : ((c1.toNat : Int) == 48) = true) :
    Calls Tryz.prog 151 #[.string ⟨t.toArray⟩] w fun e w' => e = .returned (.tuple #[.int .i64 0, .bool false]) ∧ w' = w := by
  unfold maxLen at hl
  have hb0 : (ByteArray.mk t.toArray)[0] = c := hc
  have hb1 : (ByteArray.mk d.toArray)[0] = c1 := hc1
  have hle : d.length ≤ t.length := by subst hd; simp
  have hx : (ByteArray.mk t.toArray).extract 1 t.length = ⟨d.toArray⟩ := by rw [bext, hd]; simp [List.take_of_length_le]
  clear hc hc1 hd
  go_enter Tryz.func151, Tryz.ntmps151
  go_wp2
  go_ret2
  exact ⟨rfl, rfl⟩

set_option maxHeartbeats 1000000 in
theorem RNumber_zpos (d : List UInt8) (c : UInt8) (w : World) (h1 : 0 < d.length) (hc : d[0] = c) (hneg : ((c.toNat : Int) == 45) = false)
    (h48 : (d == [48]) = false) (he : d.isEmpty = false) (hz : ((c.toNat : Int) == 48) = true) :
    Calls Tryz.prog 151 #[.string ⟨d.toArray⟩] w fun e w' => e = .returned (.tuple #[.int .i64 0, .bool false]) ∧ w' = w := by
  have hb0 : (ByteArray.mk d.toArray)[0] = c := hc
  clear hc
  go_enter Tryz.func151, Tryz.ntmps151
  go_wp2
  go_ret2
  exact ⟨rfl, rfl⟩

set_option maxHeartbeats 1000000 in
theorem RNumber_short (t : List UInt8) (w : World) (h : t = [] ∨ t = [48] ∨ t = [45] ∨ t = [45, 48]) :
    Calls Tryz.prog 151 #[.string ⟨t.toArray⟩] w fun e w' => e = .returned (.tuple #[.int .i64 0, .bool (t == [48])]) ∧ w' = w := by
  rcases h with rfl | rfl | rfl | rfl
  · go_enter Tryz.func151, Tryz.ntmps151
    go_wp2
    go_ret2
    exact ⟨rfl, rfl⟩
  · have h1 : ((((ByteArray.mk [48].toArray)[0]'(by decide)).toNat : Int) == 45) = false := by decide
    go_enter Tryz.func151, Tryz.ntmps151
    go_wp2
    go_ret2
    exact ⟨rfl, rfl⟩
  · have h1 : ((((ByteArray.mk [45].toArray)[0]'(by decide)).toNat : Int) == 45) = true := by decide
    have hx : (ByteArray.mk [45].toArray).extract 1 1 = ⟨[].toArray⟩ := by rw [bext]; rfl
    go_enter Tryz.func151, Tryz.ntmps151
    go_wp2
    go_ret2
    exact ⟨rfl, rfl⟩
  · have h1 : ((((ByteArray.mk [45, 48].toArray)[0]'(by decide)).toNat : Int) == 45) = true := by decide
    have hx : (ByteArray.mk [45, 48].toArray).extract 1 2 = ⟨[48].toArray⟩ := by rw [bext]; rfl
    go_enter Tryz.func151, Tryz.ntmps151
    go_wp2
    go_ret2
    exact ⟨rfl, rfl⟩

theorem RNumber_any (t : List UInt8) (w : World) (hl : t.length ≤ maxLen) :
    Calls Tryz.prog 151 #[.string ⟨t.toArray⟩] w fun e w' => e = .returned (.tuple #[.int .i64 (Pl.number t).1, .bool (Pl.number t).2]) ∧ w' = w := by
  match t, hl with
  | [], _ => exact RNumber_short [] w (.inl rfl)
  | [45], _ => exact RNumber_short [45] w (.inr (.inr (.inl rfl)))
  | [48], _ => exact RNumber_short [48] w (.inr (.inl rfl))
  | [45, 48], _ => exact RNumber_short [45, 48] w (.inr (.inr (.inr rfl)))
  | c :: r, hl =>
    by_cases hc : c = 45
    · subst hc
      cases r with
      | nil => exact RNumber_short [45] w (.inr (.inr (.inl rfl)))
      | cons c1 r =>
        by_cases h48 : (c1 :: r) = [48]
        · rw [h48]; exact RNumber_short [45, 48] w (.inr (.inr (.inr rfl)))
        · have hb : ((c1 :: r) == [48]) = false := by simpa using h48
          cases hz : ((c1.toNat : Int) == 48)
          · have e := RNumber_neg (45 :: c1 :: r) (c1 :: r) 45 w hl (by simp) rfl (by decide) rfl hb (by simp) rfl c1 rfl hz
            rw [Pl.number_neg c1 r h48 (Pl.ne48 hz)]; exact e
          · have e := RNumber_zneg (45 :: c1 :: r) (c1 :: r) 45 w hl (by simp) rfl (by decide) rfl hb (by simp) rfl c1 rfl hz
            rw [Pl.number_zneg c1 r h48 (Pl.eq48 hz)]; exact e
    · by_cases h48 : (c :: r) = [48]
      · rw [h48]; exact RNumber_short [48] w (.inr (.inl rfl))
      · have hb : ((c :: r) == [48]) = false := by simpa using h48
        cases hz : ((c.toNat : Int) == 48)
        · have e := RNumber_pos (c :: r) c w hl (by simp) rfl (Pl.ne45 hc) hb rfl hz
          rw [Pl.number_pos c r hc h48 (Pl.ne48 hz)]; exact e
        · have e := RNumber_zpos (c :: r) c w (by simp) rfl (Pl.ne45 hc) hb rfl hz
          rw [Pl.number_zpos c r hc h48 (Pl.eq48 hz)]; exact e

end Go.Proofs.YtfaljekgpnbmiaaGreat

/-
  Contracts of the reference's within, holds, find, fresh, is, count.
-/
namespace Go.Proofs.YtfaljekgpnbmiaaGreat
open Go.RowKit

/-- A slice of declarations that reads as l. -/
def DeclsAt (w : World) (v : Value) (l : List Pl.DeclM) : Prop :=
  ∃ ad cap, v = .slice ad l.length cap ∧ ∀ i, (hi : i < l.length) → ∃ g, ad = some ⟨g, 0, none⟩ ∧
    w.cell? ⟨g, i * 5, none⟩ = some (.string ⟨l[i].name.toArray⟩) ∧ w.cell? ⟨g, i * 5 + 1, none⟩ = some (.int .u8 l[i].kind) ∧ w.cell? ⟨g, i * 5 + 2, none⟩ = some (.int .i64 l[i].lo) ∧ w.cell? ⟨g, i * 5 + 3, none⟩ = some (.int .i64 l[i].hi) ∧ w.cell? ⟨g, i * 5 + 4, none⟩ = some (.int .i64 l[i].pos)
theorem decls_get {w : World} {ad : Option Addr} {n cap : Nat} {l : List Pl.DeclM} (h : DeclsAt w (.slice ad n cap) l) (i : Nat) (hi : i < l.length) : ∃ g, ad = some ⟨g, 0, none⟩ ∧
    w.cell? ⟨g, i * 5, none⟩ = some (.string ⟨l[i].name.toArray⟩) ∧ w.cell? ⟨g, i * 5 + 1, none⟩ = some (.int .u8 l[i].kind) ∧ w.cell? ⟨g, i * 5 + 2, none⟩ = some (.int .i64 l[i].lo) ∧ w.cell? ⟨g, i * 5 + 3, none⟩ = some (.int .i64 l[i].hi) ∧ w.cell? ⟨g, i * 5 + 4, none⟩ = some (.int .i64 l[i].pos) := by
  obtain ⟨_, _, he, hc⟩ := h
  simp only [Value.slice.injEq] at he
  obtain ⟨g, e1, e2⟩ := hc i hi
  exact ⟨g, he.1.trans e1, e2⟩

set_option maxHeartbeats 400000 in
theorem within_any (t : List UInt8) (lo hi : Int) (w : World) (hl : t.length ≤ 6000) :
    Calls Tryz.prog 200 #[.string ⟨t.toArray⟩, .int .i64 lo, .int .i64 hi] w fun e w' => e = .returned (.bool (Pl.within t lo hi)) ∧ w' = w := by
  have hN := RNumber_any t w (by unfold maxLen; omega)
  unfold Pl.within
  generalize Pl.number t = p at *
  obtain ⟨m, ok⟩ := p
  simp only at hN ⊢
  have hN' := hide hN
  clear hN
  cases ok
  · go_enter Tryz.func200, Tryz.ntmps200
    go_wp2_with fail
    refine (unhide hN').mono ?_
    rintro e w1 ⟨rfl, rfl⟩
    clear hN'
    go_wp2_with fail
    go_ret
    exact ⟨rfl, rfl⟩
  · cases h1 : decide (lo ≤ m) <;> cases h2 : decide (m ≤ hi)
    all_goals
      go_enter Tryz.func200, Tryz.ntmps200
      go_wp2_with fail
      refine (unhide hN').mono ?_
      rintro e w1 ⟨rfl, rfl⟩
      clear hN'
      go_wp2_with fail
      go_ret
      exact ⟨rfl, rfl⟩

set_option maxHeartbeats 1000000 in
theorem holds_ref (s u : List UInt8) (w : World) (hs : s.length ≤ 10000) (hu : u.length ≤ 10000) :
    Calls Tryz.prog 112 #[.string ⟨s.toArray⟩, .string ⟨u.toArray⟩] w fun e w' => e = .returned (.bool (Pl.holdsW s u)) ∧ w' = w := by
  have ha1 := ByteArray.mk_append_mk [32] u
  have ha2 := ByteArray.mk_append_mk ([32] ++ u) [32]
  have htl : ([32] ++ u ++ [32]).length = u.length + 2 := by simp
  unfold Pl.holdsW
  have htl1 : ([32] ++ u).length = u.length + 1 := by simp
  generalize htt : ([32] ++ u ++ [32] : List UInt8) = t at *
  generalize ([32] ++ u : List UInt8) = t1 at *
  have HT : Hid (t.length = u.length + 2) := htl
  have htb : t.length ≤ 10002 := by omega
  have htp : 2 ≤ t.length := by omega
  have ht1b : t1.length ≤ 10001 := by omega
  clear htt htl htl1
  go_enter Tryz.func112, Tryz.ntmps112
  go_wp2_with fail
  go_loop [6] (fun i => ∃ k : Nat, k ≤ s.length ∧ i = .int .i64 k ∧ Hid (Pl.holdsR (s.drop k) t = Pl.holdsR s t)) (fun i => s.length - (intOf i).toNat)
  case atStart => exact ⟨0, by omega, rfl, rfl⟩
  case round =>
    obtain ⟨k, hk, rfl, hr⟩ := hrel
    clear ha1 ha2
    by_cases hle : k + t.length ≤ s.length
    · have hst := Pl.holdsR_step s t k (by omega)
      have hx : (ByteArray.mk s.toArray).extract k (k + t.length) = ⟨((s.drop k).take t.length).toArray⟩ := by rw [bext, Nat.add_sub_cancel_left]
      cases he : ((s.drop k).take t.length == t)
      · have hn : Hid (Pl.holdsR (s.drop (k + 1)) t = Pl.holdsR s t) := by have := hr.out; rw [hst, he, Bool.false_or] at this; exact this
        generalize (s.drop k).take t.length = tk at *
        clear hr hst
        go_wp2_with fail
        go_round
        case rel => exact ⟨k + 1, by omega, by go_num, hn.out⟩
        case measure => simp [intOf]; omega
      · have hn : Hid (Pl.holdsR s t = true) := by have := hr.out; rw [hst, he, Bool.true_or] at this; exact this.symm
        generalize (s.drop k).take t.length = tk at *
        clear hr hst
        go_wp2_with fail
        go_ret
        exact ⟨ret_bool hn.out.symm, rfl⟩
    · have hn : Hid (Pl.holdsR s t = false) := by rw [← hr.out]; exact Pl.holdsR_short _ _ (by rw [List.length_drop]; omega)
      clear hr
      go_wp2_with fail
      go_ret
      exact ⟨ret_bool hn.out.symm, rfl⟩

set_option maxHeartbeats 1000000 in
theorem find_ref (l : List Pl.DeclM) (v : Value) (t : List UInt8) (w : World) (h : DeclsAt w v l) (hl : l.length ≤ 10000) :
    Calls Tryz.prog 155 #[v, .string ⟨t.toArray⟩] w fun e w' => e = .returned (.int .i64 (Pl.findD l t)) ∧ w' = w := by
  obtain ⟨ad, cap, rfl, hc⟩ := h
  go_enter Tryz.func155, Tryz.ntmps155
  go_wp2_with fail
  go_loop [5] (fun i => ∃ k : Nat, k ≤ l.length ∧ i = .int .i64 k ∧ Hid (Pl.findFrom (l.drop k) t k = Pl.findD l t)) (fun i => l.length - (intOf i).toNat)
  case atStart => exact ⟨0, by omega, rfl, rfl⟩
  case round =>
    obtain ⟨k, hk, rfl, hr⟩ := hrel
    by_cases hlt : k < l.length
    · obtain ⟨g, rfl, hn, _⟩ := hc k hlt
      clear hc
      by_cases he : l[k].name = t
      · have hx : Hid (Pl.findD l t = k) := by have := hr.out; rw [Pl.findFrom_hit _ _ _ hlt he] at this; exact this.symm
        rw [he] at hn
        clear hr he
        go_wp2_with fail
        go_ret
        exact ⟨ret_int hx.out.symm, rfl⟩
      · have hx : Hid (Pl.findFrom (l.drop (k + 1)) t ((k : Int) + 1) = Pl.findD l t) := by have := hr.out; rw [Pl.findFrom_miss _ _ _ hlt he] at this; exact this
        generalize l[k].name = u at *
        have hb : (u == t) = false := by simpa using he
        clear hr he
        go_wp2_with fail
        go_round
        case rel => exact ⟨k + 1, by omega, by go_num, hx.out⟩
        case measure => simp [intOf]; omega
    · have hx : Hid (Pl.findD l t = -1) := by rw [← hr.out]; exact Pl.findFrom_end _ _ _ (by omega) _
      clear hc hr
      go_wp2_with fail
      go_ret
      exact ⟨ret_int hx.out.symm, rfl⟩

set_option maxHeartbeats 1000000 in
theorem count_ref (l : List Pl.DeclM) (v : Value) (c : Nat) (w : World) (h : DeclsAt w v l) (hl : l.length ≤ 10000) :
    Calls Tryz.prog 113 #[v, .int .u8 c] w fun e w' => e = .returned (.int .i64 (Pl.countD l c)) ∧ w' = w := by
  obtain ⟨ad, cap, rfl, hc⟩ := h
  go_enter Tryz.func113, Tryz.ntmps113
  go_wp2_with fail
  go_loop [5, 6] (fun n i => ∃ k m : Nat, k ≤ l.length ∧ m ≤ k ∧ i = .int .i64 k ∧ n = .int .i64 m ∧ Hid (m + Pl.countD (l.drop k) c = Pl.countD l c)) (fun _ i => l.length - (intOf i).toNat)
  case atStart => exact ⟨0, 0, by omega, by omega, rfl, rfl, by simp [Hid]⟩
  case round =>
    obtain ⟨k, m, hk, hm, rfl, rfl, hr⟩ := hrel
    by_cases hlt : k < l.length
    · obtain ⟨g, rfl, _, hkd, _⟩ := hc k hlt
      have hst := Pl.countD_step l k hlt c
      clear hc
      generalize l[k].kind = kd at *
      by_cases he : kd = c
      · have hx : Hid (m + 1 + Pl.countD (l.drop (k + 1)) c = Pl.countD l c) := by have := hr.out; rw [hst, if_pos he] at this; simp only [Hid]; omega
        subst he
        clear hr hst
        go_wp2_with fail
        go_round
        case rel => exact ⟨k + 1, m + 1, by omega, by omega, by go_num, by go_num, hx.out⟩
        case measure => simp [intOf]; omega
      · have hx : Hid (m + Pl.countD (l.drop (k + 1)) c = Pl.countD l c) := by have := hr.out; rw [hst, if_neg he] at this; simp only [Hid]; omega
        have hb : ((kd : Int) == c) = false := by rw [beq_eq_false_iff_ne]; omega
        clear hr hst he
        go_wp2_with fail
        go_round
        case rel => exact ⟨k + 1, m, by omega, by omega, by go_num, rfl, hx.out⟩
        case measure => simp [intOf]; omega
    · have hx : Hid (m = Pl.countD l c) := by have := hr.out; rw [List.drop_eq_nil_of_le (by omega)] at this; simpa [Pl.countD, Hid] using this
      clear hc hr
      go_wp2_with fail
      go_ret
      exact ⟨ret_int (by rw [hx.out]), rfl⟩
end Go.Proofs.YtfaljekgpnbmiaaGreat
