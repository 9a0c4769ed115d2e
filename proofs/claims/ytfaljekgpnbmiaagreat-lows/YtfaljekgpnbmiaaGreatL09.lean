/- Joined: Plan4. -/
import Derived.Test.YtfaljekgpnbmiaaGreatL08
/-
  Contracts of the plan's nodeValue, one theorem an operation; then nodeBound and nodeValue of any node.
-/
namespace Go.Proofs.YtfaljekgpnbmiaaGreat
open Go.RowKit

set_option maxRecDepth 100000 in
set_option maxHeartbeats 1000000 in
theorem nodeValue_1 (a b' c k : Int) (bands : List (Int × Int)) (ad : Option Addr) (cp : Nat) (vs home : List Int) (vv vh : Value) (w : World) (hvs : IntsAt w vv vs) (hh : IntsAt w vh home) :
    Calls Tryz.prog 137 #[.agg #[.int .i64 1, .int .i64 a, .int .i64 b', .int .i64 c, .int .i64 k, .slice ad bands.length cp], vv, vh] w fun e w' => e = .returned (.int .i64 (Pl.pickL home k)) ∧ Below w.heap.size w w' := by
  have hbox := box_facts w (.int .i64 1) (.int .i64 a) (.int .i64 b') (.int .i64 c) (.int .i64 k) (.slice ad bands.length cp)
  have hp := hide (fun x => pick_any vs x vv _ (hvs.below hbox))
  have hq := hide (fun x => pick_any home x vh _ (hh.below hbox))
  have hB := hide hbox
  clear hbox hvs hh
  go_enter Tryz.func137, Tryz.ntmps137
  go_wp2_with fail
  refine (unhide hp _).mono ?_
  rintro e w' ⟨rfl, rfl⟩
  go_wp2_with fail
  refine (unhide hp _).mono ?_
  rintro e w' ⟨rfl, rfl⟩
  go_wp2_with fail
  refine (unhide hq _).mono ?_
  rintro e w' ⟨rfl, rfl⟩
  go_wp2_with fail
  go_ret
  exact ⟨rfl, unhide hB⟩

set_option maxRecDepth 100000 in
set_option maxHeartbeats 1000000 in
theorem nodeValue_0 (a b' c k : Int) (bands : List (Int × Int)) (ad : Option Addr) (cp : Nat) (vs : List Int) (vv vh : Value) (w : World) (hb : PairsAt w (.slice ad bands.length cp) bands) (hvs : IntsAt w vv vs) (hl : bands.length ≤ 1000) :
    Calls Tryz.prog 137 #[.agg #[.int .i64 0, .int .i64 a, .int .i64 b', .int .i64 c, .int .i64 k, .slice ad bands.length cp], vv, vh] w fun e w' => e = .returned (.int .i64 (k)) ∧ Below w.heap.size w w' := by
  have hbox := box_facts w (.int .i64 0) (.int .i64 a) (.int .i64 b') (.int .i64 c) (.int .i64 k) (.slice ad bands.length cp)
  have hp := hide (fun x => pick_any vs x vv _ (hvs.below hbox))
  have hbs := hide (fun x => bandSum_any x bands _ _ (hb.below hbox) hl)
  have hB := hide hbox
  have hB2 := hide (fun n => below_drewN hbox n)
  clear hbox hb hvs hl
  go_enter Tryz.func137, Tryz.ntmps137
  go_wp2_with (first
    | (go_at_call 138; refine (unhide hp _).mono ?_; rintro e w' ⟨rfl, rfl⟩)
    | (go_at_call 192; refine (lesser_any _ _ _).mono ?_; rintro e w' ⟨rfl, rfl⟩)
    | (go_at_call 193; refine (greater_any _ _ _).mono ?_; rintro e w' ⟨rfl, rfl⟩)
    | (go_at_call 194; refine (quotW_any _ _ _ _).mono ?_; rintro e w' ⟨rfl, rfl⟩)
    | (go_at_call 196; refine (holds_any _ _ _ _).mono ?_; rintro e w' ⟨rfl, rfl⟩)
    | (go_at_call 195; refine (unhide hbs _).mono ?_; rintro e w' ⟨rfl, n, rfl⟩))
  go_ret
  exact ⟨rfl, unhide hB⟩

set_option maxRecDepth 100000 in
set_option maxHeartbeats 1000000 in
theorem nodeValue_2 (a b' c k : Int) (bands : List (Int × Int)) (ad : Option Addr) (cp : Nat) (vs : List Int) (vv vh : Value) (w : World) (hb : PairsAt w (.slice ad bands.length cp) bands) (hvs : IntsAt w vv vs) (hl : bands.length ≤ 1000) :
    Calls Tryz.prog 137 #[.agg #[.int .i64 2, .int .i64 a, .int .i64 b', .int .i64 c, .int .i64 k, .slice ad bands.length cp], vv, vh] w fun e w' => e = .returned (.int .i64 (wrap64 (Pl.pickL vs a + Pl.pickL vs b'))) ∧ Below w.heap.size w w' := by
  have hbox := box_facts w (.int .i64 2) (.int .i64 a) (.int .i64 b') (.int .i64 c) (.int .i64 k) (.slice ad bands.length cp)
  have hp := hide (fun x => pick_any vs x vv _ (hvs.below hbox))
  have hbs := hide (fun x => bandSum_any x bands _ _ (hb.below hbox) hl)
  have hB := hide hbox
  have hB2 := hide (fun n => below_drewN hbox n)
  clear hbox hb hvs hl
  go_enter Tryz.func137, Tryz.ntmps137
  go_wp2_with (first
    | (go_at_call 138; refine (unhide hp _).mono ?_; rintro e w' ⟨rfl, rfl⟩)
    | (go_at_call 192; refine (lesser_any _ _ _).mono ?_; rintro e w' ⟨rfl, rfl⟩)
    | (go_at_call 193; refine (greater_any _ _ _).mono ?_; rintro e w' ⟨rfl, rfl⟩)
    | (go_at_call 194; refine (quotW_any _ _ _ _).mono ?_; rintro e w' ⟨rfl, rfl⟩)
    | (go_at_call 196; refine (holds_any _ _ _ _).mono ?_; rintro e w' ⟨rfl, rfl⟩)
    | (go_at_call 195; refine (unhide hbs _).mono ?_; rintro e w' ⟨rfl, n, rfl⟩))
  go_ret
  exact ⟨rfl, unhide hB⟩

set_option maxRecDepth 100000 in
set_option maxHeartbeats 1000000 in
theorem nodeValue_3 (a b' c k : Int) (bands : List (Int × Int)) (ad : Option Addr) (cp : Nat) (vs : List Int) (vv vh : Value) (w : World) (hb : PairsAt w (.slice ad bands.length cp) bands) (hvs : IntsAt w vv vs) (hl : bands.length ≤ 1000) :
    Calls Tryz.prog 137 #[.agg #[.int .i64 3, .int .i64 a, .int .i64 b', .int .i64 c, .int .i64 k, .slice ad bands.length cp], vv, vh] w fun e w' => e = .returned (.int .i64 (wrap64 (Pl.pickL vs a - Pl.pickL vs b'))) ∧ Below w.heap.size w w' := by
  have hbox := box_facts w (.int .i64 3) (.int .i64 a) (.int .i64 b') (.int .i64 c) (.int .i64 k) (.slice ad bands.length cp)
  have hp := hide (fun x => pick_any vs x vv _ (hvs.below hbox))
  have hbs := hide (fun x => bandSum_any x bands _ _ (hb.below hbox) hl)
  have hB := hide hbox
  have hB2 := hide (fun n => below_drewN hbox n)
  clear hbox hb hvs hl
  go_enter Tryz.func137, Tryz.ntmps137
  go_wp2_with (first
    | (go_at_call 138; refine (unhide hp _).mono ?_; rintro e w' ⟨rfl, rfl⟩)
    | (go_at_call 192; refine (lesser_any _ _ _).mono ?_; rintro e w' ⟨rfl, rfl⟩)
    | (go_at_call 193; refine (greater_any _ _ _).mono ?_; rintro e w' ⟨rfl, rfl⟩)
    | (go_at_call 194; refine (quotW_any _ _ _ _).mono ?_; rintro e w' ⟨rfl, rfl⟩)
    | (go_at_call 196; refine (holds_any _ _ _ _).mono ?_; rintro e w' ⟨rfl, rfl⟩)
    | (go_at_call 195; refine (unhide hbs _).mono ?_; rintro e w' ⟨rfl, n, rfl⟩))
  go_ret
  exact ⟨rfl, unhide hB⟩

set_option maxRecDepth 100000 in
set_option maxHeartbeats 1000000 in
theorem nodeValue_4 (a b' c k : Int) (bands : List (Int × Int)) (ad : Option Addr) (cp : Nat) (vs : List Int) (vv vh : Value) (w : World) (hb : PairsAt w (.slice ad bands.length cp) bands) (hvs : IntsAt w vv vs) (hl : bands.length ≤ 1000) :
    Calls Tryz.prog 137 #[.agg #[.int .i64 4, .int .i64 a, .int .i64 b', .int .i64 c, .int .i64 k, .slice ad bands.length cp], vv, vh] w fun e w' => e = .returned (.int .i64 (wrap64 (k * Pl.pickL vs a))) ∧ Below w.heap.size w w' := by
  have hbox := box_facts w (.int .i64 4) (.int .i64 a) (.int .i64 b') (.int .i64 c) (.int .i64 k) (.slice ad bands.length cp)
  have hp := hide (fun x => pick_any vs x vv _ (hvs.below hbox))
  have hbs := hide (fun x => bandSum_any x bands _ _ (hb.below hbox) hl)
  have hB := hide hbox
  have hB2 := hide (fun n => below_drewN hbox n)
  clear hbox hb hvs hl
  go_enter Tryz.func137, Tryz.ntmps137
  go_wp2_with (first
    | (go_at_call 138; refine (unhide hp _).mono ?_; rintro e w' ⟨rfl, rfl⟩)
    | (go_at_call 192; refine (lesser_any _ _ _).mono ?_; rintro e w' ⟨rfl, rfl⟩)
    | (go_at_call 193; refine (greater_any _ _ _).mono ?_; rintro e w' ⟨rfl, rfl⟩)
    | (go_at_call 194; refine (quotW_any _ _ _ _).mono ?_; rintro e w' ⟨rfl, rfl⟩)
    | (go_at_call 196; refine (holds_any _ _ _ _).mono ?_; rintro e w' ⟨rfl, rfl⟩)
    | (go_at_call 195; refine (unhide hbs _).mono ?_; rintro e w' ⟨rfl, n, rfl⟩))
  go_ret
  exact ⟨rfl, unhide hB⟩

set_option maxRecDepth 100000 in
set_option maxHeartbeats 1000000 in
theorem nodeValue_5 (a b' c k : Int) (bands : List (Int × Int)) (ad : Option Addr) (cp : Nat) (vs : List Int) (vv vh : Value) (w : World) (hb : PairsAt w (.slice ad bands.length cp) bands) (hvs : IntsAt w vv vs) (hl : bands.length ≤ 1000) :
    Calls Tryz.prog 137 #[.agg #[.int .i64 5, .int .i64 a, .int .i64 b', .int .i64 c, .int .i64 k, .slice ad bands.length cp], vv, vh] w fun e w' => e = .returned (.int .i64 (Pl.lesser (Pl.pickL vs a) (Pl.pickL vs b'))) ∧ Below w.heap.size w w' := by
  have hbox := box_facts w (.int .i64 5) (.int .i64 a) (.int .i64 b') (.int .i64 c) (.int .i64 k) (.slice ad bands.length cp)
  have hp := hide (fun x => pick_any vs x vv _ (hvs.below hbox))
  have hbs := hide (fun x => bandSum_any x bands _ _ (hb.below hbox) hl)
  have hB := hide hbox
  have hB2 := hide (fun n => below_drewN hbox n)
  clear hbox hb hvs hl
  go_enter Tryz.func137, Tryz.ntmps137
  go_wp2_with (first
    | (go_at_call 138; refine (unhide hp _).mono ?_; rintro e w' ⟨rfl, rfl⟩)
    | (go_at_call 192; refine (lesser_any _ _ _).mono ?_; rintro e w' ⟨rfl, rfl⟩)
    | (go_at_call 193; refine (greater_any _ _ _).mono ?_; rintro e w' ⟨rfl, rfl⟩)
    | (go_at_call 194; refine (quotW_any _ _ _ _).mono ?_; rintro e w' ⟨rfl, rfl⟩)
    | (go_at_call 196; refine (holds_any _ _ _ _).mono ?_; rintro e w' ⟨rfl, rfl⟩)
    | (go_at_call 195; refine (unhide hbs _).mono ?_; rintro e w' ⟨rfl, n, rfl⟩))
  go_ret
  exact ⟨rfl, unhide hB⟩

set_option maxRecDepth 100000 in
set_option maxHeartbeats 1000000 in
theorem nodeValue_6 (a b' c k : Int) (bands : List (Int × Int)) (ad : Option Addr) (cp : Nat) (vs : List Int) (vv vh : Value) (w : World) (hb : PairsAt w (.slice ad bands.length cp) bands) (hvs : IntsAt w vv vs) (hl : bands.length ≤ 1000) :
    Calls Tryz.prog 137 #[.agg #[.int .i64 6, .int .i64 a, .int .i64 b', .int .i64 c, .int .i64 k, .slice ad bands.length cp], vv, vh] w fun e w' => e = .returned (.int .i64 (Pl.greater (Pl.pickL vs a) (Pl.pickL vs b'))) ∧ Below w.heap.size w w' := by
  have hbox := box_facts w (.int .i64 6) (.int .i64 a) (.int .i64 b') (.int .i64 c) (.int .i64 k) (.slice ad bands.length cp)
  have hp := hide (fun x => pick_any vs x vv _ (hvs.below hbox))
  have hbs := hide (fun x => bandSum_any x bands _ _ (hb.below hbox) hl)
  have hB := hide hbox
  have hB2 := hide (fun n => below_drewN hbox n)
  clear hbox hb hvs hl
  go_enter Tryz.func137, Tryz.ntmps137
  go_wp2_with (first
    | (go_at_call 138; refine (unhide hp _).mono ?_; rintro e w' ⟨rfl, rfl⟩)
    | (go_at_call 192; refine (lesser_any _ _ _).mono ?_; rintro e w' ⟨rfl, rfl⟩)
    | (go_at_call 193; refine (greater_any _ _ _).mono ?_; rintro e w' ⟨rfl, rfl⟩)
    | (go_at_call 194; refine (quotW_any _ _ _ _).mono ?_; rintro e w' ⟨rfl, rfl⟩)
    | (go_at_call 196; refine (holds_any _ _ _ _).mono ?_; rintro e w' ⟨rfl, rfl⟩)
    | (go_at_call 195; refine (unhide hbs _).mono ?_; rintro e w' ⟨rfl, n, rfl⟩))
  go_ret
  exact ⟨rfl, unhide hB⟩

set_option maxRecDepth 100000 in
set_option maxHeartbeats 1000000 in
theorem nodeValue_7t (a b' c k : Int) (bands : List (Int × Int)) (ad : Option Addr) (cp : Nat) (vs : List Int) (vv vh : Value) (w : World) (hb : PairsAt w (.slice ad bands.length cp) bands) (hvs : IntsAt w vv vs) (hl : bands.length ≤ 1000) (hc : (Pl.pickL vs a != 0) = true) :
    Calls Tryz.prog 137 #[.agg #[.int .i64 7, .int .i64 a, .int .i64 b', .int .i64 c, .int .i64 k, .slice ad bands.length cp], vv, vh] w fun e w' => e = .returned (.int .i64 (Pl.pickL vs b')) ∧ Below w.heap.size w w' := by
  have hbox := box_facts w (.int .i64 7) (.int .i64 a) (.int .i64 b') (.int .i64 c) (.int .i64 k) (.slice ad bands.length cp)
  have hp := hide (fun x => pick_any vs x vv _ (hvs.below hbox))
  have hbs := hide (fun x => bandSum_any x bands _ _ (hb.below hbox) hl)
  have hB := hide hbox
  have hB2 := hide (fun n => below_drewN hbox n)
  clear hbox hb hvs hl
  go_enter Tryz.func137, Tryz.ntmps137
  go_wp2_with (first
    | (go_at_call 138; refine (unhide hp _).mono ?_; rintro e w' ⟨rfl, rfl⟩)
    | (go_at_call 192; refine (lesser_any _ _ _).mono ?_; rintro e w' ⟨rfl, rfl⟩)
    | (go_at_call 193; refine (greater_any _ _ _).mono ?_; rintro e w' ⟨rfl, rfl⟩)
    | (go_at_call 194; refine (quotW_any _ _ _ _).mono ?_; rintro e w' ⟨rfl, rfl⟩)
    | (go_at_call 196; refine (holds_any _ _ _ _).mono ?_; rintro e w' ⟨rfl, rfl⟩)
    | (go_at_call 195; refine (unhide hbs _).mono ?_; rintro e w' ⟨rfl, n, rfl⟩))
  go_ret
  exact ⟨rfl, unhide hB⟩

set_option maxRecDepth 100000 in
set_option maxHeartbeats 1000000 in
theorem nodeValue_7f (a b' c k : Int) (bands : List (Int × Int)) (ad : Option Addr) (cp : Nat) (vs : List Int) (vv vh : Value) (w : World) (hb : PairsAt w (.slice ad bands.length cp) bands) (hvs : IntsAt w vv vs) (hl : bands.length ≤ 1000) (hc : (Pl.pickL vs a != 0) = false) :
    Calls Tryz.prog 137 #[.agg #[.int .i64 7, .int .i64 a, .int .i64 b', .int .i64 c, .int .i64 k, .slice ad bands.length cp], vv, vh] w fun e w' => e = .returned (.int .i64 (Pl.pickL vs c)) ∧ Below w.heap.size w w' := by
  have hbox := box_facts w (.int .i64 7) (.int .i64 a) (.int .i64 b') (.int .i64 c) (.int .i64 k) (.slice ad bands.length cp)
  have hp := hide (fun x => pick_any vs x vv _ (hvs.below hbox))
  have hbs := hide (fun x => bandSum_any x bands _ _ (hb.below hbox) hl)
  have hB := hide hbox
  have hB2 := hide (fun n => below_drewN hbox n)
  clear hbox hb hvs hl
  go_enter Tryz.func137, Tryz.ntmps137
  go_wp2_with (first
    | (go_at_call 138; refine (unhide hp _).mono ?_; rintro e w' ⟨rfl, rfl⟩)
    | (go_at_call 192; refine (lesser_any _ _ _).mono ?_; rintro e w' ⟨rfl, rfl⟩)
    | (go_at_call 193; refine (greater_any _ _ _).mono ?_; rintro e w' ⟨rfl, rfl⟩)
    | (go_at_call 194; refine (quotW_any _ _ _ _).mono ?_; rintro e w' ⟨rfl, rfl⟩)
    | (go_at_call 196; refine (holds_any _ _ _ _).mono ?_; rintro e w' ⟨rfl, rfl⟩)
    | (go_at_call 195; refine (unhide hbs _).mono ?_; rintro e w' ⟨rfl, n, rfl⟩))
  go_ret
  exact ⟨rfl, unhide hB⟩

set_option maxRecDepth 100000 in
set_option maxHeartbeats 1000000 in
theorem nodeValue_8 (a b' c k : Int) (bands : List (Int × Int)) (ad : Option Addr) (cp : Nat) (vs : List Int) (vv vh : Value) (w : World) (hb : PairsAt w (.slice ad bands.length cp) bands) (hvs : IntsAt w vv vs) (hl : bands.length ≤ 1000) :
    Calls Tryz.prog 137 #[.agg #[.int .i64 8, .int .i64 a, .int .i64 b', .int .i64 c, .int .i64 k, .slice ad bands.length cp], vv, vh] w fun e w' => e = .returned (.int .i64 (Pl.quotW 8 (Pl.pickL vs a) k)) ∧ Below w.heap.size w w' := by
  have hbox := box_facts w (.int .i64 8) (.int .i64 a) (.int .i64 b') (.int .i64 c) (.int .i64 k) (.slice ad bands.length cp)
  have hp := hide (fun x => pick_any vs x vv _ (hvs.below hbox))
  have hbs := hide (fun x => bandSum_any x bands _ _ (hb.below hbox) hl)
  have hB := hide hbox
  have hB2 := hide (fun n => below_drewN hbox n)
  clear hbox hb hvs hl
  go_enter Tryz.func137, Tryz.ntmps137
  go_wp2_with (first
    | (go_at_call 138; refine (unhide hp _).mono ?_; rintro e w' ⟨rfl, rfl⟩)
    | (go_at_call 192; refine (lesser_any _ _ _).mono ?_; rintro e w' ⟨rfl, rfl⟩)
    | (go_at_call 193; refine (greater_any _ _ _).mono ?_; rintro e w' ⟨rfl, rfl⟩)
    | (go_at_call 194; refine (quotW_any _ _ _ _).mono ?_; rintro e w' ⟨rfl, rfl⟩)
    | (go_at_call 196; refine (holds_any _ _ _ _).mono ?_; rintro e w' ⟨rfl, rfl⟩)
    | (go_at_call 195; refine (unhide hbs _).mono ?_; rintro e w' ⟨rfl, n, rfl⟩))
  go_ret
  exact ⟨rfl, unhide hB⟩

set_option maxRecDepth 100000 in
set_option maxHeartbeats 1000000 in
theorem nodeValue_9 (a b' c k : Int) (bands : List (Int × Int)) (ad : Option Addr) (cp : Nat) (vs : List Int) (vv vh : Value) (w : World) (hb : PairsAt w (.slice ad bands.length cp) bands) (hvs : IntsAt w vv vs) (hl : bands.length ≤ 1000) :
    Calls Tryz.prog 137 #[.agg #[.int .i64 9, .int .i64 a, .int .i64 b', .int .i64 c, .int .i64 k, .slice ad bands.length cp], vv, vh] w fun e w' => e = .returned (.int .i64 (Pl.quotW 9 (Pl.pickL vs a) k)) ∧ Below w.heap.size w w' := by
  have hbox := box_facts w (.int .i64 9) (.int .i64 a) (.int .i64 b') (.int .i64 c) (.int .i64 k) (.slice ad bands.length cp)
  have hp := hide (fun x => pick_any vs x vv _ (hvs.below hbox))
  have hbs := hide (fun x => bandSum_any x bands _ _ (hb.below hbox) hl)
  have hB := hide hbox
  have hB2 := hide (fun n => below_drewN hbox n)
  clear hbox hb hvs hl
  go_enter Tryz.func137, Tryz.ntmps137
  go_wp2_with (first
    | (go_at_call 138; refine (unhide hp _).mono ?_; rintro e w' ⟨rfl, rfl⟩)
    | (go_at_call 192; refine (lesser_any _ _ _).mono ?_; rintro e w' ⟨rfl, rfl⟩)
    | (go_at_call 193; refine (greater_any _ _ _).mono ?_; rintro e w' ⟨rfl, rfl⟩)
    | (go_at_call 194; refine (quotW_any _ _ _ _).mono ?_; rintro e w' ⟨rfl, rfl⟩)
    | (go_at_call 196; refine (holds_any _ _ _ _).mono ?_; rintro e w' ⟨rfl, rfl⟩)
    | (go_at_call 195; refine (unhide hbs _).mono ?_; rintro e w' ⟨rfl, n, rfl⟩))
  go_ret
  exact ⟨rfl, unhide hB⟩

set_option maxRecDepth 100000 in
set_option maxHeartbeats 1000000 in
theorem nodeValue_10 (a b' c k : Int) (bands : List (Int × Int)) (ad : Option Addr) (cp : Nat) (vs : List Int) (vv vh : Value) (w : World) (hb : PairsAt w (.slice ad bands.length cp) bands) (hvs : IntsAt w vv vs) (hl : bands.length ≤ 1000) :
    Calls Tryz.prog 137 #[.agg #[.int .i64 10, .int .i64 a, .int .i64 b', .int .i64 c, .int .i64 k, .slice ad bands.length cp], vv, vh] w fun e w' => e = .returned (.int .i64 (Pl.quotW 10 (Pl.pickL vs a) k)) ∧ Below w.heap.size w w' := by
  have hbox := box_facts w (.int .i64 10) (.int .i64 a) (.int .i64 b') (.int .i64 c) (.int .i64 k) (.slice ad bands.length cp)
  have hp := hide (fun x => pick_any vs x vv _ (hvs.below hbox))
  have hbs := hide (fun x => bandSum_any x bands _ _ (hb.below hbox) hl)
  have hB := hide hbox
  have hB2 := hide (fun n => below_drewN hbox n)
  clear hbox hb hvs hl
  go_enter Tryz.func137, Tryz.ntmps137
  go_wp2_with (first
    | (go_at_call 138; refine (unhide hp _).mono ?_; rintro e w' ⟨rfl, rfl⟩)
    | (go_at_call 192; refine (lesser_any _ _ _).mono ?_; rintro e w' ⟨rfl, rfl⟩)
    | (go_at_call 193; refine (greater_any _ _ _).mono ?_; rintro e w' ⟨rfl, rfl⟩)
    | (go_at_call 194; refine (quotW_any _ _ _ _).mono ?_; rintro e w' ⟨rfl, rfl⟩)
    | (go_at_call 196; refine (holds_any _ _ _ _).mono ?_; rintro e w' ⟨rfl, rfl⟩)
    | (go_at_call 195; refine (unhide hbs _).mono ?_; rintro e w' ⟨rfl, n, rfl⟩))
  go_ret
  exact ⟨rfl, unhide hB⟩

set_option maxRecDepth 100000 in
set_option maxHeartbeats 1000000 in
theorem nodeValue_11 (a b' c k : Int) (bands : List (Int × Int)) (ad : Option Addr) (cp : Nat) (vs : List Int) (vv vh : Value) (w : World) (hb : PairsAt w (.slice ad bands.length cp) bands) (hvs : IntsAt w vv vs) (hl : bands.length ≤ 1000) :
    Calls Tryz.prog 137 #[.agg #[.int .i64 11, .int .i64 a, .int .i64 b', .int .i64 c, .int .i64 k, .slice ad bands.length cp], vv, vh] w fun e w' => e = .returned (.int .i64 (Pl.quotW 11 (Pl.pickL vs a) k)) ∧ Below w.heap.size w w' := by
  have hbox := box_facts w (.int .i64 11) (.int .i64 a) (.int .i64 b') (.int .i64 c) (.int .i64 k) (.slice ad bands.length cp)
  have hp := hide (fun x => pick_any vs x vv _ (hvs.below hbox))
  have hbs := hide (fun x => bandSum_any x bands _ _ (hb.below hbox) hl)
  have hB := hide hbox
  have hB2 := hide (fun n => below_drewN hbox n)
  clear hbox hb hvs hl
  go_enter Tryz.func137, Tryz.ntmps137
  go_wp2_with (first
    | (go_at_call 138; refine (unhide hp _).mono ?_; rintro e w' ⟨rfl, rfl⟩)
    | (go_at_call 192; refine (lesser_any _ _ _).mono ?_; rintro e w' ⟨rfl, rfl⟩)
    | (go_at_call 193; refine (greater_any _ _ _).mono ?_; rintro e w' ⟨rfl, rfl⟩)
    | (go_at_call 194; refine (quotW_any _ _ _ _).mono ?_; rintro e w' ⟨rfl, rfl⟩)
    | (go_at_call 196; refine (holds_any _ _ _ _).mono ?_; rintro e w' ⟨rfl, rfl⟩)
    | (go_at_call 195; refine (unhide hbs _).mono ?_; rintro e w' ⟨rfl, n, rfl⟩))
  go_ret
  exact ⟨rfl, unhide hB⟩

set_option maxRecDepth 100000 in
set_option maxHeartbeats 1000000 in
theorem nodeValue_12 (a b' c k : Int) (bands : List (Int × Int)) (ad : Option Addr) (cp : Nat) (vs : List Int) (vv vh : Value) (w : World) (hb : PairsAt w (.slice ad bands.length cp) bands) (hvs : IntsAt w vv vs) (hl : bands.length ≤ 1000) :
    Calls Tryz.prog 137 #[.agg #[.int .i64 12, .int .i64 a, .int .i64 b', .int .i64 c, .int .i64 k, .slice ad bands.length cp], vv, vh] w fun e w' => e = .returned (.int .i64 (Pl.bandSumW (Pl.pickL vs a) bands)) ∧ Below w.heap.size w w' := by
  have hbox := box_facts w (.int .i64 12) (.int .i64 a) (.int .i64 b') (.int .i64 c) (.int .i64 k) (.slice ad bands.length cp)
  have hp := hide (fun x => pick_any vs x vv _ (hvs.below hbox))
  have hbs := hide (fun x => bandSum_any x bands _ _ (hb.below hbox) hl)
  have hB := hide hbox
  have hB2 := hide (fun n => below_drewN hbox n)
  clear hbox hb hvs hl
  go_enter Tryz.func137, Tryz.ntmps137
  go_wp2_with (first
    | (go_at_call 138; refine (unhide hp _).mono ?_; rintro e w' ⟨rfl, rfl⟩)
    | (go_at_call 192; refine (lesser_any _ _ _).mono ?_; rintro e w' ⟨rfl, rfl⟩)
    | (go_at_call 193; refine (greater_any _ _ _).mono ?_; rintro e w' ⟨rfl, rfl⟩)
    | (go_at_call 194; refine (quotW_any _ _ _ _).mono ?_; rintro e w' ⟨rfl, rfl⟩)
    | (go_at_call 196; refine (holds_any _ _ _ _).mono ?_; rintro e w' ⟨rfl, rfl⟩)
    | (go_at_call 195; refine (unhide hbs _).mono ?_; rintro e w' ⟨rfl, n, rfl⟩))
  go_ret
  exact ⟨rfl, unhide hB2 n⟩

set_option maxRecDepth 100000 in
set_option maxHeartbeats 1000000 in
theorem nodeValue_ft (op : Int) (a b' c k : Int) (bands : List (Int × Int)) (ad : Option Addr) (cp : Nat) (vs : List Int) (vv vh : Value) (w : World) (hb : PairsAt w (.slice ad bands.length cp) bands) (hvs : IntsAt w vv vs) (hl : bands.length ≤ 1000) (h0 : (op == 0) = false) (h1 : (op == 1) = false) (h2 : (op == 2) = false) (h3 : (op == 3) = false) (h4 : (op == 4) = false) (h5 : (op == 5) = false) (h6 : (op == 6) = false) (h7 : (op == 7) = false) (h8 : (op == 8) = false) (h9 : (op == 9) = false) (h10 : (op == 10) = false) (h11 : (op == 11) = false) (h12 : (op == 12) = false) (hc : Pl.holdsB op (Pl.pickL vs a) (Pl.pickL vs b') = true) :
    Calls Tryz.prog 137 #[.agg #[.int .i64 op, .int .i64 a, .int .i64 b', .int .i64 c, .int .i64 k, .slice ad bands.length cp], vv, vh] w fun e w' => e = .returned (.int .i64 (1)) ∧ Below w.heap.size w w' := by
  have hbox := box_facts w (.int .i64 op) (.int .i64 a) (.int .i64 b') (.int .i64 c) (.int .i64 k) (.slice ad bands.length cp)
  have hp := hide (fun x => pick_any vs x vv _ (hvs.below hbox))
  have hbs := hide (fun x => bandSum_any x bands _ _ (hb.below hbox) hl)
  have hB := hide hbox
  have hB2 := hide (fun n => below_drewN hbox n)
  clear hbox hb hvs hl
  go_enter Tryz.func137, Tryz.ntmps137
  go_wp2_with (first
    | (go_at_call 138; refine (unhide hp _).mono ?_; rintro e w' ⟨rfl, rfl⟩)
    | (go_at_call 192; refine (lesser_any _ _ _).mono ?_; rintro e w' ⟨rfl, rfl⟩)
    | (go_at_call 193; refine (greater_any _ _ _).mono ?_; rintro e w' ⟨rfl, rfl⟩)
    | (go_at_call 194; refine (quotW_any _ _ _ _).mono ?_; rintro e w' ⟨rfl, rfl⟩)
    | (go_at_call 196; refine (holds_any _ _ _ _).mono ?_; rintro e w' ⟨rfl, rfl⟩)
    | (go_at_call 195; refine (unhide hbs _).mono ?_; rintro e w' ⟨rfl, n, rfl⟩))
  go_ret
  exact ⟨rfl, unhide hB⟩

set_option maxRecDepth 100000 in
set_option maxHeartbeats 1000000 in
theorem nodeValue_ff (op : Int) (a b' c k : Int) (bands : List (Int × Int)) (ad : Option Addr) (cp : Nat) (vs : List Int) (vv vh : Value) (w : World) (hb : PairsAt w (.slice ad bands.length cp) bands) (hvs : IntsAt w vv vs) (hl : bands.length ≤ 1000) (h0 : (op == 0) = false) (h1 : (op == 1) = false) (h2 : (op == 2) = false) (h3 : (op == 3) = false) (h4 : (op == 4) = false) (h5 : (op == 5) = false) (h6 : (op == 6) = false) (h7 : (op == 7) = false) (h8 : (op == 8) = false) (h9 : (op == 9) = false) (h10 : (op == 10) = false) (h11 : (op == 11) = false) (h12 : (op == 12) = false) (hc : Pl.holdsB op (Pl.pickL vs a) (Pl.pickL vs b') = false) :
    Calls Tryz.prog 137 #[.agg #[.int .i64 op, .int .i64 a, .int .i64 b', .int .i64 c, .int .i64 k, .slice ad bands.length cp], vv, vh] w fun e w' => e = .returned (.int .i64 (0)) ∧ Below w.heap.size w w' := by
  have hbox := box_facts w (.int .i64 op) (.int .i64 a) (.int .i64 b') (.int .i64 c) (.int .i64 k) (.slice ad bands.length cp)
  have hp := hide (fun x => pick_any vs x vv _ (hvs.below hbox))
  have hbs := hide (fun x => bandSum_any x bands _ _ (hb.below hbox) hl)
  have hB := hide hbox
  have hB2 := hide (fun n => below_drewN hbox n)
  clear hbox hb hvs hl
  go_enter Tryz.func137, Tryz.ntmps137
  go_wp2_with (first
    | (go_at_call 138; refine (unhide hp _).mono ?_; rintro e w' ⟨rfl, rfl⟩)
    | (go_at_call 192; refine (lesser_any _ _ _).mono ?_; rintro e w' ⟨rfl, rfl⟩)
    | (go_at_call 193; refine (greater_any _ _ _).mono ?_; rintro e w' ⟨rfl, rfl⟩)
    | (go_at_call 194; refine (quotW_any _ _ _ _).mono ?_; rintro e w' ⟨rfl, rfl⟩)
    | (go_at_call 196; refine (holds_any _ _ _ _).mono ?_; rintro e w' ⟨rfl, rfl⟩)
    | (go_at_call 195; refine (unhide hbs _).mono ?_; rintro e w' ⟨rfl, n, rfl⟩))
  go_ret
  exact ⟨rfl, unhide hB⟩

theorem beqf {x y : Int} (h : ¬ x = y) : (x == y) = false := by simpa using h

theorem nodeBound_any (ins : List (Int × Int)) (n : Pl.NodeM) (bv : Value) (bs : List Int) (b : Nat) (vi vb : Value) (w : World) (hv : w.cell? ⟨b, 0, none⟩ = some vi) (hi : PairsAt w vi ins) (hb : PairsAt w bv n.bands) (hbs : IntsAt w vb bs) (hl : n.bands.length ≤ 1000) :
    Calls Tryz.prog 189 #[.pointer (some ⟨b, 0, none⟩), nodeV n bv, vb] w fun e w' => e = .returned (.int .i64 (Pl.nodeBoundW ins n bs)) ∧ Below w.heap.size w w' := by
  obtain ⟨ad, cp, rfl, hc⟩ := hb
  have hb : PairsAt w (.slice ad n.bands.length cp) n.bands := ⟨ad, cp, rfl, hc⟩
  clear hc
  obtain ⟨op, a, b', c, k, bands⟩ := n
  unfold Pl.nodeBoundW nodeV
  simp only at hb hl ⊢
  by_cases h0 : op = 0
  · subst h0; exact nodeBound_0 ins a b' c k bands ad cp bs b vi vb w hv hi hb hbs hl
  by_cases h1 : op = 1
  · subst h1; exact nodeBound_1 ins a b' c k bands ad cp bs b vi vb w hv hi hb hbs hl
  by_cases h2 : op = 2
  · subst h2; exact nodeBound_2 ins a b' c k bands ad cp bs b vi vb w hv hi hb hbs hl
  by_cases h3 : op = 3
  · subst h3; exact nodeBound_3 ins a b' c k bands ad cp bs b vi vb w hv hi hb hbs hl
  by_cases h4 : op = 4
  · subst h4; exact nodeBound_4 ins a b' c k bands ad cp bs b vi vb w hv hi hb hbs hl
  by_cases h5 : op = 5
  · subst h5; exact nodeBound_5 ins a b' c k bands ad cp bs b vi vb w hv hi hb hbs hl
  by_cases h6 : op = 6
  · subst h6; exact nodeBound_6 ins a b' c k bands ad cp bs b vi vb w hv hi hb hbs hl
  by_cases h7 : op = 7
  · subst h7; exact nodeBound_7 ins a b' c k bands ad cp bs b vi vb w hv hi hb hbs hl
  by_cases h8 : op = 8
  · subst h8; exact nodeBound_8 ins a b' c k bands ad cp bs b vi vb w hv hi hb hbs hl
  by_cases h9 : op = 9
  · subst h9; exact nodeBound_9 ins a b' c k bands ad cp bs b vi vb w hv hi hb hbs hl
  by_cases h10 : op = 10
  · subst h10; exact nodeBound_10 ins a b' c k bands ad cp bs b vi vb w hv hi hb hbs hl
  by_cases h11 : op = 11
  · subst h11; exact nodeBound_11 ins a b' c k bands ad cp bs b vi vb w hv hi hb hbs hl
  by_cases h12 : op = 12
  · subst h12; exact nodeBound_12 ins a b' c k bands ad cp bs b vi vb w hv hi hb hbs hl
  rw [if_neg h0, if_neg h1, if_neg (by omega), if_neg h4, if_neg (by omega), if_neg h7, if_neg (by omega), if_neg h12]
  exact nodeBound_flag op ins a b' c k bands ad cp bs b vi vb w hv hi hb hbs hl (beqf h0) (beqf h1) (beqf h2) (beqf h3) (beqf h4) (beqf h5) (beqf h6) (beqf h7) (beqf h8) (beqf h9) (beqf h10) (beqf h11) (beqf h12)

theorem nodeValue_any (n : Pl.NodeM) (bv : Value) (vs home : List Int) (vv vh : Value) (w : World) (hb : PairsAt w bv n.bands) (hvs : IntsAt w vv vs) (hh : IntsAt w vh home) (hl : n.bands.length ≤ 1000) :
    Calls Tryz.prog 137 #[nodeV n bv, vv, vh] w fun e w' => e = .returned (.int .i64 (Pl.nodeValueW n vs home)) ∧ Below w.heap.size w w' := by
  obtain ⟨ad, cp, rfl, hc⟩ := hb
  have hb : PairsAt w (.slice ad n.bands.length cp) n.bands := ⟨ad, cp, rfl, hc⟩
  clear hc
  obtain ⟨op, a, b', c, k, bands⟩ := n
  unfold Pl.nodeValueW nodeV
  simp only at hb hl ⊢
  by_cases h0 : op = 0
  · subst h0; exact nodeValue_0 a b' c k bands ad cp vs vv vh w hb hvs hl
  by_cases h1 : op = 1
  · subst h1; exact nodeValue_1 a b' c k bands ad cp vs home vv vh w hvs hh
  by_cases h2 : op = 2
  · subst h2; exact nodeValue_2 a b' c k bands ad cp vs vv vh w hb hvs hl
  by_cases h3 : op = 3
  · subst h3; exact nodeValue_3 a b' c k bands ad cp vs vv vh w hb hvs hl
  by_cases h4 : op = 4
  · subst h4; exact nodeValue_4 a b' c k bands ad cp vs vv vh w hb hvs hl
  by_cases h5 : op = 5
  · subst h5; exact nodeValue_5 a b' c k bands ad cp vs vv vh w hb hvs hl
  by_cases h6 : op = 6
  · subst h6; exact nodeValue_6 a b' c k bands ad cp vs vv vh w hb hvs hl
  by_cases h7 : op = 7
  · subst h7
    by_cases hc : Pl.pickL vs a = 0
    · have e : (if (7 : Int) = 7 then (if Pl.pickL vs a ≠ 0 then Pl.pickL vs b' else Pl.pickL vs c) else 0) = Pl.pickL vs c := by rw [if_pos rfl, if_neg (by simp [hc])]
      have := nodeValue_7f a b' c k bands ad cp vs vv vh w hb hvs hl (by simp [hc])
      simpa [hc] using this
    · have := nodeValue_7t a b' c k bands ad cp vs vv vh w hb hvs hl (by simpa using hc)
      simpa [hc] using this
  by_cases h8 : op = 8
  · subst h8; exact nodeValue_8 a b' c k bands ad cp vs vv vh w hb hvs hl
  by_cases h9 : op = 9
  · subst h9; exact nodeValue_9 a b' c k bands ad cp vs vv vh w hb hvs hl
  by_cases h10 : op = 10
  · subst h10; exact nodeValue_10 a b' c k bands ad cp vs vv vh w hb hvs hl
  by_cases h11 : op = 11
  · subst h11; exact nodeValue_11 a b' c k bands ad cp vs vv vh w hb hvs hl
  by_cases h12 : op = 12
  · subst h12; exact nodeValue_12 a b' c k bands ad cp vs vv vh w hb hvs hl
  rw [if_neg h0, if_neg h1, if_neg h2, if_neg h3, if_neg h4, if_neg h5, if_neg h6, if_neg h7, if_neg (by omega), if_neg h12]
  cases hc : Pl.holdsB op (Pl.pickL vs a) (Pl.pickL vs b')
  · exact nodeValue_ff op a b' c k bands ad cp vs vv vh w hb hvs hl (beqf h0) (beqf h1) (beqf h2) (beqf h3) (beqf h4) (beqf h5) (beqf h6) (beqf h7) (beqf h8) (beqf h9) (beqf h10) (beqf h11) (beqf h12) hc
  · exact nodeValue_ft op a b' c k bands ad cp vs vv vh w hb hvs hl (beqf h0) (beqf h1) (beqf h2) (beqf h3) (beqf h4) (beqf h5) (beqf h6) (beqf h7) (beqf h8) (beqf h9) (beqf h10) (beqf h11) (beqf h12) hc
end Go.Proofs.YtfaljekgpnbmiaaGreat
