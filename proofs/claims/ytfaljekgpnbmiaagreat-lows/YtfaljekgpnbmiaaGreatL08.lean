/- Joined: Plan3. -/
import Derived.Test.YtfaljekgpnbmiaaGreatL07
/-
  Contracts of the plan's nodeBound and nodeValue: one theorem an operation.
-/
namespace Go.Proofs.YtfaljekgpnbmiaaGreat
open Go.RowKit

theorem box_facts (w : World) (x0 x1 x2 x3 x4 x5 : Value) : Below w.heap.size w (w.alloc (.cells #[x0, x1, x2, x3, x4, x5] 194)) := (Below.refl _ w).alloc (Nat.le_refl _) _
def nodeV (n : Pl.NodeM) (bv : Value) : Value := .agg #[.int .i64 n.op, .int .i64 n.a, .int .i64 n.b, .int .i64 n.c, .int .i64 n.k, bv]

set_option maxRecDepth 100000 in
set_option maxHeartbeats 1000000 in
theorem nodeBound_0 (ins : List (Int × Int)) (a b' c k : Int) (bands : List (Int × Int)) (ad : Option Addr) (cp : Nat) (bs : List Int) (b : Nat) (vi vb : Value) (w : World) (hv : w.cell? ⟨b, 0, none⟩ = some vi) (hi : PairsAt w vi ins) (hb : PairsAt w (.slice ad bands.length cp) bands) (hbs : IntsAt w vb bs) (hl : bands.length ≤ 1000) :
    Calls Tryz.prog 189 #[.pointer (some ⟨b, 0, none⟩), .agg #[.int .i64 0, .int .i64 a, .int .i64 b', .int .i64 c, .int .i64 k, .slice ad bands.length cp], vb] w fun e w' => e = .returned (.int .i64 (Pl.absW k)) ∧ Below w.heap.size w w' := by
  have hbox := box_facts w (.int .i64 0) (.int .i64 a) (.int .i64 b') (.int .i64 c) (.int .i64 k) (.slice ad bands.length cp)
  have hp := hide (fun x => pick_any bs x vb _ (hbs.below hbox))
  have hib := hide (fun x => inputBound_any ins x b vi _ (cell_kept hbox hv) (hi.below hbox))
  have hbb := hide (fun x => bandBound_any x bands _ _ (hb.below hbox) hl)
  have hB := hide hbox
  clear hbox hv hi hb hbs hl
  go_enter Tryz.func189, Tryz.ntmps189
  go_wp2_with (first
    | (go_at_call 138; refine (unhide hp _).mono ?_; rintro e w' ⟨rfl, rfl⟩)
    | (go_at_call 250; refine (absoluteW_any _ _).mono ?_; rintro e w' ⟨rfl, rfl⟩)
    | (go_at_call 193; refine (greater_any _ _ _).mono ?_; rintro e w' ⟨rfl, rfl⟩)
    | (go_at_call 251; refine (unhide hib _).mono ?_; rintro e w' ⟨rfl, rfl⟩)
    | (go_at_call 252; refine (unhide hbb _).mono ?_; rintro e w' ⟨rfl, rfl⟩))
  go_ret
  exact ⟨rfl, unhide hB⟩

set_option maxRecDepth 100000 in
set_option maxHeartbeats 1000000 in
theorem nodeBound_1 (ins : List (Int × Int)) (a b' c k : Int) (bands : List (Int × Int)) (ad : Option Addr) (cp : Nat) (bs : List Int) (b : Nat) (vi vb : Value) (w : World) (hv : w.cell? ⟨b, 0, none⟩ = some vi) (hi : PairsAt w vi ins) (hb : PairsAt w (.slice ad bands.length cp) bands) (hbs : IntsAt w vb bs) (hl : bands.length ≤ 1000) :
    Calls Tryz.prog 189 #[.pointer (some ⟨b, 0, none⟩), .agg #[.int .i64 1, .int .i64 a, .int .i64 b', .int .i64 c, .int .i64 k, .slice ad bands.length cp], vb] w fun e w' => e = .returned (.int .i64 (Pl.inputBoundW ins k)) ∧ Below w.heap.size w w' := by
  have hbox := box_facts w (.int .i64 1) (.int .i64 a) (.int .i64 b') (.int .i64 c) (.int .i64 k) (.slice ad bands.length cp)
  have hp := hide (fun x => pick_any bs x vb _ (hbs.below hbox))
  have hib := hide (fun x => inputBound_any ins x b vi _ (cell_kept hbox hv) (hi.below hbox))
  have hbb := hide (fun x => bandBound_any x bands _ _ (hb.below hbox) hl)
  have hB := hide hbox
  clear hbox hv hi hb hbs hl
  go_enter Tryz.func189, Tryz.ntmps189
  go_wp2_with (first
    | (go_at_call 138; refine (unhide hp _).mono ?_; rintro e w' ⟨rfl, rfl⟩)
    | (go_at_call 250; refine (absoluteW_any _ _).mono ?_; rintro e w' ⟨rfl, rfl⟩)
    | (go_at_call 193; refine (greater_any _ _ _).mono ?_; rintro e w' ⟨rfl, rfl⟩)
    | (go_at_call 251; refine (unhide hib _).mono ?_; rintro e w' ⟨rfl, rfl⟩)
    | (go_at_call 252; refine (unhide hbb _).mono ?_; rintro e w' ⟨rfl, rfl⟩))
  go_ret
  exact ⟨rfl, unhide hB⟩

set_option maxRecDepth 100000 in
set_option maxHeartbeats 1000000 in
theorem nodeBound_2 (ins : List (Int × Int)) (a b' c k : Int) (bands : List (Int × Int)) (ad : Option Addr) (cp : Nat) (bs : List Int) (b : Nat) (vi vb : Value) (w : World) (hv : w.cell? ⟨b, 0, none⟩ = some vi) (hi : PairsAt w vi ins) (hb : PairsAt w (.slice ad bands.length cp) bands) (hbs : IntsAt w vb bs) (hl : bands.length ≤ 1000) :
    Calls Tryz.prog 189 #[.pointer (some ⟨b, 0, none⟩), .agg #[.int .i64 2, .int .i64 a, .int .i64 b', .int .i64 c, .int .i64 k, .slice ad bands.length cp], vb] w fun e w' => e = .returned (.int .i64 (wrap64 (Pl.pickL bs a + Pl.pickL bs b'))) ∧ Below w.heap.size w w' := by
  have hbox := box_facts w (.int .i64 2) (.int .i64 a) (.int .i64 b') (.int .i64 c) (.int .i64 k) (.slice ad bands.length cp)
  have hp := hide (fun x => pick_any bs x vb _ (hbs.below hbox))
  have hib := hide (fun x => inputBound_any ins x b vi _ (cell_kept hbox hv) (hi.below hbox))
  have hbb := hide (fun x => bandBound_any x bands _ _ (hb.below hbox) hl)
  have hB := hide hbox
  clear hbox hv hi hb hbs hl
  go_enter Tryz.func189, Tryz.ntmps189
  go_wp2_with (first
    | (go_at_call 138; refine (unhide hp _).mono ?_; rintro e w' ⟨rfl, rfl⟩)
    | (go_at_call 250; refine (absoluteW_any _ _).mono ?_; rintro e w' ⟨rfl, rfl⟩)
    | (go_at_call 193; refine (greater_any _ _ _).mono ?_; rintro e w' ⟨rfl, rfl⟩)
    | (go_at_call 251; refine (unhide hib _).mono ?_; rintro e w' ⟨rfl, rfl⟩)
    | (go_at_call 252; refine (unhide hbb _).mono ?_; rintro e w' ⟨rfl, rfl⟩))
  go_ret
  exact ⟨rfl, unhide hB⟩

set_option maxRecDepth 100000 in
set_option maxHeartbeats 1000000 in
theorem nodeBound_3 (ins : List (Int × Int)) (a b' c k : Int) (bands : List (Int × Int)) (ad : Option Addr) (cp : Nat) (bs : List Int) (b : Nat) (vi vb : Value) (w : World) (hv : w.cell? ⟨b, 0, none⟩ = some vi) (hi : PairsAt w vi ins) (hb : PairsAt w (.slice ad bands.length cp) bands) (hbs : IntsAt w vb bs) (hl : bands.length ≤ 1000) :
    Calls Tryz.prog 189 #[.pointer (some ⟨b, 0, none⟩), .agg #[.int .i64 3, .int .i64 a, .int .i64 b', .int .i64 c, .int .i64 k, .slice ad bands.length cp], vb] w fun e w' => e = .returned (.int .i64 (wrap64 (Pl.pickL bs a + Pl.pickL bs b'))) ∧ Below w.heap.size w w' := by
  have hbox := box_facts w (.int .i64 3) (.int .i64 a) (.int .i64 b') (.int .i64 c) (.int .i64 k) (.slice ad bands.length cp)
  have hp := hide (fun x => pick_any bs x vb _ (hbs.below hbox))
  have hib := hide (fun x => inputBound_any ins x b vi _ (cell_kept hbox hv) (hi.below hbox))
  have hbb := hide (fun x => bandBound_any x bands _ _ (hb.below hbox) hl)
  have hB := hide hbox
  clear hbox hv hi hb hbs hl
  go_enter Tryz.func189, Tryz.ntmps189
  go_wp2_with (first
    | (go_at_call 138; refine (unhide hp _).mono ?_; rintro e w' ⟨rfl, rfl⟩)
    | (go_at_call 250; refine (absoluteW_any _ _).mono ?_; rintro e w' ⟨rfl, rfl⟩)
    | (go_at_call 193; refine (greater_any _ _ _).mono ?_; rintro e w' ⟨rfl, rfl⟩)
    | (go_at_call 251; refine (unhide hib _).mono ?_; rintro e w' ⟨rfl, rfl⟩)
    | (go_at_call 252; refine (unhide hbb _).mono ?_; rintro e w' ⟨rfl, rfl⟩))
  go_ret
  exact ⟨rfl, unhide hB⟩

set_option maxRecDepth 100000 in
set_option maxHeartbeats 1000000 in
theorem nodeBound_4 (ins : List (Int × Int)) (a b' c k : Int) (bands : List (Int × Int)) (ad : Option Addr) (cp : Nat) (bs : List Int) (b : Nat) (vi vb : Value) (w : World) (hv : w.cell? ⟨b, 0, none⟩ = some vi) (hi : PairsAt w vi ins) (hb : PairsAt w (.slice ad bands.length cp) bands) (hbs : IntsAt w vb bs) (hl : bands.length ≤ 1000) :
    Calls Tryz.prog 189 #[.pointer (some ⟨b, 0, none⟩), .agg #[.int .i64 4, .int .i64 a, .int .i64 b', .int .i64 c, .int .i64 k, .slice ad bands.length cp], vb] w fun e w' => e = .returned (.int .i64 (wrap64 (Pl.absW k * Pl.pickL bs a))) ∧ Below w.heap.size w w' := by
  have hbox := box_facts w (.int .i64 4) (.int .i64 a) (.int .i64 b') (.int .i64 c) (.int .i64 k) (.slice ad bands.length cp)
  have hp := hide (fun x => pick_any bs x vb _ (hbs.below hbox))
  have hib := hide (fun x => inputBound_any ins x b vi _ (cell_kept hbox hv) (hi.below hbox))
  have hbb := hide (fun x => bandBound_any x bands _ _ (hb.below hbox) hl)
  have hB := hide hbox
  clear hbox hv hi hb hbs hl
  go_enter Tryz.func189, Tryz.ntmps189
  go_wp2_with (first
    | (go_at_call 138; refine (unhide hp _).mono ?_; rintro e w' ⟨rfl, rfl⟩)
    | (go_at_call 250; refine (absoluteW_any _ _).mono ?_; rintro e w' ⟨rfl, rfl⟩)
    | (go_at_call 193; refine (greater_any _ _ _).mono ?_; rintro e w' ⟨rfl, rfl⟩)
    | (go_at_call 251; refine (unhide hib _).mono ?_; rintro e w' ⟨rfl, rfl⟩)
    | (go_at_call 252; refine (unhide hbb _).mono ?_; rintro e w' ⟨rfl, rfl⟩))
  go_ret
  exact ⟨rfl, unhide hB⟩

set_option maxRecDepth 100000 in
set_option maxHeartbeats 1000000 in
theorem nodeBound_5 (ins : List (Int × Int)) (a b' c k : Int) (bands : List (Int × Int)) (ad : Option Addr) (cp : Nat) (bs : List Int) (b : Nat) (vi vb : Value) (w : World) (hv : w.cell? ⟨b, 0, none⟩ = some vi) (hi : PairsAt w vi ins) (hb : PairsAt w (.slice ad bands.length cp) bands) (hbs : IntsAt w vb bs) (hl : bands.length ≤ 1000) :
    Calls Tryz.prog 189 #[.pointer (some ⟨b, 0, none⟩), .agg #[.int .i64 5, .int .i64 a, .int .i64 b', .int .i64 c, .int .i64 k, .slice ad bands.length cp], vb] w fun e w' => e = .returned (.int .i64 (Pl.greater (Pl.pickL bs a) (Pl.pickL bs b'))) ∧ Below w.heap.size w w' := by
  have hbox := box_facts w (.int .i64 5) (.int .i64 a) (.int .i64 b') (.int .i64 c) (.int .i64 k) (.slice ad bands.length cp)
  have hp := hide (fun x => pick_any bs x vb _ (hbs.below hbox))
  have hib := hide (fun x => inputBound_any ins x b vi _ (cell_kept hbox hv) (hi.below hbox))
  have hbb := hide (fun x => bandBound_any x bands _ _ (hb.below hbox) hl)
  have hB := hide hbox
  clear hbox hv hi hb hbs hl
  go_enter Tryz.func189, Tryz.ntmps189
  go_wp2_with (first
    | (go_at_call 138; refine (unhide hp _).mono ?_; rintro e w' ⟨rfl, rfl⟩)
    | (go_at_call 250; refine (absoluteW_any _ _).mono ?_; rintro e w' ⟨rfl, rfl⟩)
    | (go_at_call 193; refine (greater_any _ _ _).mono ?_; rintro e w' ⟨rfl, rfl⟩)
    | (go_at_call 251; refine (unhide hib _).mono ?_; rintro e w' ⟨rfl, rfl⟩)
    | (go_at_call 252; refine (unhide hbb _).mono ?_; rintro e w' ⟨rfl, rfl⟩))
  go_ret
  exact ⟨rfl, unhide hB⟩

set_option maxRecDepth 100000 in
set_option maxHeartbeats 1000000 in
theorem nodeBound_6 (ins : List (Int × Int)) (a b' c k : Int) (bands : List (Int × Int)) (ad : Option Addr) (cp : Nat) (bs : List Int) (b : Nat) (vi vb : Value) (w : World) (hv : w.cell? ⟨b, 0, none⟩ = some vi) (hi : PairsAt w vi ins) (hb : PairsAt w (.slice ad bands.length cp) bands) (hbs : IntsAt w vb bs) (hl : bands.length ≤ 1000) :
    Calls Tryz.prog 189 #[.pointer (some ⟨b, 0, none⟩), .agg #[.int .i64 6, .int .i64 a, .int .i64 b', .int .i64 c, .int .i64 k, .slice ad bands.length cp], vb] w fun e w' => e = .returned (.int .i64 (Pl.greater (Pl.pickL bs a) (Pl.pickL bs b'))) ∧ Below w.heap.size w w' := by
  have hbox := box_facts w (.int .i64 6) (.int .i64 a) (.int .i64 b') (.int .i64 c) (.int .i64 k) (.slice ad bands.length cp)
  have hp := hide (fun x => pick_any bs x vb _ (hbs.below hbox))
  have hib := hide (fun x => inputBound_any ins x b vi _ (cell_kept hbox hv) (hi.below hbox))
  have hbb := hide (fun x => bandBound_any x bands _ _ (hb.below hbox) hl)
  have hB := hide hbox
  clear hbox hv hi hb hbs hl
  go_enter Tryz.func189, Tryz.ntmps189
  go_wp2_with (first
    | (go_at_call 138; refine (unhide hp _).mono ?_; rintro e w' ⟨rfl, rfl⟩)
    | (go_at_call 250; refine (absoluteW_any _ _).mono ?_; rintro e w' ⟨rfl, rfl⟩)
    | (go_at_call 193; refine (greater_any _ _ _).mono ?_; rintro e w' ⟨rfl, rfl⟩)
    | (go_at_call 251; refine (unhide hib _).mono ?_; rintro e w' ⟨rfl, rfl⟩)
    | (go_at_call 252; refine (unhide hbb _).mono ?_; rintro e w' ⟨rfl, rfl⟩))
  go_ret
  exact ⟨rfl, unhide hB⟩

set_option maxRecDepth 100000 in
set_option maxHeartbeats 1000000 in
theorem nodeBound_7 (ins : List (Int × Int)) (a b' c k : Int) (bands : List (Int × Int)) (ad : Option Addr) (cp : Nat) (bs : List Int) (b : Nat) (vi vb : Value) (w : World) (hv : w.cell? ⟨b, 0, none⟩ = some vi) (hi : PairsAt w vi ins) (hb : PairsAt w (.slice ad bands.length cp) bands) (hbs : IntsAt w vb bs) (hl : bands.length ≤ 1000) :
    Calls Tryz.prog 189 #[.pointer (some ⟨b, 0, none⟩), .agg #[.int .i64 7, .int .i64 a, .int .i64 b', .int .i64 c, .int .i64 k, .slice ad bands.length cp], vb] w fun e w' => e = .returned (.int .i64 (Pl.greater (Pl.pickL bs b') (Pl.pickL bs c))) ∧ Below w.heap.size w w' := by
  have hbox := box_facts w (.int .i64 7) (.int .i64 a) (.int .i64 b') (.int .i64 c) (.int .i64 k) (.slice ad bands.length cp)
  have hp := hide (fun x => pick_any bs x vb _ (hbs.below hbox))
  have hib := hide (fun x => inputBound_any ins x b vi _ (cell_kept hbox hv) (hi.below hbox))
  have hbb := hide (fun x => bandBound_any x bands _ _ (hb.below hbox) hl)
  have hB := hide hbox
  clear hbox hv hi hb hbs hl
  go_enter Tryz.func189, Tryz.ntmps189
  go_wp2_with (first
    | (go_at_call 138; refine (unhide hp _).mono ?_; rintro e w' ⟨rfl, rfl⟩)
    | (go_at_call 250; refine (absoluteW_any _ _).mono ?_; rintro e w' ⟨rfl, rfl⟩)
    | (go_at_call 193; refine (greater_any _ _ _).mono ?_; rintro e w' ⟨rfl, rfl⟩)
    | (go_at_call 251; refine (unhide hib _).mono ?_; rintro e w' ⟨rfl, rfl⟩)
    | (go_at_call 252; refine (unhide hbb _).mono ?_; rintro e w' ⟨rfl, rfl⟩))
  go_ret
  exact ⟨rfl, unhide hB⟩

set_option maxRecDepth 100000 in
set_option maxHeartbeats 1000000 in
theorem nodeBound_8 (ins : List (Int × Int)) (a b' c k : Int) (bands : List (Int × Int)) (ad : Option Addr) (cp : Nat) (bs : List Int) (b : Nat) (vi vb : Value) (w : World) (hv : w.cell? ⟨b, 0, none⟩ = some vi) (hi : PairsAt w vi ins) (hb : PairsAt w (.slice ad bands.length cp) bands) (hbs : IntsAt w vb bs) (hl : bands.length ≤ 1000) :
    Calls Tryz.prog 189 #[.pointer (some ⟨b, 0, none⟩), .agg #[.int .i64 8, .int .i64 a, .int .i64 b', .int .i64 c, .int .i64 k, .slice ad bands.length cp], vb] w fun e w' => e = .returned (.int .i64 (Pl.pickL bs a)) ∧ Below w.heap.size w w' := by
  have hbox := box_facts w (.int .i64 8) (.int .i64 a) (.int .i64 b') (.int .i64 c) (.int .i64 k) (.slice ad bands.length cp)
  have hp := hide (fun x => pick_any bs x vb _ (hbs.below hbox))
  have hib := hide (fun x => inputBound_any ins x b vi _ (cell_kept hbox hv) (hi.below hbox))
  have hbb := hide (fun x => bandBound_any x bands _ _ (hb.below hbox) hl)
  have hB := hide hbox
  clear hbox hv hi hb hbs hl
  go_enter Tryz.func189, Tryz.ntmps189
  go_wp2_with (first
    | (go_at_call 138; refine (unhide hp _).mono ?_; rintro e w' ⟨rfl, rfl⟩)
    | (go_at_call 250; refine (absoluteW_any _ _).mono ?_; rintro e w' ⟨rfl, rfl⟩)
    | (go_at_call 193; refine (greater_any _ _ _).mono ?_; rintro e w' ⟨rfl, rfl⟩)
    | (go_at_call 251; refine (unhide hib _).mono ?_; rintro e w' ⟨rfl, rfl⟩)
    | (go_at_call 252; refine (unhide hbb _).mono ?_; rintro e w' ⟨rfl, rfl⟩))
  go_ret
  exact ⟨rfl, unhide hB⟩

set_option maxRecDepth 100000 in
set_option maxHeartbeats 1000000 in
theorem nodeBound_9 (ins : List (Int × Int)) (a b' c k : Int) (bands : List (Int × Int)) (ad : Option Addr) (cp : Nat) (bs : List Int) (b : Nat) (vi vb : Value) (w : World) (hv : w.cell? ⟨b, 0, none⟩ = some vi) (hi : PairsAt w vi ins) (hb : PairsAt w (.slice ad bands.length cp) bands) (hbs : IntsAt w vb bs) (hl : bands.length ≤ 1000) :
    Calls Tryz.prog 189 #[.pointer (some ⟨b, 0, none⟩), .agg #[.int .i64 9, .int .i64 a, .int .i64 b', .int .i64 c, .int .i64 k, .slice ad bands.length cp], vb] w fun e w' => e = .returned (.int .i64 (Pl.pickL bs a)) ∧ Below w.heap.size w w' := by
  have hbox := box_facts w (.int .i64 9) (.int .i64 a) (.int .i64 b') (.int .i64 c) (.int .i64 k) (.slice ad bands.length cp)
  have hp := hide (fun x => pick_any bs x vb _ (hbs.below hbox))
  have hib := hide (fun x => inputBound_any ins x b vi _ (cell_kept hbox hv) (hi.below hbox))
  have hbb := hide (fun x => bandBound_any x bands _ _ (hb.below hbox) hl)
  have hB := hide hbox
  clear hbox hv hi hb hbs hl
  go_enter Tryz.func189, Tryz.ntmps189
  go_wp2_with (first
    | (go_at_call 138; refine (unhide hp _).mono ?_; rintro e w' ⟨rfl, rfl⟩)
    | (go_at_call 250; refine (absoluteW_any _ _).mono ?_; rintro e w' ⟨rfl, rfl⟩)
    | (go_at_call 193; refine (greater_any _ _ _).mono ?_; rintro e w' ⟨rfl, rfl⟩)
    | (go_at_call 251; refine (unhide hib _).mono ?_; rintro e w' ⟨rfl, rfl⟩)
    | (go_at_call 252; refine (unhide hbb _).mono ?_; rintro e w' ⟨rfl, rfl⟩))
  go_ret
  exact ⟨rfl, unhide hB⟩

set_option maxRecDepth 100000 in
set_option maxHeartbeats 1000000 in
theorem nodeBound_10 (ins : List (Int × Int)) (a b' c k : Int) (bands : List (Int × Int)) (ad : Option Addr) (cp : Nat) (bs : List Int) (b : Nat) (vi vb : Value) (w : World) (hv : w.cell? ⟨b, 0, none⟩ = some vi) (hi : PairsAt w vi ins) (hb : PairsAt w (.slice ad bands.length cp) bands) (hbs : IntsAt w vb bs) (hl : bands.length ≤ 1000) :
    Calls Tryz.prog 189 #[.pointer (some ⟨b, 0, none⟩), .agg #[.int .i64 10, .int .i64 a, .int .i64 b', .int .i64 c, .int .i64 k, .slice ad bands.length cp], vb] w fun e w' => e = .returned (.int .i64 (Pl.pickL bs a)) ∧ Below w.heap.size w w' := by
  have hbox := box_facts w (.int .i64 10) (.int .i64 a) (.int .i64 b') (.int .i64 c) (.int .i64 k) (.slice ad bands.length cp)
  have hp := hide (fun x => pick_any bs x vb _ (hbs.below hbox))
  have hib := hide (fun x => inputBound_any ins x b vi _ (cell_kept hbox hv) (hi.below hbox))
  have hbb := hide (fun x => bandBound_any x bands _ _ (hb.below hbox) hl)
  have hB := hide hbox
  clear hbox hv hi hb hbs hl
  go_enter Tryz.func189, Tryz.ntmps189
  go_wp2_with (first
    | (go_at_call 138; refine (unhide hp _).mono ?_; rintro e w' ⟨rfl, rfl⟩)
    | (go_at_call 250; refine (absoluteW_any _ _).mono ?_; rintro e w' ⟨rfl, rfl⟩)
    | (go_at_call 193; refine (greater_any _ _ _).mono ?_; rintro e w' ⟨rfl, rfl⟩)
    | (go_at_call 251; refine (unhide hib _).mono ?_; rintro e w' ⟨rfl, rfl⟩)
    | (go_at_call 252; refine (unhide hbb _).mono ?_; rintro e w' ⟨rfl, rfl⟩))
  go_ret
  exact ⟨rfl, unhide hB⟩

set_option maxRecDepth 100000 in
set_option maxHeartbeats 1000000 in
theorem nodeBound_11 (ins : List (Int × Int)) (a b' c k : Int) (bands : List (Int × Int)) (ad : Option Addr) (cp : Nat) (bs : List Int) (b : Nat) (vi vb : Value) (w : World) (hv : w.cell? ⟨b, 0, none⟩ = some vi) (hi : PairsAt w vi ins) (hb : PairsAt w (.slice ad bands.length cp) bands) (hbs : IntsAt w vb bs) (hl : bands.length ≤ 1000) :
    Calls Tryz.prog 189 #[.pointer (some ⟨b, 0, none⟩), .agg #[.int .i64 11, .int .i64 a, .int .i64 b', .int .i64 c, .int .i64 k, .slice ad bands.length cp], vb] w fun e w' => e = .returned (.int .i64 (Pl.pickL bs a)) ∧ Below w.heap.size w w' := by
  have hbox := box_facts w (.int .i64 11) (.int .i64 a) (.int .i64 b') (.int .i64 c) (.int .i64 k) (.slice ad bands.length cp)
  have hp := hide (fun x => pick_any bs x vb _ (hbs.below hbox))
  have hib := hide (fun x => inputBound_any ins x b vi _ (cell_kept hbox hv) (hi.below hbox))
  have hbb := hide (fun x => bandBound_any x bands _ _ (hb.below hbox) hl)
  have hB := hide hbox
  clear hbox hv hi hb hbs hl
  go_enter Tryz.func189, Tryz.ntmps189
  go_wp2_with (first
    | (go_at_call 138; refine (unhide hp _).mono ?_; rintro e w' ⟨rfl, rfl⟩)
    | (go_at_call 250; refine (absoluteW_any _ _).mono ?_; rintro e w' ⟨rfl, rfl⟩)
    | (go_at_call 193; refine (greater_any _ _ _).mono ?_; rintro e w' ⟨rfl, rfl⟩)
    | (go_at_call 251; refine (unhide hib _).mono ?_; rintro e w' ⟨rfl, rfl⟩)
    | (go_at_call 252; refine (unhide hbb _).mono ?_; rintro e w' ⟨rfl, rfl⟩))
  go_ret
  exact ⟨rfl, unhide hB⟩

set_option maxRecDepth 100000 in
set_option maxHeartbeats 1000000 in
theorem nodeBound_12 (ins : List (Int × Int)) (a b' c k : Int) (bands : List (Int × Int)) (ad : Option Addr) (cp : Nat) (bs : List Int) (b : Nat) (vi vb : Value) (w : World) (hv : w.cell? ⟨b, 0, none⟩ = some vi) (hi : PairsAt w vi ins) (hb : PairsAt w (.slice ad bands.length cp) bands) (hbs : IntsAt w vb bs) (hl : bands.length ≤ 1000) :
    Calls Tryz.prog 189 #[.pointer (some ⟨b, 0, none⟩), .agg #[.int .i64 12, .int .i64 a, .int .i64 b', .int .i64 c, .int .i64 k, .slice ad bands.length cp], vb] w fun e w' => e = .returned (.int .i64 (Pl.bandBoundW (Pl.pickL bs a) bands)) ∧ Below w.heap.size w w' := by
  have hbox := box_facts w (.int .i64 12) (.int .i64 a) (.int .i64 b') (.int .i64 c) (.int .i64 k) (.slice ad bands.length cp)
  have hp := hide (fun x => pick_any bs x vb _ (hbs.below hbox))
  have hib := hide (fun x => inputBound_any ins x b vi _ (cell_kept hbox hv) (hi.below hbox))
  have hbb := hide (fun x => bandBound_any x bands _ _ (hb.below hbox) hl)
  have hB := hide hbox
  clear hbox hv hi hb hbs hl
  go_enter Tryz.func189, Tryz.ntmps189
  go_wp2_with (first
    | (go_at_call 138; refine (unhide hp _).mono ?_; rintro e w' ⟨rfl, rfl⟩)
    | (go_at_call 250; refine (absoluteW_any _ _).mono ?_; rintro e w' ⟨rfl, rfl⟩)
    | (go_at_call 193; refine (greater_any _ _ _).mono ?_; rintro e w' ⟨rfl, rfl⟩)
    | (go_at_call 251; refine (unhide hib _).mono ?_; rintro e w' ⟨rfl, rfl⟩)
    | (go_at_call 252; refine (unhide hbb _).mono ?_; rintro e w' ⟨rfl, rfl⟩))
  go_ret
  exact ⟨rfl, unhide hB⟩

set_option maxRecDepth 100000 in
set_option maxHeartbeats 1000000 in
theorem nodeBound_flag (op : Int) (ins : List (Int × Int)) (a b' c k : Int) (bands : List (Int × Int)) (ad : Option Addr) (cp : Nat) (bs : List Int) (b : Nat) (vi vb : Value) (w : World) (hv : w.cell? ⟨b, 0, none⟩ = some vi) (hi : PairsAt w vi ins) (hb : PairsAt w (.slice ad bands.length cp) bands) (hbs : IntsAt w vb bs) (hl : bands.length ≤ 1000) (h0 : (op == 0) = false) (h1 : (op == 1) = false) (h2 : (op == 2) = false) (h3 : (op == 3) = false) (h4 : (op == 4) = false) (h5 : (op == 5) = false) (h6 : (op == 6) = false) (h7 : (op == 7) = false) (h8 : (op == 8) = false) (h9 : (op == 9) = false) (h10 : (op == 10) = false) (h11 : (op == 11) = false) (h12 : (op == 12) = false) :
    Calls Tryz.prog 189 #[.pointer (some ⟨b, 0, none⟩), .agg #[.int .i64 op, .int .i64 a, .int .i64 b', .int .i64 c, .int .i64 k, .slice ad bands.length cp], vb] w fun e w' => e = .returned (.int .i64 (0)) ∧ Below w.heap.size w w' := by
  have hbox := box_facts w (.int .i64 op) (.int .i64 a) (.int .i64 b') (.int .i64 c) (.int .i64 k) (.slice ad bands.length cp)
  have hp := hide (fun x => pick_any bs x vb _ (hbs.below hbox))
  have hib := hide (fun x => inputBound_any ins x b vi _ (cell_kept hbox hv) (hi.below hbox))
  have hbb := hide (fun x => bandBound_any x bands _ _ (hb.below hbox) hl)
  have hB := hide hbox
  clear hbox hv hi hb hbs hl
  go_enter Tryz.func189, Tryz.ntmps189
  go_wp2_with (first
    | (go_at_call 138; refine (unhide hp _).mono ?_; rintro e w' ⟨rfl, rfl⟩)
    | (go_at_call 250; refine (absoluteW_any _ _).mono ?_; rintro e w' ⟨rfl, rfl⟩)
    | (go_at_call 193; refine (greater_any _ _ _).mono ?_; rintro e w' ⟨rfl, rfl⟩)
    | (go_at_call 251; refine (unhide hib _).mono ?_; rintro e w' ⟨rfl, rfl⟩)
    | (go_at_call 252; refine (unhide hbb _).mono ?_; rintro e w' ⟨rfl, rfl⟩))
  go_ret
  exact ⟨rfl, unhide hB⟩

end Go.Proofs.YtfaljekgpnbmiaaGreat
