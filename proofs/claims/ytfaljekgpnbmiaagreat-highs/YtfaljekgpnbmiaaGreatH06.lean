/- Joined: PlainHigh Rdr6 PlainPlan Plan1. -/
import Derived.Test.YtfaljekgpnbmiaaGreatH05
/-
  How the program reads the high form, as plain functions on the reader's data; how many nodes and names there may be.
-/
namespace Go.Proofs.YtfaljekgpnbmiaaGreat.Pl

def RdM.sz (r : RdM) : Nat := r.nodes.length + r.ents.length + r.ins.length + r.outs.length
structure Ok (s : Nat) (r : RdM) : Prop where
  size : r.sz + s ≤ r.pos
  pos : r.pos ≤ 600
  toks : ∀ t ∈ r.toks, t.length ≤ 6000

theorem Ok.peek_len {s : Nat} {r : RdM} (h : Ok s r) : r.peek.length ≤ 6000 := by
  unfold RdM.peek
  split
  · simp
  · rw [List.getD_eq_getElem?_getD, List.getElem?_eq_getElem (by omega)]
    exact h.toks _ (List.getElem_mem _)
theorem skip_of {r : RdM} (h : r.peek ≠ []) : r.skip = { r with pos := r.pos + 1 } ∧ r.pos < 600 := by
  refine ⟨by unfold RdM.skip; rw [if_neg h], ?_⟩
  unfold RdM.peek at h
  split at h
  · exact absurd rfl h
  · omega
theorem Ok.step {s : Nat} {r : RdM} (h : Ok s r) (hp : r.peek ≠ []) : Ok (s + 1) r.skip := by
  obtain ⟨e, hl⟩ := skip_of hp
  rw [e]
  exact ⟨by have := h.size; simp only [RdM.sz] at *; omega, by simp only; omega, h.toks⟩
theorem Ok.skip {s : Nat} {r : RdM} (h : Ok s r) : Ok s r.skip := by
  by_cases hp : r.peek = []
  · unfold RdM.skip; rw [if_pos hp]; exact h
  · have := h.step hp; exact ⟨by have := this.size; omega, this.pos, this.toks⟩
theorem Ok.less {s s' : Nat} {r : RdM} (h : Ok s r) (hs : s' ≤ s) : Ok s' r := ⟨by have := h.size; omega, h.pos, h.toks⟩
theorem Ok.addNode {s : Nat} {r : RdM} (h : Ok (s + 1) r) (n : NodeM) : Ok s (r.addNode n) := by
  refine ⟨?_, h.pos, h.toks⟩
  have := h.size
  simp [RdM.sz, RdM.addNode] at *; omega
theorem number_nil : number [] = (0, false) := by decide
theorem num_some {r : RdM} {lo hi m : Int} (h : r.num lo hi = some m) : r.peek ≠ [] ∧ lo ≤ m ∧ m ≤ hi := by
  unfold RdM.num at h
  split at h
  · rename_i hc
    cases h
    refine ⟨?_, hc.2⟩
    intro e; rw [e, number_nil] at hc; simp at hc
  · cases h

def RdM.constant (r : RdM) : Option Int × RdM :=
  match r.num (-1000000000) 1000000000 with
  | none => (none, r)
  | some k => (some r.nodes.length, r.skip.addNode ⟨0, 0, 0, 0, k, []⟩)
def RdM.knownStep (k : Int) (r : RdM) : Option Int × RdM :=
  match r.known k with
  | none => (none, r)
  | some n => (some n, r.skip)
def RdM.leaf (r : RdM) : Option Int × RdM :=
  match r.constant with
  | (some n, r1) => (some n, r1)
  | (none, _) => r.knownStep 0
def oneR (f : RdM → Option Int × RdM) (mk : Int → NodeM) (r : RdM) : Option Int × RdM :=
  match f r with
  | (none, r1) => (none, r1)
  | (some a, r1) => (some r1.nodes.length, r1.addNode (mk a))
def pairR (f : RdM → Option Int × RdM) (op : Int) (r : RdM) : Option Int × RdM :=
  match f r with
  | (none, r1) => (none, r1)
  | (some a, r1) => oneR f (fun b => ⟨op, a, b, 0, 0, []⟩) r1
def productR (f : RdM → Option Int × RdM) (r : RdM) : Option Int × RdM :=
  match r.num (-1000) 1000 with
  | none => (none, r)
  | some k => oneR f (fun a => ⟨4, a, 0, 0, k, []⟩) r.skip
def choiceR (g f : RdM → Option Int × RdM) (r : RdM) : Option Int × RdM :=
  match g r with
  | (none, r1) => (none, r1)
  | (some a, r1) =>
    match f r1 with
    | (none, r2) => (none, r2)
    | (some b, r2) => oneR f (fun c => ⟨7, a, b, c, 0, []⟩) r2
def roundingOf (t : List UInt8) : Option Int :=
  if t = kDown then some 8 else if t = kUp then some 9 else if t = kZero then some 10 else if t = kNear then some 11 else none
def quotientR (f : RdM → Option Int × RdM) (r : RdM) : Option Int × RdM :=
  match roundingOf r.peek with
  | none => (none, r)
  | some op =>
    match f r.skip with
    | (none, r1) => (none, r1)
    | (some a, r1) =>
      match r1.num 1 1000000 with
      | none => (none, r1)
      | some d => (some r1.nodes.length, r1.skip.addNode ⟨op, a, 0, 0, d, []⟩)
def bandR (least : Int) (r : RdM) : Option (Int × Int) × RdM :=
  match r.num least 1000000000 with
  | none => (none, r)
  | some t =>
    match r.skip.num (-1000) 1000 with
    | none => (none, r.skip)
    | some k => (some (t, k), r.skip.skip)
def bandsR : Nat → Int → List (Int × Int) → RdM → Option (List (Int × Int)) × RdM
  | 0, _, acc, r => (some acc, r)
  | n + 1, least, acc, r =>
    match bandR least r with
    | (none, r1) => (none, r1)
    | (some p, r1) => bandsR n (p.1 + 1) (acc ++ [p]) r1
def tableR (f : RdM → Option Int × RdM) (r : RdM) : Option Int × RdM :=
  match f r with
  | (none, r1) => (none, r1)
  | (some a, r1) =>
    match r1.num 1 6 with
    | none => (none, r1)
    | some n =>
      match bandsR n.toNat (-1000000000) [] r1.skip with
      | (none, r2) => (none, r2)
      | (some l, r2) => (some r2.nodes.length, r2.addNode ⟨12, a, 0, 0, 0, l⟩)
def exprR (g f : RdM → Option Int × RdM) (r : RdM) : Option Int × RdM :=
  if r.peek = kAdd then pairR f 2 r.skip
  else if r.peek = kSub then pairR f 3 r.skip
  else if r.peek = kMin then pairR f 5 r.skip
  else if r.peek = kMax then pairR f 6 r.skip
  else if r.peek = kMul then productR f r.skip
  else if r.peek = kIf then choiceR g f r.skip
  else if r.peek = kDiv then quotientR f r.skip
  else if r.peek = kTab then tableR f r.skip
  else r.leaf
def condR (g f : RdM → Option Int × RdM) (r : RdM) : Option Int × RdM :=
  if r.peek = kLt then pairR f 13 r.skip
  else if r.peek = kLe then pairR f 14 r.skip
  else if r.peek = kEq then pairR f 15 r.skip
  else if r.peek = kAnd then pairR g 16 r.skip
  else if r.peek = kOr then pairR g 17 r.skip
  else if r.peek = kNot then oneR g (fun a => ⟨18, a, 0, 0, 0, []⟩) r.skip
  else (none, r)
/-- tag true: a condition; false: an expression. -/
def read : Nat → Bool → RdM → Option Int × RdM
  | 0, false, r => r.leaf
  | 0, true, r => (none, r)
  | m + 1, false, r => exprR (read m true) (read m false) r
  | m + 1, true, r => condR (read m true) (read m false) r

/-- What a reading step keeps: it reads on, the slack does not shrink, the names stand. -/
structure Keeps (r r' : RdM) : Prop where
  ok : ∀ s, Ok s r → Ok s r'
  pos : r.pos ≤ r'.pos
  ents : r'.ents = r.ents
  toks : r'.toks = r.toks
  ins : r'.ins = r.ins
  outs : r'.outs = r.outs
theorem Keeps.refl (r : RdM) : Keeps r r := ⟨fun _ h => h, Nat.le_refl _, rfl, rfl, rfl, rfl⟩
theorem Keeps.trans {a b c : RdM} (h : Keeps a b) (k : Keeps b c) : Keeps a c :=
  ⟨fun s h1 => k.ok s (h.ok s h1), Nat.le_trans h.pos k.pos, k.ents.trans h.ents, k.toks.trans h.toks, k.ins.trans h.ins, k.outs.trans h.outs⟩
theorem Keeps.skip (r : RdM) : Keeps r r.skip := by
  refine ⟨fun s h => h.skip, ?_, ?_, ?_, ?_, ?_⟩ <;> (unfold RdM.skip; split <;> simp)
/-- The same at the cost of one token that was read ahead. -/
structure Keeps1 (r r' : RdM) : Prop where
  ok : ∀ s, Ok (s + 1) r → Ok s r'
  pos : r.pos ≤ r'.pos
  ents : r'.ents = r.ents
  toks : r'.toks = r.toks
  ins : r'.ins = r.ins
  outs : r'.outs = r.outs
theorem Keeps.less {r r' : RdM} (h : Keeps r r') : Keeps1 r r' := ⟨fun s hs => (h.ok _ hs).less (by omega), h.pos, h.ents, h.toks, h.ins, h.outs⟩
theorem Keeps.then1 {a b c : RdM} (h : Keeps a b) (k : Keeps1 b c) : Keeps1 a c :=
  ⟨fun s h1 => k.ok s (h.ok _ h1), Nat.le_trans h.pos k.pos, k.ents.trans h.ents, k.toks.trans h.toks, k.ins.trans h.ins, k.outs.trans h.outs⟩
theorem Keeps1.add (r : RdM) (n : NodeM) : Keeps1 r (r.addNode n) := ⟨fun _ h => h.addNode n, Nat.le_refl _, rfl, rfl, rfl, rfl⟩
theorem Keeps1.up {r r' : RdM} (hp : r.peek ≠ []) (h : Keeps1 r.skip r') : Keeps r r' := by
  have k := Keeps.skip r
  exact ⟨fun s hs => h.ok s (hs.step hp), Nat.le_trans k.pos h.pos, h.ents.trans k.ents, h.toks.trans k.toks, h.ins.trans k.ins, h.outs.trans k.outs⟩

section
variable {f g : RdM → Option Int × RdM}
theorem oneR_keeps (hf : ∀ r, Keeps r (f r).2) (mk : Int → NodeM) (r : RdM) : Keeps1 r (oneR f mk r).2 := by
  have h := hf r
  unfold oneR
  split
  · rename_i e; rw [e] at h; exact h.less
  · rename_i e; rw [e] at h; exact h.then1 (.add _ _)
theorem pairR_keeps (hf : ∀ r, Keeps r (f r).2) (op : Int) (r : RdM) : Keeps1 r (pairR f op r).2 := by
  have h := hf r
  unfold pairR
  split
  · rename_i e; rw [e] at h; exact h.less
  · rename_i e; rw [e] at h; exact h.then1 (oneR_keeps hf _ _)
theorem productR_keeps (hf : ∀ r, Keeps r (f r).2) (r : RdM) : Keeps1 r (productR f r).2 := by
  unfold productR
  split
  · exact (Keeps.refl r).less
  · exact (Keeps.skip r).then1 (oneR_keeps hf _ _)
theorem choiceR_keeps (hg : ∀ r, Keeps r (g r).2) (hf : ∀ r, Keeps r (f r).2) (r : RdM) : Keeps1 r (choiceR g f r).2 := by
  have h := hg r
  unfold choiceR
  split
  · rename_i e; rw [e] at h; exact h.less
  · rename_i a r1 e
    rw [e] at h
    have h2 := hf r1
    split
    · rename_i e; rw [e] at h2; exact (h.trans h2).less
    · rename_i e; rw [e] at h2; exact (h.trans h2).then1 (oneR_keeps hf _ _)
theorem quotientR_keeps (hf : ∀ r, Keeps r (f r).2) (r : RdM) : Keeps1 r (quotientR f r).2 := by
  have h := hf r.skip
  unfold quotientR
  split
  · exact (Keeps.refl r).less
  · split
    · rename_i e; rw [e] at h; exact ((Keeps.skip r).trans h).less
    · rename_i e
      rw [e] at h
      split
      · exact ((Keeps.skip r).trans h).less
      · exact (((Keeps.skip r).trans h).trans (Keeps.skip _)).then1 (.add _ _)
theorem bandR_keeps (least : Int) (r : RdM) : Keeps r (bandR least r).2 := by
  unfold bandR
  split
  · exact Keeps.refl r
  · split
    · exact Keeps.skip r
    · exact (Keeps.skip r).trans (Keeps.skip _)
theorem bandsR_keeps (n : Nat) (least : Int) (acc : List (Int × Int)) (r : RdM) : Keeps r (bandsR n least acc r).2 := by
  induction n generalizing least acc r with
  | zero => exact Keeps.refl r
  | succ n ih =>
    have h := bandR_keeps least r
    unfold bandsR
    split
    · rename_i e; rw [e] at h; exact h
    · rename_i e; rw [e] at h; exact h.trans (ih _ _ _)
theorem tableR_keeps (hf : ∀ r, Keeps r (f r).2) (r : RdM) : Keeps1 r (tableR f r).2 := by
  have h := hf r
  unfold tableR
  split
  · rename_i e; rw [e] at h; exact h.less
  · rename_i a r1 e
    rw [e] at h
    split
    · exact h.less
    · rename_i n _
      have hb := bandsR_keeps n.toNat (-1000000000) [] r1.skip
      split
      · rename_i e; rw [e] at hb; exact ((h.trans (Keeps.skip _)).trans hb).less
      · rename_i e; rw [e] at hb; exact ((h.trans (Keeps.skip _)).trans hb).then1 (.add _ _)
theorem constant_keeps (r : RdM) : Keeps r r.constant.2 := by
  unfold RdM.constant
  split
  · exact Keeps.refl r
  · rename_i h; exact (Keeps1.add _ _).up (num_some h).1
theorem knownStep_keeps (k : Int) (r : RdM) : Keeps r (r.knownStep k).2 := by
  unfold RdM.knownStep
  split
  · exact Keeps.refl r
  · exact Keeps.skip r
theorem leaf_keeps (r : RdM) : Keeps r r.leaf.2 := by
  have h := constant_keeps r
  unfold RdM.leaf
  split
  · rename_i e; rw [e] at h; exact h
  · exact knownStep_keeps 0 r
theorem exprR_keeps (hg : ∀ r, Keeps r (g r).2) (hf : ∀ r, Keeps r (f r).2) (r : RdM) : Keeps r (exprR g f r).2 := by
  unfold exprR
  split
  · rename_i h; exact (pairR_keeps hf _ _).up (by rw [h]; decide)
  split
  · rename_i h; exact (pairR_keeps hf _ _).up (by rw [h]; decide)
  split
  · rename_i h; exact (pairR_keeps hf _ _).up (by rw [h]; decide)
  split
  · rename_i h; exact (pairR_keeps hf _ _).up (by rw [h]; decide)
  split
  · rename_i h; exact (productR_keeps hf _).up (by rw [h]; decide)
  split
  · rename_i h; exact (choiceR_keeps hg hf _).up (by rw [h]; decide)
  split
  · rename_i h; exact (quotientR_keeps hf _).up (by rw [h]; decide)
  split
  · rename_i h; exact (tableR_keeps hf _).up (by rw [h]; decide)
  · exact leaf_keeps r
theorem condR_keeps (hg : ∀ r, Keeps r (g r).2) (hf : ∀ r, Keeps r (f r).2) (r : RdM) : Keeps r (condR g f r).2 := by
  unfold condR
  split
  · rename_i h; exact (pairR_keeps hf _ _).up (by rw [h]; decide)
  split
  · rename_i h; exact (pairR_keeps hf _ _).up (by rw [h]; decide)
  split
  · rename_i h; exact (pairR_keeps hf _ _).up (by rw [h]; decide)
  split
  · rename_i h; exact (pairR_keeps hg _ _).up (by rw [h]; decide)
  split
  · rename_i h; exact (pairR_keeps hg _ _).up (by rw [h]; decide)
  split
  · rename_i h; exact (oneR_keeps hg _ _).up (by rw [h]; decide)
  · exact Keeps.refl r
end
theorem read_keeps (m : Nat) : ∀ tag r, Keeps r (read m tag r).2 := by
  induction m with
  | zero =>
    intro tag r
    cases tag
    · exact leaf_keeps r
    · exact Keeps.refl r
  | succ m ih =>
    intro tag r
    cases tag
    · exact exprR_keeps (ih true) (ih false) r
    · exact condR_keeps (ih true) (ih false) r

end Go.Proofs.YtfaljekgpnbmiaaGreat.Pl

/-
  Contracts of the reader's known, Argument and Flag, as steps of the plain reader.
-/
namespace Go.Proofs.YtfaljekgpnbmiaaGreat
open Go.RowKit

def optV (o : Option Int) : Value := .tuple #[.int .i64 (o.getD 0), .bool o.isSome]

set_option maxHeartbeats 400000 in
theorem known_some {B : Nat} {w : World} {b : Nat} {r : Pl.RdM} (h : Rd B w b r) (hp : r.pos ≤ 600) (hn : r.ents.length ≤ 1000) (kd m : Int) (hk : r.known kd = some m) :
    Calls Tryz.prog 333 #[.pointer (some ⟨b, 0, none⟩), .int .i64 kd] w fun e w' => e = .returned (.tuple #[.int .i64 m, .bool true]) ∧ Rd B w' b r.skip ∧ Below B w w' := by
  have hpc := Peek_any h hp
  have hf := fun n t => find_any (h.drewN n) t hn
  have h1 : Hid (∀ n, Rd B (w.drewN n) b r) := h.drewN
  have hb1 : Hid (∀ n, Below B w (w.drewN n)) := fun n => below_drewN (Below.refl B w) n
  obtain ⟨vi, vn, vo, vt, ve, bvs, vx, vy, lx, ly, h, hnm⟩ := h
  have c5 : w.cell? ⟨b, 7, none⟩ = some ve := by rw [cellsOf h.blk]; rfl
  obtain ⟨ad, cap, rfl, hcell⟩ := ents_shape h.ents
  unfold Pl.RdM.known at hk
  generalize r.peek = t at *
  generalize hfe : Pl.findEnt r.ents t = k at *
  have hf' : Hid (∀ n : Nat, Calls Tryz.prog 319 #[.pointer (some ⟨b, 0, none⟩), .string ⟨t.toArray⟩] (w.drewN n) fun e w' => e = .returned (.int .i64 k) ∧ w' = w.drewN n) := fun n => by
    have := hf n t; rw [hfe] at this; exact this
  clear h hf hfe
  have hlt : k < r.ents.length := by
    by_cases hlt : k < r.ents.length
    · exact hlt
    · rw [List.getElem?_eq_none (by omega)] at hk; cases hk
  rw [List.getElem?_eq_getElem hlt] at hk
  have hm : r.ents[k].2.1 = kd ∧ r.ents[k].2.2 = m := by simp only at hk; split at hk <;> simp_all
  obtain ⟨g, rfl, _, hc, _⟩ := hcell k hlt
  have hse : r.skip.ents = r.ents := (Pl.Keeps.skip r).ents
  have hm' : Hid (r.ents[k].2.2 = m) := hm.2
  rw [hm.1] at hc
  have hd : decide ((r.ents.length : Int) ≤ k) = false := by simp; omega
  have hse' : Hid (r.skip.ents = r.ents) := hse
  clear hcell hk hm hse
  go_enter Tryz.func333, Tryz.ntmps333
  go_wp2_with fail
  refine hpc.mono ?_
  rintro e w' ⟨rfl, n, rfl⟩
  unfold strV
  go_wp2_with fail
  refine (hf'.out n).mono ?_
  rintro e w' ⟨rfl, rfl⟩
  clear hpc hf'
  go_wp2_with fail
  refine (Skip_any (h1.out n) hp).mono ?_
  rintro e w2 ⟨rfl, hr, hbb⟩
  have hr' : Hid (Rd B w2 b r.skip ∧ Below B w w2) := ⟨hr, (hb1.out n).trans hbb⟩
  obtain ⟨vi2, vn2, vo2, vt2, ve2, bvs2, vx2, vy2, lx2, ly2, h2, _⟩ := hr
  have d5 : w2.cell? ⟨b, 7, none⟩ = some ve2 := by rw [cellsOf h2.blk]; rfl
  have h2e := h2.ents
  rw [hse'.out] at h2e
  obtain ⟨ad2, cap2, rfl, hcell2⟩ := ents_shape h2e
  obtain ⟨g2, rfl, _, _, hc2⟩ := hcell2 k hlt
  rw [hm'.out] at hc2
  clear hcell2 h2 h2e hbb h1 hb1 hc c5
  go_wp2
  go_ret2
  exact ⟨rfl, hr'.out.1, hr'.out.2⟩

theorem known_any {B : Nat} {w : World} {b : Nat} {r : Pl.RdM} {s : Nat} (h : Rd B w b r) (ok : Pl.Ok s r) (kd : Int) :
    Calls Tryz.prog 333 #[.pointer (some ⟨b, 0, none⟩), .int .i64 kd] w fun e w' => e = .returned (optV (r.knownStep kd).1) ∧ Rd B w' b (r.knownStep kd).2 ∧ Below B w w' := by
  have h1 := ok.size
  have h2 := ok.pos
  have h3 : r.ents.length ≤ 1000 := by unfold Pl.RdM.sz at h1; omega
  cases hk : r.known kd with
  | none => unfold Pl.RdM.knownStep; rw [hk]; exact known_none h h2 h3 kd hk
  | some m => unfold Pl.RdM.knownStep; rw [hk]; exact known_some h h2 h3 kd m hk

set_option maxHeartbeats 400000 in
theorem Argument_any {B : Nat} {w : World} {b : Nat} {r : Pl.RdM} {s : Nat} (h : Rd B w b r) (ok : Pl.Ok s r) :
    Calls Tryz.prog 256 #[.pointer (some ⟨b, 0, none⟩)] w fun e w' => e = .returned (optV r.leaf.1) ∧ Rd B w' b r.leaf.2 ∧ Below B w w' := by
  have h1 := ok.size
  have h2 := ok.pos
  have h3 : r.nodes.length ≤ 1000 := by unfold Pl.RdM.sz at h1; omega
  have h4 := ok.peek_len
  cases hk : r.num (-1000000000) 1000000000 with
  | none =>
    have hc := RNum_no h h2 h4 _ _ hk
    have hL : r.leaf = r.knownStep 0 := by unfold Pl.RdM.leaf Pl.RdM.constant; rw [hk]
    rw [hL]
    have hK := fun (w' : World) (h' : Rd B w' b r) => known_any h' ok 0
    generalize r.knownStep 0 = T at *
    unfold optV at hK ⊢
    clear hL
    go_enter Tryz.func256, Tryz.ntmps256
    go_wp2_with fail
    refine hc.mono ?_
    rintro e w2 ⟨rfl, hr, hbb⟩
    clear hc
    have hK2 := hK _ hr
    clear hr h hK
    go_wp2_with fail
    refine hK2.mono ?_
    rintro e w3 ⟨rfl, hr3, hb3⟩
    have HH : Hid (Rd B w3 b T.2 ∧ Below B w w3) := ⟨hr3, hbb.trans hb3⟩
    clear hr3 hb3 hK2 hbb
    go_wp2_with fail
    go_ret2
    exact ⟨rfl, HH.out.1, HH.out.2⟩
  | some m =>
    have hc := RNum_yes h h2 h4 _ _ m hk
    have hL : r.leaf = (some (r.nodes.length : Int), r.skip.addNode ⟨0, 0, 0, 0, m, []⟩) := by unfold Pl.RdM.leaf Pl.RdM.constant; rw [hk]
    rw [hL]
    unfold optV
    clear hL
    go_enter Tryz.func256, Tryz.ntmps256
    go_wp2_with fail
    refine hc.mono ?_
    rintro e w2 ⟨rfl, hr, hbb⟩
    clear hc
    have e1 : r.skip.nodes = r.nodes := by unfold Pl.RdM.skip; split <;> rfl
    have ha := Append_any hr ⟨0, 0, 0, 0, m, []⟩ (.slice none 0 0) (World.ownsRow_nil _ _ _ _) (by rw [e1]; exact h3)
    rw [e1] at ha
    go_wp2_with fail
    refine ha.mono ?_
    rintro e w3 ⟨rfl, hr3, hb3⟩
    have hr' : Hid (Rd B w3 b (r.skip.addNode ⟨0, 0, 0, 0, m, []⟩) ∧ Below B w w3) := ⟨hr3, hbb.trans hb3⟩
    clear hr hbb h ha hr3 hb3
    go_wp2
    go_ret2
    exact ⟨rfl, hr'.out.1, hr'.out.2⟩
end Go.Proofs.YtfaljekgpnbmiaaGreat

/-
  The plan's walks as plain functions: as Go reckons them, in 64 bits.
-/
namespace Go.Proofs.YtfaljekgpnbmiaaGreat.Pl
open Go.RowKit

def absW (a : Int) : Int := if a < 0 then wrap64 (-a) else a
def floorW (a d : Int) : Int := if d < 1 then 0 else if a.tmod d < 0 then wrap64 (wrap64 (a.tdiv d) - 1) else wrap64 (a.tdiv d)
def quotW (op a d : Int) : Int :=
  if op = 9 then wrap64 (-floorW (wrap64 (-a)) d)
  else if op = 10 then (if 0 < a then floorW a d else wrap64 (-floorW (wrap64 (-a)) d))
  else if op = 11 then floorW (wrap64 (wrap64 (2 * a) + d)) (wrap64 (2 * d))
  else floorW a d
def pickL (l : List Int) (i : Int) : Int := if 0 ≤ i ∧ i < l.length then l.getD i.toNat 0 else 0
def holdsB (op a b : Int) : Bool :=
  if op = 13 then decide (a < b) else if op = 14 then decide (a ≤ b) else if op = 15 then decide (a = b)
  else if op = 16 then decide (a ≠ 0 ∧ b ≠ 0) else if op = 17 then decide (a ≠ 0 ∨ b ≠ 0) else if op = 18 then decide (a = 0) else false

/-- What lies of a in the bands from number i on. -/
def bandSumFrom (a : Int) : List (Int × Int) → Int → Int
  | [], acc => acc
  | [p], acc => if p.1 < a then wrap64 (acc + wrap64 (p.2 * wrap64 (a - p.1))) else acc
  | p :: q :: l, acc =>
    if p.1 < lesser a q.1 then bandSumFrom a (q :: l) (wrap64 (acc + wrap64 (p.2 * wrap64 (lesser a q.1 - p.1))))
    else bandSumFrom a (q :: l) acc
def bandSumW (a : Int) (l : List (Int × Int)) : Int := bandSumFrom a l 0
def bandBoundFrom (a : Int) : List (Int × Int) → Int → Int
  | [], acc => acc
  | p :: l, acc => bandBoundFrom a l (wrap64 (acc + wrap64 (absW p.2 * wrap64 (a + absW p.1))))
def bandBoundW (a : Int) (l : List (Int × Int)) : Int := bandBoundFrom a l 0
def inputBoundW (ins : List (Int × Int)) (i : Int) : Int :=
  if 0 ≤ i ∧ i < ins.length then greater (absW (ins.getD i.toNat (0, 0)).1) (absW (ins.getD i.toNat (0, 0)).2) else 0
def nodeBoundW (ins : List (Int × Int)) (n : NodeM) (bs : List Int) : Int :=
  if n.op = 0 then absW n.k
  else if n.op = 1 then inputBoundW ins n.k
  else if n.op = 2 ∨ n.op = 3 then wrap64 (pickL bs n.a + pickL bs n.b)
  else if n.op = 4 then wrap64 (absW n.k * pickL bs n.a)
  else if n.op = 5 ∨ n.op = 6 then greater (pickL bs n.a) (pickL bs n.b)
  else if n.op = 7 then greater (pickL bs n.b) (pickL bs n.c)
  else if n.op = 8 ∨ n.op = 9 ∨ n.op = 10 ∨ n.op = 11 then pickL bs n.a
  else if n.op = 12 then bandBoundW (pickL bs n.a) n.bands
  else 0
def nodeValueW (n : NodeM) (vs home : List Int) : Int :=
  if n.op = 0 then n.k
  else if n.op = 1 then pickL home n.k
  else if n.op = 2 then wrap64 (pickL vs n.a + pickL vs n.b)
  else if n.op = 3 then wrap64 (pickL vs n.a - pickL vs n.b)
  else if n.op = 4 then wrap64 (n.k * pickL vs n.a)
  else if n.op = 5 then lesser (pickL vs n.a) (pickL vs n.b)
  else if n.op = 6 then greater (pickL vs n.a) (pickL vs n.b)
  else if n.op = 7 then (if pickL vs n.a ≠ 0 then pickL vs n.b else pickL vs n.c)
  else if n.op = 8 ∨ n.op = 9 ∨ n.op = 10 ∨ n.op = 11 then quotW n.op (pickL vs n.a) n.k
  else if n.op = 12 then bandSumW (pickL vs n.a) n.bands
  else if holdsB n.op (pickL vs n.a) (pickL vs n.b) then 1 else 0
/-- Is a bound above the limit? The bounds so far: bs, of as many nodes as stand ahead. -/
def bigFrom (ins : List (Int × Int)) (len : Nat) : List NodeM → List Int → Bool
  | [], _ => false
  | n :: l, bs =>
    if 1000000000000000 < nodeBoundW ins n (bs ++ List.replicate (len - bs.length) 0) then true
    else bigFrom ins len l (bs ++ [nodeBoundW ins n (bs ++ List.replicate (len - bs.length) 0)])
def isBigW (ins : List (Int × Int)) (nodes : List NodeM) : Bool := bigFrom ins nodes.length nodes []
def valuesFrom (len : Nat) (home : List Int) : List NodeM → List Int → List Int
  | [], vs => vs
  | n :: l, vs => valuesFrom len home l (vs ++ [nodeValueW n (vs ++ List.replicate (len - vs.length) 0) home])
def runW (nodes : List NodeM) (outs home : List Int) : List Int := outs.map fun o => pickL (valuesFrom nodes.length home nodes []) o
def homeFrom : List (Int × Int) → List Int → Bool
  | p :: ps, x :: xs => decide (p.1 ≤ x ∧ x ≤ p.2) && homeFrom ps xs
  | _, _ => true
def isHomeB (ins : List (Int × Int)) (home : List Int) : Bool := decide (home.length = ins.length) && homeFrom ins home

end Go.Proofs.YtfaljekgpnbmiaaGreat.Pl

/-
  Contracts of the plan's small functions, as Go reckons them.
-/
namespace Go.Proofs.YtfaljekgpnbmiaaGreat
open Go.RowKit

set_option maxHeartbeats 400000 in
theorem absoluteW_any (a : Int) (w : World) :
    Calls Tryz.prog 250 #[.int .i64 a] w fun e w' => e = .returned (.int .i64 (Pl.absW a)) ∧ w' = w := by
  go_enter Tryz.func250, Tryz.ntmps250
  go_wp2
  all_goals go_ret
  all_goals exact ⟨ret_int (by unfold Pl.absW; first | rw [if_pos ‹_›] | rw [if_neg (by omega)]), rfl⟩

set_option maxHeartbeats 400000 in
theorem floorW_any (a d : Int) (w : World) :
    Calls Tryz.prog 257 #[.int .i64 a, .int .i64 d] w fun e w' => e = .returned (.int .i64 (Pl.floorW a d)) ∧ w' = w := by
  go_enter Tryz.func257, Tryz.ntmps257
  go_wp2
  all_goals go_ret
  · exact ⟨ret_int (by rw [Pl.floorW, if_pos ‹_›]), rfl⟩
  · exact ⟨ret_int (by rw [Pl.floorW, if_neg (by omega), if_pos ‹_›]), rfl⟩
  · exact ⟨ret_int (by rw [Pl.floorW, if_neg (by omega), if_neg (by omega)]), rfl⟩

set_option maxHeartbeats 400000 in
theorem quotW_any (op a d : Int) (w : World) :
    Calls Tryz.prog 194 #[.int .i64 op, .int .i64 a, .int .i64 d] w fun e w' => e = .returned (.int .i64 (Pl.quotW op a d)) ∧ w' = w := by
  go_enter Tryz.func194, Tryz.ntmps194
  go_wp2_with (go_at_call 257; refine (floorW_any _ _ _).mono ?_; rintro e w' ⟨rfl, rfl⟩)
  all_goals go_ret
  all_goals refine ⟨ret_int ?_, rfl⟩
  · rw [Pl.quotW, if_pos (beq_iff_eq.1 ‹(op == 9) = true›)]
  · rw [Pl.quotW, if_neg (beq_eq_false_iff_ne.1 ‹(op == 9) = false›), if_pos (beq_iff_eq.1 ‹(op == 10) = true›), if_pos ‹_›]
  · rw [Pl.quotW, if_neg (beq_eq_false_iff_ne.1 ‹(op == 9) = false›), if_pos (beq_iff_eq.1 ‹(op == 10) = true›), if_neg (by omega)]
  · rw [Pl.quotW, if_neg (beq_eq_false_iff_ne.1 ‹(op == 9) = false›), if_neg (beq_eq_false_iff_ne.1 ‹(op == 10) = false›), if_pos (beq_iff_eq.1 ‹(op == 11) = true›)]
  · rw [Pl.quotW, if_neg (beq_eq_false_iff_ne.1 ‹(op == 9) = false›), if_neg (beq_eq_false_iff_ne.1 ‹(op == 10) = false›), if_neg (beq_eq_false_iff_ne.1 ‹(op == 11) = false›)]

set_option maxHeartbeats 400000 in
theorem holds_any (op a b : Int) (w : World) :
    Calls Tryz.prog 196 #[.int .i64 op, .int .i64 a, .int .i64 b] w fun e w' => e = .returned (.bool (Pl.holdsB op a b)) ∧ w' = w := by
  go_enter Tryz.func196, Tryz.ntmps196
  go_wp2
  all_goals go_ret
  all_goals refine ⟨ret_bool ?_, rfl⟩
  all_goals simp_all [Pl.holdsB]
  all_goals first | rfl | (rw [Bool.eq_iff_iff]; simp; intros; assumption)

/-- A slice of ints that reads as l. -/
def IntsAt (w : World) (v : Value) (l : List Int) : Prop :=
  ∃ ad cap, v = .slice ad l.length cap ∧ ∀ i, i < l.length → ∃ b off, ad = some ⟨b, off, none⟩ ∧ w.cell? ⟨b, off + i, none⟩ = some (.int .i64 (l.getD i 0))
theorem ints_own {B : Nat} {w : World} {v : Value} {l : List Int} (h : IntsOwn B w v l) : IntsAt w v l := by
  rcases h.2 with ⟨rfl, hn⟩ | ⟨g, cap, cur, rfl, hb, hgg, hle, hm, hcs, htk⟩
  · exact ⟨none, 0, by rw [hn], fun i hi => by omega⟩
  · refine ⟨some ⟨g, 0, none⟩, cap, rfl, fun i hi => ⟨g, 0, rfl, ?_⟩⟩
    have := World.ownsRow.cellAt (show w.ownsRow B 3 1 (.slice (some ⟨g, 0, none⟩) l.length cap) l.length (l.map intV) from h) i (by omega)
    rw [Nat.zero_add, this, List.getElem?_map, List.getElem?_eq_getElem hi, List.getD_eq_getElem?_getD, List.getElem?_eq_getElem hi]; rfl
theorem IntsAt.drewN {w : World} {v : Value} {l : List Int} (h : IntsAt w v l) (n : Nat) : IntsAt (w.drewN n) v l := h

set_option maxHeartbeats 400000 in
theorem pick_any (l : List Int) (i : Int) (v : Value) (w : World) (h : IntsAt w v l) :
    Calls Tryz.prog 138 #[v, .int .i64 i] w fun e w' => e = .returned (.int .i64 (Pl.pickL l i)) ∧ w' = w := by
  obtain ⟨ad, cap, rfl, hc⟩ := h
  by_cases h0 : i < 0
  · have hx : Hid (Pl.pickL l i = 0) := by rw [Pl.pickL, if_neg (by omega)]; rfl
    have hd : decide (i < 0) = true := by simpa using h0
    clear hc
    go_enter Tryz.func138, Tryz.ntmps138
    go_wp2
    go_ret
    exact ⟨ret_int hx.out.symm, rfl⟩
  · by_cases h1 : (l.length : Int) ≤ i
    · have hx : Hid (Pl.pickL l i = 0) := by rw [Pl.pickL, if_neg (by omega)]; rfl
      have hd : decide (i < 0) = false := by simpa using h0
      have hd2 : decide ((l.length : Int) ≤ i) = true := by simpa using h1
      clear hc
      go_enter Tryz.func138, Tryz.ntmps138
      go_wp2
      go_ret
      exact ⟨ret_int hx.out.symm, rfl⟩
    · obtain ⟨k, rfl⟩ := Int.eq_ofNat_of_zero_le (show 0 ≤ i by omega)
      have hk : k < l.length := by omega
      have hx : Hid (Pl.pickL l k = l.getD k 0) := by rw [Pl.pickL, if_pos (by omega)]; rfl
      obtain ⟨b, off, rfl, hcell⟩ := hc k hk
      generalize l.getD k 0 = x at *
      clear hc
      go_enter Tryz.func138, Tryz.ntmps138
      go_wp2
      go_ret
      exact ⟨ret_int hx.out.symm, rfl⟩
end Go.Proofs.YtfaljekgpnbmiaaGreat
