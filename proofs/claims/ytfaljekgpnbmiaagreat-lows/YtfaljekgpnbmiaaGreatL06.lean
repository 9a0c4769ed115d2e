/- Joined: Rdr5 PlainHigh Rdr6 PlainPlan. -/
import Derived.Test.YtfaljekgpnbmiaaGreatL05
/-
  Contracts of the reader's NewName and known.
-/
namespace Go.Proofs.YtfaljekgpnbmiaaGreat
open Go.RowKit

theorem Rd.drewN {B : Nat} {w : World} {b : Nat} {r : Pl.RdM} (h : Rd B w b r) (n : Nat) : Rd B (w.drewN n) b r := h.below (below_drewN (Below.refl _ w) n)

set_option maxHeartbeats 400000 in
theorem NewName_bad {B : Nat} {w : World} {b : Nat} {r : Pl.RdM} (h : Rd B w b r) (hp : r.pos ≤ 600) (hno : Pl.isName r.peek = false) :
    Calls Tryz.prog 246 #[.pointer (some ⟨b, 0, none⟩)] w fun e w' => e = .returned (.tuple #[strV [], .bool false]) ∧ Rd B w' b r ∧ Below B w w' := by
  have hpc := Peek_any h hp
  have h1 : Hid (∀ n, Rd B (w.drewN n) b r) := h.drewN
  have hb1 : Hid (∀ n, Below B w (w.drewN n)) := fun n => below_drewN (Below.refl B w) n
  generalize r.peek = t at *
  clear h
  go_enter Tryz.func246, Tryz.ntmps246
  go_wp2_with fail
  refine hpc.mono ?_
  rintro e w' ⟨rfl, n, rfl⟩
  unfold strV
  go_wp2_with fail
  refine (IsName_any t _).mono ?_
  rintro e w' ⟨rfl, rfl⟩
  clear hpc
  go_wp2
  go_ret2
  exact ⟨rfl, h1.out n, hb1.out n⟩

set_option maxHeartbeats 400000 in
theorem NewName_good {B : Nat} {w : World} {b : Nat} {r : Pl.RdM} (h : Rd B w b r) (hp : r.pos ≤ 600) (hn : r.ents.length ≤ 1000) (hno : Pl.isName r.peek = true) (isnew : Bool) (hnew : decide (Pl.findEnt r.ents r.peek < r.ents.length) = !isnew) :
    Calls Tryz.prog 246 #[.pointer (some ⟨b, 0, none⟩)] w fun e w' => e = .returned (.tuple #[strV (if isnew then r.peek else []), .bool isnew]) ∧ Rd B w' b (if isnew then r.skip else r) ∧ Below B w w' := by
  have hpc := Peek_any h hp
  have h1 : Hid (∀ n, Rd B (w.drewN n) b r) := h.drewN
  have hb1 : Hid (∀ n, Below B w (w.drewN n)) := fun n => below_drewN (Below.refl B w) n
  obtain ⟨vi, vn, vo, vt, ve, bvs, vx, vy, lx, ly, h, hnm⟩ := h
  have c5 : w.cell? ⟨b, 7, none⟩ = some ve := by rw [cellsOf h.blk]; rfl
  obtain ⟨ad, cap, rfl, _⟩ := ents_shape h.ents
  generalize r.peek = t at *
  generalize hfe : Pl.findEnt r.ents t = k at *
  have hfe' : Hid (Pl.findEnt r.ents t = k) := hfe
  clear h hfe
  go_enter Tryz.func246, Tryz.ntmps246
  go_wp2_with fail
  refine hpc.mono ?_
  rintro e w' ⟨rfl, n, rfl⟩
  unfold strV
  go_wp2_with fail
  refine (IsName_any t _).mono ?_
  rintro e w' ⟨rfl, rfl⟩
  clear hpc
  go_wp2_with fail
  have hRW := h1.out n
  have hbW : Hid (Below B w (w.drewN n)) := hb1.out n
  have cW : (w.drewN n).cell? ⟨b, 7, none⟩ = some (.slice ad r.ents.length cap) := c5
  clear h1 hb1 c5
  generalize w.drewN n = W at *
  have hf' : Hid (∀ m : Nat, Calls Tryz.prog 319 #[.pointer (some ⟨b, 0, none⟩), .string ⟨t.toArray⟩] (W.drewN m) fun e w' => e = .returned (.int .i64 k) ∧ w' = W.drewN m) := fun m => by
    have := find_any (hRW.drewN m) t hn; rw [hfe'.out] at this; exact this
  have hR1 : Hid (∀ m, Rd B (W.drewN m) b r ∧ Below B w (W.drewN m)) := fun m => ⟨hRW.drewN m, below_drewN hbW.out m⟩
  clear hRW
  go_quiet ((go_at_call 319; exact Calls.quiet_of_same (hf'.out _)))
  clear hf'
  cases isnew
  · have hlt : k < r.ents.length := by simpa using hnew
    clear hnew
    go_wp2
    go_ret2
    exact ⟨rfl, (hR1.out _).1, (hR1.out _).2⟩
  · have hlt : ¬ k < r.ents.length := by simpa using hnew
    clear hnew
    go_wp2_with fail
    refine (Skip_any (hR1.out _).1 hp).mono ?_
    rintro e w' ⟨rfl, hr, hbb⟩
    have hr' : Hid (Rd B w' b r.skip ∧ Below B w w') := ⟨hr, (hR1.out _).2.trans hbb⟩
    clear hr hbb
    go_wp2
    go_ret2
    exact ⟨rfl, hr'.out.1, hr'.out.2⟩

theorem NewName_any {B : Nat} {w : World} {b : Nat} {r : Pl.RdM} (h : Rd B w b r) (hp : r.pos ≤ 600) (hn : r.ents.length ≤ 1000) :
    Calls Tryz.prog 246 #[.pointer (some ⟨b, 0, none⟩)] w fun e w' => e = .returned (.tuple #[strV (r.newName.getD []), .bool r.newName.isSome]) ∧ Rd B w' b (if r.newName.isSome then r.skip else r) ∧ Below B w w' := by
  cases hno : Pl.isName r.peek
  · have e : r.newName = none := by unfold Pl.RdM.newName; rw [if_neg (by simp [hno])]
    rw [e]; exact NewName_bad h hp hno
  · have hle := Pl.findEnt_le r.ents r.peek
    by_cases hk : Pl.findEnt r.ents r.peek < r.ents.length
    · have e : r.newName = none := by unfold Pl.RdM.newName; rw [if_neg (by omega)]
      rw [e]; exact NewName_good h hp hn hno false (by simpa using hk)
    · have e : r.newName = some r.peek := by unfold Pl.RdM.newName; rw [if_pos ⟨hno, by omega⟩]
      rw [e]; exact NewName_good h hp hn hno true (by simpa using hk)

set_option maxHeartbeats 400000 in
theorem known_none {B : Nat} {w : World} {b : Nat} {r : Pl.RdM} (h : Rd B w b r) (hp : r.pos ≤ 600) (hn : r.ents.length ≤ 1000) (kd : Int) (hk : r.known kd = none) :
    Calls Tryz.prog 333 #[.pointer (some ⟨b, 0, none⟩), .int .i64 kd] w fun e w' => e = .returned (.tuple #[.int .i64 0, .bool false]) ∧ Rd B w' b r ∧ Below B w w' := by
  have hpc := Peek_any h hp
  have hf := fun n t => find_any (h.drewN n) t hn
  have h1 : Hid (∀ n, Rd B (w.drewN n) b r) := h.drewN
  have hb1 : Hid (∀ n, Below B w (w.drewN n)) := fun n => below_drewN (Below.refl B w) n
  obtain ⟨vi, vn, vo, vt, ve, bvs, vx, vy, lx, ly, h, hnm⟩ := h
  have c5 : w.cell? ⟨b, 7, none⟩ = some ve := by rw [cellsOf h.blk]; rfl
  obtain ⟨ad, cap, rfl, hcell⟩ := ents_shape h.ents
  have hle := Pl.findEnt_le r.ents r.peek
  unfold Pl.RdM.known at hk
  generalize r.peek = t at *
  generalize hfe : Pl.findEnt r.ents t = k at *
  have hf' : Hid (∀ n : Nat, Calls Tryz.prog 319 #[.pointer (some ⟨b, 0, none⟩), .string ⟨t.toArray⟩] (w.drewN n) fun e w' => e = .returned (.int .i64 k) ∧ w' = w.drewN n) := fun n => by
    have := hf n t; rw [hfe] at this; exact this
  clear h hf hfe
  by_cases hlt : k < r.ents.length
  · obtain ⟨g, rfl, _, hc, _⟩ := hcell k hlt
    rw [List.getElem?_eq_getElem hlt] at hk
    have hm1 : r.ents[k].2.1 ≠ kd := by simp only at hk; split at hk <;> simp_all
    generalize r.ents[k].2.1 = kk at *
    have hne : (kk == kd) = false := by simpa using hm1
    have hne2 : (kk != kd) = true := by simpa using hm1
    have hd : decide ((r.ents.length : Int) ≤ k) = false := by simp; omega
    clear hcell hk hm1
    go_enter Tryz.func333, Tryz.ntmps333
    go_wp2_with fail
    refine hpc.mono ?_
    rintro e w' ⟨rfl, n, rfl⟩
    unfold strV
    go_wp2_with fail
    refine (hf'.out n).mono ?_
    rintro e w' ⟨rfl, rfl⟩
    clear hpc hf'
    go_wp2
    go_ret2
    exact ⟨rfl, h1.out n, hb1.out n⟩
  · have hd : decide ((r.ents.length : Int) ≤ k) = true := by simp; omega
    clear hcell hk
    go_enter Tryz.func333, Tryz.ntmps333
    go_wp2_with fail
    refine hpc.mono ?_
    rintro e w' ⟨rfl, n, rfl⟩
    unfold strV
    go_wp2_with fail
    refine (hf'.out n).mono ?_
    rintro e w' ⟨rfl, rfl⟩
    clear hpc hf'
    go_wp2
    go_ret2
    exact ⟨rfl, h1.out n, hb1.out n⟩
end Go.Proofs.YtfaljekgpnbmiaaGreat

/-
  How the program reads the high form, as plain functions on the reader's data; how many nodes and names there may be.
-/
namespace Go.Proofs.YtfaljekgpnbmiaaGreat.Pl

def RdM.sz (r : RdM) : Nat := r.nodes.length + r.ents.length + r.ins.length + r.outs.length
structure Ok (s : Nat) (r : RdM) : Prop where
  size : r.sz + s ≤ r.pos
  pos : r.pos ≤ 600
  toks : ∀ t ∈ r.toks, t.length ≤ 6000

theorem Ok.peek_len {s : Nat} {r : RdM} (h : Ok s r) : r.peek.length ≤ 6000 := by
  unfold RdM.peek
  split
  · simp
  · rw [List.getD_eq_getElem?_getD, List.getElem?_eq_getElem (by omega)]
    exact h.toks _ (List.getElem_mem _)
theorem skip_of {r : RdM} (h : r.peek ≠ []) : r.skip = { r with pos := r.pos + 1 } ∧ r.pos < 600 := by
  refine ⟨by unfold RdM.skip; rw [if_neg h], ?_⟩
  unfold RdM.peek at h
  split at h
  · exact absurd rfl h
  · omega
theorem Ok.step {s : Nat} {r : RdM} (h : Ok s r) (hp : r.peek ≠ []) : Ok (s + 1) r.skip := by
  obtain ⟨e, hl⟩ := skip_of hp
  rw [e]
  exact ⟨by have := h.size; simp only [RdM.sz] at *; omega, by simp only; omega, h.toks⟩
theorem Ok.skip {s : Nat} {r : RdM} (h : Ok s r) : Ok s r.skip := by
  by_cases hp : r.peek = []
  · unfold RdM.skip; rw [if_pos hp]; exact h
  · have := h.step hp; exact ⟨by have := this.size; omega, this.pos, this.toks⟩
theorem Ok.less {s s' : Nat} {r : RdM} (h : Ok s r) (hs : s' ≤ s) : Ok s' r := ⟨by have := h.size; omega, h.pos, h.toks⟩
theorem Ok.addNode {s : Nat} {r : RdM} (h : Ok (s + 1) r) (n : NodeM) : Ok s (r.addNode n) := by
  refine ⟨?_, h.pos, h.toks⟩
  have := h.size
  simp [RdM.sz, RdM.addNode] at *; omega
theorem number_nil : number [] = (0, false) := by decide
theorem num_some {r : RdM} {lo hi m : Int} (h : r.num lo hi = some m) : r.peek ≠ [] ∧ lo ≤ m ∧ m ≤ hi := by
  unfold RdM.num at h
  split at h
  · rename_i hc
    cases h
    refine ⟨?_, hc.2⟩
    intro e; rw [e, number_nil] at hc; simp at hc
  · cases h

def RdM.constant (r : RdM) : Option Int × RdM :=
  match r.num (-1000000000) 1000000000 with
  | none => (none, r)
  | some k => (some r.nodes.length, r.skip.addNode ⟨0, 0, 0, 0, k, []⟩)
def RdM.knownStep (k : Int) (r : RdM) : Option Int × RdM :=
  match r.known k with
  | none => (none, r)
  | some n => (some n, r.skip)
def RdM.leaf (r : RdM) : Option Int × RdM :=
  match r.constant with
  | (some n, r1) => (some n, r1)
  | (none, _) => r.knownStep 0
def oneR (f : RdM → Option Int × RdM) (mk : Int → NodeM) (r : RdM) : Option Int × RdM :=
  match f r with
  | (none, r1) => (none, r1)
  | (some a, r1) => (some r1.nodes.length, r1.addNode (mk a))
def pairR (f : RdM → Option Int × RdM) (op : Int) (r : RdM) : Option Int × RdM :=
  match f r with
  | (none, r1) => (none, r1)
  | (some a, r1) => oneR f (fun b => ⟨op, a, b, 0, 0, []⟩) r1
def productR (f : RdM → Option Int × RdM) (r : RdM) : Option Int × RdM :=
  match r.num (-1000) 1000 with
  | none => (none, r)
  | some k => oneR f (fun a => ⟨4, a, 0, 0, k, []⟩) r.skip
def choiceR (g f : RdM → Option Int × RdM) (r : RdM) : Option Int × RdM :=
  match g r with
  | (none, r1) => (none, r1)
  | (some a, r1) =>
    match f r1 with
    | (none, r2) => (none, r2)
    | (some b, r2) => oneR f (fun c => ⟨7, a, b, c, 0, []⟩) r2
/-- What a reading step keeps: it reads on, the slack does not shrink, the names stand. -/
structure Keeps (r r' : RdM) : Prop where
  ok : ∀ s, Ok s r → Ok s r'
  pos : r.pos ≤ r'.pos
  ents : r'.ents = r.ents
  toks : r'.toks = r.toks
  ins : r'.ins = r.ins
  outs : r'.outs = r.outs
theorem Keeps.refl (r : RdM) : Keeps r r := ⟨fun _ h => h, Nat.le_refl _, rfl, rfl, rfl, rfl⟩
theorem Keeps.trans {a b c : RdM} (h : Keeps a b) (k : Keeps b c) : Keeps a c :=
  ⟨fun s h1 => k.ok s (h.ok s h1), Nat.le_trans h.pos k.pos, k.ents.trans h.ents, k.toks.trans h.toks, k.ins.trans h.ins, k.outs.trans h.outs⟩
theorem Keeps.skip (r : RdM) : Keeps r r.skip := by
  refine ⟨fun s h => h.skip, ?_, ?_, ?_, ?_, ?_⟩ <;> (unfold RdM.skip; split <;> simp)
/-- The same at the cost of one token that was read ahead. -/
structure Keeps1 (r r' : RdM) : Prop where
  ok : ∀ s, Ok (s + 1) r → Ok s r'
  pos : r.pos ≤ r'.pos
  ents : r'.ents = r.ents
  toks : r'.toks = r.toks
  ins : r'.ins = r.ins
  outs : r'.outs = r.outs
theorem Keeps.less {r r' : RdM} (h : Keeps r r') : Keeps1 r r' := ⟨fun s hs => (h.ok _ hs).less (by omega), h.pos, h.ents, h.toks, h.ins, h.outs⟩
theorem Keeps.then1 {a b c : RdM} (h : Keeps a b) (k : Keeps1 b c) : Keeps1 a c :=
  ⟨fun s h1 => k.ok s (h.ok _ h1), Nat.le_trans h.pos k.pos, k.ents.trans h.ents, k.toks.trans h.toks, k.ins.trans h.ins, k.outs.trans h.outs⟩
theorem Keeps1.add (r : RdM) (n : NodeM) : Keeps1 r (r.addNode n) := ⟨fun _ h => h.addNode n, Nat.le_refl _, rfl, rfl, rfl, rfl⟩
theorem Keeps1.up {r r' : RdM} (hp : r.peek ≠ []) (h : Keeps1 r.skip r') : Keeps r r' := by
  have k := Keeps.skip r
  exact ⟨fun s hs => h.ok s (hs.step hp), Nat.le_trans k.pos h.pos, h.ents.trans k.ents, h.toks.trans k.toks, h.ins.trans k.ins, h.outs.trans k.outs⟩

section
variable {f g : RdM → Option Int × RdM}
theorem oneR_keeps (hf : ∀ r, Keeps r (f r).2) (mk : Int → NodeM) (r : RdM) : Keeps1 r (oneR f mk r).2 := by
  have h := hf r
  unfold oneR
  split
  · rename_i e; rw [e] at h; exact h.less
  · rename_i e; rw [e] at h; exact h.then1 (.add _ _)
theorem pairR_keeps (hf : ∀ r, Keeps r (f r).2) (op : Int) (r : RdM) : Keeps1 r (pairR f op r).2 := by
  have h := hf r
  unfold pairR
  split
  · rename_i e; rw [e] at h; exact h.less
  · rename_i e; rw [e] at h; exact h.then1 (oneR_keeps hf _ _)
theorem productR_keeps (hf : ∀ r, Keeps r (f r).2) (r : RdM) : Keeps1 r (productR f r).2 := by
  unfold productR
  split
  · exact (Keeps.refl r).less
  · exact (Keeps.skip r).then1 (oneR_keeps hf _ _)
theorem choiceR_keeps (hg : ∀ r, Keeps r (g r).2) (hf : ∀ r, Keeps r (f r).2) (r : RdM) : Keeps1 r (choiceR g f r).2 := by
  have h := hg r
  unfold choiceR
  split
  · rename_i e; rw [e] at h; exact h.less
  · rename_i a r1 e
    rw [e] at h
    have h2 := hf r1
    split
    · rename_i e; rw [e] at h2; exact (h.trans h2).less
    · rename_i e; rw [e] at h2; exact (h.trans h2).then1 (oneR_keeps hf _ _)
theorem constant_keeps (r : RdM) : Keeps r r.constant.2 := by
  unfold RdM.constant
  split
  · exact Keeps.refl r
  · rename_i h; exact (Keeps1.add _ _).up (num_some h).1
theorem knownStep_keeps (k : Int) (r : RdM) : Keeps r (r.knownStep k).2 := by
  unfold RdM.knownStep
  split
  · exact Keeps.refl r
  · exact Keeps.skip r
theorem leaf_keeps (r : RdM) : Keeps r r.leaf.2 := by
  have h := constant_keeps r
  unfold RdM.leaf
  split
  · rename_i e; rw [e] at h; exact h
  · exact knownStep_keeps 0 r
end
end Go.Proofs.YtfaljekgpnbmiaaGreat.Pl

/-
  Contracts of the reader's known, Argument and Flag, as steps of the plain reader.
-/
namespace Go.Proofs.YtfaljekgpnbmiaaGreat
open Go.RowKit

def optV (o : Option Int) : Value := .tuple #[.int .i64 (o.getD 0), .bool o.isSome]

set_option maxHeartbeats 400000 in
theorem known_some {B : Nat} {w : World} {b : Nat} {r : Pl.RdM} (h : Rd B w b r) (hp : r.pos ≤ 600) (hn : r.ents.length ≤ 1000) (kd m : Int) (hk : r.known kd = some m) :
    Calls Tryz.prog 333 #[.pointer (some ⟨b, 0, none⟩), .int .i64 kd] w fun e w' => e = .returned (.tuple #[.int .i64 m, .bool true]) ∧ Rd B w' b r.skip ∧ Below B w w' := by
  have hpc := Peek_any h hp
  have hf := fun n t => find_any (h.drewN n) t hn
  have h1 : Hid (∀ n, Rd B (w.drewN n) b r) := h.drewN
  have hb1 : Hid (∀ n, Below B w (w.drewN n)) := fun n => below_drewN (Below.refl B w) n
  obtain ⟨vi, vn, vo, vt, ve, bvs, vx, vy, lx, ly, h, hnm⟩ := h
  have c5 : w.cell? ⟨b, 7, none⟩ = some ve := by rw [cellsOf h.blk]; rfl
  obtain ⟨ad, cap, rfl, hcell⟩ := ents_shape h.ents
  unfold Pl.RdM.known at hk
  generalize r.peek = t at *
  generalize hfe : Pl.findEnt r.ents t = k at *
  have hf' : Hid (∀ n : Nat, Calls Tryz.prog 319 #[.pointer (some ⟨b, 0, none⟩), .string ⟨t.toArray⟩] (w.drewN n) fun e w' => e = .returned (.int .i64 k) ∧ w' = w.drewN n) := fun n => by
    have := hf n t; rw [hfe] at this; exact this
  clear h hf hfe
  have hlt : k < r.ents.length := by
    by_cases hlt : k < r.ents.length
    · exact hlt
    · rw [List.getElem?_eq_none (by omega)] at hk; cases hk
  rw [List.getElem?_eq_getElem hlt] at hk
  have hm : r.ents[k].2.1 = kd ∧ r.ents[k].2.2 = m := by simp only at hk; split at hk <;> simp_all
  obtain ⟨g, rfl, _, hc, _⟩ := hcell k hlt
  have hse : r.skip.ents = r.ents := (Pl.Keeps.skip r).ents
  have hm' : Hid (r.ents[k].2.2 = m) := hm.2
  rw [hm.1] at hc
  have hd : decide ((r.ents.length : Int) ≤ k) = false := by simp; omega
  have hse' : Hid (r.skip.ents = r.ents) := hse
  clear hcell hk hm hse
  go_enter Tryz.func333, Tryz.ntmps333
  go_wp2_with fail
  refine hpc.mono ?_
  rintro e w' ⟨rfl, n, rfl⟩
  unfold strV
  go_wp2_with fail
  refine (hf'.out n).mono ?_
  rintro e w' ⟨rfl, rfl⟩
  clear hpc hf'
  go_wp2_with fail
  refine (Skip_any (h1.out n) hp).mono ?_
  rintro e w2 ⟨rfl, hr, hbb⟩
  have hr' : Hid (Rd B w2 b r.skip ∧ Below B w w2) := ⟨hr, (hb1.out n).trans hbb⟩
  obtain ⟨vi2, vn2, vo2, vt2, ve2, bvs2, vx2, vy2, lx2, ly2, h2, _⟩ := hr
  have d5 : w2.cell? ⟨b, 7, none⟩ = some ve2 := by rw [cellsOf h2.blk]; rfl
  have h2e := h2.ents
  rw [hse'.out] at h2e
  obtain ⟨ad2, cap2, rfl, hcell2⟩ := ents_shape h2e
  obtain ⟨g2, rfl, _, _, hc2⟩ := hcell2 k hlt
  rw [hm'.out] at hc2
  clear hcell2 h2 h2e hbb h1 hb1 hc c5
  go_wp2
  go_ret2
  exact ⟨rfl, hr'.out.1, hr'.out.2⟩

theorem known_any {B : Nat} {w : World} {b : Nat} {r : Pl.RdM} {s : Nat} (h : Rd B w b r) (ok : Pl.Ok s r) (kd : Int) :
    Calls Tryz.prog 333 #[.pointer (some ⟨b, 0, none⟩), .int .i64 kd] w fun e w' => e = .returned (optV (r.knownStep kd).1) ∧ Rd B w' b (r.knownStep kd).2 ∧ Below B w w' := by
  have h1 := ok.size
  have h2 := ok.pos
  have h3 : r.ents.length ≤ 1000 := by unfold Pl.RdM.sz at h1; omega
  cases hk : r.known kd with
  | none => unfold Pl.RdM.knownStep; rw [hk]; exact known_none h h2 h3 kd hk
  | some m => unfold Pl.RdM.knownStep; rw [hk]; exact known_some h h2 h3 kd m hk

set_option maxHeartbeats 400000 in
theorem Argument_any {B : Nat} {w : World} {b : Nat} {r : Pl.RdM} {s : Nat} (h : Rd B w b r) (ok : Pl.Ok s r) :
    Calls Tryz.prog 256 #[.pointer (some ⟨b, 0, none⟩)] w fun e w' => e = .returned (optV r.leaf.1) ∧ Rd B w' b r.leaf.2 ∧ Below B w w' := by
  have h1 := ok.size
  have h2 := ok.pos
  have h3 : r.nodes.length ≤ 1000 := by unfold Pl.RdM.sz at h1; omega
  have h4 := ok.peek_len
  cases hk : r.num (-1000000000) 1000000000 with
  | none =>
    have hc := RNum_no h h2 h4 _ _ hk
    have hL : r.leaf = r.knownStep 0 := by unfold Pl.RdM.leaf Pl.RdM.constant; rw [hk]
    rw [hL]
    have hK := fun (w' : World) (h' : Rd B w' b r) => known_any h' ok 0
    generalize r.knownStep 0 = T at *
    unfold optV at hK ⊢
    clear hL
    go_enter Tryz.func256, Tryz.ntmps256
    go_wp2_with fail
    refine hc.mono ?_
    rintro e w2 ⟨rfl, hr, hbb⟩
    clear hc
    have hK2 := hK _ hr
    clear hr h hK
    go_wp2_with fail
    refine hK2.mono ?_
    rintro e w3 ⟨rfl, hr3, hb3⟩
    have HH : Hid (Rd B w3 b T.2 ∧ Below B w w3) := ⟨hr3, hbb.trans hb3⟩
    clear hr3 hb3 hK2 hbb
    go_wp2_with fail
    go_ret2
    exact ⟨rfl, HH.out.1, HH.out.2⟩
  | some m =>
    have hc := RNum_yes h h2 h4 _ _ m hk
    have hL : r.leaf = (some (r.nodes.length : Int), r.skip.addNode ⟨0, 0, 0, 0, m, []⟩) := by unfold Pl.RdM.leaf Pl.RdM.constant; rw [hk]
    rw [hL]
    unfold optV
    clear hL
    go_enter Tryz.func256, Tryz.ntmps256
    go_wp2_with fail
    refine hc.mono ?_
    rintro e w2 ⟨rfl, hr, hbb⟩
    clear hc
    have e1 : r.skip.nodes = r.nodes := by unfold Pl.RdM.skip; split <;> rfl
    have ha := Append_any hr ⟨0, 0, 0, 0, m, []⟩ (.slice none 0 0) (World.ownsRow_nil _ _ _ _) (by rw [e1]; exact h3)
    rw [e1] at ha
    go_wp2_with fail
    refine ha.mono ?_
    rintro e w3 ⟨rfl, hr3, hb3⟩
    have hr' : Hid (Rd B w3 b (r.skip.addNode ⟨0, 0, 0, 0, m, []⟩) ∧ Below B w w3) := ⟨hr3, hbb.trans hb3⟩
    clear hr hbb h ha hr3 hb3
    go_wp2
    go_ret2
    exact ⟨rfl, hr'.out.1, hr'.out.2⟩
end Go.Proofs.YtfaljekgpnbmiaaGreat

/-
  The plan's walks as plain functions: as Go reckons them, in 64 bits.
-/
namespace Go.Proofs.YtfaljekgpnbmiaaGreat.Pl
open Go.RowKit

def absW (a : Int) : Int := if a < 0 then wrap64 (-a) else a
def floorW (a d : Int) : Int := if d < 1 then 0 else if a.tmod d < 0 then wrap64 (wrap64 (a.tdiv d) - 1) else wrap64 (a.tdiv d)
def quotW (op a d : Int) : Int :=
  if op = 9 then wrap64 (-floorW (wrap64 (-a)) d)
  else if op = 10 then (if 0 < a then floorW a d else wrap64 (-floorW (wrap64 (-a)) d))
  else if op = 11 then floorW (wrap64 (wrap64 (2 * a) + d)) (wrap64 (2 * d))
  else floorW a d
def pickL (l : List Int) (i : Int) : Int := if 0 ≤ i ∧ i < l.length then l.getD i.toNat 0 else 0
def holdsB (op a b : Int) : Bool :=
  if op = 13 then decide (a < b) else if op = 14 then decide (a ≤ b) else if op = 15 then decide (a = b)
  else if op = 16 then decide (a ≠ 0 ∧ b ≠ 0) else if op = 17 then decide (a ≠ 0 ∨ b ≠ 0) else if op = 18 then decide (a = 0) else false

/-- What lies of a in the bands from number i on. -/
def bandSumFrom (a : Int) : List (Int × Int) → Int → Int
  | [], acc => acc
  | [p], acc => if p.1 < a then wrap64 (acc + wrap64 (p.2 * wrap64 (a - p.1))) else acc
  | p :: q :: l, acc =>
    if p.1 < lesser a q.1 then bandSumFrom a (q :: l) (wrap64 (acc + wrap64 (p.2 * wrap64 (lesser a q.1 - p.1))))
    else bandSumFrom a (q :: l) acc
def bandSumW (a : Int) (l : List (Int × Int)) : Int := bandSumFrom a l 0
def bandBoundFrom (a : Int) : List (Int × Int) → Int → Int
  | [], acc => acc
  | p :: l, acc => bandBoundFrom a l (wrap64 (acc + wrap64 (absW p.2 * wrap64 (a + absW p.1))))
def bandBoundW (a : Int) (l : List (Int × Int)) : Int := bandBoundFrom a l 0
def inputBoundW (ins : List (Int × Int)) (i : Int) : Int :=
  if 0 ≤ i ∧ i < ins.length then greater (absW (ins.getD i.toNat (0, 0)).1) (absW (ins.getD i.toNat (0, 0)).2) else 0
def nodeBoundW (ins : List (Int × Int)) (n : NodeM) (bs : List Int) : Int :=
  if n.op = 0 then absW n.k
  else if n.op = 1 then inputBoundW ins n.k
  else if n.op = 2 ∨ n.op = 3 then wrap64 (pickL bs n.a + pickL bs n.b)
  else if n.op = 4 then wrap64 (absW n.k * pickL bs n.a)
  else if n.op = 5 ∨ n.op = 6 then greater (pickL bs n.a) (pickL bs n.b)
  else if n.op = 7 then greater (pickL bs n.b) (pickL bs n.c)
  else if n.op = 8 ∨ n.op = 9 ∨ n.op = 10 ∨ n.op = 11 then pickL bs n.a
  else if n.op = 12 then bandBoundW (pickL bs n.a) n.bands
  else 0
def nodeValueW (n : NodeM) (vs home : List Int) : Int :=
  if n.op = 0 then n.k
  else if n.op = 1 then pickL home n.k
  else if n.op = 2 then wrap64 (pickL vs n.a + pickL vs n.b)
  else if n.op = 3 then wrap64 (pickL vs n.a - pickL vs n.b)
  else if n.op = 4 then wrap64 (n.k * pickL vs n.a)
  else if n.op = 5 then lesser (pickL vs n.a) (pickL vs n.b)
  else if n.op = 6 then greater (pickL vs n.a) (pickL vs n.b)
  else if n.op = 7 then (if pickL vs n.a ≠ 0 then pickL vs n.b else pickL vs n.c)
  else if n.op = 8 ∨ n.op = 9 ∨ n.op = 10 ∨ n.op = 11 then quotW n.op (pickL vs n.a) n.k
  else if n.op = 12 then bandSumW (pickL vs n.a) n.bands
  else if holdsB n.op (pickL vs n.a) (pickL vs n.b) then 1 else 0
/-- Is a bound above the limit? The bounds so far: bs, of as many nodes as stand ahead. -/
def bigFrom (ins : List (Int × Int)) (len : Nat) : List NodeM → List Int → Bool
  | [], _ => false
  | n :: l, bs =>
    if 1000000000000000 < nodeBoundW ins n (bs ++ List.replicate (len - bs.length) 0) then true
    else bigFrom ins len l (bs ++ [nodeBoundW ins n (bs ++ List.replicate (len - bs.length) 0)])
def isBigW (ins : List (Int × Int)) (nodes : List NodeM) : Bool := bigFrom ins nodes.length nodes []
def valuesFrom (len : Nat) (home : List Int) : List NodeM → List Int → List Int
  | [], vs => vs
  | n :: l, vs => valuesFrom len home l (vs ++ [nodeValueW n (vs ++ List.replicate (len - vs.length) 0) home])
def runW (nodes : List NodeM) (outs home : List Int) : List Int := outs.map fun o => pickL (valuesFrom nodes.length home nodes []) o
def homeFrom : List (Int × Int) → List Int → Bool
  | p :: ps, x :: xs => decide (p.1 ≤ x ∧ x ≤ p.2) && homeFrom ps xs
  | _, _ => true
def isHomeB (ins : List (Int × Int)) (home : List Int) : Bool := decide (home.length = ins.length) && homeFrom ins home

end Go.Proofs.YtfaljekgpnbmiaaGreat.Pl
