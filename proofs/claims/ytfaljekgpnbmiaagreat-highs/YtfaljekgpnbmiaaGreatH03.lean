/- Joined: Mem Rdr1. -/
import Derived.Test.YtfaljekgpnbmiaaGreatH02
/-
  Where the program's reader and plan lie in memory, and what a store, a new block or an append leaves of that.
-/
namespace Go.Proofs.YtfaljekgpnbmiaaGreat
open Go.RowKit

def intV (n : Int) : Value := .int .i64 n
def spanCells (l : List (Int × Int)) : List Value := l.flatMap fun p => [intV p.1, intV p.2]
def entCells (l : List (List UInt8 × Int × Int)) : List Value := l.flatMap fun p => [strV p.1, intV p.2.1, intV p.2.2]
def nodeCells (n : Pl.NodeM) (v : Value) : List Value := [intV n.op, intV n.a, intV n.b, intV n.c, intV n.k, v]
def SpansOwn (B : Nat) (w : World) (v : Value) (l : List (Int × Int)) : Prop := w.ownsRow B 139 2 v l.length (spanCells l)
def BandsOwn (B : Nat) (w : World) (v : Value) (l : List (Int × Int)) : Prop := w.ownsRow B 312 2 v l.length (spanCells l)
def EntsOwn (B : Nat) (w : World) (v : Value) (l : List (List UInt8 × Int × Int)) : Prop := w.ownsRow B 307 3 v l.length (entCells l)
def IntsOwn (B : Nat) (w : World) (v : Value) (l : List Int) : Prop := w.ownsRow B 3 1 v l.length (l.map intV)
structure NodesOwn (B : Nat) (w : World) (v : Value) (l : List Pl.NodeM) (bvs : List Value) : Prop where
  len : bvs.length = l.length
  own : w.ownsRow B 194 6 v l.length (List.zipWith nodeCells l bvs).flatten
  bands : ∀ i (h : i < l.length) (h' : i < bvs.length), BandsOwn B w bvs[i] l[i].bands

/-- All blocks of cells of the type e are as they were. -/
def KeepT (e : TypeId) (w w' : World) : Prop := ∀ (k : Nat) (cur : Array Value), w.heap[k]? = some (Obj.cells cur e (0, 0)) → w'.heap[k]? = w.heap[k]?
theorem KeepT.of_below {e : TypeId} {w w' : World} (h : Below w.heap.size w w') : KeepT e w w' := fun k _ hk => h.block k (lt_of_block hk)
theorem KeepT.trans {e : TypeId} {w w' w2 : World} (h : KeepT e w w') (h2 : KeepT e w' w2) : KeepT e w w2 := fun k cur hk => by
  have e1 := h k cur hk
  rw [h2 k cur (e1.trans hk), e1]
theorem KeepT.setCell {e T : TypeId} {w : World} {b : Nat} {cs : Array Value} {fz : Nat × Nat} (hb : w.heap[b]? = some (.cells cs T fz)) (hne : T ≠ e) (o : Nat) (u : Value) : KeepT e w (w.setCell ⟨b, o, none⟩ u) := fun k cur hk => by
  refine Below.heap_setCell _ _ _ _ ?_
  rintro rfl
  rw [hb] at hk; cases hk; exact hne rfl
theorem KeepT.grown {e e' : TypeId} {w w' : World} {B size n : Nat} {v : Value} {xs : List Value} (ho : w.ownsRow B e' size v n xs) (hg : w.grownBy w' v.ownBlock) (hne : e' ≠ e) : KeepT e w w' := fun k cur hk => by
  refine hg.block k (lt_of_block hk) ?_
  intro hv
  rcases ho.2 with ⟨rfl, _⟩ | ⟨g, cap, c2, rfl, _, hgg, _⟩
  · simp [Value.ownBlock] at hv
  · simp [Value.ownBlock] at hv
    subst hv
    rw [hgg] at hk; cases hk; exact hne rfl
theorem KeepT.alloc (e : TypeId) (w : World) (o : Obj) : KeepT e w (w.alloc o) := .of_below ((Below.refl _ _).alloc (Nat.le_refl _) o)
theorem own_keep {w w' : World} {B : Nat} {e : TypeId} {size : Nat} {v : Value} {n : Nat} {xs : List Value} (h : w.ownsRow B e size v n xs) (hk : KeepT e w w') : w'.ownsRow B e size v n xs := by
  refine ⟨h.1, ?_⟩
  rcases h.2 with hn | ⟨g, cap, cur, rfl, hb, hgg, rest⟩
  · exact .inl hn
  · exact .inr ⟨g, cap, cur, rfl, hb, by rw [hk g cur hgg]; exact hgg, rest⟩
theorem own_mono {w : World} {B B' : Nat} {e : TypeId} {size : Nat} {v : Value} {n : Nat} {xs : List Value} (h : w.ownsRow B e size v n xs) (hB : B' ≤ B) : w.ownsRow B' e size v n xs := by
  refine ⟨h.1, ?_⟩
  rcases h.2 with hn | ⟨g, cap, cur, rfl, hb, rest⟩
  · exact .inl hn
  · exact .inr ⟨g, cap, cur, rfl, by omega, rest⟩
theorem NodesOwn.keep {w w' : World} {B : Nat} {v : Value} {l : List Pl.NodeM} {bvs : List Value} (h : NodesOwn B w v l bvs) (hk : KeepT 194 w w') (hk2 : KeepT 312 w w') : NodesOwn B w' v l bvs :=
  ⟨h.len, own_keep h.own hk, fun i h1 h2 => own_keep (h.bands i h1 h2) hk2⟩

/-- Of what was there only block b may have turned. -/
structure Only (b : Nat) (w w' : World) : Prop where
  os : w'.os = w.os
  tape : w'.tape = w.tape
  output : w'.output = w.output
  size : w.heap.size ≤ w'.heap.size
  block : ∀ k : Nat, k < w.heap.size → k ≠ b → w'.heap[k]? = w.heap[k]?
theorem Only.of_below {b : Nat} {w w' : World} (h : Below w.heap.size w w') : Only b w w' := ⟨h.os, h.tape, h.output, h.size, fun k hk _ => h.block k hk⟩
theorem Only.trans {b : Nat} {w w' w2 : World} (h : Only b w w') (h2 : Only b w' w2) : Only b w w2 :=
  ⟨h2.os.trans h.os, h2.tape.trans h.tape, h2.output.trans h.output, Nat.le_trans h.size h2.size, fun k hk hne => (h2.block k (Nat.lt_of_lt_of_le hk h.size) hne).trans (h.block k hk hne)⟩
theorem Only.setCell {b : Nat} {w w' : World} (h : Only b w w') (o : Nat) (u : Value) : Only b w (w'.setCell ⟨b, o, none⟩ u) :=
  h.trans ⟨rfl, rfl, rfl, by simp, fun k _ hne => Below.heap_setCell _ _ _ _ hne⟩
theorem Only.below {b B : Nat} {w w' : World} (h : Only b w w') (hb : B ≤ b) (hB : B ≤ w.heap.size) : Below B w w' := ⟨h.os, h.tape, h.output, h.size, fun k hk => h.block k (by omega) (by omega)⟩

/-- Two lists that lie in no block together. -/
def Apart (u v : Value) : Prop := ∀ g, u.ownBlock = some g → v.ownBlock ≠ some g
theorem Apart.symm {u v : Value} (h : Apart u v) : Apart v u := fun g h1 h2 => h g h2 h1
theorem own_lt {w : World} {B : Nat} {e : TypeId} {size : Nat} {v : Value} {n : Nat} {xs : List Value} (h : w.ownsRow B e size v n xs) (g : Nat) (hg : v.ownBlock = some g) : g < w.heap.size := by
  rcases h.2 with ⟨rfl, _⟩ | ⟨g', cap, cur, rfl, hb, hgg, rest⟩
  · simp [Value.ownBlock] at hg
  · simp [Value.ownBlock] at hg; subst hg; exact lt_of_block hgg
/-- A list apart from one that grew is as it was. -/
theorem own_apart {w w' : World} {B : Nat} {e : TypeId} {size : Nat} {v u : Value} {n : Nat} {xs : List Value} (h : w.ownsRow B e size v n xs) (hg : w.grownBy w' u.ownBlock) (ha : Apart v u) : w'.ownsRow B e size v n xs := by
  refine ⟨h.1, ?_⟩
  rcases h.2 with hn | ⟨g, cap, cur, rfl, hb, hgg, rest⟩
  · exact .inl hn
  · exact .inr ⟨g, cap, cur, rfl, hb, by rw [hg.block g (lt_of_block hgg) (fun h => ha g rfl h.symm)]; exact hgg, rest⟩
/-- What an append leaves is apart from what was apart. -/
theorem Apart.grown {w : World} {B : Nat} {e : TypeId} {size : Nat} {u v : Value} {n m c : Nat} {xs : List Value} {g : Nat} (h : Apart v u) (hv : w.ownsRow B e size v n xs) (hg : u.ownBlock = some g ∨ g = w.heap.size) : Apart v (.slice (some ⟨g, 0, none⟩) m c) := by
  intro k hk hk2
  simp [Value.ownBlock] at hk2
  subst hk2
  rcases hg with hg | hg
  · exact h _ hk hg
  · have := own_lt hv _ hk; omega

/-- The reader r lies in block b, all its lists in blocks from B on; lx and ly are the names of its inputs and outs. -/
structure RdAt (B : Nat) (w : World) (b : Nat) (r : Pl.RdM) (vi vn vo vt ve : Value) (bvs : List Value) (vx vy : Value) (lx ly : List (List UInt8)) : Prop where
  base : B ≤ b
  blk : w.heap[b]? = some (.cells #[vi, vn, vo, vx, vy, vt, .int .i64 r.pos, ve] 188 (0, 0))
  ins : SpansOwn B w vi r.ins
  nodes : NodesOwn B w vn r.nodes bvs
  outs : IntsOwn B w vo r.outs
  toks : StrsOwn B w vt r.toks
  ents : EntsOwn B w ve r.ents
  inN : StrsOwn B w vx lx
  outN : StrsOwn B w vy ly
  apX : Apart vt vx
  apY : Apart vt vy
  apZ : Apart vx vy
def Rd (B : Nat) (w : World) (b : Nat) (r : Pl.RdM) : Prop := ∃ vi vn vo vt ve bvs vx vy lx ly, RdAt B w b r vi vn vo vt ve bvs vx vy lx ly ∧ Pl.Named r lx ly
/-- A reader whose names are lx and ly, whatever its entries say. -/
def RdX (B : Nat) (w : World) (b : Nat) (r : Pl.RdM) (lx ly : List (List UInt8)) : Prop := ∃ vi vn vo vt ve bvs vx vy, RdAt B w b r vi vn vo vt ve bvs vx vy lx ly

section
variable {B : Nat} {w w' : World} {b : Nat} {r : Pl.RdM} {vi vn vo vt ve : Value} {bvs : List Value} {vx vy : Value} {lx ly : List (List UInt8)}
theorem RdAt.below (h : RdAt B w b r vi vn vo vt ve bvs vx vy lx ly) (hb : Below w.heap.size w w') : RdAt B w' b r vi vn vo vt ve bvs vx vy lx ly :=
  ⟨h.base, by rw [hb.block b (lt_of_block h.blk)]; exact h.blk, own_keep h.ins (.of_below hb), h.nodes.keep (.of_below hb) (.of_below hb), own_keep h.outs (.of_below hb), own_keep h.toks (.of_below hb), own_keep h.ents (.of_below hb), own_keep h.inN (.of_below hb), own_keep h.outN (.of_below hb), h.apX, h.apY, h.apZ⟩
theorem Rd.below (h : Rd B w b r) (hb : Below w.heap.size w w') : Rd B w' b r := by
  obtain ⟨vi, vn, vo, vt, ve, bvs, vx, vy, lx, ly, h, hnm⟩ := h
  exact ⟨vi, vn, vo, vt, ve, bvs, vx, vy, lx, ly, h.below hb, hnm⟩
/-- The reader's place may have turned, nothing else. -/
structure Moves (b p : Nat) (w w' : World) : Prop where
  only : Only b w w'
  cell : ∃ vi vn vo vx vy vt ve q T, w.heap[b]? = some (.cells #[vi, vn, vo, vx, vy, vt, .int .i64 q, ve] T (0, 0)) ∧ w'.heap[b]? = some (.cells #[vi, vn, vo, vx, vy, vt, .int .i64 (p : Int), ve] T (0, 0))
theorem Moves.trans {p p' : Nat} {w2 : World} (h : Moves b p w w') (h2 : Moves b p' w' w2) : Moves b p' w w2 := by
  obtain ⟨o1, vi, vn, vo, vx, vy, vt, ve, q, T, e1, e2⟩ := h
  obtain ⟨o2, vi2, vn2, vo2, vx2, vy2, vt2, ve2, q2, T2, e3, e4⟩ := h2
  rw [e2] at e3
  cases e3
  exact ⟨o1.trans o2, _, _, _, _, _, _, _, _, _, e1, e4⟩
theorem Moves.far {p g : Nat} (h : Moves b p w w') (hg : w.heap.size ≤ g) (hb : b < w.heap.size) (o : Nat) (u : Value) : Moves b p w (w'.setCell ⟨g, o, none⟩ u) := by
  obtain ⟨o1, vi, vn, vo, vx, vy, vt, ve, q, T, e1, e2⟩ := h
  refine ⟨⟨o1.os, o1.tape, o1.output, by simpa using o1.size, fun k hk hne => by rw [Below.heap_setCell _ _ _ _ (by simp; omega)]; exact o1.block k hk hne⟩, _, _, _, _, _, _, _, _, _, e1, ?_⟩
  rw [Below.heap_setCell _ _ _ _ (by simp; omega)]; exact e2
theorem RdAt.stays (h : RdAt B w b r vi vn vo vt ve bvs vx vy lx ly) (hb : Below w.heap.size w w') : Moves b r.pos w w' :=
  ⟨.of_below hb, _, _, _, _, _, _, _, _, _, h.blk, (hb.block b (lt_of_block h.blk)).trans h.blk⟩
theorem Rd.stays (h : Rd B w b r) (hb : Below w.heap.size w w') : Moves b r.pos w w' := by
  obtain ⟨vi, vn, vo, vt, ve, bvs, vx, vy, lx, ly, h, hnm⟩ := h
  exact h.stays hb
theorem KeepT.only {e : TypeId} {cs : Array Value} {T : TypeId} {fz : Nat × Nat} (h : Only b w w') (hb : w.heap[b]? = some (.cells cs T fz)) (hne : T ≠ e) : KeepT e w w' := fun k cur hk => by
  refine h.block k (lt_of_block hk) ?_
  rintro rfl
  rw [hb] at hk; cases hk; exact hne rfl
theorem RdAt.moves {p : Nat} (h : RdAt B w b r vi vn vo vt ve bvs vx vy lx ly) (m : Moves b p w w') : RdAt B w' b { r with pos := p } vi vn vo vt ve bvs vx vy lx ly := by
  obtain ⟨o, vi2, vn2, vo2, vx2, vy2, vt2, ve2, q, T, e1, e2⟩ := m
  have hb := h.blk
  rw [e1] at hb
  cases hb
  have k : ∀ e : TypeId, 188 ≠ e → KeepT e w w' := fun e he => KeepT.only o h.blk he
  exact ⟨h.base, e2, own_keep h.ins (k _ (by decide)), h.nodes.keep (k _ (by decide)) (k _ (by decide)), own_keep h.outs (k _ (by decide)), own_keep h.toks (k _ (by decide)), own_keep h.ents (k _ (by decide)), own_keep h.inN (k _ (by decide)), own_keep h.outN (k _ (by decide)), h.apX, h.apY, h.apZ⟩
theorem Rd.moves {p : Nat} (h : Rd B w b r) (m : Moves b p w w') : Rd B w' b { r with pos := p } := by
  obtain ⟨vi, vn, vo, vt, ve, bvs, vx, vy, lx, ly, h, hnm⟩ := h
  exact ⟨_, _, _, _, _, _, _, _, _, _, h.moves m, hnm.pos _⟩
theorem skip_eq (r : Pl.RdM) : { r with pos := r.skip.pos } = r.skip := by unfold Pl.RdM.skip; split <;> rfl
theorem Rd.skips (h : Rd B w b r) (m : Moves b r.skip.pos w w') : Rd B w' b r.skip := by have := h.moves m; rw [skip_eq] at this; exact this
theorem Rd.still (h : Rd B w b r) (m : Moves b r.pos w w') : Rd B w' b r := h.moves m
theorem Rd.bd (h : Rd B w b r) : B ≤ b ∧ B ≤ w.heap.size ∧ b < w.heap.size := by
  obtain ⟨vi, vn, vo, vt, ve, bvs, vx, vy, lx, ly, h, hnm⟩ := h
  have h1 := h.base
  have h2 := lt_of_block h.blk
  exact ⟨h1, by omega, h2⟩
theorem cellsOf {cs : Array Value} {T : TypeId} (h : w.heap[b]? = some (.cells cs T (0, 0))) (i : Nat) : w.cell? ⟨b, i, none⟩ = cs[i]? := by simp [World.cell?, h]
theorem freeOf {cs : Array Value} {T : TypeId} (h : w.heap[b]? = some (.cells cs T (0, 0))) (i : Nat) : w.frozen? ⟨b, i, none⟩ = false := by simp [World.frozen?, h]
theorem RdAt.blkKept (h : RdAt B w b r vi vn vo vt ve bvs vx vy lx ly) {e' : TypeId} {v : Value} {size n : Nat} {xs : List Value} {w1 : World} (ho : w.ownsRow B e' size v n xs) (hg : w.grownBy w1 v.ownBlock) (hne : e' ≠ 188) : w1.heap[b]? = w.heap[b]? :=
  (KeepT.grown ho hg hne) b _ h.blk
theorem entCells_snoc (l : List (List UInt8 × Int × Int)) (t : List UInt8) (k n : Int) : entCells (l ++ [(t, k, n)]) = entCells l ++ [strV t, intV k, intV n] := by simp [entCells]
theorem spanCells_snoc (l : List (Int × Int)) (p : Int × Int) : spanCells (l ++ [p]) = spanCells l ++ [intV p.1, intV p.2] := by simp [spanCells]
theorem nodeCells_snoc (l : List Pl.NodeM) (bvs : List Value) (hl : bvs.length = l.length) (n : Pl.NodeM) (v : Value) : (List.zipWith nodeCells (l ++ [n]) (bvs ++ [v])).flatten = (List.zipWith nodeCells l bvs).flatten ++ nodeCells n v := by
  rw [List.zipWith_append hl.symm]; simp

theorem RdAt.addEnt (h : RdAt B w b r vi vn vo vt ve bvs vx vy lx ly) {w1 : World} {v' : Value} {t : List UInt8} {k n : Int} (hg : w.grownBy w1 ve.ownBlock)
    (ho : w1.ownsRow B 307 3 v' (r.ents.length + 1) (entCells r.ents ++ [strV t, intV k, intV n])) : RdAt B (w1.setCell ⟨b, 7, none⟩ v') b (r.addEnt t k n) vi vn vo vt v' bvs vx vy lx ly := by
  have hb : w1.heap[b]? = some (.cells #[vi, vn, vo, vx, vy, vt, .int .i64 r.pos, ve] 188 (0, 0)) := (h.blkKept h.ents hg (by decide)).trans h.blk
  refine ⟨h.base, by rw [heap_setCell_same w1 b 7 _ _ _ hb]; rfl, own_keep (own_keep h.ins (.grown h.ents hg (by decide))) (.setCell hb (by decide) _ _),
    (h.nodes.keep (.grown h.ents hg (by decide)) (.grown h.ents hg (by decide))).keep (.setCell hb (by decide) _ _) (.setCell hb (by decide) _ _),
    own_keep (own_keep h.outs (.grown h.ents hg (by decide))) (.setCell hb (by decide) _ _), own_keep (own_keep h.toks (.grown h.ents hg (by decide))) (.setCell hb (by decide) _ _), ?_, own_keep (own_keep h.inN (.grown h.ents hg (by decide))) (.setCell hb (by decide) _ _), own_keep (own_keep h.outN (.grown h.ents hg (by decide))) (.setCell hb (by decide) _ _), h.apX, h.apY, h.apZ⟩
  have := own_keep ho (.setCell hb (by decide) 7 v')
  unfold EntsOwn Pl.RdM.addEnt
  rw [entCells_snoc, List.length_append]; exact this
theorem RdAt.addOut (h : RdAt B w b r vi vn vo vt ve bvs vx vy lx ly) {w1 : World} {v' : Value} {n : Int} (hg : w.grownBy w1 vo.ownBlock)
    (ho : w1.ownsRow B 3 1 v' (r.outs.length + 1) (r.outs.map intV ++ [intV n])) : RdAt B (w1.setCell ⟨b, 2, none⟩ v') b (r.addOut n) vi vn v' vt ve bvs vx vy lx ly := by
  have hb : w1.heap[b]? = some (.cells #[vi, vn, vo, vx, vy, vt, .int .i64 r.pos, ve] 188 (0, 0)) := (h.blkKept h.outs hg (by decide)).trans h.blk
  refine ⟨h.base, by rw [heap_setCell_same w1 b 2 _ _ _ hb]; rfl, own_keep (own_keep h.ins (.grown h.outs hg (by decide))) (.setCell hb (by decide) _ _),
    (h.nodes.keep (.grown h.outs hg (by decide)) (.grown h.outs hg (by decide))).keep (.setCell hb (by decide) _ _) (.setCell hb (by decide) _ _),
    ?_, own_keep (own_keep h.toks (.grown h.outs hg (by decide))) (.setCell hb (by decide) _ _), own_keep (own_keep h.ents (.grown h.outs hg (by decide))) (.setCell hb (by decide) _ _), own_keep (own_keep h.inN (.grown h.outs hg (by decide))) (.setCell hb (by decide) _ _), own_keep (own_keep h.outN (.grown h.outs hg (by decide))) (.setCell hb (by decide) _ _), h.apX, h.apY, h.apZ⟩
  have := own_keep ho (.setCell hb (by decide) 2 v')
  unfold IntsOwn Pl.RdM.addOut
  rw [List.map_append, List.length_append]; exact this
theorem RdAt.addIn (h : RdAt B w b r vi vn vo vt ve bvs vx vy lx ly) {w1 : World} {v' : Value} {p : Int × Int} (hg : w.grownBy w1 vi.ownBlock)
    (ho : w1.ownsRow B 139 2 v' (r.ins.length + 1) (spanCells r.ins ++ [intV p.1, intV p.2])) : RdAt B (w1.setCell ⟨b, 0, none⟩ v') b (r.addIn p) v' vn vo vt ve bvs vx vy lx ly := by
  have hb : w1.heap[b]? = some (.cells #[vi, vn, vo, vx, vy, vt, .int .i64 r.pos, ve] 188 (0, 0)) := (h.blkKept h.ins hg (by decide)).trans h.blk
  refine ⟨h.base, by rw [heap_setCell_same w1 b 0 _ _ _ hb]; rfl, ?_,
    (h.nodes.keep (.grown h.ins hg (by decide)) (.grown h.ins hg (by decide))).keep (.setCell hb (by decide) _ _) (.setCell hb (by decide) _ _),
    own_keep (own_keep h.outs (.grown h.ins hg (by decide))) (.setCell hb (by decide) _ _), own_keep (own_keep h.toks (.grown h.ins hg (by decide))) (.setCell hb (by decide) _ _), own_keep (own_keep h.ents (.grown h.ins hg (by decide))) (.setCell hb (by decide) _ _), own_keep (own_keep h.inN (.grown h.ins hg (by decide))) (.setCell hb (by decide) _ _), own_keep (own_keep h.outN (.grown h.ins hg (by decide))) (.setCell hb (by decide) _ _), h.apX, h.apY, h.apZ⟩
  have := own_keep ho (.setCell hb (by decide) 0 v')
  unfold SpansOwn Pl.RdM.addIn
  rw [spanCells_snoc, List.length_append]; exact this
theorem RdAt.addNode (h : RdAt B w b r vi vn vo vt ve bvs vx vy lx ly) {w1 : World} {v' : Value} {n : Pl.NodeM} {bv : Value} (hbv : BandsOwn B w bv n.bands) (hg : w.grownBy w1 vn.ownBlock)
    (ho : w1.ownsRow B 194 6 v' (r.nodes.length + 1) ((List.zipWith nodeCells r.nodes bvs).flatten ++ nodeCells n bv)) : RdAt B (w1.setCell ⟨b, 1, none⟩ v') b (r.addNode n) vi v' vo vt ve (bvs ++ [bv]) vx vy lx ly := by
  have hn := h.nodes.own
  have hb : w1.heap[b]? = some (.cells #[vi, vn, vo, vx, vy, vt, .int .i64 r.pos, ve] 188 (0, 0)) := (h.blkKept hn hg (by decide)).trans h.blk
  refine ⟨h.base, by rw [heap_setCell_same w1 b 1 _ _ _ hb]; rfl, own_keep (own_keep h.ins (.grown hn hg (by decide))) (.setCell hb (by decide) _ _), ⟨?_, ?_, ?_⟩,
    own_keep (own_keep h.outs (.grown hn hg (by decide))) (.setCell hb (by decide) _ _), own_keep (own_keep h.toks (.grown hn hg (by decide))) (.setCell hb (by decide) _ _), own_keep (own_keep h.ents (.grown hn hg (by decide))) (.setCell hb (by decide) _ _), own_keep (own_keep h.inN (.grown hn hg (by decide))) (.setCell hb (by decide) _ _), own_keep (own_keep h.outN (.grown hn hg (by decide))) (.setCell hb (by decide) _ _), h.apX, h.apY, h.apZ⟩
  · simp [Pl.RdM.addNode, h.nodes.len]
  · have := own_keep ho (.setCell hb (by decide) 1 v')
    unfold Pl.RdM.addNode
    rw [nodeCells_snoc _ _ h.nodes.len, List.length_append]; exact this
  · intro i h1 h2
    have hk : KeepT 312 w (w1.setCell ⟨b, 1, none⟩ v') := (KeepT.grown hn hg (by decide)).trans (.setCell hb (by decide) _ _)
    have hl := h.nodes.len
    simp only [Pl.RdM.addNode] at h1 ⊢
    by_cases hi : i < r.nodes.length
    · have e1 : (r.nodes ++ [n])[i] = r.nodes[i] := List.getElem_append_left hi
      have e2 : (bvs ++ [bv])[i] = bvs[i] := List.getElem_append_left (by omega)
      rw [e1, e2]; exact own_keep (h.nodes.bands i hi (by omega)) hk
    · have hi' : i = r.nodes.length := by simp at h1; omega
      subst hi'
      have e1 : (r.nodes ++ [n])[r.nodes.length] = n := by simp
      have e2 : (bvs ++ [bv])[r.nodes.length]'h2 = bv := by simp [← hl]
      rw [e1, e2]; exact own_keep hbv hk
theorem strs_snoc (l : List (List UInt8)) (t : List UInt8) : (l ++ [t]).map strV = l.map strV ++ [strV t] := by simp
theorem RdAt.addInN (h : RdAt B w b r vi vn vo vt ve bvs vx vy lx ly) {w1 : World} {g m c : Nat} {t : List UInt8} (hg : w.grownBy w1 vx.ownBlock) (hgb : vx.ownBlock = some g ∨ g = w.heap.size)
    (ho : w1.ownsRow B 9 1 (.slice (some ⟨g, 0, none⟩) m c) (lx.length + 1) (lx.map strV ++ [strV t])) : RdAt B (w1.setCell ⟨b, 3, none⟩ (.slice (some ⟨g, 0, none⟩) m c)) b r vi vn vo vt ve bvs (.slice (some ⟨g, 0, none⟩) m c) vy (lx ++ [t]) ly := by
  have hb : w1.heap[b]? = some (.cells #[vi, vn, vo, vx, vy, vt, .int .i64 r.pos, ve] 188 (0, 0)) := (h.blkKept h.inN hg (by decide)).trans h.blk
  refine ⟨h.base, by rw [heap_setCell_same w1 b 3 _ _ _ hb]; rfl, own_keep (own_keep h.ins (.grown h.inN hg (by decide))) (.setCell hb (by decide) _ _),
    (h.nodes.keep (.grown h.inN hg (by decide)) (.grown h.inN hg (by decide))).keep (.setCell hb (by decide) _ _) (.setCell hb (by decide) _ _),
    own_keep (own_keep h.outs (.grown h.inN hg (by decide))) (.setCell hb (by decide) _ _), own_keep (own_apart h.toks hg h.apX) (.setCell hb (by decide) _ _), own_keep (own_keep h.ents (.grown h.inN hg (by decide))) (.setCell hb (by decide) _ _), ?_,
    own_keep (own_apart h.outN hg h.apZ.symm) (.setCell hb (by decide) _ _), h.apX.grown h.toks hgb, h.apY, (h.apZ.symm.grown h.outN hgb).symm⟩
  have := own_keep ho (.setCell hb (by decide) 3 (.slice (some ⟨g, 0, none⟩) m c))
  unfold StrsOwn
  rw [strs_snoc, List.length_append]; exact this
theorem RdAt.addOutN (h : RdAt B w b r vi vn vo vt ve bvs vx vy lx ly) {w1 : World} {g m c : Nat} {t : List UInt8} (hg : w.grownBy w1 vy.ownBlock) (hgb : vy.ownBlock = some g ∨ g = w.heap.size)
    (ho : w1.ownsRow B 9 1 (.slice (some ⟨g, 0, none⟩) m c) (ly.length + 1) (ly.map strV ++ [strV t])) : RdAt B (w1.setCell ⟨b, 4, none⟩ (.slice (some ⟨g, 0, none⟩) m c)) b r vi vn vo vt ve bvs vx (.slice (some ⟨g, 0, none⟩) m c) lx (ly ++ [t]) := by
  have hb : w1.heap[b]? = some (.cells #[vi, vn, vo, vx, vy, vt, .int .i64 r.pos, ve] 188 (0, 0)) := (h.blkKept h.outN hg (by decide)).trans h.blk
  refine ⟨h.base, by rw [heap_setCell_same w1 b 4 _ _ _ hb]; rfl, own_keep (own_keep h.ins (.grown h.outN hg (by decide))) (.setCell hb (by decide) _ _),
    (h.nodes.keep (.grown h.outN hg (by decide)) (.grown h.outN hg (by decide))).keep (.setCell hb (by decide) _ _) (.setCell hb (by decide) _ _),
    own_keep (own_keep h.outs (.grown h.outN hg (by decide))) (.setCell hb (by decide) _ _), own_keep (own_apart h.toks hg h.apY) (.setCell hb (by decide) _ _), own_keep (own_keep h.ents (.grown h.outN hg (by decide))) (.setCell hb (by decide) _ _),
    own_keep (own_apart h.inN hg h.apZ) (.setCell hb (by decide) _ _), ?_, h.apX, h.apY.grown h.toks hgb, h.apZ.grown h.inN hgb⟩
  have := own_keep ho (.setCell hb (by decide) 4 (.slice (some ⟨g, 0, none⟩) m c))
  unfold StrsOwn
  rw [strs_snoc, List.length_append]; exact this
end
end Go.Proofs.YtfaljekgpnbmiaaGreat

/-
  Contracts of the reader's methods that move or look: AtEnd, Peek, Skip.
-/
namespace Go.Proofs.YtfaljekgpnbmiaaGreat
open Go.RowKit

theorem strs_shape {B : Nat} {w : World} {v : Value} {l : List (List UInt8)} (h : StrsOwn B w v l) :
    ∃ ad cap, v = .slice ad l.length cap ∧ (∀ i, i < l.length → ∃ g, ad = some ⟨g, 0, none⟩ ∧ w.cell? ⟨g, i, none⟩ = some (strV (l.getD i []))) := by
  rcases h.2 with ⟨rfl, hn⟩ | ⟨g, cap, cur, rfl, hb, hgg, hle, hm, hcs, htk⟩
  · exact ⟨none, 0, by rw [hn], fun i hi => by omega⟩
  · refine ⟨some ⟨g, 0, none⟩, cap, rfl, fun i hi => ⟨g, rfl, ?_⟩⟩
    have := World.ownsRow.cellAt (show w.ownsRow B 9 1 (.slice (some ⟨g, 0, none⟩) l.length cap) l.length (l.map strV) from h) i (by omega)
    rw [this, List.getElem?_map, List.getElem?_eq_getElem hi, List.getD_eq_getElem?_getD, List.getElem?_eq_getElem hi]; rfl

set_option maxHeartbeats 400000 in
theorem Peek_any {B : Nat} {w : World} {b : Nat} {r : Pl.RdM} (h : Rd B w b r) (hp : r.pos ≤ 600) :
    Calls Tryz.prog 244 #[.pointer (some ⟨b, 0, none⟩)] w fun e w' => e = .returned (strV r.peek) ∧ ∃ n, w' = w.drewN n := by
  obtain ⟨vi, vn, vo, vt, ve, bvs, vx, vy, lx, ly, h, hnm⟩ := h
  have c3 : w.cell? ⟨b, 5, none⟩ = some vt := by rw [cellsOf h.blk]; rfl
  have c4 : w.cell? ⟨b, 6, none⟩ = some (.int .i64 r.pos) := by rw [cellsOf h.blk]; rfl
  obtain ⟨ad, cap, rfl, hcell⟩ := strs_shape h.toks
  clear h
  by_cases h1 : r.toks.length ≤ r.pos
  · have hx : Hid (r.peek = []) := by unfold Pl.RdM.peek; rw [if_pos (.inl h1)]; rfl
    have hd : decide ((r.toks.length : Int) ≤ r.pos) = true := by simp; omega
    go_enter Tryz.func244, Tryz.ntmps244
    go_wp2
    go_quiet (fail)
    go_wp2
    go_ret
    exact ⟨by rw [hx.out]; rfl, _, rfl⟩
  · have hd : decide ((r.toks.length : Int) ≤ r.pos) = false := by simp; omega
    by_cases h2 : 600 ≤ r.pos
    · have hx : Hid (r.peek = []) := by unfold Pl.RdM.peek; rw [if_pos (.inr h2)]; rfl
      have hd2 : decide ((600 : Int) ≤ r.pos) = true := by simp; omega
      clear hcell
      go_enter Tryz.func244, Tryz.ntmps244
      go_wp2
      go_quiet (fail)
      go_wp2
      go_ret
      exact ⟨by rw [hx.out]; rfl, _, rfl⟩
    · have hx : Hid (r.peek = r.toks.getD r.pos []) := by unfold Pl.RdM.peek; rw [if_neg (by omega)]; rfl
      have hd2 : decide ((600 : Int) ≤ r.pos) = false := by simp; omega
      obtain ⟨g, rfl, hc⟩ := hcell r.pos (by omega)
      generalize r.toks.getD r.pos [] = t at *
      unfold strV at hc
      clear hcell
      go_enter Tryz.func244, Tryz.ntmps244
      go_wp2
      go_quiet (fail)
      go_wp2
      go_quiet (fail)
      go_wp2
      go_ret
      exact ⟨by rw [hx.out]; rfl, _, World.drewN_drewN _ _ _⟩

set_option maxHeartbeats 400000 in
theorem AtEnd_any {B : Nat} {w : World} {b : Nat} {r : Pl.RdM} (h : Rd B w b r) :
    Calls Tryz.prog 187 #[.pointer (some ⟨b, 0, none⟩)] w fun e w' => e = .returned (.bool (decide (r.toks.length ≤ r.pos))) ∧ ∃ n, w' = w.drewN n := by
  obtain ⟨vi, vn, vo, vt, ve, bvs, vx, vy, lx, ly, h, hnm⟩ := h
  have c3 : w.cell? ⟨b, 5, none⟩ = some vt := by rw [cellsOf h.blk]; rfl
  have c4 : w.cell? ⟨b, 6, none⟩ = some (.int .i64 r.pos) := by rw [cellsOf h.blk]; rfl
  obtain ⟨ad, cap, rfl, hcell⟩ := strs_shape h.toks
  clear h hcell
  go_enter Tryz.func187, Tryz.ntmps187
  go_wp2
  go_quiet (fail)
  go_wp2
  go_ret
  exact ⟨rfl, _, rfl⟩

set_option maxHeartbeats 400000 in
theorem Skip_only {B : Nat} {w : World} {b : Nat} {r : Pl.RdM} (h : Rd B w b r) (hp : r.pos ≤ 600) :
    Calls Tryz.prog 245 #[.pointer (some ⟨b, 0, none⟩)] w fun e w' => e = .returned (.tuple #[]) ∧ Moves b r.skip.pos w w' := by
  have hpk := Peek_any h hp
  obtain ⟨vi, vn, vo, vt, ve, bvs, vx, vy, lx, ly, h, hnm⟩ := h
  by_cases hpe : r.peek = []
  · have hx : Hid (r.skip = r) := by unfold Pl.RdM.skip; rw [if_pos hpe]; rfl
    have hx2 : Hid (strV r.peek = .string ⟨#[]⟩) := by rw [hpe]; rfl
    clear hpe
    go_enter Tryz.func245, Tryz.ntmps245
    go_wp2_with fail
    refine hpk.mono ?_
    rintro e w' ⟨rfl, n, rfl⟩
    rw [hx2.out]
    go_wp2
    go_end0
    exact ⟨rfl, by rw [hx.out]; exact h.stays (below_drewN (Below.refl _ _) _)⟩
  · have hx : Hid (r.skip.pos = r.pos + 1) := by unfold Pl.RdM.skip; rw [if_neg hpe]; rfl
    have hne : (r.peek == []) = false := by simpa using hpe
    have c4 : w.cell? ⟨b, 6, none⟩ = some (.int .i64 r.pos) := by rw [cellsOf h.blk]; rfl
    have f4 : w.frozen? ⟨b, 6, none⟩ = false := freeOf h.blk 6
    have hs : Hid (∀ n, Moves b (r.pos + 1) w ((w.drewN n).setCell ⟨b, 6, none⟩ (.int .i64 (↑r.pos + 1)))) := fun n =>
      ⟨(Only.of_below (below_drewN (Below.refl w.heap.size w) n)).setCell 6 _, _, _, _, _, _, _, _, _, _, h.blk, by rw [heap_setCell_same (w.drewN n) b 6 _ _ _ h.blk]; rfl⟩
    clear h
    clear hpe
    generalize r.peek = t at *
    go_enter Tryz.func245, Tryz.ntmps245
    go_wp2_with fail
    refine hpk.mono ?_
    rintro e w' ⟨rfl, n, rfl⟩
    unfold strV
    go_wp2
    go_end0
    exact ⟨rfl, by rw [hx.out]; exact hs.out n⟩
theorem Skip_any {B : Nat} {w : World} {b : Nat} {r : Pl.RdM} (h : Rd B w b r) (hp : r.pos ≤ 600) :
    Calls Tryz.prog 245 #[.pointer (some ⟨b, 0, none⟩)] w fun e w' => e = .returned (.tuple #[]) ∧ Rd B w' b r.skip ∧ Below B w w' :=
  (Skip_only h hp).mono fun _ _ ⟨h1, h2⟩ => ⟨h1, h.skips h2, h2.only.below h.bd.1 h.bd.2.1⟩
end Go.Proofs.YtfaljekgpnbmiaaGreat
